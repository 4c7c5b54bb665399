/- Lemmas that the law stands on. No condition. -/
import Derived.Test.YtccccbofcnmdiaaGreatM36
namespace Go.Proofs.YtccccbofcnmdiaaGreat
set_option linter.unusedSimpArgs false
set_option linter.unusedVariables false
set_option maxRecDepth 100000
set_option maxHeartbeats 51200000
section
open Go.RowKit
theorem head14 {l:List Jb} {S:List Nat} {i:Nat} {g:ByteArray} (hn:S.Nodup) (hi:i<S.length) (hg:(jat l S[i]).ga=g):∃ h r,gangOf l g S=h :: r/\firstK l g (S.take i)=decide (h=S[i]):=by
 cases hf:firstK l g (S.take i)
 ·cases hG:gangOf l g (S.take i) with
  | nil=>rw [first_nil.2 hG] at hf;cases hf
  | cons h r=>
   have h1:gangOf l g (S.take i ++ S.drop i)=gangOf l g (S.take i) ++ gangOf l g (S.drop i):=by unfold gangOf;rw [List.filter_append]
   rw [List.take_append_drop,hG,List.cons_append] at h1
   refine ⟨h,_,h1,(decide_eq_false fun he=>?_).symm⟩
   have h2:h ∈ S.take i:=(gangOf_mem.1 (show h ∈ gangOf l g (S.take i) by rw [hG];simp)).1
   obtain ⟨m,hm,hms⟩:=List.mem_take_iff_getElem.1 h2
   exact List.pairwise_iff_getElem.1 hn m i (by omega) hi (by omega) (hms.trans he)
 ·exact ⟨S[i],_,gangOf_first hi hg hf,by simp⟩


theorem units_any (A:Option Addr) (n cap:Nat) (l:List Jb) (w:World) (hn:Hid (n=l.length)) (hl:n<=1000000) (hA:Hid (RdJ w A l)) :
  Calls Tryz.prog 169 #[.slice A n cap] w fun e w'=>RetU w.heap.size w' e (unitsU l)/\Below w.heap.size w w':=by
 have k1:=fun (W:World) (h:Hid (RdJ W A l))=>waiting14_any A n cap l W hn hl h
 obtain ⟨S,hS⟩:∃ S,S=srtU l:=⟨_,rfl⟩
 show Calls _ _ _ _ fun e w'=>RetU w.heap.size w' e (unitsK l (srtU l) (srtU l).length)/\_
 rw [<- hS] at k1 ⊢
 have hSlt:∀ y ∈ S,y<l.length:=fun y hy=>by rw [hS] at hy;exact (srtU_mem.1 hy).1
 have hSl:S.length<=n:=by
  rw [hS,(srtU_perm l).length_eq,hn.out]
  exact waitK_len l l.length
 have HNd:Hid S.Nodup:=by show S.Nodup;rw [hS];exact srtU_nodup l
 have K1:=Lib.hid k1;have HSlt:=Lib.hid hSlt
 obtain ⟨q,hq⟩:∃ q,q=S.length:=⟨_,rfl⟩
 rw [<- hq]
 have HQ:=Lib.hid hq
 have k2:=fun (B:Option Addr) (c:Nat) (W:World) (hA:Hid (RdJ W A l)) (hB:Hid (RdI W B (ints S)))=>collect14_any A n cap l B q c S W hn hl hA HQ hB HSlt (by omega)
 have K2:=Lib.hid k2
 have hql:q<=n:=by omega
 clear k1 k2 hS hSlt hSl hq
 go_enter Tryz.func169,Tryz.ntmps169
 go_wp2_with fail
 refine (K1.out _ hA).mono ?_;rintro e w1 ⟨⟨u,rfl,hO⟩,hb1⟩
 obtain ⟨B,c,hv,hr,hc,hc'⟩:=hO.rdi
 rw [show (ints S).length=S.length by simp [ints],<- HQ.out] at hv
 subst hv
 have HOL0:=Lib.hid hO;have HR0:=Lib.hid hr
 clear hO hr hc
 go_wp2_with fail
 refine (K2.out B c _ (Lib.hid (hA.out.later hb1)) HR0).mono ?_;rintro e w2 ⟨⟨b9,V,rfl,hb9,hM,hG⟩,hb2⟩
 have hB2:Below w.heap.size w w2:=hb1.trans (hb2.mono hb1.size)
 have HM0:=Lib.hid hM
 have HG0:=Lib.hid (fun s=>OwnK.base (hG.el s) hb1.size)
 have HOL1:=Lib.hid (HOL0.out.below hb2)
 clear hM hG hb9 HR0 HOL0
 go_wp2_with fail
 go_loopw [5,17] (fun vo i wr=>∃ k:Nat,k<=q/\i = .int .i64 k/\(∃ vs,Hid (OwnK wr w.heap.size 150 1 vo (cellsW vs))/\Hid (UOk wr w.heap.size vs (unitsK l S k)))/\Hid (OwnK wr w.heap.size 3 1 (.slice B q c) (cellsI (ints S)))/\Hid (MapF wr b9 zG (entG l n V))/\Hid (∀ s,OwnK wr w.heap.size 3 1 (V s) (cellsI (ints (selG l S s))))/\Below w.heap.size w wr) (fun _ i wr=>q - (intOf i).toNat)
 case atStart=>exact ⟨0,Nat.zero_le _,rfl,⟨[],(show OwnK _ _ _ _ _ (cellsW []) from OwnK.nil _ _ _ _),(show UOk _ _ _ (unitsK l S 0) from UOk.nil _ _)⟩,HOL1,HM0,HG0,hB2⟩
 case round=>
  clear HOL1 HM0 HG0 hB2 hb1 hb2
  obtain ⟨k,hk,rfl,⟨vs,HO,HU⟩,HOL,HM,HG,hb⟩:=hrel
  by_cases hlt:k<q
  ·have hkS:k<S.length:=by have:=HQ.out;omega
   obtain ⟨U,hU⟩:∃ U,U=unitsK l S k:=⟨_,rfl⟩
   have hu:=HU.out
   rw [<- hU] at hu
   have hUl:U.length<=k:=by rw [hU];exact unitsK_len l S k
   have hvl:vs.length<=k:=by rw [hu.len];exact hUl
   have hsucc:=unitsK_succ (l:=l) hkS
   rw [<- hU] at hsucc
   have HRb:=Lib.hid (show RdI wr B (ints S) from rdOf HOL.out)
   obtain ⟨g7,o7,hB7,hg7,c7⟩:=HRb.out.at (i:=k) (by simpa [ints] using hkS)
   subst hB7
   obtain ⟨p,hp⟩:∃ p,p=S[k]:=⟨_,rfl⟩
   rw [show (ints S)[k]'(by simpa [ints] using hkS)=(p:Int) by rw [hp];simp [ints]] at c7
   have hpl:p<l.length:=by rw [hp];exact HSlt.out _ (List.getElem_mem hkS)
   have hpn:p<n:=by have:=hn.out;omega
   obtain ⟨g,o,hAg,hg,hj⟩:=(hA.out.later hb).at hpl
   subst hAg
   obtain ⟨j,hjk⟩:∃ j,j=l[p]:=⟨_,rfl⟩
   rw [<- hjk] at hj
   have hjj:jat l p=j:=by rw [jat_at hpl,<- hjk]
   rw [<- hp] at hsucc
   obtain ⟨h9,r9,hE9,hhd⟩:=head14 HNd.out hkS (show (jat l S[k]).ga=j.ga by rw [<- hp,hjj])
   rw [<- hp] at hhd
   have hjt:wr.rangeAt g (o+p * 13) j.task.toList:=by
    have h:=range_part hj.rg 0 10
    exact h
   have HU2:=Lib.hid hu;have HJT:=Lib.hid hjt;have HJJ:=Lib.hid hjj;have HSc:=Lib.hid hsucc
   clear HU hu hj hjt hjj hjk hsucc hU
   by_cases h0:j.ga.size=0
   ·have hga:j.ga=⟨#[]⟩:=empty_of h0
    have HS2:Hid (unitsK l S (k+1)=U ++ [[p]]):=by show _=_;rw [HSc.out];unfold unitAt;rw [HJJ.out,if_pos h0]
    have HGA:=Lib.hid hga;clear hga h0 hE9 hhd hp HSc HRb
    go_wp2_with (first | (with_reducible refine load_rg rfl 47 _ rfl g (o+p * 13) rfl j.task _ HJT.out Tryz.underlying47 rfl (by kernel_rfl) ?_) | ((with_reducible refine store_bk rfl 47 (.tmp 8) (.tmp 25) rfl wr.heap.size 0 j.task rfl rfl 47 _ j.task (Bk.fresh _ _ _) (by kernel_rfl) (by simp) (by kernel_rfl) rfl ?_);intro w2 hB1 hg1 hs1;have bl1:Below wr.heap.size wr w2:=grown_below ((Below.refl _ _).alloc (Nat.le_refl _) _) hg1 (Nat.le_refl _);have c8:w2.cell? ⟨wr.heap.size,8,none⟩=some (.string ⟨#[]⟩):=(hB1.cellAt 8).trans (congrArg (fun x=>some (Value.string x)) HGA.out);clear hB1 hg1 hs1;have hbX:Below w.heap.size w w2:=hb.trans (bl1.mono hb.size);have hone:OwnK (w2.alloc (.cells #[.int .i64 p] 3)) w.heap.size 3 1 (.slice (some ⟨w2.heap.size,0,none⟩) 1 1) (cellsI (ints [p])):=OwnK.lit1 w2 w.heap.size 3 (.int .i64 p) hbX.size;have hbB:Below (w2.alloc (.cells #[.int .i64 p] 3)).heap.size (w2.alloc (.cells #[.int .i64 p] 3)) ((w2.alloc (.cells #[.int .i64 p] 3)).alloc (.cells #[(.slice (some ⟨w2.heap.size,0,none⟩) 1 1)] 150)):=(Below.refl _ _).alloc (Nat.le_refl _) _;have hbA:Below w2.heap.size w2 ((w2.alloc (.cells #[.int .i64 p] 3)).alloc (.cells #[(.slice (some ⟨w2.heap.size,0,none⟩) 1 1)] 150)):=((Below.refl _ _).alloc (Nat.le_refl _) _).alloc (by simp) _;have hbR:=bl1.trans (hbA.mono bl1.size);have HOne:=Lib.hid (hone.below hbB);have HOut:=Lib.hid (show OwnK ((w2.alloc (.cells #[.int .i64 p] 3)).alloc (.cells #[(.slice (some ⟨w2.heap.size,0,none⟩) 1 1)] 150)) w.heap.size 150 1 u5 (cellsW vs) from HO.out.below hbR);have HUB:=Lib.hid (HU2.out.later hbR);have HOLB:=Lib.hid (HOL.out.below hbR);have HMB:=Lib.hid (HM.out.later hbR);have HGB:=Lib.hid (fun s=>(HG.out s).below hbR);have HFr:=Lib.hid (show RdK ((w2.alloc (.cells #[.int .i64 p] 3)).alloc (.cells #[(.slice (some ⟨w2.heap.size,0,none⟩) 1 1)] 150)) 1 (some ⟨w2.heap.size+1,0,none⟩) (cellsW [(.slice (some ⟨w2.heap.size,0,none⟩) 1 1)]) from fresh_k (w2.alloc (.cells #[.int .i64 p] 3)) 1 [(.slice (some ⟨w2.heap.size,0,none⟩) 1 1)] 150 (g:=w2.heap.size+1) (by simp));have hBB:Below w.heap.size w ((w2.alloc (.cells #[.int .i64 p] 3)).alloc (.cells #[(.slice (some ⟨w2.heap.size,0,none⟩) 1 1)] 150)):=hb.trans (hbR.mono hb.size);clear hone hbB hbA hbR hbX) | ((with_reducible refine append_k _ rfl (.tmp 29) (.tmp 32) 148 rfl w.heap.size 150 _ 1 24 Tryz.underlying148 infoU rfl (by omega) u5 (cellsW vs) rfl HOut.out ⟨w2.heap.size+1,0,none⟩ 1 1 (cellsW [(.slice (some ⟨w2.heap.size,0,none⟩) 1 1)]) rfl HFr.out (cellsW_k _) (by simp [cellsW,Value.oneCell']) rfl (by simp [cellsW,maxLen];omega) (by simp [cellsW,maxLen];omega) hBB.size ?_);intro u6' w3 hO3 hg3;have HO3:=Lib.hid hO3;clear hO3;have HUC:=Lib.hid ((HUB.out.grown HOut.out hg3).snoc (HOne.out.grown hg3 (HOne.out.apart HOut.out (by decide))));have HOLC:=Lib.hid (HOLB.out.grown hg3 (HOLB.out.apart HOut.out (by decide)));have HMC:=Lib.hid (HMB.out.kept hg3 (fun e=>(HOut.out.notMap HMB.out).elim (fun h=>by rw [h] at e;cases e) (fun h=>h e.symm)));have HGC:=Lib.hid (fun s=>(HGB.out s).grown hg3 ((HGB.out s).apart HOut.out (by decide)));have hB3:Below w.heap.size w w3:=hBB.grown hg3 hBB.size (fun gg e=>HOut.out.block gg e);clear hg3))
    go_round
    case rel=>exact ⟨k+1,by omega,by go_num,⟨vs ++ [(.slice (some ⟨w2.heap.size,0,none⟩) 1 1)],(by show OwnK _ _ _ _ _ _;rw [cellsW_append];exact HO3.out),(by show UOk _ _ _ _;rw [HS2.out];exact HUC.out)⟩,HOLC,HMC,HGC,hB3⟩
    case measure=>simp [intOf];omega
   ·obtain ⟨hf1,hf2⟩:=full_of h0
    have hgs:selG l S j.ga=gangOf l j.ga S:=by unfold selG;rw [if_neg h0]
    have ho:=HG.out j.ga
    rw [hgs,hE9] at ho
    obtain ⟨Ag,cg,hv,hrd,_,_⟩:=ho.rdi
    obtain ⟨mg,hmg⟩:∃ mg,mg=(ints (h9 :: r9)).length:=⟨_,rfl⟩
    have hm0:0<mg:=by rw [hmg];simp [ints]
    rw [<- hmg] at hv
    rw [hv] at ho
    obtain ⟨gh,oh,hAh,hgh,ch⟩:=hrd.nat (k:=0) (by simp)
    subst hAh
    rw [tB,Nat.add_zero] at ch
    obtain ⟨x,hx⟩:∃ x,x=cntG l n j.ga:=⟨_,rfl⟩
    have e1:cntG l n j.ga=manyK l j.ga n:=by unfold cntG;rw [if_neg h0]
    have hun:unitAt l S (S.take k) p=if decide (h9=p) && decide (j.sz<=(x:Int)) then [h9 :: r9] else []:=by
     unfold unitAt
     rw [HJJ.out,if_neg h0,<- hn.out,hhd,hE9,hx,e1]
    have HV:Hid (entG l n V j.ga = .agg #[.int .i64 (x:Int),.slice (some ⟨gh,oh,none⟩) mg cg]):=by show _=_;unfold entG;rw [<- hx,hv]
    have HUn:=Lib.hid hun
    have HOE:=Lib.hid ho
    clear h0 hhd hp hgs hE9 ho hv hrd hmg hun hx e1 HRb
    by_cases he:h9=p
    case neg=>
     have dne:((h9:Int) == (p:Int))=false:=by simp;omega
     have HS2:Hid (unitsK l S (k+1)=U):=by show _=_;rw [HSc.out,HUn.out,decide_eq_false he];simp
     clear he HSc HUn
     go_wp2_with (first | (with_reducible refine load_rg rfl 47 _ rfl g (o+p * 13) rfl j.task _ HJT.out Tryz.underlying47 rfl (by kernel_rfl) ?_) | ((with_reducible refine store_bk rfl 47 (.tmp 8) (.tmp 25) rfl wr.heap.size 0 j.task rfl rfl 47 _ j.task (Bk.fresh _ _ _) (by kernel_rfl) (by simp) (by kernel_rfl) rfl ?_);intro w2 hB1 hg1 hs1;have bl2:Below wr.heap.size wr w2:=grown_below ((Below.refl _ _).alloc (Nat.le_refl _) _) hg1 (Nat.le_refl _);have c8:w2.cell? ⟨wr.heap.size,8,none⟩=some (.string j.ga):=hB1.cellAt 8;have HT2:=Lib.hid hB1;have lw2:wr.heap.size<w2.heap.size:=hB1.here;clear hB1 hg1 hs1;have HMB2:=Lib.hid (HM.out.later bl2)) | (with_reducible refine look_v _ rfl _ _ 216 rfl 9 219 Tryz.underlying216 Tryz.underlying9 zG (zeroG _) b9 _ rfl HMB2.out j.ga rfl _ HV.out ?_) | ((with_reducible refine store_bk rfl 219 (.tmp 9) (.tmp 37) rfl w2.heap.size 0 #[.int .i64 (x:Int),.slice (some ⟨gh,oh,none⟩) mg cg] rfl rfl 219 _ #[.int .i64 (x:Int),.slice (some ⟨gh,oh,none⟩) mg cg] (Bk.fresh _ _ _) (by kernel_rfl) (by simp) (by kernel_rfl) rfl ?_);intro w4 hB2 hg2 hs2;have bl24:Below w2.heap.size w2 w4:=grown_below ((Below.refl _ _).alloc (Nat.le_refl _) _) hg2 (Nat.le_refl _);have bl4:Below wr.heap.size wr w4:=bl2.trans (bl24.mono bl2.size);have cg0:w4.cell? ⟨w2.heap.size,0,none⟩=some (.int .i64 (x:Int)):=hB2.cellAt 0;have cg1:w4.cell? ⟨w2.heap.size,1,none⟩=some (.slice (some ⟨gh,oh,none⟩) mg cg):=hB2.cellAt 1;have ch4:w4.cell? ⟨gh,oh,none⟩=some (.int .i64 (h9:Int)):=(bl4.cell (p:=⟨gh,oh,none⟩) hgh).trans ch;have c9:w4.cell? ⟨wr.heap.size,9,none⟩=some (.int .i64 j.sz):=(HT2.out.later bl24).cellAt 9;have lw4:w2.heap.size<w4.heap.size:=hB2.here;clear hB2 hg2 hs2;have hB4:Below w.heap.size w w4:=hb.trans (bl4.mono hb.size);clear bl24))
     go_round
     case rel=>exact ⟨k+1,by omega,by go_num,⟨vs,HO.out.below bl4,(by show UOk _ _ _ _;rw [HS2.out];exact HU2.out.later bl4)⟩,HOL.out.below bl4,HM.out.later bl4,(fun s=>(HG.out s).below bl4),hB4⟩
     case measure=>simp [intOf];omega
    subst he
    by_cases hsz:j.sz<=(x:Int)
    case neg=>
     have HS2:Hid (unitsK l S (k+1)=U):=by show _=_;rw [HSc.out,HUn.out,decide_eq_false hsz];simp
     have dsz:decide (j.sz<=(x:Int))=false:=decide_eq_false hsz
     have dsz':decide ((x:Int) ≥ j.sz)=false:=decide_eq_false hsz
     clear HSc HUn
     go_wp2_with (first | (with_reducible refine load_rg rfl 47 _ rfl g (o+h9 * 13) rfl j.task _ HJT.out Tryz.underlying47 rfl (by kernel_rfl) ?_) | ((with_reducible refine store_bk rfl 47 (.tmp 8) (.tmp 25) rfl wr.heap.size 0 j.task rfl rfl 47 _ j.task (Bk.fresh _ _ _) (by kernel_rfl) (by simp) (by kernel_rfl) rfl ?_);intro w2 hB1 hg1 hs1;have bl2:Below wr.heap.size wr w2:=grown_below ((Below.refl _ _).alloc (Nat.le_refl _) _) hg1 (Nat.le_refl _);have c8:w2.cell? ⟨wr.heap.size,8,none⟩=some (.string j.ga):=hB1.cellAt 8;have HT2:=Lib.hid hB1;have lw2:wr.heap.size<w2.heap.size:=hB1.here;clear hB1 hg1 hs1;have HMB2:=Lib.hid (HM.out.later bl2)) | (with_reducible refine look_v _ rfl _ _ 216 rfl 9 219 Tryz.underlying216 Tryz.underlying9 zG (zeroG _) b9 _ rfl HMB2.out j.ga rfl _ HV.out ?_) | ((with_reducible refine store_bk rfl 219 (.tmp 9) (.tmp 37) rfl w2.heap.size 0 #[.int .i64 (x:Int),.slice (some ⟨gh,oh,none⟩) mg cg] rfl rfl 219 _ #[.int .i64 (x:Int),.slice (some ⟨gh,oh,none⟩) mg cg] (Bk.fresh _ _ _) (by kernel_rfl) (by simp) (by kernel_rfl) rfl ?_);intro w4 hB2 hg2 hs2;have bl24:Below w2.heap.size w2 w4:=grown_below ((Below.refl _ _).alloc (Nat.le_refl _) _) hg2 (Nat.le_refl _);have bl4:Below wr.heap.size wr w4:=bl2.trans (bl24.mono bl2.size);have cg0:w4.cell? ⟨w2.heap.size,0,none⟩=some (.int .i64 (x:Int)):=hB2.cellAt 0;have cg1:w4.cell? ⟨w2.heap.size,1,none⟩=some (.slice (some ⟨gh,oh,none⟩) mg cg):=hB2.cellAt 1;have ch4:w4.cell? ⟨gh,oh,none⟩=some (.int .i64 (h9:Int)):=(bl4.cell (p:=⟨gh,oh,none⟩) hgh).trans ch;have c9:w4.cell? ⟨wr.heap.size,9,none⟩=some (.int .i64 j.sz):=(HT2.out.later bl24).cellAt 9;have lw4:w2.heap.size<w4.heap.size:=hB2.here;clear hB2 hg2 hs2;have hB4:Below w.heap.size w w4:=hb.trans (bl4.mono hb.size);clear bl24))
     go_round
     case rel=>exact ⟨k+1,by omega,by go_num,⟨vs,HO.out.below bl4,(by show UOk _ _ _ _;rw [HS2.out];exact HU2.out.later bl4)⟩,HOL.out.below bl4,HM.out.later bl4,(fun s=>(HG.out s).below bl4),hB4⟩
     case measure=>simp [intOf];omega
    have HS2:Hid (unitsK l S (k+1)=U ++ [h9 :: r9]):=by show _=_;rw [HSc.out,HUn.out,decide_eq_true hsz];simp
    have dsz:decide (j.sz<=(x:Int))=true:=decide_eq_true hsz
    have dsz':decide ((x:Int) ≥ j.sz)=true:=decide_eq_true hsz
    clear HSc HUn
    go_wp2_with (first | (with_reducible refine load_rg rfl 47 _ rfl g (o+h9 * 13) rfl j.task _ HJT.out Tryz.underlying47 rfl (by kernel_rfl) ?_) | ((with_reducible refine store_bk rfl 47 (.tmp 8) (.tmp 25) rfl wr.heap.size 0 j.task rfl rfl 47 _ j.task (Bk.fresh _ _ _) (by kernel_rfl) (by simp) (by kernel_rfl) rfl ?_);intro w2 hB1 hg1 hs1;have bl2:Below wr.heap.size wr w2:=grown_below ((Below.refl _ _).alloc (Nat.le_refl _) _) hg1 (Nat.le_refl _);have c8:w2.cell? ⟨wr.heap.size,8,none⟩=some (.string j.ga):=hB1.cellAt 8;have HT2:=Lib.hid hB1;have lw2:wr.heap.size<w2.heap.size:=hB1.here;clear hB1 hg1 hs1;have HMB2:=Lib.hid (HM.out.later bl2)) | (with_reducible refine look_v _ rfl _ _ 216 rfl 9 219 Tryz.underlying216 Tryz.underlying9 zG (zeroG _) b9 _ rfl HMB2.out j.ga rfl _ HV.out ?_) | ((with_reducible refine store_bk rfl 219 (.tmp 9) (.tmp 37) rfl w2.heap.size 0 #[.int .i64 (x:Int),.slice (some ⟨gh,oh,none⟩) mg cg] rfl rfl 219 _ #[.int .i64 (x:Int),.slice (some ⟨gh,oh,none⟩) mg cg] (Bk.fresh _ _ _) (by kernel_rfl) (by simp) (by kernel_rfl) rfl ?_);intro w4 hB2 hg2 hs2;have bl24:Below w2.heap.size w2 w4:=grown_below ((Below.refl _ _).alloc (Nat.le_refl _) _) hg2 (Nat.le_refl _);have bl4:Below wr.heap.size wr w4:=bl2.trans (bl24.mono bl2.size);have cg0:w4.cell? ⟨w2.heap.size,0,none⟩=some (.int .i64 (x:Int)):=hB2.cellAt 0;have cg1:w4.cell? ⟨w2.heap.size,1,none⟩=some (.slice (some ⟨gh,oh,none⟩) mg cg):=hB2.cellAt 1;have ch4:w4.cell? ⟨gh,oh,none⟩=some (.int .i64 (h9:Int)):=(bl4.cell (p:=⟨gh,oh,none⟩) hgh).trans ch;have c9:w4.cell? ⟨wr.heap.size,9,none⟩=some (.int .i64 j.sz):=(HT2.out.later bl24).cellAt 9;have lw4:w2.heap.size<w4.heap.size:=hB2.here;clear hB2 hg2 hs2;have hB4:Below w.heap.size w w4:=hb.trans (bl4.mono hb.size);clear bl24;have hbA:Below w4.heap.size w4 (w4.alloc (.cells #[.slice (some ⟨gh,oh,none⟩) mg cg] 150)):=(Below.refl _ _).alloc (Nat.le_refl _) _;have hbR:=bl4.trans (hbA.mono bl4.size);have HOne:=Lib.hid (HOE.out.below hbR);have HOut:=Lib.hid (show OwnK (w4.alloc (.cells #[.slice (some ⟨gh,oh,none⟩) mg cg] 150)) w.heap.size 150 1 u5 (cellsW vs) from HO.out.below hbR);have HUB:=Lib.hid (HU2.out.later hbR);have HOLB:=Lib.hid (HOL.out.below hbR);have HMB:=Lib.hid (HM.out.later hbR);have HGB:=Lib.hid (fun s=>(HG.out s).below hbR);have HFr:=Lib.hid (show RdK (w4.alloc (.cells #[.slice (some ⟨gh,oh,none⟩) mg cg] 150)) 1 (some ⟨w4.heap.size,0,none⟩) (cellsW [.slice (some ⟨gh,oh,none⟩) mg cg]) from fresh_k w4 1 [.slice (some ⟨gh,oh,none⟩) mg cg] 150 rfl);have hBB:Below w.heap.size w (w4.alloc (.cells #[.slice (some ⟨gh,oh,none⟩) mg cg] 150)):=hb.trans (hbR.mono hb.size);clear hbA hbR) | ((with_reducible refine append_k _ rfl (.tmp 51) (.tmp 54) 148 rfl w.heap.size 150 _ 1 24 Tryz.underlying148 infoU rfl (by omega) u5 (cellsW vs) rfl HOut.out ⟨w4.heap.size,0,none⟩ 1 1 (cellsW [.slice (some ⟨gh,oh,none⟩) mg cg]) rfl HFr.out (cellsW_k _) (by simp [cellsW,Value.oneCell']) rfl (by simp [cellsW,maxLen];omega) (by simp [cellsW,maxLen];omega) hBB.size ?_);intro u6' w3 hO3 hg3;have HO3:=Lib.hid hO3;clear hO3;have HUC:=Lib.hid ((HUB.out.grown HOut.out hg3).snoc (HOne.out.grown hg3 (HOne.out.apart HOut.out (by decide))));have HOLC:=Lib.hid (HOLB.out.grown hg3 (HOLB.out.apart HOut.out (by decide)));have HMC:=Lib.hid (HMB.out.kept hg3 (fun e=>(HOut.out.notMap HMB.out).elim (fun h=>by rw [h] at e;cases e) (fun h=>h e.symm)));have HGC:=Lib.hid (fun s=>(HGB.out s).grown hg3 ((HGB.out s).apart HOut.out (by decide)));have hB3:Below w.heap.size w w3:=hBB.grown hg3 hBB.size (fun gg e=>HOut.out.block gg e);clear hg3))
    go_round
    case rel=>exact ⟨k+1,by omega,by go_num,⟨vs ++ [.slice (some ⟨gh,oh,none⟩) mg cg],(by show OwnK _ _ _ _ _ _;rw [cellsW_append];exact HO3.out),(by show UOk _ _ _ _;rw [HS2.out];exact HUC.out)⟩,HOLC,HMC,HGC,hB3⟩
    case measure=>simp [intOf];omega
  ·have hk':k=q:=by omega
   subst hk'
   go_wp2_with fail
   go_ret
   exact ⟨⟨_,vs,rfl,HO.out,HU.out⟩,hb⟩
end
section
open Go.Shelf
def renC:Ren:=⟨fun x=>match x with | 6=>214 | 14=>222 | 15=>114 | 20=>226 | 21=>227 | 22=>228 | 23=>229 | 24=>230 | 25=>231 | 26=>232 | 27=>233 | 28=>154 | 29=>155 | 46=>237 | 47=>175 | 48=>176 | 49=>238 | 50=>239 | 57=>241 | n=>n,
 fun x=>match x with | 22=>242 | 24=>246 | 25=>247 | 3=>3 | 39=>74 | 0=>0 | 53=>184 | 55=>186 | 4=>4 | 46=>177 | 45=>176 | 50=>135 | 5=>5 | 9=>9 | 66=>204 | 70=>208 | 76=>221 | 77=>222 | n=>n,fun x=>x⟩

theorem layC:SlLaysF0.n6 Tryz.prog renC where
 mixed:=by kernel_rfl
 f6:=⟨Tryz.f214.name,by kernel_rfl,by kernel_rfl⟩
 f14:=⟨Tryz.f222.name,by kernel_rfl,by kernel_rfl⟩
 f15:=Tryz.func114.trans (congrArg some (by kernel_rfl))
 f20:=⟨Tryz.f226.name,by kernel_rfl,by kernel_rfl⟩
 f21:=⟨Tryz.f227.name,by kernel_rfl,by kernel_rfl⟩
 f22:=⟨Tryz.f228.name,by kernel_rfl,by kernel_rfl⟩
 f23:=⟨Tryz.f229.name,by kernel_rfl,by kernel_rfl⟩
 f24:=⟨Tryz.f230.name,by kernel_rfl,by kernel_rfl⟩
 f25:=⟨Tryz.f231.name,by kernel_rfl,by kernel_rfl⟩
 f26:=⟨Tryz.f232.name,by kernel_rfl,by kernel_rfl⟩
 f27:=⟨Tryz.f233.name,by kernel_rfl,by kernel_rfl⟩
 f28:=Tryz.func154.trans (congrArg some (by kernel_rfl))
 f29:=Tryz.func155.trans (congrArg some (by kernel_rfl))
 f46:=⟨Tryz.f237.name,by kernel_rfl,by kernel_rfl⟩
 f47:=Tryz.func175.trans (congrArg some (by kernel_rfl))
 f48:=Tryz.func176.trans (congrArg some (by kernel_rfl))
 f49:=⟨Tryz.f238.name,by kernel_rfl,by kernel_rfl⟩
 f50:=⟨Tryz.f239.name,by kernel_rfl,by kernel_rfl⟩
 f57:=⟨Tryz.f241.name,by kernel_rfl,by kernel_rfl⟩
 t0:=Tryz.underlying0
 a0:=Tryz.isAgg0
 z0:=Tryz.sizeOf0
 v0:=Tryz.zeroValue0
 t3:=Tryz.underlying3
 a3:=Tryz.isAgg3
 z3:=Tryz.sizeOf3
 v3:=Tryz.zeroValue3
 t4:=Tryz.underlying4
 a4:=Tryz.isAgg4
 z4:=Tryz.sizeOf4
 v4:=Tryz.zeroValue4
 t5:=Tryz.underlying5
 a5:=Tryz.isAgg5
 z5:=Tryz.sizeOf5
 v5:=Tryz.zeroValue5
 t9:=Tryz.underlying9
 a9:=Tryz.isAgg9
 z9:=Tryz.sizeOf9
 v9:=Tryz.zeroValue9
 t22:=Tryz.underlying242
 a22:=Tryz.isAgg242
 z22:=Tryz.sizeOf242
 v22:=Tryz.zeroValue242
 t25:=Tryz.underlying247
 a25:=Tryz.isAgg247
 z25:=Tryz.sizeOf247
 v25:=Tryz.zeroValue247
 t39:=Tryz.underlying74
 a39:=Tryz.isAgg74
 z39:=Tryz.sizeOf74
 v39:=Tryz.zeroValue74
 t45:=Tryz.underlying176
 a45:=Tryz.isAgg176
 z45:=Tryz.sizeOf176
 v45:=Tryz.zeroValue176
 t46:=Tryz.underlying177
 a46:=Tryz.isAgg177
 z46:=Tryz.sizeOf177
 v46:=Tryz.zeroValue177
 t50:=Tryz.underlying135
 a50:=Tryz.isAgg135
 z50:=Tryz.sizeOf135
 v50:=Tryz.zeroValue135
 t53:=Tryz.underlying184
 a53:=Tryz.isAgg184
 z53:=Tryz.sizeOf184
 v53:=Tryz.zeroValue184
 t55:=Tryz.underlying186
 a55:=Tryz.isAgg186
 z55:=Tryz.sizeOf186
 v55:=Tryz.zeroValue186
 t66:=Tryz.underlying204
 a66:=Tryz.isAgg204
 z66:=Tryz.sizeOf204
 v66:=Tryz.zeroValue204
 t70:=Tryz.underlying208
 a70:=Tryz.isAgg208
 z70:=Tryz.sizeOf208
 v70:=Tryz.zeroValue208
 t76:=Tryz.underlying221
 a76:=Tryz.isAgg221
 z76:=Tryz.sizeOf221
 v76:=Tryz.zeroValue221
 t77:=Tryz.underlying222
 a77:=Tryz.isAgg222
 z77:=Tryz.sizeOf222
 v77:=Tryz.zeroValue222
end
section
open Go.RowKit
def cellsV (l:List (Int × Int × Int)):List (List Value):=l.map fun t=>[.int .i64 t.1,.int .i64 t.2.1,.int .i64 t.2.2]
theorem cellsV_append (l m:List (Int × Int × Int)):cellsV (l ++ m)=cellsV l ++ cellsV m:=by simp [cellsV]
theorem cellsV_length (l:List (Int × Int × Int)):(cellsV l).length=l.length:=by simp [cellsV]
theorem RdV.of {w:World} {A:Option Addr} {l:List (Int × Int × Int)} (h:RdK w 3 A (cellsV l)):RdV w A l:=fun i t ht=>by
 obtain ⟨g,o,ha,hr⟩:=h i [.int .i64 t.1,.int .i64 t.2.1,.int .i64 t.2.2] (by simp [cellsV,ht])
 exact ⟨g,o,ha,hr 0 _ rfl,hr 1 _ rfl,hr 2 _ rfl⟩
theorem infoV:(Tryz.prog.info? 40).map (fun i=>(i.zero,i.size,i.bytes))=some (some (.agg #[.int .i64 0,.int .i64 0,.int .i64 0]),3,24):=by kernel_rfl
section
variable {o:Oper} {a:Act} {w:World} {K:Act->World->Prop} {Q:Exit->Act->World->Prop}
end
end
section
open Go.RowKit

theorem sum_any (A:Option Addr) (n cap:Nat) (l:List (Int × Int × Int)) (w:World) (hn:Hid (n=l.length)) (hl:n<=9223372036854775807) (hA:Hid (RdV w A l)) (x y z v:Int) (hs:Hid (sm 0 0 0 l=(x,y,z,v))) :
  Calls Tryz.prog 63 #[.slice A n cap] w fun r w'=>r = .returned (.tuple #[.agg #[.int .i64 x,.int .i64 y,.int .i64 z],.int .i64 v])/\Below w.heap.size w w':=by
 go_enter Tryz.func63,Tryz.ntmps63
 go_wp2_with fail
 go_loopw [12] (fun i wr=>∃ (k:Nat) (p q r:Int),k<=n/\i = .int .i64 k/\sm p q r (l.drop k)=(x,y,z,v)/\Below w.heap.size w wr/\w.heap.size+1<wr.heap.size /\
   wr.cell? ⟨w.heap.size+1,0,none⟩=some (.int .i64 p)/\wr.cell? ⟨w.heap.size+1,1,none⟩=some (.int .i64 q)/\wr.cell? ⟨w.heap.size+1,2,none⟩=some (.int .i64 r) /\
   wr.frozen? ⟨w.heap.size+1,0,none⟩=false/\wr.frozen? ⟨w.heap.size+1,1,none⟩=false/\wr.frozen? ⟨w.heap.size+1,2,none⟩=false /\
   (∃ o0 o1 o2,wr.cell? ⟨w.heap.size,0,none⟩=some o0/\wr.cell? ⟨w.heap.size,1,none⟩=some o1/\wr.cell? ⟨w.heap.size,2,none⟩=some o2) /\
   wr.frozen? ⟨w.heap.size,0,none⟩=false/\wr.frozen? ⟨w.heap.size,1,none⟩=false/\wr.frozen? ⟨w.heap.size,2,none⟩=false) (fun i _=>n - (intOf i).toNat)
 case atStart=>
  exact ⟨0,0,0,0,Nat.zero_le _,rfl,by simpa using hs.out,by go_grown,by simp,by simp,by simp,by simp,by simp,by simp,by simp,⟨_,_,_,by simp;rfl,by simp;rfl,by simp;rfl⟩,by simp,by simp,by simp⟩
 case round=>
  obtain ⟨k,p,q,r,hk,rfl,hsm,hb1,hz,k10,k11,k12,m10,m11,m12,⟨o0,o1,o2,k00,k01,k02⟩,m00,m01,m02⟩:=hrel
  have HS:=Lib.hid hsm;clear hsm
  by_cases hlt:k<n
  ·obtain ⟨t,ht⟩:∃ t,l[k]? = some t:=⟨l[k]'(by rw [<- hn.out];exact hlt),List.getElem?_eq_getElem _⟩
   obtain ⟨g,o,ha,c0,c1,c2⟩:=(hA.out.below hb1) k t ht
   have HT:=Lib.hid ht;clear ht
   subst ha
   obtain ⟨d,e,f⟩:=t
   simp only at c0 c1 c2
   have hd:l.drop k=(d,e,f) :: l.drop (k+1):=by
    have hkl:k<l.length:=by rw [<- hn.out];exact hlt
    rw [List.drop_eq_getElem_cons hkl]
    have:=HT.out
    rw [List.getElem?_eq_getElem hkl,Option.some.injEq] at this
    rw [this]
   have HD:=Lib.hid hd;clear hd
   have lt0:w.heap.size<wr.heap.size:=by omega
   cases h:adB p q r d e f
   ·have hv:=adE_no h
    have hfin:=HS.out
    rw [HD.out,sm_no h] at hfin
    simp only [Prod.mk.injEq] at hfin
    obtain ⟨rfl,rfl,rfl,hfv⟩:=hfin
    rw [hfv] at hv
    have HH:=Lib.hid h;clear h
    have HV:=Lib.hid hfv;clear hfv
    rcases hv with rfl | rfl
    all_goals
     go_wp2_with fail
     refine (add_false HH.out HV.out _).mono ?_;rintro r' w2 ⟨rfl,hb2⟩
     have hs2:wr.heap.size+1<=w2.heap.size:=by have h:=hb2.size;simpa using h
     have lt2:w.heap.size<w2.heap.size:=by omega
     have lt3:w.heap.size+1<w2.heap.size:=by omega
     have j00:w2.cell? ⟨w.heap.size,0,none⟩=some o0:=(hb2.cell (p:=⟨w.heap.size,0,none⟩) (by go_size)).trans (by go_cell);have n00:w2.frozen? ⟨w.heap.size,0,none⟩=false:=(hb2.frozen (p:=⟨w.heap.size,0,none⟩) (by go_size)).trans (by first | assumption | (go_simp;done));have j01:w2.cell? ⟨w.heap.size,1,none⟩=some o1:=(hb2.cell (p:=⟨w.heap.size,1,none⟩) (by go_size)).trans (by go_cell);have n01:w2.frozen? ⟨w.heap.size,1,none⟩=false:=(hb2.frozen (p:=⟨w.heap.size,1,none⟩) (by go_size)).trans (by first | assumption | (go_simp;done));have j02:w2.cell? ⟨w.heap.size,2,none⟩=some o2:=(hb2.cell (p:=⟨w.heap.size,2,none⟩) (by go_size)).trans (by go_cell);have n02:w2.frozen? ⟨w.heap.size,2,none⟩=false:=(hb2.frozen (p:=⟨w.heap.size,2,none⟩) (by go_size)).trans (by first | assumption | (go_simp;done));have j10:w2.cell? ⟨w.heap.size+1,0,none⟩=some (.int .i64 p):=(hb2.cell (p:=⟨w.heap.size+1,0,none⟩) (by go_size)).trans (by go_cell);have n10:w2.frozen? ⟨w.heap.size+1,0,none⟩=false:=(hb2.frozen (p:=⟨w.heap.size+1,0,none⟩) (by go_size)).trans (by first | assumption | (go_simp;done));have j11:w2.cell? ⟨w.heap.size+1,1,none⟩=some (.int .i64 q):=(hb2.cell (p:=⟨w.heap.size+1,1,none⟩) (by go_size)).trans (by go_cell);have n11:w2.frozen? ⟨w.heap.size+1,1,none⟩=false:=(hb2.frozen (p:=⟨w.heap.size+1,1,none⟩) (by go_size)).trans (by first | assumption | (go_simp;done));have j12:w2.cell? ⟨w.heap.size+1,2,none⟩=some (.int .i64 r):=(hb2.cell (p:=⟨w.heap.size+1,2,none⟩) (by go_size)).trans (by go_cell);have n12:w2.frozen? ⟨w.heap.size+1,2,none⟩=false:=(hb2.frozen (p:=⟨w.heap.size+1,2,none⟩) (by go_size)).trans (by first | assumption | (go_simp;done))
     clear k00 k01 k02 k10 k11 k12 m00 m01 m02 m10 m11 m12
     go_wp2_with fail
     first
      | exact bodyPost_ret (v:=.tuple #[.agg #[.int .i64 0,.int .i64 0,.int .i64 0],.int .i64 1]) (by simp [results,Tryz.results63,go_sem,lt0,lt2,lt3,j00,j01,j02,j10,j11,j12]) rfl ⟨rfl,by (repeat' (first | (with_reducible exact Below.refl _ _) | (with_reducible refine Below.drew ?_) | (with_reducible refine Below.setCell ?_ ?_ _) | (with_reducible refine Below.alloc ?_ ?_ _) | (with_reducible refine Below.trans ?_ (Below.mono hb1 ?_)) | (with_reducible refine Below.trans ?_ (Below.mono hb2 ?_)) | go_size))⟩
      | exact bodyPost_ret (v:=.tuple #[.agg #[.int .i64 0,.int .i64 0,.int .i64 0],.int .i64 6]) (by simp [results,Tryz.results63,go_sem,lt0,lt2,lt3,j00,j01,j02,j10,j11,j12]) rfl ⟨rfl,by (repeat' (first | (with_reducible exact Below.refl _ _) | (with_reducible refine Below.drew ?_) | (with_reducible refine Below.setCell ?_ ?_ _) | (with_reducible refine Below.alloc ?_ ?_ _) | (with_reducible refine Below.trans ?_ (Below.mono hb1 ?_)) | (with_reducible refine Below.trans ?_ (Below.mono hb2 ?_)) | go_size))⟩
   ·have hfin:=HS.out
    rw [HD.out,sm_ok h] at hfin
    have HF:=Lib.hid hfin;clear hfin
    have HH:=Lib.hid h;clear h
    go_wp2_with fail
    refine (add_true HH.out _).mono ?_;rintro r' w2 ⟨rfl,hb2⟩
    have hs2:wr.heap.size+1<=w2.heap.size:=by have h:=hb2.size;simpa using h
    have lt2:w.heap.size<w2.heap.size:=by omega
    have lt3:w.heap.size+1<w2.heap.size:=by omega
    have j00:w2.cell? ⟨w.heap.size,0,none⟩=some o0:=(hb2.cell (p:=⟨w.heap.size,0,none⟩) (by go_size)).trans (by go_cell);have n00:w2.frozen? ⟨w.heap.size,0,none⟩=false:=(hb2.frozen (p:=⟨w.heap.size,0,none⟩) (by go_size)).trans (by first | assumption | (go_simp;done));have j01:w2.cell? ⟨w.heap.size,1,none⟩=some o1:=(hb2.cell (p:=⟨w.heap.size,1,none⟩) (by go_size)).trans (by go_cell);have n01:w2.frozen? ⟨w.heap.size,1,none⟩=false:=(hb2.frozen (p:=⟨w.heap.size,1,none⟩) (by go_size)).trans (by first | assumption | (go_simp;done));have j02:w2.cell? ⟨w.heap.size,2,none⟩=some o2:=(hb2.cell (p:=⟨w.heap.size,2,none⟩) (by go_size)).trans (by go_cell);have n02:w2.frozen? ⟨w.heap.size,2,none⟩=false:=(hb2.frozen (p:=⟨w.heap.size,2,none⟩) (by go_size)).trans (by first | assumption | (go_simp;done));have j10:w2.cell? ⟨w.heap.size+1,0,none⟩=some (.int .i64 p):=(hb2.cell (p:=⟨w.heap.size+1,0,none⟩) (by go_size)).trans (by go_cell);have n10:w2.frozen? ⟨w.heap.size+1,0,none⟩=false:=(hb2.frozen (p:=⟨w.heap.size+1,0,none⟩) (by go_size)).trans (by first | assumption | (go_simp;done));have j11:w2.cell? ⟨w.heap.size+1,1,none⟩=some (.int .i64 q):=(hb2.cell (p:=⟨w.heap.size+1,1,none⟩) (by go_size)).trans (by go_cell);have n11:w2.frozen? ⟨w.heap.size+1,1,none⟩=false:=(hb2.frozen (p:=⟨w.heap.size+1,1,none⟩) (by go_size)).trans (by first | assumption | (go_simp;done));have j12:w2.cell? ⟨w.heap.size+1,2,none⟩=some (.int .i64 r):=(hb2.cell (p:=⟨w.heap.size+1,2,none⟩) (by go_size)).trans (by go_cell);have n12:w2.frozen? ⟨w.heap.size+1,2,none⟩=false:=(hb2.frozen (p:=⟨w.heap.size+1,2,none⟩) (by go_size)).trans (by first | assumption | (go_simp;done))
    clear k00 k01 k02 k10 k11 k12 m00 m01 m02 m10 m11 m12
    go_wp2_with fail
    go_roundw
    case rel=>
     refine ⟨k+1,p+d,q+e,r+f,by omega,by go_num,HF.out,by (repeat' (first | (with_reducible exact Below.refl _ _) | (with_reducible refine Below.drew ?_) | (with_reducible refine Below.setCell ?_ ?_ _) | (with_reducible refine Below.alloc ?_ ?_ _) | (with_reducible refine Below.trans ?_ (Below.mono hb1 ?_)) | (with_reducible refine Below.trans ?_ (Below.mono hb2 ?_)) | go_size)),by go_size,?_,?_,?_,?_,?_,?_,⟨o0,o1,o2,?_,?_,?_⟩,?_,?_,?_⟩
     all_goals trace_state
     all_goals (first | (go_simp;done) | go_cell)
    case measure=>simp [intOf];omega
  ·have hk':k=n:=by omega
   subst hk'
   have hfin:=HS.out
   rw [hn.out,List.drop_length,sm_nil] at hfin
   simp only [Prod.mk.injEq] at hfin
   obtain ⟨rfl,rfl,rfl,rfl⟩:=hfin
   go_wp2_with fail
   exact bodyPost_ret (v:=.tuple #[.agg #[.int .i64 p,.int .i64 q,.int .i64 r],.int .i64 0]) (by simp [results,Tryz.results63,go_sem,k00,k01,k02]) rfl ⟨rfl,by (repeat' (first | (with_reducible exact Below.refl _ _) | (with_reducible refine Below.drew ?_) | (with_reducible refine Below.setCell ?_ ?_ _) | (with_reducible refine Below.alloc ?_ ?_ _) | (with_reducible refine Below.trans ?_ (Below.mono hb1 ?_)) | go_size))⟩
end
end Go.Proofs.YtccccbofcnmdiaaGreat
