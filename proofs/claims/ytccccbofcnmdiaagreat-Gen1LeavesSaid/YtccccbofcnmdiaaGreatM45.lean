/- Lemmas that the law stands on. No condition. -/
import Derived.Test.YtccccbofcnmdiaaGreatM41
import Derived.Test.YtccccbofcnmdiaaGreatM44
namespace Go.Proofs.YtccccbofcnmdiaaGreat
set_option linter.unusedSimpArgs false
set_option linter.unusedVariables false
set_option maxRecDepth 100000
set_option maxHeartbeats 51200000
section
open Go.RowKit Go.Sort
theorem enterJ:∀ args w,(callFunc 235 args).run Tryz.prog w = .ok (.enter 235 args) w:=enters_of Tryz.func235 (by kernel_rfl) rfl
instance:Inhabited Jb:=⟨⟨⟨#[]⟩,⟨#[]⟩,0,0,0,0,none,0,0,⟨#[]⟩,⟨#[]⟩,0,0,⟨#[]⟩,0⟩⟩
theorem swoJ:SWO (ltOf cfJ) where
 irrefl x:=by show decide (cfJ x x<0)=false;rw [cfJ_go];exact goB_irrefl x
 trans x y z h1 h2:=by
  have h1':goB x y=true:=by rw [<- cfJ_go];exact h1
  have h2':goB y z=true:=by rw [<- cfJ_go];exact h2
  show decide (cfJ x z<0)=true;rw [cfJ_go];exact goB_trans h1' h2'
 ntrans x y z h1 h2:=by
  have h1':goB x y=false:=by rw [<- cfJ_go];exact h1
  have h2':goB y z=false:=by rw [<- cfJ_go];exact h2
  show decide (cfJ x z<0)=false;rw [cfJ_go];exact goB_ntrans h1' h2'
theorem anyJ:StJ.CmpAny Jb.cells cfJ 235 #[]:=⟨fun x=>x.cells_length,fun x=>x.cells_one,swoJ,enterJ,fun x y W=>cmpJ_any x y W⟩
theorem sorted_weak {m:Mc} {t:Kt} {l:List Jb} {W:List Nat} (h1:W.Perm (List.range (l.filter (wkJ m t)).length)) (h2:W.Pairwise (Fore fun i y=>ltOf cfJ ((l.filter (wkJ m t)).getD i default) ((l.filter (wkJ m t)).getD y default))):(W.map fun i=>(l.filter (wkJ m t)).getD i default)=weakJ m t l:=by
 have hW:∀ i ∈ W,i<(l.filter (wkJ m t)).length:=fun i hi=>List.mem_range.1 (h1.subset hi)
 have e:∀ i,i<(l.filter (wkJ m t)).length->(l.filter (wkJ m t)).getD i default=jat (l.filter (wkJ m t)) i:=by
  intro i hi
  rw [jat_at hi]
  simp [List.getD,List.getElem?_eq_getElem hi]
 refine (List.map_congr_left fun i hi=>e i (hW i hi)).trans (weakJ_one h1 ?_)
 ·refine List.Pairwise.imp_of_mem (fun {x y} hx hy h=>?_) h2
  unfold Fore at h ⊢
  simp only at h ⊢
  rw [e x (hW x hx),e y (hW y hy)] at h
  unfold ltOf at h
  rwa [cfJ_go,cfJ_go] at h


theorem vweaker_any (m:Mc) (A:Option Addr) (n cap:Nat) (l:List Jb) (t:Kt) (w:World) (hn:Hid (n=l.length)) (hl:n<=1000000) (hA:Hid (RdJ w A l)) :
  Calls Tryz.prog 223 #[.agg m.arr,.slice A n cap,.agg t.arr] w fun e w'=>RetJ w.heap.size w' e (weakJ m t l)/\Below w.heap.size w w':=by
 go_enter Tryz.func223,Tryz.ntmps223
 have HM0:=Lib.hid (show Bk ((w.alloc (.cells m.arr 60)).alloc (.cells t.arr 47)) w.heap.size 60 m.arr from (Bk.fresh w _ _).later ((Below.refl _ _).alloc (Nat.le_refl _) _))
 have HT0:=Lib.hid (show Bk ((w.alloc (.cells m.arr 60)).alloc (.cells t.arr 47)) (w.heap.size+1) 47 t.arr from Bk.freshAt _ _ _ (by simp))
 have hB0:Below w.heap.size w ((w.alloc (.cells m.arr 60)).alloc (.cells t.arr 47)):=((Below.refl _ _).alloc (Nat.le_refl _) _).alloc (by simp) _
 go_wp2_with fail
 go_loopw [7,12] (fun vo i wr=>∃ k:Nat,k<=n/\i = .int .i64 k/\Hid (OwnK wr (w.heap.size+2) 66 13 vo (cellsJ ((l.take k).filter (wkJ m t))))/\Hid (Bk wr w.heap.size 60 m.arr)/\Hid (Bk wr (w.heap.size+1) 47 t.arr)/\Below w.heap.size w wr) (fun _ i wr=>n - (intOf i).toNat)
 case atStart=>exact ⟨0,Nat.zero_le _,rfl,(show OwnK _ _ _ _ _ (cellsJ ((l.take 0).filter (wkJ m t))) from OwnK.nil _ _ _ _),HM0,HT0,hB0⟩
 case round=>
  clear HM0 HT0 hB0
  obtain ⟨k,hk,rfl,HO,HMb,HTb,hb⟩:=hrel
  have lt1:w.heap.size+1<wr.heap.size:=HTb.out.here
  have lt0:w.heap.size<wr.heap.size:=by omega
  by_cases hlt:k<n
  ·have hlk:k<l.length:=by have:=hn.out;omega
   obtain ⟨E,hE⟩:∃ E,E=cellsJ ((l.take k).filter (wkJ m t)):=⟨_,rfl⟩
   have h7:=HO.out
   rw [<- hE] at h7
   have hEl:E.length<=k:=by rw [hE,cellsJ_length];exact Nat.le_trans (List.length_filter_le _ _) (by rw [List.length_take];omega)
   obtain ⟨g,o,hAg,hg,hj⟩:=(hA.out.later hb).at hlk
   subst hAg
   have hst:=filter_takeJ (wkJ m t) hlk
   obtain ⟨j,hjk⟩:∃ j,j=l[k]:=⟨_,rfl⟩
   rw [<- hjk] at hj hst
   have HJ:=Lib.hid hj;have HO7:=Lib.hid h7;have HE:=Lib.hid hE;have HST:=Lib.hid hst
   clear hj h7 hE hst HO hjk
   cases he:sE j.nd m.nm
   ·have he':(j.nd.toList == m.nm.toList)=false:=he
    have HE2:Hid (cellsJ ((l.take (k+1)).filter (wkJ m t))=E):=by
     show _=_
     rw [HST.out,HE.out,show wkJ m t j=false by unfold wkJ;rw [he];rfl];simp
    clear he HST HE
    go_wp2_with (first | (with_reducible refine load_rg rfl 66 _ rfl g (o+k * 13) rfl j.arr _ HJ.out.rg Tryz.underlying66 rfl (by kernel_rfl) ?_) | ((with_reducible refine store_bk rfl 66 (.tmp 9) (.tmp 15) rfl wr.heap.size 0 j.arr rfl rfl 66 _ j.arr (Bk.fresh _ _ _) (by kernel_rfl) (by simp) (by kernel_rfl) rfl ?_);intro w1 hB1 hg1 hs1;have bl1:Below wr.heap.size wr w1:=grown_below ((Below.refl _ _).alloc (Nat.le_refl _) _) hg1 (Nat.le_refl _);have HX:=Lib.hid hB1;have c11:w1.cell? ⟨wr.heap.size,11,none⟩=some (.string j.nd):=hB1.cellAt 11;have c2:w1.cell? ⟨wr.heap.size,2,none⟩=some (.int .i64 j.pr):=hB1.cellAt 2;clear hB1 hg1 hs1;have HM1:=Lib.hid (HMb.out.later bl1);have HT1:=Lib.hid (HTb.out.later bl1);have cm:w1.cell? ⟨w.heap.size,0,none⟩=some (.string m.nm):=HM1.out.cellAt 0;have cp:w1.cell? ⟨w.heap.size+1,2,none⟩=some (.int .i64 t.pr):=HT1.out.cellAt 2;have hb1:Below w.heap.size w w1:=hb.trans (bl1.mono hb.size)))
    go_round
    case rel=>exact ⟨k+1,by omega,by go_num,(by show OwnK _ _ _ _ _ _;rw [HE2.out];exact HO7.out.below bl1),HM1,HT1,hb1⟩
    case measure=>simp [intOf];omega
   ·have he':(j.nd.toList == m.nm.toList)=true:=he
    by_cases hp:j.pr<t.pr
    case neg=>
     have hp':decide (j.pr<t.pr)=false:=decide_eq_false hp
     have HE2:Hid (cellsJ ((l.take (k+1)).filter (wkJ m t))=E):=by
      show _=_
      rw [HST.out,HE.out,show wkJ m t j=false by unfold wkJ;rw [hp',Bool.and_false]];simp
     clear he hp HST HE
     go_wp2_with (first | (with_reducible refine load_rg rfl 66 _ rfl g (o+k * 13) rfl j.arr _ HJ.out.rg Tryz.underlying66 rfl (by kernel_rfl) ?_) | ((with_reducible refine store_bk rfl 66 (.tmp 9) (.tmp 15) rfl wr.heap.size 0 j.arr rfl rfl 66 _ j.arr (Bk.fresh _ _ _) (by kernel_rfl) (by simp) (by kernel_rfl) rfl ?_);intro w1 hB1 hg1 hs1;have bl1:Below wr.heap.size wr w1:=grown_below ((Below.refl _ _).alloc (Nat.le_refl _) _) hg1 (Nat.le_refl _);have HX:=Lib.hid hB1;have c11:w1.cell? ⟨wr.heap.size,11,none⟩=some (.string j.nd):=hB1.cellAt 11;have c2:w1.cell? ⟨wr.heap.size,2,none⟩=some (.int .i64 j.pr):=hB1.cellAt 2;clear hB1 hg1 hs1;have HM1:=Lib.hid (HMb.out.later bl1);have HT1:=Lib.hid (HTb.out.later bl1);have cm:w1.cell? ⟨w.heap.size,0,none⟩=some (.string m.nm):=HM1.out.cellAt 0;have cp:w1.cell? ⟨w.heap.size+1,2,none⟩=some (.int .i64 t.pr):=HT1.out.cellAt 2;have hb1:Below w.heap.size w w1:=hb.trans (bl1.mono hb.size)))
     go_round
     case rel=>exact ⟨k+1,by omega,by go_num,(by show OwnK _ _ _ _ _ _;rw [HE2.out];exact HO7.out.below bl1),HM1,HT1,hb1⟩
     case measure=>simp [intOf];omega
    case pos=>
     have hp':decide (j.pr<t.pr)=true:=decide_eq_true hp
     have HE2:Hid (cellsJ ((l.take (k+1)).filter (wkJ m t))=E ++ cellsJ [j]):=by
      show _=_
      rw [HST.out,HE.out,show wkJ m t j=true by unfold wkJ;rw [he,hp'];rfl,cellsJ_append];simp
     clear he hp HST HE
     go_wp2_with (first | (with_reducible refine load_rg rfl 66 _ rfl g (o+k * 13) rfl j.arr _ HJ.out.rg Tryz.underlying66 rfl (by kernel_rfl) ?_) | ((with_reducible refine store_bk rfl 66 (.tmp 9) (.tmp 15) rfl wr.heap.size 0 j.arr rfl rfl 66 _ j.arr (Bk.fresh _ _ _) (by kernel_rfl) (by simp) (by kernel_rfl) rfl ?_);intro w1 hB1 hg1 hs1;have bl1:Below wr.heap.size wr w1:=grown_below ((Below.refl _ _).alloc (Nat.le_refl _) _) hg1 (Nat.le_refl _);have HX:=Lib.hid hB1;have c11:w1.cell? ⟨wr.heap.size,11,none⟩=some (.string j.nd):=hB1.cellAt 11;have c2:w1.cell? ⟨wr.heap.size,2,none⟩=some (.int .i64 j.pr):=hB1.cellAt 2;clear hB1 hg1 hs1;have HM1:=Lib.hid (HMb.out.later bl1);have HT1:=Lib.hid (HTb.out.later bl1);have cm:w1.cell? ⟨w.heap.size,0,none⟩=some (.string m.nm):=HM1.out.cellAt 0;have cp:w1.cell? ⟨w.heap.size+1,2,none⟩=some (.int .i64 t.pr):=HT1.out.cellAt 2;have hb1:Below w.heap.size w w1:=hb.trans (bl1.mono hb.size);have HO1:=Lib.hid (HO7.out.below bl1)) | (with_reducible refine load_bk rfl 66 _ rfl wr.heap.size 0 rfl 66 j.arr j.arr _ HX.out (Part.whole _) Tryz.underlying66 rfl (by kernel_rfl) ?_) | ((with_reducible refine append_k _ rfl (.tmp 30) (.tmp 32) 29 rfl (w.heap.size+2) 66 _ 13 160 Tryz.underlying29 infoJ rfl (by omega) u7 E rfl (HO1.out.alloc _) ⟨w1.heap.size,0,none⟩ 1 1 (cellsJ [j]) rfl (fresh_k w1 13 _ _ rfl) (cellsJ_k _) (cellsJ_one _) rfl (by simp [cellsJ,maxLen] at hEl ⊢;omega) (by simp [cellsJ] at hEl ⊢;omega) (by have:=HT1.out.here;simp;omega) ?_);intro u7' w3 hO3 hg3))
     go_round
     case rel=>exact ⟨k+1,by omega,by go_num,(by show OwnK _ _ _ _ _ _;rw [HE2.out];exact hO3),(HM1.out.later ((Below.refl _ _).alloc (Nat.le_refl _) _)).stays hg3 (fun e=>by have:=HO1.out.block _ e.symm;omega),(HT1.out.later ((Below.refl _ _).alloc (Nat.le_refl _) _)).stays hg3 (fun e=>by have:=HO1.out.block _ e.symm;omega),(hb1.alloc hb1.size _).grown hg3 (by have:=HT1.out.here;simp;omega) (fun g e=>by have:=HO1.out.block _ e;omega)⟩
     case measure=>simp [intOf];omega
  ·have hk':k=n:=by omega
   subst hk'
   have h:=HO.out
   rw [show l.take k=l by rw [hn.out];exact List.take_length] at h
   obtain ⟨B,c,hv,hr',hc1,hc2,_⟩:=h.sl
   have hv':=hv
   rw [cellsJ_length] at hv'
   obtain ⟨nf,hnf⟩:∃ nf,nf=(l.filter (wkJ m t)).length:=⟨_,rfl⟩
   have hnl:nf<=1000000:=by rw [hnf];exact Nat.le_trans (List.length_filter_le _ _) (by have:=hn.out;omega)
   rw [<- hnf] at hv'
   have k1:=fun (W:World) (h:OwnK W (w.heap.size+2) 66 13 (.slice B nf c) ((l.filter (wkJ m t)).map Jb.cells)) (hs:w.heap.size+2<=W.heap.size)=>StJ.stable_own anyJ (l:=l.filter (wkJ m t)) (w:=W) (base:=w.heap.size+2) (v:=.slice B nf c) rfl hnf h hs (by omega)
   have K1:=Lib.hid k1
   subst hv'
   have HO7:=Lib.hid h
   have HW:Hid (∀ W:List Nat,W.Perm (List.range (l.filter (wkJ m t)).length)->W.Pairwise (Fore fun i y=>ltOf cfJ ((l.filter (wkJ m t)).getD i default) ((l.filter (wkJ m t)).getD y default))->(W.map fun i=>(l.filter (wkJ m t)).getD i default)=weakJ m t l):=fun W h1 h2=>sorted_weak h1 h2
   clear k1 h hr' hc1 hc2 hv hnf HO
   go_wp2_with fail
   refine (K1.out _ HO7.out (by omega)).mono ?_;rintro e w2 ⟨rfl,W,hW1,hW2,hO2,hb2⟩
   rw [HW.out W hW1 hW2] at hO2
   have HO2:=Lib.hid hO2
   clear hW1 hW2 hO2
   go_wp2_with fail
   go_ret
   exact ⟨⟨_,rfl,OwnK.base HO2.out (by omega)⟩,hb.trans (hb2.mono (by omega))⟩
end
section
open Go.RowKit
def RetO (b:Nat) (w:World) (e:Ending) (r:Option (List Jb)):Prop:=∃ A c,e = .returned (.tuple #[.slice A (r.getD []).length c,.bool r.isSome])/\RdJ w A (r.getD [])/\(r.getD []).length<=c/\c<=9223372036854775807 /\ ∀ a,A=some a->b<=a.block
theorem OwnK.past {w w':World} {b0 k g:Nat} {e:TypeId} {v:Value} {l:List (List Value)} (h:OwnK w b0 e k v l) (hg:w.grownBy w' (some g)) (hlt:g<b0):OwnK w' b0 e k v l:=
 ⟨h.1,World.ownsRow.kept h.2 hg (by
  cases hv:v.ownBlock with
  | none=>exact .inl rfl
  | some x=>exact .inr fun e=>by injection e with e;have:=h.block x hv;omega)⟩
theorem RdJ.take {w:World} {A:Option Addr} {l:List Jb} (h:RdJ w A l) (k:Nat):RdJ w A (l.take k):=by
 have:=RdK.take h k
 unfold RdJ cellsJ
 rw [List.map_take];exact this


theorem vmake_any (m:Mc) (ml:List Lb) (A:Option Addr) (n cap:Nat) (l:List Jb) (t:Kt) (tl:List Lb) (w:World) (hn:Hid (n=l.length)) (hl:n<=1000000) (hA:Hid (RdJ w A l)) (h4:Hid (why m ml t tl l=4)) (r:Option (List Jb)) (hr:Hid (planJ m ml t tl l=r)) :
  Calls Tryz.prog 216 #[.agg m.arr,.slice A n cap,.agg t.arr] w fun e w'=>RetO w.heap.size w' e r/\Below w.heap.size w w':=by
 obtain ⟨p,q,s,hf,_⟩:=why_4 h4.out
 have hpl:=planJ_4 h4.out
 rw [hr.out] at hpl
 obtain ⟨W,hW⟩:∃ W,W=weak m t l l.length:=⟨_,rfl⟩
 have hWn:W.Nodup:=by rw [hW];exact weak_nodup _
 have hWi:∀ i ∈ W,i<l.length/\(jat l i).nd=m.nm:=by rw [hW];exact weak_in
 rw [<- hW] at hpl
 obtain ⟨E,hE⟩:∃ E,E=weakJ m t l:=⟨_,rfl⟩
 have hEW:E.length=W.length:=by rw [hE,hW];exact weakJ_len
 have hEat:∀ i (h:i<E.length) (h2:i<W.length),E[i]=jat l W[i]:=by subst hE hW;exact fun i h _=>weakJ_at h
 have hEl:E.length<=1000000:=by rw [hEW,hW];exact Nat.le_trans (wk_len _) (by have:=hn.out;omega)
 rw [<- hE] at hpl
 have kf:=fun (W:World) (h:Hid (RdJ W A l))=>freeM_any m A n cap l W hn hl h p q s 0 hf
 have kw:=fun (W:World) (h:Hid (RdJ W A l))=>vweaker_any m A n cap l t W hn hl h
 rw [<- hE] at kw
 have ka:=fun (a b c d e f:Int) (h:adB a b c d e f=true) (W:World)=>add_any a b c d e f W
 have kx:=fun (a b c d e f:Int) (W:World)=>fits_any a b c d e f W
 have KF:=Lib.hid kf;have KW:=Lib.hid kw;have KA:=Lib.hid ka;have KX:=Lib.hid kx;have HF:=Lib.hid hf;have HP:=Lib.hid hpl;have HWn:=Lib.hid hWn;have HWi:=Lib.hid hWi;have HEW:=Lib.hid hEW;have HEat:=Lib.hid hEat
 have h0:Hid (frK m l W 0=(p,q,s,0)):=by show _=_;rw [frK_0];exact hf
 clear kf kw ka kx hf hpl hWn hWi hEW hEat hE hW
 go_enter Tryz.func216,Tryz.ntmps216
 have HM0:=Lib.hid (show Bk ((w.alloc (.cells m.arr 60)).alloc (.cells t.arr 47)) w.heap.size 60 m.arr from (Bk.fresh w _ _).later ((Below.refl _ _).alloc (Nat.le_refl _) _))
 have HT0:=Lib.hid (show Bk ((w.alloc (.cells m.arr 60)).alloc (.cells t.arr 47)) (w.heap.size+1) 47 t.arr from Bk.freshAt _ _ _ (by simp))
 have hB0:Below w.heap.size w ((w.alloc (.cells m.arr 60)).alloc (.cells t.arr 47)):=((Below.refl _ _).alloc (Nat.le_refl _) _).alloc (by simp) _
 go_wp2_with (with_reducible refine load_bk rfl 60 _ rfl w.heap.size 0 rfl 60 m.arr m.arr _ HM0.out (Part.whole _) Tryz.underlying60 rfl (by kernel_rfl) ?_)
 refine (KF.out _ (hA.out.later hB0)).mono ?_;rintro v w1 ⟨rfl,hb1⟩
 have hB1:Below w.heap.size w w1:=hB0.trans (hb1.mono hB0.size)
 have HM1:=Lib.hid (HM0.out.later hb1);have HT1:=Lib.hid (HT0.out.later hb1);clear HM0 HT0 hB0 hb1
 have lt1:w.heap.size+1<w1.heap.size:=HT1.out.here
 go_wp2_with (first | ((with_reducible refine store_bk rfl 40 (.tmp 8) (.tmp 17) rfl w1.heap.size 0 #[.int .i64 p,.int .i64 q,.int .i64 s] rfl rfl 40 _ #[.int .i64 p,.int .i64 q,.int .i64 s] (Bk.fresh _ _ _) (by kernel_rfl) (by simp) (by kernel_rfl) rfl ?_);intro w2 hR2 hg2 hs2;have bl2:Below w1.heap.size w1 w2:=grown_below ((Below.refl _ _).alloc (Nat.le_refl _) _) hg2 (Nat.le_refl _);have HR2:=Lib.hid hR2;clear hR2 hg2 hs2;have HM2:=Lib.hid (HM1.out.later bl2);have HT2:=Lib.hid (HT1.out.later bl2);have hB2:Below w.heap.size w w2:=hB1.trans (bl2.mono hB1.size)) | (with_reducible refine load_bk rfl 60 _ rfl w.heap.size 0 rfl 60 m.arr m.arr _ HM2.out (Part.whole _) Tryz.underlying60 rfl (by kernel_rfl) ?_) | (with_reducible refine load_bk rfl 47 _ rfl (w.heap.size+1) 0 rfl 47 t.arr t.arr _ HT2.out (Part.whole _) Tryz.underlying47 rfl (by kernel_rfl) ?_))
 refine (KW.out _ (hA.out.later hB2)).mono ?_;rintro v w3 ⟨⟨v3,rfl,hO3⟩,hb3⟩
 obtain ⟨B,c,hv,hrd,hc1,hc2⟩:=OwnK.rdj hO3
 clear hrd
 subst hv
 obtain ⟨N,hN⟩:∃ N,N=E.length:=⟨_,rfl⟩
 rw [<- hN] at hEl hc1 hO3 ⊢
 have HOw3:=Lib.hid hO3;have HN:=Lib.hid hN
 have lt2:w1.heap.size<w2.heap.size:=HR2.out.here
 have hB3:Below w.heap.size w w3:=hB2.trans (hb3.mono hB2.size)
 have HT3:=Lib.hid (HT2.out.later hb3);have HR3:=Lib.hid (HR2.out.later hb3);clear HM1 HT1 HM2 HT2 HR2 hB1 hB2 hb3 bl2 hO3 hN
 go_wp2_with fail
 go_loopw [25] (fun i wr=>∃ k:Nat,k<=N/\i = .int .i64 k/\(∃ x y z:Int,Hid (frK m l W k=(x,y,z,0))/\Hid (Bk wr w1.heap.size 40 #[.int .i64 x,.int .i64 y,.int .i64 z]))/\Hid (r=(fewest (okK m t l W) (N - k) (k+1)).map fun k=>E.take k)/\Hid (Bk wr (w.heap.size+1) 47 t.arr)/\Hid (OwnK wr w2.heap.size 66 13 (.slice B N c) (cellsJ E))/\Below w1.heap.size w3 wr) (fun i wr=>N - (intOf i).toNat)
 case atStart=>exact ⟨0,Nat.zero_le _,rfl,⟨p,q,s,h0,HR3⟩,(by show _=_;rw [HP.out,HN.out,HEW.out];rfl),HT3,HOw3,Below.refl _ _⟩
 case round=>
  have lt3:w1.heap.size<w3.heap.size:=HR3.out.here
  clear HT3 HR3 HF HP h0 HOw3
  obtain ⟨k,hk,rfl,⟨x,y,z,HX,HRb⟩,HP,HTb,HOw,hb⟩:=hrel
  have lt0:w1.heap.size<wr.heap.size:=HRb.out.here
  have hbw:Below w.heap.size w wr:=hB3.trans (hb.mono (by omega))
  by_cases hlt:k<N
  ·have hkE:k<E.length:=by have:=HN.out;omega
   have hkW:k<W.length:=by have:=HEW.out;omega
   obtain ⟨A',c',hv',hrd,_,_⟩:=OwnK.rdj HOw.out
   injection hv' with i1 i2 i3
   subst i1 i3
   clear i2
   obtain ⟨g,o,hBg,hg,hj⟩:=hrd.at hkE
   subst hBg
   obtain ⟨j,hjk⟩:∃ j,j=E[k]:=⟨_,rfl⟩
   rw [<- hjk] at hj
   have hjw:j=jat l W[k]:=by rw [hjk];exact HEat.out k hkE hkW
   obtain ⟨p',q',s',hf,_⟩:=why_4 h4.out
   obtain ⟨x',y',z',hX'⟩:=frK_err hf W (k+1)
   obtain ⟨ha,e1,e2,e3⟩:=frK_step HWn.out HWi.out hkW HX.out hX'
   rw [<- hjw] at ha e1 e2 e3
   have kadd:=fun (Z:World)=>KA.out x y z j.a j.b j.c ha Z
   rw [ha] at kadd
   simp only [kp_t] at kadd
   rw [<- e1,<- e2,<- e3] at kadd
   generalize adE x y z j.a j.b j.c=er at kadd
   have kfit:=fun (Z:World)=>KX.out t.a t.b t.c x' y' z' Z
   have hok:=okK_is (t:=t) hX'
   obtain ⟨Fb,hFb⟩:∃ Fb,fB t.a t.b t.c x' y' z' = Fb:=⟨_,rfl⟩
   rw [hFb] at kfit hok
   obtain ⟨f',hf'⟩:∃ f',N - k=f' + 1:=⟨N - k - 1,by omega⟩
   have hfe:=HP.out
   rw [hf',fewest,hok] at hfe
   have hf2:f' = N - (k+1):=by omega
   rw [hf2] at hfe
   have KAdd:=Lib.hid kadd;have KFit:=Lib.hid kfit;have HFe:=Lib.hid hfe;have HJ:=Lib.hid hj;have HX2:=Lib.hid hX'
   clear kadd kfit hfe hj hX' hf ha e1 e2 e3 hjw hjk hok hFb hf' hf2 HX HP hrd
   go_wp2_with (first | (with_reducible refine load_rg rfl 66 _ rfl g (o+k * 13) rfl j.arr _ HJ.out.rg Tryz.underlying66 rfl (by kernel_rfl) ?_) | ((with_reducible refine store_bk rfl 66 (.tmp 12) (.tmp 29) rfl wr.heap.size 0 j.arr rfl rfl 66 _ j.arr (Bk.fresh _ _ _) (by kernel_rfl) (by simp) (by kernel_rfl) rfl ?_);intro w4 hB4 hg4 hs4;have bl4:Below wr.heap.size wr w4:=grown_below ((Below.refl _ _).alloc (Nat.le_refl _) _) hg4 (Nat.le_refl _);have HJ4:=Lib.hid hB4;clear hB4 hg4 hs4;have HR4:=Lib.hid (HRb.out.later bl4);have HT4:=Lib.hid (HTb.out.later bl4);have HOw4:=Lib.hid (HOw.out.below bl4);have hb4:Below w1.heap.size w3 w4:=hb.trans (bl4.mono (by omega))) | (with_reducible refine load_bk rfl 40 _ rfl w1.heap.size 0 rfl 40 #[.int .i64 x,.int .i64 y,.int .i64 z] #[.int .i64 x,.int .i64 y,.int .i64 z] _ HR4.out (Part.whole _) Tryz.underlying40 rfl (by kernel_rfl) ?_) | (with_reducible refine load_bk rfl 40 _ rfl wr.heap.size 3 rfl 66 j.arr #[.int .i64 j.a,.int .i64 j.b,.int .i64 j.c] _ HJ4.out (Part.of rfl) Tryz.underlying40 rfl (by kernel_rfl) ?_))
   refine (KAdd.out _).mono ?_;rintro v w5 ⟨rfl,hb5⟩
   have HR5:=Lib.hid (HR4.out.later hb5);have HT5:=Lib.hid (HT4.out.later hb5);have HOw5:=Lib.hid (HOw4.out.below hb5);have hB5:Below w1.heap.size w3 w5:=hb4.trans (hb5.mono (by have:=HR4.out.here;omega))
   have lt5:w1.heap.size<w5.heap.size:=HR5.out.here
   clear HR4 HT4 HJ4 hb4 hb5 bl4 HRb HTb HOw HOw4
   go_wp2_with (first | ((with_reducible refine store_bk rfl 40 (.tmp 8) (.tmp 36) rfl w1.heap.size 0 #[.int .i64 x',.int .i64 y',.int .i64 z'] rfl rfl 40 _ #[.int .i64 x',.int .i64 y',.int .i64 z'] HR5.out (by kernel_rfl) (by simp) (by kernel_rfl) rfl ?_);intro w6 hR6 hg6 hs6;have HR6:=Lib.hid hR6;have HT6:=Lib.hid (HT5.out.stays hg6 (by simp;omega));have HOw6:=Lib.hid (OwnK.past HOw5.out hg6 lt2);have hb6:Below w1.heap.size w3 w6:=hB5.grown hg6 (by omega) (fun g e=>by injection e with e;omega);have lt6:w1.heap.size<w6.heap.size:=HR6.out.here;clear hR6 hs6 hg6) | (with_reducible refine load_bk rfl 40 _ rfl (w.heap.size+1) 3 rfl 47 t.arr #[.int .i64 t.a,.int .i64 t.b,.int .i64 t.c] _ HT6.out (Part.of rfl) Tryz.underlying40 rfl (by kernel_rfl) ?_) | (with_reducible refine load_bk rfl 40 _ rfl w1.heap.size 0 rfl 40 #[.int .i64 x',.int .i64 y',.int .i64 z'] #[.int .i64 x',.int .i64 y',.int .i64 z'] _ HR6.out (Part.whole _) Tryz.underlying40 rfl (by kernel_rfl) ?_))
   refine (KFit.out _).mono ?_;rintro v w7 ⟨rfl,hb7⟩
   have HR7:=Lib.hid (HR6.out.later hb7);have HT7:=Lib.hid (HT6.out.later hb7);have HOw7:=Lib.hid (HOw6.out.below hb7);have hB7:Below w1.heap.size w3 w7:=hb6.trans (hb7.mono (by omega))
   clear HR6 HT6 HOw6 hb6 hb7 HR5 HT5 HOw5 hB5
   cases Fb
   ·have hfe:Hid (r=(fewest (okK m t l W) (N - (k+1)) (k+1+1)).map fun k=>E.take k):=by show _=_;rw [HFe.out];rfl
    go_wp2_with fail
    go_round
    case rel=>exact ⟨k+1,by omega,by go_num,⟨x',y',z',HX2,HR7⟩,hfe,HT7,HOw7,hB7⟩
    case measure=>simp [intOf];omega
   ·have hfe:r=some (E.take (k+1)):=HFe.out
    subst hfe
    obtain ⟨A',c',hv',hrd,hk1,hk2⟩:=OwnK.rdj HOw7.out
    injection hv' with i1 i2 i3
    subst i1 i3
    have hl:((some (E.take (k+1)):Option (List Jb)).getD []).length=k+1:=by show (E.take (k+1)).length=k+1;rw [List.length_take];omega
    have HRd:=Lib.hid (RdJ.take hrd (k+1));have HL:=Lib.hid hl
    have hB9:Below w.heap.size w w7:=hB3.trans (hB7.mono (by omega))
    have hgB:w.heap.size<=g:=by have:=HOw7.out.block g rfl;omega
    clear hrd hl
    go_wp2_with fail
    go_ret2
    exact ⟨⟨_,c,by rw [HL.out];rfl,HRd.out,by rw [HL.out];omega,hc2,fun a h=>by injection h with h;subst h;exact hgB⟩,hB9⟩
  ·have hk':k=N:=by omega
   subst hk'
   have hfe:r=none:=by have h:=HP.out;rw [Nat.sub_self] at h;rw [h];rfl
   subst hfe
   go_wp2_with fail
   go_ret2
   exact ⟨⟨none,0,rfl,RdJ.nil _ _,Nat.le_refl _,by omega,fun a h=>by cases h⟩,hbw⟩
end
section
open Go.RowKit
theorem nmsJ_take {l:List Jb} {a:Nat} (h:a<l.length):(l.take (a+1)).map Jb.nm=(l.take a).map Jb.nm ++ [l[a].nm]:=by
 rw [List.take_succ_eq_append_getElem h,List.map_append];rfl

theorem vnames_any (A:Option Addr) (n cap:Nat) (l:List Jb) (w:World) (hn:Hid (n=l.length)) (hl:n<=1000000) (hA:Hid (RdJ w A l)) :
  Calls Tryz.prog 207 #[.slice A n cap] w fun e w'=>RetS w.heap.size w' e (l.map Jb.nm)/\Below w.heap.size w w':=by
 go_enter Tryz.func207,Tryz.ntmps207
 go_wp2_with fail
 go_loopw [3,8] (fun vo i wr=>∃ a:Nat,a<=n/\i = .int .i64 a/\Hid (OwnK wr w.heap.size 9 1 vo (cellsS ((l.take a).map Jb.nm)))/\Below w.heap.size w wr) (fun _ i wr=>n - (intOf i).toNat)
 case atStart=>exact ⟨0,Nat.zero_le _,rfl,(show OwnK _ _ _ _ _ (cellsS ((l.take 0).map Jb.nm)) from OwnK.nil _ _ _ _),Below.refl _ _⟩
 case round=>
  obtain ⟨a,ha,rfl,HO,hb⟩:=hrel
  by_cases haq:a<n
  ·have hal:a<l.length:=by have:=hn.out;omega
   obtain ⟨g,o,rfl,hg,hj⟩:=(hA.out.later hb).at hal
   have hs:=nmsJ_take hal
   obtain ⟨j,hjk⟩:∃ j,j=l[a]:=⟨_,rfl⟩
   rw [<- hjk] at hj hs
   have HJ:=Lib.hid hj;have HS:=Lib.hid hs
   obtain ⟨T,hT⟩:∃ T,T=cellsS ((l.take a).map Jb.nm):=⟨_,rfl⟩
   have hlen:T.length<=a:=by rw [hT,cellsS_length,List.length_map,List.length_take];omega
   have HO1:=HO.out
   rw [<- hT] at HO1
   have HQ:=Lib.hid HO1;have HT:=Lib.hid hT
   clear hs hj hjk HO HO1 hT
   go_wp2_with (first | (with_reducible refine load_rg rfl 66 _ rfl g (o+a * 13) rfl j.arr _ HJ.out.rg Tryz.underlying66 rfl (by kernel_rfl) ?_) | ((with_reducible refine store_bk rfl 66 (.tmp 5) (.tmp 11) rfl wr.heap.size 0 j.arr rfl rfl 66 _ j.arr (Bk.fresh _ _ _) (by kernel_rfl) (by simp) (by kernel_rfl) rfl ?_);intro w1 hB1 hg1 hs1;have c0:w1.cell? ⟨wr.heap.size,0,none⟩=some (.string j.nm):=hB1.cellAt 0;have bl1:Below wr.heap.size wr w1:=grown_below ((Below.refl _ _).alloc (Nat.le_refl _) _) hg1 (Nat.le_refl _);clear hs1 hB1 hg1;have HQ1:=Lib.hid (HQ.out.below bl1);have hb1:Below w.heap.size w w1:=hb.trans (bl1.mono hb.size)) | ((with_reducible refine append_k _ rfl (.tmp 12) (.tmp 16) 67 rfl w.heap.size 9 _ 1 16 Tryz.underlying67 infoS rfl (by omega) _ T rfl (HQ1.out.alloc _) ⟨w1.heap.size,0,none⟩ 1 1 (cellsS [j.nm]) rfl (fresh_k w1 1 _ _ rfl) (cellsS_k _) (cellsS_one _) rfl (by simp [cellsS,maxLen] at hlen ⊢;omega) (by simp [cellsS] at hlen ⊢;omega) (by have:=hb1.size;simp;omega) ?_);intro u6' w3 hO3 hg3))
   go_round
   case rel=>exact ⟨a+1,by omega,by go_num,(by show OwnK _ _ _ _ _ _;rw [HS.out,cellsS_append,<- HT.out];exact hO3),(hb1.alloc hb1.size _).grown hg3 (by have:=hb1.size;simp;omega) (fun g e=>HQ1.out.block g e)⟩
   case measure=>simp [intOf];omega
  ·have haq':a=n:=by omega
   subst haq'
   have h:=HO.out
   rw [show l.take a=l by rw [hn.out];exact List.take_length] at h
   have H:=Lib.hid h;clear h
   go_wp2_with fail
   go_ret
   exact ⟨⟨_,rfl,H.out⟩,hb⟩
end
section
open Go.RowKit


theorem vtop_any (m:Mc) (ml:List Lb) (A:Option Addr) (n cap:Nat) (l:List Jb) (t:Kt) (tl:List Lb) (w:World) (hn:Hid (n=l.length)) (hl:n<=1000000) (hA:Hid (RdJ w A l)) (hM:Hid (McOk w m ml)) (hT:Hid (KtOk w t tl)) (r:Option (List Jb)) (hr:Hid (planJ m ml t tl l=r)) :
  Calls Tryz.prog 205 #[.agg m.arr,.slice A n cap,.agg t.arr] w fun e w'=>RetO w.heap.size w' e r/\Below w.heap.size w w':=by
 obtain ⟨x,hx⟩:∃ x,why m ml t tl l=x:=⟨_,rfl⟩
 have k1:=fun (W:World) (h:Hid (RdJ W A l)) (h2:Hid (McOk W m ml)) (h3:Hid (KtOk W t tl))=>why_any m ml A n cap l t tl W hn hl h h2 h3 x hx
 have K1:=Lib.hid k1;have HX:=Lib.hid hx;clear k1 hx
 go_enter Tryz.func205,Tryz.ntmps205
 have HM0:=Lib.hid (show Bk ((w.alloc (.cells m.arr 60)).alloc (.cells t.arr 47)) w.heap.size 60 m.arr from (Bk.fresh w _ _).later ((Below.refl _ _).alloc (Nat.le_refl _) _))
 have HT0:=Lib.hid (show Bk ((w.alloc (.cells m.arr 60)).alloc (.cells t.arr 47)) (w.heap.size+1) 47 t.arr from Bk.freshAt _ _ _ (by simp))
 have hB0:Below w.heap.size w ((w.alloc (.cells m.arr 60)).alloc (.cells t.arr 47)):=((Below.refl _ _).alloc (Nat.le_refl _) _).alloc (by simp) _
 go_wp2_with (first | (with_reducible refine load_bk rfl 60 _ rfl w.heap.size 0 rfl 60 m.arr m.arr _ HM0.out (Part.whole _) Tryz.underlying60 rfl (by kernel_rfl) ?_) | (with_reducible refine load_bk rfl 47 _ rfl (w.heap.size+1) 0 rfl 47 t.arr t.arr _ HT0.out (Part.whole _) Tryz.underlying47 rfl (by kernel_rfl) ?_))
 refine (K1.out _ (hA.out.later hB0) (hM.out.later hB0) (hT.out.later hB0)).mono ?_;rintro v w1 ⟨rfl,hb1⟩
 have hB1:Below w.heap.size w w1:=hB0.trans (hb1.mono hB0.size)
 have HM1:=Lib.hid (HM0.out.later hb1);have HT1:=Lib.hid (HT0.out.later hb1);clear HM0 HT0 hB0 hb1
 by_cases h0:x=0
 ·subst h0
  have hq:r=some []:=by rw [<- hr.out];exact planJ_0 HX.out
  subst hq
  go_wp2_with fail
  go_ret2
  exact ⟨⟨none,0,rfl,RdJ.nil _ _,Nat.le_refl _,by omega,fun a h=>by cases h⟩,hB1⟩
 ·have d0:(x == 0)=false:=by simpa using h0
  by_cases h4:x=4
  ·subst h4
   have k2:=fun (W:World) (h:Hid (RdJ W A l))=>vmake_any m ml A n cap l t tl W hn hl h HX r hr
   have K2:=Lib.hid k2;clear k2 h0
   go_wp2_with (first | (with_reducible refine load_bk rfl 60 _ rfl w.heap.size 0 rfl 60 m.arr m.arr _ HM1.out (Part.whole _) Tryz.underlying60 rfl (by kernel_rfl) ?_) | (with_reducible refine load_bk rfl 47 _ rfl (w.heap.size+1) 0 rfl 47 t.arr t.arr _ HT1.out (Part.whole _) Tryz.underlying47 rfl (by kernel_rfl) ?_))
   refine (K2.out _ (hA.out.later hB1)).mono ?_;rintro v w2 ⟨⟨B,c,rfl,h1,h2,h3,h4⟩,hb2⟩
   have H1:=Lib.hid h1;clear h1
   generalize hq:(r.getD []).length=q at h2 ⊢
   have HQ:=Lib.hid hq;clear hq
   go_wp2_with fail
   go_ret2
   exact ⟨⟨B,c,by rw [HQ.out];rfl,H1.out,by rw [HQ.out];exact h2,h3,fun a h=>by have:=h4 a h;have:=hB1.size;omega⟩,hB1.trans (hb2.mono hB1.size)⟩
  ·have d4:(x == 4)=false:=by simpa using h4
   have hq:r=none:=by rw [<- hr.out];exact planJ_no (by rw [HX.out];exact h0) (by rw [HX.out];exact h4)
   subst hq
   clear h0 h4
   go_wp2_with fail
   go_ret2
   exact ⟨⟨none,0,rfl,RdJ.nil _ _,Nat.le_refl _,by omega,fun a h=>by cases h⟩,hB1⟩
end
end Go.Proofs.YtccccbofcnmdiaaGreat
