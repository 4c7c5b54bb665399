/- Lemmas that the law stands on. No condition. -/
import Derived.Test.YtccccbofcnmdiaaGreatM51
namespace Go.Proofs.YtccccbofcnmdiaaGreat
set_option linter.unusedSimpArgs false
set_option linter.unusedVariables false
set_option maxRecDepth 100000
set_option maxHeartbeats 51200000
section
open Go.RowKit
namespace gen1Acts


theorem walk (B0:Option Addr) (N cap:Nat) (z:List Oz) (w:World) (hn0:N=z.length) (hr0:RdK w 21 B0 (z.map eZ)) (hc1:N<=cap) (hc2:cap<=9223372036854775807) (ho0:∀ x ∈ z,OzOk w x) :
  Calls Tryz.prog 6 #[.slice B0 N cap] w fun r w'=>r = .returned (.bool true)/\Below w.heap.size w w':=by
 have K1:=Lib.hid (fun W=>awake15_any W)
 have K7:=Lib.hid (fun (A:Option Addr) (n c:Nat) (l:List Oz) (W:World) (hn:n=l.length) (hm:n<=9223372036854775807) (hr:RdOps W A l)=>few15_any A n c l W (Lib.hid hn) hm (Lib.hid hr))
 have HN:=Lib.hid hn0
 have HRD:Hid (RdOps w B0 z):=⟨hr0,ho0⟩
 have HNM:Hid (N<=9223372036854775807):=by show _<=_;omega
 have HNC:Hid (N<=cap/\cap<=9223372036854775807):=⟨hc1,hc2⟩
 clear hn0 hr0 ho0 hc1 hc2
 go_enter Tryz.func6,Tryz.ntmps6
 go_wp2_with fail
 refine (K1.out _).mono ?_;rintro e w1 ⟨rfl,hb1⟩
 have HB1:=Lib.hid hb1
 clear hb1
 go_wp2_with fail
 refine (K7.out B0 N cap z _ HN.out HNM.out (HRD.out.later HB1.out)).mono ?_;rintro e w2 ⟨⟨b,rfl,hfew⟩,hb2⟩
 have HB2:=Lib.hid (HB1.out.trans (hb2.mono HB1.out.size))
 clear hb2 HB1 HNM
 cases b with
 | false=>
  go_wp2_with fail
  refine (K1.out _).mono ?_;rintro e w3 ⟨rfl,hb3⟩
  go_wp2_with fail
  go_ret
  exact ⟨rfl,HB2.out.trans (hb3.mono HB2.out.size)⟩
 | true=>
  have HN150:Hid (N<=150):=(hfew rfl).1
  have HSM:Hid (∀ x ∈ z,x.m1<=20/\x.m3<=20):=(hfew rfl).2
  clear hfew
  go_wp2_with fail
  refine (t1_new w w2 HB2.out).mono ?_;rintro e w3 ⟨rfl,hT3⟩
  have HT3:=Lib.hid hT3
  obtain ⟨g,hg⟩:∃ g,g=w2.heap.size:=⟨_,rfl⟩
  rw [<- hg] at HT3 ⊢
  clear hT3 hg HB2
  have HT3':Hid (∃ F,T1 w w3 g F Sg.new 0):=⟨_,HT3.out⟩
  clear HT3
  go_wp2_with fail
  go_loopw [4,30] (fun s4 s30 wr=>∃ (i:Nat) (F:Nat->Prop) (S:Sg) (A:Option Addr) (n c:Nat) (Wl:List Ac),i<=N/\s4 = .slice A n c/\s30 = .int .i64 i/\Hid (T1 w wr g F S (1001000 * (i:Int)))/\Hid (Wr w wr F (.slice A n c) Wl)/\Hid (n=Wl.length)/\Hid (Led S/\Tells S.J Wl)) (fun s4 s30 wr=>N - (intOf s30).toNat)
  case atStart=>
   obtain ⟨F,HT⟩:=HT3'.out
   exact ⟨0,F,Sg.new,none,0,0,[],Nat.zero_le _,rfl,rfl,HT,Wr.new _ _ _,rfl,⟨led_new,tells_new⟩⟩
  case round=>
   clear HT3'
   obtain ⟨i,F,S,A,n,c,Wl,hi,rfl,rfl,HT,HW,HNL,HLD⟩:=hrel
   by_cases hin:i<N
   ·skip
    have hil:Hid (i<z.length):=by show i<z.length;rw [<- HN.out];exact hin
    obtain ⟨x,hx⟩:∃ x,x=z[i]'hil.out:=⟨_,rfl⟩
    obtain ⟨q,o,hA,hrg⟩:=HRD.out.rd.at (i:=i) (by rw [List.length_map];exact hil.out)
    rw [List.getElem_map,<- hx] at hrg
    subst hA
    have hxm:x ∈ z:=by rw [hx];exact List.getElem_mem _
    have HOKW:=Lib.hid (HRD.out.ok x hxm)
    have hsm:=HSM.out x hxm
    have HL1:Hid (x.v.l1.length<=1000):=by show _<=_;have:=HOKW.out.l1.len;have:=hsm.1;omega
    have HL3:Hid (x.v.l3.length<=1000):=by show _<=_;have:=HOKW.out.l3.len;have:=hsm.2;omega
    have HRG:Hid (w.rangeAt q (o+i * 21) x.arr.toList):=hrg
    have hm0:(0:Int)<=1001000 * (i:Int):=Int.mul_nonneg (by decide) (Int.natCast_nonneg i)
    have HMM:Hid (1001000 * (i:Int)<=1152921504606846976):=by show _<=_;have:=HN150.out;omega
    have HM0:=Lib.hid hm0
    have hw1:wrap64 ((i:Int)+1)=((i+1:Nat):Int):=wrap_lt hin (Nat.le_trans HN150.out (by decide))
    have HW1:=Lib.hid hw1
    have hii:(i:Int)<(N:Int):=by omega
    have HTL:Hid (Wl.length<=S.J.length/\S.J.length<=48):=⟨tells_len HLD.out.2,HT.out.i1.J⟩
    clear hx hrg hxm hsm hil hm0 hw1
    go_wp2_with (with_reducible refine load_rg rfl 49 _ rfl q (o+i * 21) rfl x.arr _ (range_keep HRG.out HT.out.be) Tryz.underlying49 rfl (by kernel_rfl) ?_)
    refine (t1_do HT.out HM0.out HMM.out x (HOKW.out.later HT.out.be) HL1.out HL3.out).mono ?_
    rintro e w5 ⟨⟨A1,n1,c1,rfl,hR⟩,hT5,hG5⟩
    have HR:=Lib.hid hR;have HT5:=Lib.hid hT5;have HG5:=Lib.hid hG5
    obtain ⟨acts,hacts⟩:∃ acts,acts=(stF S x.v).2.2:=⟨_,rfl⟩
    have HAF:Hid (acts.length<=2001000):=by show _<=_;rw [hacts];exact stF_few HT.out.i1 HMM.out x.v
    rw [show (stF S x.v).2=((stF S x.v).2.1,acts) by rw [hacts]] at HR
    have HN1:Hid (n1=acts.length):=HR.out.1
    have hc1':n1<=c1:=HR.out.2.2.1
    have hc2':c1<=9223372036854775807:=HR.out.2.2.2.1
    have hnb:n1<=2001000:=by rw [HN1.out];exact HAF.out
    have HLED:=Lib.hid (step_led HLD.out.1 x.v)
    have HFIN:=Lib.hid (fun h7 h0=>step_fin HLD.out.1 x.v HLD.out.2 h7 h0)
    rw [<- hacts] at HLED HFIN
    clear hR hT5 hG5 hacts
    go_wp2_with ((with_reducible refine store_bk rfl 36 (.tmp 6) (.tmp 38) rfl w5.heap.size 0 #[.int .i64 (stF S x.v).2.1,.slice A1 n1 c1] rfl rfl 36 _ #[.int .i64 (stF S x.v).2.1,.slice A1 n1 c1] (Bk.fresh _ _ _) (by kernel_rfl) (by simp) (by kernel_rfl) rfl ?_);intro w6 hB6 hg6 hs6;have HC6:=Lib.hid (Ww.first HT.out HW.out HT5.out HG5.out HR.out (((Below.refl _ _).alloc (Nat.le_refl _) _).grown hg6 (by simp) (by intro k hk;injection hk with hk;omega)) hB6);have c61:w6.cell? ⟨w5.heap.size,1,none⟩=some (.slice A1 n1 c1):=hB6.cellAt 1;clear hB6 hg6 hs6)
    obtain ⟨p6,hp6⟩:∃ p,p=w5.heap.size:=⟨_,rfl⟩
    obtain ⟨F5,hF5⟩:∃ G,G=nextF F wr w5:=⟨_,rfl⟩
    rw [<- hp6,<- hF5] at HC6
    rw [<- hp6] at c61 ⊢
    clear hp6 hF5 HT HW HT5 HG5 HR c61
    go_loopw [4,42] (fun s4 s42 wr=>∃ (k:Nat) (A:Option Addr) (n c:Nat) (L:List Ac),k<=n1/\s4 = .slice A n c/\s42 = .int .i64 k/\Hid (Ww w wr g F5 (stF S x.v).1 (1001000 * (i:Int)+1001000) p6 (stF S x.v).2.1 A1 n1 c1 acts (.slice A n c) L)/\Hid (n=L.length)/\Hid (runW Wl (acts.take k)=some L)) (fun s4 s42 wr=>n1 - (intOf s42).toNat)
    case atStart=>exact ⟨0,A,n,c,Wl,Nat.zero_le _,rfl,rfl,HC6,HNL,rfl⟩
    case round=>
     clear HC6 HNL
     obtain ⟨k,A,n,c,L,hk,rfl,rfl,HC,HNL,HRU⟩:=hrel
     have c61:wr.cell? ⟨p6,1,none⟩=some (.slice A1 n1 c1):=HC.out.b.cellAt 1
     have hn3:n<=c/\c<=9223372036854775807:=by
      obtain ⟨A9,c9,hv9,-,h1,h2⟩:=HC.out.l.sl
      injection hv9 with e1 e2 e3
      rw [e2,e3];exact ⟨h1,h2⟩
     have hnc:=hn3.1
     have hc9:=hn3.2
     clear hn3
     by_cases hlt:k<n1
     ·skip
      have hkl:Hid (k<acts.length):=by show _<_;rw [<- HN1.out];exact hlt
      obtain ⟨⟨xk,xt,xn⟩,hx⟩:∃ y,y=acts[k]'hkl.out:=⟨_,rfl⟩
      have HGO:Hid (∃ W',runW Wl acts=some W' /\ Tells (stF S x.v).1.J W'):=by
       by_cases hf:x.v.k=7/\(stF S x.v).2.1=0
       ·exact absurd hkl.out (by rw [(HFIN.out hf.1 hf.2).1];simp)
       ·exact HLED.out.2.1 hf _ HLD.out.2
      have HST:Hid (∃ B,actW L (xk,xt,xn)=some B/\runW Wl (acts.take (k+1))=some B):=by
       obtain ⟨W',hW',-⟩:=HGO.out
       obtain ⟨P,B,e1,e2,e3⟩:=runW_at hW' hkl.out
       rw [HRU.out] at e1;injection e1 with e1;rw [<- e1,<- hx] at e2;exact ⟨B,e2,e3⟩
      have HNB:Hid (n<=2001048):=by
       show _<=_
       have h1:=runW_len _ _ _ HRU.out
       have h2:=HTL.out;have h3:=HAF.out
       rw [List.length_take] at h1
       rw [HNL.out];omega
      obtain ⟨ga,oa,hA1,hla,d0,d1,d2⟩:=HC.out.r.at hkl.out
      have hrx:wr.rangeAt ga (oa+k * 3) [.int .i64 xk,.string xt,.string xn]:=by
       have:=rdA_rdk HC.out.r k _ (by unfold cellsA;rw [List.getElem?_map,List.getElem?_eq_getElem hkl.out,<- hx];rfl)
       obtain ⟨g',o',e,h⟩:=this
       rw [hA1] at e;injection e with e;injection e with e1 e2;subst e1 e2;exact h
      subst hA1
      have HRX:=Lib.hid hrx
      have hkk:(k:Int)<(n1:Int):=Int.ofNat_lt.2 hlt
      clear d0 d1 d2 hrx hx HGO hkl
      go_wp2_with (first | (with_reducible refine load_rg rfl 64 _ rfl ga (oa+k * 3) rfl #[.int .i64 xk,.string xt,.string xn] _ HRX.out Tryz.underlying64 rfl (by kernel_rfl) ?_) | ((with_reducible refine store_bk rfl 64 (.tmp 8) (.tmp 49) rfl wr.heap.size 0 #[.int .i64 xk,.string xt,.string xn] rfl rfl 64 _ #[.int .i64 xk,.string xt,.string xn] (Bk.fresh _ _ _) (by kernel_rfl) (by simp) (by kernel_rfl) rfl ?_);intro w8 hB8 hg8 hs8;have HB8:=Lib.hid hB8;have HL8:Hid (Below wr.heap.size wr w8):=((Below.refl _ _).alloc (Nat.le_refl _) _).grown hg8 (by simp) (by intro k hk;injection hk with hk;omega);clear hB8 hg8 hs8))
      obtain ⟨p8,hp8⟩:∃ p,p=wr.heap.size:=⟨_,rfl⟩
      rw [<- hp8] at HB8 ⊢
      have HC8:=Lib.hid (HC.out.below HL8.out)
      clear HC HRX c61 hp8 HL8
      go_loopw [9,52] (fun s9 s52 wr=>∃ j:Nat,j<=n/\s9 = .int .i64 (atK xt L j)/\s52 = .int .i64 j/\Hid (Below w8.heap.size w8 wr)) (fun s9 s52 wr=>n - (intOf s52).toNat)
      case atStart=>exact ⟨0,Nat.zero_le _,rfl,rfl,Below.refl _ _⟩
      case round=>
       obtain ⟨j,hj,rfl,rfl,HLJ⟩:=hrel
       have e8:wr.cell? ⟨p8,1,none⟩=some (.string xt):=(HB8.out.later HLJ.out).cellAt 1
       by_cases hjn:j<n
       ·have hjl:j<L.length:=by rw [<- HNL.out];exact hjn
        obtain ⟨q2,c2,hv2,hr2,-,-⟩:=(HC8.out.below HLJ.out).at0 (Nat.lt_of_le_of_lt (Nat.zero_le _) hjl)
        injection hv2 with hv2 hv3 hv4
        obtain ⟨gj,oj,ej,hlj,f0,f1,f2⟩:=hr2.at hjl
        injection ej with ej;injection ej with ej1 ej2;subst ej1 ej2
        obtain ⟨tj,htj⟩:∃ t,t=L[j].2.1:=⟨_,rfl⟩
        rw [<- htj] at f1
        rw [Nat.zero_add] at f1
        have HLT:=Lib.hid hlj
        have hjj:(j:Int)<(n:Int):=Int.ofNat_lt.2 hjn
        have hnn:n<=2001048:=HNB.out
        have hgd:(L.getD j (0,⟨#[]⟩,⟨#[]⟩)).2.1=tj:=by rw [htj];simp [List.getD,List.getElem?_eq_getElem hjl]
        subst hv2
        clear f0 f2 htj hr2 hlj hv3 hv4
        cases hE:sE tj xt with
        | true=>
         have HNX:Hid (atK xt L (j+1)=(j:Int)):=by show atK xt L (j+1)=_;unfold atK;rw [hgd,hE];rfl
         have hE':(tj.toList == xt.toList)=true:=hE
         clear hE hgd hjl
         go_wp2_with fail
         go_quiet (fail)
         go_wp2_with fail
         go_round
         case rel=>exact ⟨j+1,hjn,by rw [HNX.out],by go_num,bdrewN HLJ.out _⟩
         case measure=>simp [intOf];omega
        | false=>
         have HNX:Hid (atK xt L (j+1)=atK xt L j):=by show atK xt L (j+1)=_;conv=>lhs;unfold atK;rw [hgd,hE];simp
         have hE':(tj.toList == xt.toList)=false:=hE
         clear hE hgd hjl
         go_wp2_with fail
         go_quiet (fail)
         go_wp2_with fail
         go_round
         case rel=>exact ⟨j+1,hjn,by rw [HNX.out],by go_num,bdrewN HLJ.out _⟩
         case measure=>simp [intOf];omega
       ·have hje:j=n:=by omega
        clear hj e8
        have HC:=Lib.hid (HC8.out.below HLJ.out)
        have HX:=Lib.hid (HB8.out.later HLJ.out)
        clear HC8 HB8 HLJ
        have e0:wr.cell? ⟨p8,0,none⟩=some (.int .i64 xk):=HX.out.cellAt 0
        obtain ⟨Bl,hB1,hB2⟩:=HST.out
        have HRB:Hid (runW Wl (acts.take (k+1))=some Bl):=hB2
        rw [show atK xt L j=atW xt L by rw [hje,HNL.out]]
        rcases actW_is hB1 with ⟨h1,h2,h3⟩ | ⟨h1,p,hp,h2,h3,h4⟩
        ·change xk=1 at h1
         change atW xt L = -1 at h2
         subst h1
         rw [h2]
         have HBl:Hid (Bl=L ++ [(1,xt,xn)]):=h3
         have HFIT:=Lib.hid (put_fit HNL.out HNB.out (1,xt,xn))
         have HBS:Hid (∀ o,w.heap.size<=(wr.alloc o).heap.size):=fun o=>Nat.le_trans HC.out.t.be.size ((Below.refl _ _).alloc (Nat.le_refl _) o).size
         clear h2 h3 hB1 hB2 HST hje
         go_wp2_with (first | (with_reducible refine load_bk rfl 64 _ rfl p8 0 rfl 64 #[.int .i64 1,.string xt,.string xn] #[.int .i64 1,.string xt,.string xn] _ HX.out (Part.whole _) Tryz.underlying64 rfl (by kernel_rfl) ?_) | ((with_reducible refine put_at (v:=.slice A n c) (l:=cellsA L) (base:=w.heap.size) rfl (.tmp 70) (.tmp 72) 34 rfl _ 40 Tryz.underlying34 infoA15 rfl (by decide) rfl (CutK.below HC.out.l.cut ((Below.refl _ _).alloc (Nat.le_refl _) _)) ⟨wr.heap.size,0,none⟩ 1 1 (cellsA [(1,xt,xn)]) rfl (rdA1 (x:=(1,xt,xn)) (Bk.fresh _ _ _)) (cellsA_k _) (cellsA_one _) rfl Nat.one_pos HFIT.out.1 HFIT.out.2 (HBS.out _) ?_);intro v9 w9 hO9 hg9 hat9;have HC9:=Lib.hid ((HC.out.below ((Below.refl _ _).alloc (Nat.le_refl _) _)).put (W':=Bl) (by rw [HBl.out,cellsA_append];exact hO9) hg9 hat9);clear hO9 hg9 hat9;obtain ⟨A9,c9,hv9,-,hc91,hc92⟩:=HC9.out.l.sl;subst hv9))
         go_round
         case rel=>exact ⟨k+1,A9,Bl.length,c9,Bl,hlt,rfl,by go_num,HC9,rfl,HRB.out⟩
         case measure=>simp [intOf];omega
        ·change ¬ xk=1 at h1
         change atW xt L=(p:Int) at h2
         rw [h2]
         obtain ⟨q2,c2,hv2,hr2,-,-⟩:=HC.out.at0 (Nat.lt_of_le_of_lt (Nat.zero_le _) hp)
         injection hv2 with hv2 hv3 hv4
         obtain ⟨gj,oj,ej,hlj,f0,f1,f2⟩:=hr2.at hp
         injection ej with ej;injection ej with ej1 ej2;subst ej1 ej2
         obtain ⟨nj,hnj⟩:∃ t,t=L[p].2.2:=⟨_,rfl⟩
         rw [<- hnj] at f2 h3
         rw [Nat.zero_add] at f2
         have HBl:Hid (Bl=L.eraseIdx p):=h4
         have hE':(nj.toList == xn.toList)=true:=h3
         have hk1:((xk:Int) == 1)=false:=by simpa using h1
         have hpn:p<n:=by rw [HNL.out];exact hp
         have hpi:(p:Int)<(n:Int):=Int.ofNat_lt.2 hpn
         have hp0:¬ ((p:Int)<0):=Int.not_lt.2 (Int.natCast_nonneg p)
         have e2:wr.cell? ⟨p8,2,none⟩=some (.string xn):=HX.out.cellAt 2
         have HLT:=Lib.hid hlj
         subst hv2
         clear f0 f1 hnj hr2 hlj h2 h3 h4 hB1 hB2 HST hje hp hv4 hv3
         go_wp2_with fail
         go_quiet (fail)
         go_wp2_with fail
         have HCq:=Lib.hid (HC.out.below (w':=wr.drewN nq) (bdrewN (Below.refl _ _) _))
         generalize World.drewN wr nq=wd at HCq ⊢
         clear HC e0 e2 f2 HX
         have HC:=HCq
         clear HCq
         have HWI:=Lib.hid (wrapI_lt hpn (Nat.le_trans HNB.out (by decide)))
         have HRG2:Hid ((0:Int)<=((p+1:Nat):Int)/\((p+1:Nat):Int)<=(n:Int)):=⟨Int.natCast_nonneg _,Int.ofNat_le.2 hpn⟩
         obtain ⟨BT,hBTd⟩:∃ B:Option Addr,B=(if c=p+1 then some ⟨q2,0,none⟩ else some ⟨q2,(p+1) * 3,none⟩):=⟨_,rfl⟩
         have HBT:Hid (0<n - (p+1)->BT=some ⟨q2,(p+1) * 3,none⟩):=by rw [hBTd];exact rest_at hpn hnc
         have HBD:=Lib.hid hBTd
         have HFIT:=Lib.hid (cut_fit HNL.out HNB.out hpn)
         have hpc:p<=c:=Nat.le_trans (Nat.le_of_lt hpn) hnc
         clear hBTd
         refine wp_region_held_drew (S:=fun _=>True) (by kernel_rfl) trivial (fun hS0=>?_)
         refine wpAnyH_take (i:=0) (v:=?_) rfl (by kernel_rfl) (by kernel_rfl) (by kernel_rfl) (fun _ _ _ h=>h) (Or.inl ⟨by rfl,?_⟩) hS0 ?_
         rotate_left
         ·intro W _;go_simp;try with_reducible rfl
         try simp only [Act.put,tD,tB,tA,tE,tF]
         refine wpAnyH_take (i:=1) (v:=?_) rfl (by kernel_rfl) (by kernel_rfl) (by kernel_rfl) (fun _ _ _ h=>h) (Or.inl ⟨by rfl,?_⟩) hS0 ?_
         rotate_left
         ·intro W _;go_simp;try with_reducible rfl
         try simp only [Act.put,tD,tB,tC,tA,tE,tF]
         refine wpAnyH_take (i:=2) (v:=?_) rfl (by kernel_rfl) (by kernel_rfl) (by kernel_rfl) (fun _ _ _ h=>h) (Or.inl ⟨by rfl,?_⟩) hS0 ?_
         rotate_left
         ·intro W _;go_simp;try with_reducible rfl
         try simp only [Act.put,tD,tB,tC,tA,tE,tF]
         refine wpAnyH_take (i:=3) (v:=?_) rfl (by kernel_rfl) (by kernel_rfl) (by kernel_rfl) (fun _ _ _ h=>h) (Or.inl ⟨by rfl,?_⟩) hS0 ?_
         rotate_left
         ·intro W _;go_simp;first | with_reducible rfl | (rw [if_pos hpc];try with_reducible rfl)
         try simp only [Act.put,tD,tB,tC,tA,tE,tF]
         refine wpAnyH_take (i:=4) (v:=?_) rfl (by kernel_rfl) (by kernel_rfl) (by kernel_rfl) (fun _ _ _ h=>h) (Or.inl ⟨by rfl,?_⟩) hS0 ?_
         rotate_left
         ·intro W _;go_simp;try with_reducible rfl
         try simp only [Act.put,tD,tB,tC,tA,tE,tF]
         refine wpAnyH_take (i:=5) (v:=?_) rfl (by kernel_rfl) (by kernel_rfl) (by kernel_rfl) (fun _ _ _ h=>h) (Or.inl ⟨by rfl,?_⟩) hS0 ?_
         rotate_left
         ·intro W _;go_simp;try with_reducible rfl
         try simp only [Act.put,tD,tB,tC,tA,tE,tF]
         refine wpAnyH_take (i:=6) (v:=?_) rfl (by kernel_rfl) (by kernel_rfl) (by kernel_rfl) (fun _ _ _ h=>h) (Or.inl ⟨by rfl,?_⟩) hS0 ?_
         rotate_left
         ·intro W _;go_simp;try with_reducible rfl
         try simp only [Act.put,tD,tB,tC,tA,tE,tF]
         refine wpAnyH_take (i:=7) (v:=.slice BT (n - (p+1)) (c - (p+1))) rfl (by kernel_rfl) (by kernel_rfl) (by kernel_rfl) (fun _ _ _ h=>h) (Or.inl ⟨by rfl,?_⟩) hS0 ?_
         ·intro W _;go_simp;simp only [HWI.out,Int.toNat_natCast];rw [if_pos HRG2.out,HBD.out]
         try simp only [Act.put,tD,tB,tC,tA,tE,tF]
         refine wpAnyH_ready (rs:=[8]) (by kernel_rfl) (by simp) ?_
         refine AllReadyH.cons rfl (fun K hK=>?_) AllReadyH.nil
         simp only [if_pos,Region.wanted]
         have HCD:=Lib.hid (HC.out.below (Below.drew (Below.refl _ _)))
         refine cut_op (.tmp 89) (.tmp 93) 34 rfl _ 40 Tryz.underlying34 infoA15 rfl (by decide) HCD.out.l.cut p HFIT.out.1 q2 n c rfl rfl BT (n - (p+1)) (c - (p+1)) rfl HFIT.out.2.1 HBT.out HFIT.out.2.2 HCD.out.t.be.size ?_
         intro v9 w9 hO9 hg9 hat9
         have HC9:=Lib.hid (HCD.out.cut hO9 hg9 hat9)
         clear hO9 hg9 hat9 HCD
         refine hK.out _ _ trivial (fun _=>?_)
         clear hK K
         try simp only [Act.put,tD,tB,tC,tA,tE,tF]
         refine wpAnyH_take (i:=9) (v:=?_) rfl (by kernel_rfl) (by kernel_rfl) (by kernel_rfl) (fun _ _ _ h=>h) (Or.inl ⟨by rfl,?_⟩) trivial ?_
         rotate_left
         ·intro W _;go_simp;try with_reducible rfl
         try simp only [Act.put,tD,tB,tC,tA,tE,tF]
         refine wpAnyH_done (by kernel_rfl) ?_ _
         obtain ⟨A9,c9,hv9,-,hc91,hc92⟩:=HC9.out.l.sl
         subst hv9
         go_wp2_with fail
         go_round
         case rel=>exact ⟨k+1,A9,(L.eraseIdx p).length,c9,L.eraseIdx p,hlt,rfl,by go_num,HC9,rfl,by rw [<- HBl.out];exact HRB.out⟩
         case measure=>simp [intOf];omega
     ·skip
      have HRUN:Hid (runW Wl acts=some L):=by
       have h1:=HRU.out
       rw [show k=acts.length by rw [<- HN1.out];omega,List.take_length] at h1
       exact h1
      have HMI:Hid (1001000 * ((i+1:Nat):Int)=1001000 * (i:Int)+1001000):=by show _=_;omega
      have cq0:wr.cell? ⟨q,o+i * 21,none⟩=some (.int .i64 x.v.k):=range_keep HRG.out HC.out.t.be 0 _ rfl
      have cp0:wr.cell? ⟨p6,0,none⟩=some (.int .i64 (stF S x.v).2.1):=HC.out.b.cellAt 0
      obtain ⟨er,her⟩:∃ er,er=(stF S x.v).2.1:=⟨_,rfl⟩
      obtain ⟨vk,hvk⟩:∃ vk,vk=x.v.k:=⟨_,rfl⟩
      rw [<- her] at cp0
      rw [<- hvk] at cq0
      have hqb:q<wr.heap.size:=Nat.lt_of_lt_of_le (World.block_lt_of_cell? w _ (HRG.out 0 _ rfl)) HC.out.t.be.size
      clear HRU c61
      by_cases h7:vk=7
      ·by_cases h0:er=0
       ·skip
        have HF:=Lib.hid (HFIN.out (hvk ▸ h7) (her ▸ h0))
        have hL:L=Wl:=by
         have h1:=HRUN.out
         rw [HF.out.1] at h1
         injection h1 with h1;exact h1.symm
        subst hL
        obtain ⟨p,hp,hps,hpb,HTE⟩:∃ p,∃ hp:p<L.length,sE L[p].2.1 x.v.s=true/\(∀ j (hj:j<L.length),j<p->sE L[j].2.1 x.v.s=false)/\Hid (Tells (stF S x.v).1.J (L.eraseIdx p)):=by
         obtain ⟨_,p,a,b,c,d⟩:=HF.out
         exact ⟨p,a,b,c,d⟩
        have HPS:=Lib.hid hps;have HPB:=Lib.hid hpb
        have hpn:p<n:=by rw [HNL.out];exact hp
        have HNB:Hid (n<=2001048):=by show _<=_;have:=HTL.out;rw [HNL.out];omega
        obtain ⟨vs,hvs⟩:∃ s,s=x.v.s:=⟨_,rfl⟩
        have HVS:=Lib.hid hvs
        have hcs:Hid (∀ W,Below wr.heap.size wr W->W.cell? ⟨q,o+i * 21+20,none⟩=some (.string vs)):=fun W hb=>by rw [hvs];exact range_keep (range_keep HRG.out HC.out.t.be) hb 20 _ rfl
        subst h7 h0
        clear her hvk hps hpb HF hvs
        go_wp2_with fail
        clear cq0 cp0
        go_loopw [4,109] (fun s4 s109 wr2=>∃ j:Nat,j<=p/\s4 = .slice A n c/\s109 = .int .i64 j/\Hid (Below wr.heap.size wr wr2)) (fun s4 s109 wr2=>n - (intOf s109).toNat)
        case atStart=>exact ⟨0,Nat.zero_le _,rfl,rfl,Below.refl _ _⟩
        case round=>
         obtain ⟨j,hj,rfl,rfl,HLJ⟩:=hrel
         have hjn:j<n:=by omega
         have hjl:j<L.length:=by rw [<- HNL.out];exact hjn
         have cs:=hcs.out _ HLJ.out
         obtain ⟨q2,c2,hv2,hr2,-,-⟩:=(HC.out.below HLJ.out).at0 (Nat.lt_of_le_of_lt (Nat.zero_le _) hjl)
         injection hv2 with hv2 hv3 hv4
         obtain ⟨gj,oj,ej,hlj,f0,f1,f2⟩:=hr2.at hjl
         injection ej with ej;injection ej with ej1 ej2;subst ej1 ej2
         obtain ⟨tj,htj⟩:∃ t,t=L[j].2.1:=⟨_,rfl⟩
         rw [<- htj] at f1
         rw [Nat.zero_add] at f1
         have hjj:(j:Int)<(n:Int):=Int.ofNat_lt.2 hjn
         subst hv2
         by_cases hjp:j=p
         ·subst hjp
          have hE':(tj.toList == vs.toList)=true:=by rw [htj,HVS.out];exact HPS.out
          clear f0 f2 htj hr2 hlj hv3 hv4
          go_wp2_with fail
          go_quiet (fail)
          go_wp2_with fail
          have HCq:=Lib.hid (HC.out.below (w':=wr.drewN nq) (bdrewN HLJ.out _))
          generalize World.drewN _ _=wd at HCq ⊢
          clear HC cs f1 HLJ
          have HC:=HCq
          clear HCq
          have HWI:=Lib.hid (wrapI_lt hjn (Nat.le_trans HNB.out (by decide)))
          have HRG2:Hid ((0:Int)<=((j+1:Nat):Int)/\((j+1:Nat):Int)<=(n:Int)):=⟨Int.natCast_nonneg _,Int.ofNat_le.2 hjn⟩
          obtain ⟨BT,hBTd⟩:∃ B:Option Addr,B=(if c=j+1 then some ⟨q2,0,none⟩ else some ⟨q2,(j+1) * 3,none⟩):=⟨_,rfl⟩
          have HBT:Hid (0<n - (j+1)->BT=some ⟨q2,(j+1) * 3,none⟩):=by rw [hBTd];exact rest_at hjn hnc
          have HBD:=Lib.hid hBTd
          have HFIT:=Lib.hid (cut_fit HNL.out HNB.out hjn)
          have hpc:j<=c:=Nat.le_trans (Nat.le_of_lt hjn) hnc
          clear hBTd
          refine wp_region_held_drew (S:=fun _=>True) (by kernel_rfl) trivial (fun hS0=>?_)
          refine wpAnyH_take (i:=0) (v:=?_) rfl (by kernel_rfl) (by kernel_rfl) (by kernel_rfl) (fun _ _ _ h=>h) (Or.inl ⟨by rfl,?_⟩) hS0 ?_
          rotate_left
          ·intro W _;go_simp;try with_reducible rfl
          try simp only [Act.put,tD,tB,tA,tE,tF]
          refine wpAnyH_take (i:=1) (v:=?_) rfl (by kernel_rfl) (by kernel_rfl) (by kernel_rfl) (fun _ _ _ h=>h) (Or.inl ⟨by rfl,?_⟩) hS0 ?_
          rotate_left
          ·intro W _;go_simp;try with_reducible rfl
          try simp only [Act.put,tD,tB,tC,tA,tE,tF]
          refine wpAnyH_take (i:=2) (v:=?_) rfl (by kernel_rfl) (by kernel_rfl) (by kernel_rfl) (fun _ _ _ h=>h) (Or.inl ⟨by rfl,?_⟩) hS0 ?_
          rotate_left
          ·intro W _;go_simp;try with_reducible rfl
          try simp only [Act.put,tD,tB,tC,tA,tE,tF]
          refine wpAnyH_take (i:=3) (v:=?_) rfl (by kernel_rfl) (by kernel_rfl) (by kernel_rfl) (fun _ _ _ h=>h) (Or.inl ⟨by rfl,?_⟩) hS0 ?_
          rotate_left
          ·intro W _;go_simp;first | with_reducible rfl | (rw [if_pos hpc];try with_reducible rfl)
          try simp only [Act.put,tD,tB,tC,tA,tE,tF]
          refine wpAnyH_take (i:=4) (v:=?_) rfl (by kernel_rfl) (by kernel_rfl) (by kernel_rfl) (fun _ _ _ h=>h) (Or.inl ⟨by rfl,?_⟩) hS0 ?_
          rotate_left
          ·intro W _;go_simp;try with_reducible rfl
          try simp only [Act.put,tD,tB,tC,tA,tE,tF]
          refine wpAnyH_take (i:=5) (v:=?_) rfl (by kernel_rfl) (by kernel_rfl) (by kernel_rfl) (fun _ _ _ h=>h) (Or.inl ⟨by rfl,?_⟩) hS0 ?_
          rotate_left
          ·intro W _;go_simp;try with_reducible rfl
          try simp only [Act.put,tD,tB,tC,tA,tE,tF]
          refine wpAnyH_take (i:=6) (v:=?_) rfl (by kernel_rfl) (by kernel_rfl) (by kernel_rfl) (fun _ _ _ h=>h) (Or.inl ⟨by rfl,?_⟩) hS0 ?_
          rotate_left
          ·intro W _;go_simp;try with_reducible rfl
          try simp only [Act.put,tD,tB,tC,tA,tE,tF]
          refine wpAnyH_take (i:=7) (v:=.slice BT (n - (j+1)) (c - (j+1))) rfl (by kernel_rfl) (by kernel_rfl) (by kernel_rfl) (fun _ _ _ h=>h) (Or.inl ⟨by rfl,?_⟩) hS0 ?_
          ·intro W _;go_simp;simp only [HWI.out,Int.toNat_natCast];rw [if_pos HRG2.out,HBD.out]
          try simp only [Act.put,tD,tB,tC,tA,tE,tF]
          refine wpAnyH_ready (rs:=[8]) (by kernel_rfl) (by simp) ?_
          refine AllReadyH.cons rfl (fun K hK=>?_) AllReadyH.nil
          simp only [if_pos,Region.wanted]
          have HCD:=Lib.hid (HC.out.below (Below.drew (Below.refl _ _)))
          refine cut_op (.tmp 126) (.tmp 130) 34 rfl _ 40 Tryz.underlying34 infoA15 rfl (by decide) HCD.out.l.cut j HFIT.out.1 q2 n c rfl rfl BT (n - (j+1)) (c - (j+1)) rfl HFIT.out.2.1 HBT.out HFIT.out.2.2 HCD.out.t.be.size ?_
          intro v9 w9 hO9 hg9 hat9
          have HC9:=Lib.hid (HCD.out.cut hO9 hg9 hat9)
          clear hO9 hg9 hat9 HCD
          refine hK.out _ _ trivial (fun _=>?_)
          clear hK K
          try simp only [Act.put,tD,tB,tC,tA,tE,tF]
          refine wpAnyH_take (i:=9) (v:=?_) rfl (by kernel_rfl) (by kernel_rfl) (by kernel_rfl) (fun _ _ _ h=>h) (Or.inl ⟨by rfl,?_⟩) trivial ?_
          rotate_left
          ·intro W _;go_simp;try with_reducible rfl
          try simp only [Act.put,tD,tB,tC,tA,tE,tF]
          refine wpAnyH_done (by kernel_rfl) ?_ _
          obtain ⟨A9,c9,hv9,-,hc91,hc92⟩:=HC9.out.l.sl
          subst hv9
          have hN150:=HN150.out
          go_wp2_with fail
          go_round
          case rel=>exact ⟨i+1,F5,(stF S x.v).1,A9,(L.eraseIdx j).length,c9,L.eraseIdx j,hin,rfl,by go_num,by rw [HMI.out];exact HC9.out.last.1,HC9.out.last.2,rfl,⟨HLED.out.1,HTE.out⟩⟩
          case measure=>simp [intOf];omega
         ·have hE':(tj.toList == vs.toList)=false:=by rw [htj,HVS.out];exact HPB.out j hjl (by omega)
          clear f0 f2 htj hr2 hlj hv3 hv4
          go_wp2_with fail
          go_quiet (fail)
          have hnn:n<=2001048:=HNB.out
          go_wp2_with fail
          go_round
          case rel=>exact ⟨j+1,Nat.lt_of_le_of_ne hj hjp,rfl,by go_num,bdrewN HLJ.out _⟩
          case measure=>simp [intOf];omega
       ·have HNF:Hid (¬ (x.v.k=7/\(stF S x.v).2.1=0)):=by show ¬ _;rw [<- her];exact fun e=>h0 e.2
        have h0':((er:Int) == 0)=false:=by simpa using h0
        subst h7
        clear her hvk h0
        have HGT:=Lib.hid (HLED.out.2.1 HNF.out _ HLD.out.2)
        have HTE:Hid (Tells (stF S x.v).1.J L):=by
         obtain ⟨W',e1,e2⟩:=HGT.out
         rw [HRUN.out] at e1;injection e1 with e1;show Tells _ L;rw [e1];exact e2
        have hN150:=HN150.out
        go_wp2_with fail
        go_round
        case rel=>exact ⟨i+1,F5,(stF S x.v).1,A,n,c,L,hin,rfl,by go_num,by rw [HMI.out];exact HC.out.last.1,HC.out.last.2,HNL,⟨HLED.out.1,HTE.out⟩⟩
        case measure=>simp [intOf];omega
      ·have HNF:Hid (¬ (x.v.k=7/\(stF S x.v).2.1=0)):=by show ¬ _;rw [<- hvk];exact fun e=>h7 e.1
       have h7':((vk:Int) == 7)=false:=by simpa using h7
       clear her hvk h7
       have HGT:=Lib.hid (HLED.out.2.1 HNF.out _ HLD.out.2)
       have HTE:Hid (Tells (stF S x.v).1.J L):=by
        obtain ⟨W',e1,e2⟩:=HGT.out
        rw [HRUN.out] at e1;injection e1 with e1;show Tells _ L;rw [e1];exact e2
       have hN150:=HN150.out
       go_wp2_with fail
       go_round
       case rel=>exact ⟨i+1,F5,(stF S x.v).1,A,n,c,L,hin,rfl,by go_num,by rw [HMI.out];exact HC.out.last.1,HC.out.last.2,HNL,⟨HLED.out.1,HTE.out⟩⟩
       case measure=>simp [intOf];omega
   ·skip
    have hie:i=N:=by omega
    have HTL2:Hid (Wl.length<=48):=by show _<=_;have h1:=tells_len HLD.out.2;have h2:=HT.out.i1.J;omega
    clear hi hin
    go_wp2_with fail
    refine (t1_state HT.out).mono ?_
    rintro e w6 ⟨⟨⟨ck,nx,AM,NM,cM,BQ,KQ,cQ,CJ,nJ,cJ⟩,Sa,rfl,hO,hS,hbr,hck,hnx⟩,hb6⟩
    have HS6:=Lib.hid hS
    have HB6:=Lib.hid (HT.out.be.trans (hb6.mono HT.out.be.size))
    have HW6:=Lib.hid (HW.out.below hb6)
    have HTE:Hid (Tells Sa.J Wl):=tells_bare HLD.out.2 (bare_fields hbr).2.2.2.2
    have HJL:Hid (Sa.J.length<=48):=by
     have h1:=congrArg List.length (bare_fields hbr).2.2.2.2
     rw [List.length_map,List.length_map] at h1
     show _<=_;rw [h1];exact HT.out.i1.J
    have HNJ:Hid (nJ=Sa.J.length):=HS6.out.n
    have hcJ1:nJ<=cJ:=HS6.out.cC
    have hcJ2:cJ<=9223372036854775807:=HS6.out.cC2
    have hnJ:nJ<=48:=by rw [HNJ.out];exact HJL.out
    have hnW:n<=48:=by rw [HNL.out];exact HTL2.out
    clear hO hS hbr hck hnx hb6 HT HW
    go_wp2_with ((with_reducible refine store_bk rfl 31 (.tmp 12) (.tmp 135) rfl w6.heap.size 0 (⟨ck,nx,AM,NM,cM,BQ,KQ,cQ,CJ,nJ,cJ⟩:Sv).arr rfl rfl 31 _ (⟨ck,nx,AM,NM,cM,BQ,KQ,cQ,CJ,nJ,cJ⟩:Sv).arr (Bk.fresh _ _ _) (by kernel_rfl) (by simp) (by kernel_rfl) rfl ?_);intro w7 hB7 hg7 hs7;have HB7:=Lib.hid hB7;have HL7:Hid (Below w6.heap.size w6 w7):=((Below.refl _ _).alloc (Nat.le_refl _) _).grown hg7 (by simp) (by intro k hk;injection hk with hk;omega);have c74:w7.cell? ⟨w6.heap.size,4,none⟩=some (.slice CJ nJ cJ):=hB7.cellAt 4;clear hB7 hg7 hs7)
    clear c74
    obtain ⟨p12,hp12⟩:∃ p,p=w6.heap.size:=⟨_,rfl⟩
    rw [<- hp12] at HB7 ⊢
    have HRJ:Hid (RdJ w7 CJ (jbs Sa.J)):=HS6.out.J.later HL7.out
    have HW7:=Lib.hid (HW6.out.below HL7.out)
    have HB77:Hid (Below w.heap.size w w7):=HB6.out.trans (HL7.out.mono HB6.out.size)
    clear hp12 HS6 HW6 HB6 HL7
    have hnc:n<=c/\c<=9223372036854775807:=by
     obtain ⟨A9,c9,hv9,-,h1,h2⟩:=HW7.out.sl
     injection hv9 with e1 e2 e3
     rw [e2,e3];exact ⟨h1,h2⟩
    have hnc1:=hnc.1
    have hnc2:=hnc.2
    clear hnc
    go_loopw [13,139] (fun s13 s139 wk=>∃ k:Nat,k<=nJ/\s13 = .int .i64 ((mnyB Sa.J k:Nat):Int)/\s139 = .int .i64 k/\Hid (Below w7.heap.size w7 wk)) (fun s13 s139 wk=>nJ - (intOf s139).toNat)
    case atStart=>exact ⟨0,Nat.zero_le _,rfl,rfl,Below.refl _ _⟩
    case round=>
     obtain ⟨k,hk,rfl,rfl,HBK⟩:=hrel
     have c74:wr.cell? ⟨p12,4,none⟩=some (.slice CJ nJ cJ):=(HB7.out.later HBK.out).cellAt 4
     by_cases hlt:k<nJ
     ·have hkl:k<Sa.J.length:=by rw [<- HNJ.out];exact hlt
      have hkb:k<(jbs Sa.J).length:=by simpa [jbs] using hkl
      obtain ⟨gj,oj,rfl,hgj,hja⟩:=(HRJ.out.later HBK.out).at hkb
      have ej:(jbs Sa.J)[k]=Sa.J[k].1:=by simp [jbs]
      rw [ej] at hja
      obtain ⟨nd,hnd⟩:∃ nd,nd=Sa.J[k].1.nd:=⟨_,rfl⟩
      obtain ⟨nm,hnm⟩:∃ nm,nm=Sa.J[k].1.nm:=⟨_,rfl⟩
      have e11:wr.cell? ⟨gj,oj+k * 13+11,none⟩=some (.string nd):=by rw [hnd];exact hja.nd
      have hkk:(k:Int)<(nJ:Int):=Int.ofNat_lt.2 hlt
      by_cases hw:nd.size=0
      ·have HMK:Hid (mnyB Sa.J (k+1)=mnyB Sa.J k):=mnyB_skip hkl (by rw [<- hnd];exact decide_eq_true hw)
       obtain rfl:=empty_of hw
       clear hnd hnm hja ej hw hkl hkb
       go_wp2_with fail
       go_round
       case rel=>exact ⟨k+1,hlt,by rw [HMK.out],by go_num,HBK⟩
       case measure=>simp [intOf];omega
      ·have hmk:mnyB Sa.J (k+1)=mnyB Sa.J k+1:=mnyB_turn hkl (by rw [<- hnd];exact decide_eq_false hw)
       have hfu:=full_of hw
       have HFA:Hid (fndW Wl nm nd Wl.length=true):=by rw [hnm,hnd];exact fndW_all HTE.out (List.getElem_mem hkl) (by rw [<- hnd];exact decide_eq_false hw)
       obtain ⟨mk,hmk0⟩:∃ mk,mk=mnyB Sa.J k:=⟨_,rfl⟩
       rw [<- hmk0] at hmk ⊢
       have hmb:mk<=48:=by rw [hmk0];exact Nat.le_trans (mnyB_le _ _) HJL.out
       have HMK:=Lib.hid hmk
       have HJA:=Lib.hid hja
       have HNM:=Lib.hid hnm;have HND:=Lib.hid hnd
       clear hnd hnm hja ej hw hkb hmk hmk0
       go_wp2_with fail
       clear e11 c74
       go_loopw [15,153] (fun s15 s153 wj=>∃ j:Nat,j<=n/\s15 = .bool (fndW Wl nm nd j)/\s153 = .int .i64 j/\Hid (Below wr.heap.size wr wj)) (fun s15 s153 wj=>n - (intOf s153).toNat)
       case atStart=>exact ⟨0,Nat.zero_le _,rfl,rfl,Below.refl _ _⟩
       case round=>
        obtain ⟨j,hj,rfl,rfl,HBJ⟩:=hrel
        have hbj:Below w7.heap.size w7 wr:=HBK.out.trans (HBJ.out.mono HBK.out.size)
        by_cases hjn:j<n
        ·have hjl:j<Wl.length:=by rw [<- HNL.out];exact hjn
         have c74:wr.cell? ⟨p12,4,none⟩=some (.slice (some ⟨gj,oj,none⟩) nJ cJ):=(HB7.out.later hbj).cellAt 4
         have e11:wr.cell? ⟨gj,oj+k * 13+11,none⟩=some (.string nd):=by rw [HND.out];exact (HJA.out.later HBJ.out).nd
         have e0:wr.cell? ⟨gj,oj+k * 13,none⟩=some (.string nm):=by rw [HNM.out];exact (HJA.out.later HBJ.out).nm
         obtain ⟨A2,c2,hv2,hr2,-,-⟩:=(HW7.out.below hbj).sl
         injection hv2 with hv2 hv3 hv4
         obtain ⟨g2,o2,ea,hl2,f0,f1,f2⟩:=hr2.at hjl
         rw [ea] at hv2
         obtain ⟨tj,htj⟩:∃ t,t=Wl[j].2.1:=⟨_,rfl⟩
         obtain ⟨nj,hnj⟩:∃ t,t=Wl[j].2.2:=⟨_,rfl⟩
         rw [<- htj] at f1
         rw [<- hnj] at f2
         have hst:=fndW_step hjl nm nd
         rw [<- htj,<- hnj] at hst
         have HGJ:=Lib.hid (HJA.out.later HBJ.out).lt
         have hjj:(j:Int)<(n:Int):=Int.ofNat_lt.2 hjn
         subst hv2
         clear f0 htj hnj hr2 ea hv3 hv4 hbj hjl
         cases hf:fndW Wl nm nd j
         case true=>
          have HST:Hid (fndW Wl nm nd (j+1)=true):=by rw [hst,hf];rfl
          clear hst hf
          go_wp2_with fail
          go_quiet (fail)
          go_wp2_with fail
          go_round
          case rel=>exact ⟨j+1,hjn,by rw [HST.out],by go_num,bdrewN HBJ.out _⟩
          case measure=>simp [intOf];omega
         case false=>
          cases hE:sE tj nm
          case false=>
           have HST:Hid (fndW Wl nm nd (j+1)=false):=by rw [hst,hf,hE];rfl
           have hE':(tj.toList == nm.toList)=false:=hE
           clear hst hf hE
           go_wp2_with fail
           go_quiet (fail)
           go_wp2_with fail
           go_round
           case rel=>exact ⟨j+1,hjn,by rw [HST.out],by go_num,bdrewN HBJ.out _⟩
           case measure=>simp [intOf];omega
          case true=>
           have HST:Hid (fndW Wl nm nd (j+1)=sE nj nd):=by rw [hst,hf,hE];rfl
           have hE':(tj.toList == nm.toList)=true:=hE
           clear hst hf hE
           cases hE2:sE nj nd
           all_goals
            rw [hE2] at HST
            have hE2':(nj.toList == nd.toList)=_:=hE2
            clear hE2
            go_wp2_with fail
            go_quiet (fail)
            go_wp2_with fail
            go_round
            case rel=>exact ⟨j+1,hjn,by rw [HST.out],by go_num,bdrewN HBJ.out _⟩
            case measure=>simp [intOf];omega
        ·have hje:j=Wl.length:=by rw [<- HNL.out];omega
         rw [show fndW Wl nm nd j=true by rw [hje];exact HFA.out]
         have HBE:Hid (Below w7.heap.size w7 wr):=hbj
         clear hbj HBJ hje hj
         go_wp2_with fail
         go_round
         case rel=>exact ⟨k+1,hlt,by rw [HMK.out];go_num,by go_num,HBE⟩
         case measure=>simp [intOf];omega
     ·have hke:k=Sa.J.length:=by rw [<- HNJ.out];omega
      rw [hke,tells_all HTE.out,<- HNL.out]
      clear hk c74
      go_wp2_with fail
      go_ret
      exact ⟨rfl,HB77.out.trans (HBK.out.mono HB77.out.size)⟩
end gen1Acts
end
end Go.Proofs.YtccccbofcnmdiaaGreat
