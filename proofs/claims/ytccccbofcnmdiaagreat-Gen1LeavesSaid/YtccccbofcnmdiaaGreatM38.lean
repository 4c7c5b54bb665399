/- Lemmas that the law stands on. No condition. -/
import Derived.Test.YtccccbofcnmdiaaGreatM37
namespace Go.Proofs.YtccccbofcnmdiaaGreat
set_option linter.unusedSimpArgs false
set_option linter.unusedVariables false
set_option maxRecDepth 100000
set_option maxHeartbeats 51200000
section
open Go.RowKit

theorem isOn_any (m:Mc) (j:Jb) (w:World):Calls Tryz.prog 62 #[.agg m.arr,.agg j.arr] w fun e w'=>e = .returned (.bool (sE j.nd m.nm))/\Below w.heap.size w w':=by
 obtain ⟨nm,qu,pr,a,b,c,A,n,cp,ap,ga,sz,sq,nd,bo⟩:=j
 obtain ⟨m0,m1,m2,m3,m4,m5,m6,m7,m8⟩:=m
 cases h:sE nd m0
 ·have h':(nd.toList == m0.toList)=false:=h
  clear h
  go_enter Tryz.func62,Tryz.ntmps62
  go_wp2
  go_ret
  exact ⟨rfl,(by (repeat' (first | (with_reducible exact Below.refl _ _) | (with_reducible refine bdrewN ?_ _) | (with_reducible refine Below.drew ?_) | (with_reducible refine Below.setCell ?_ ?_ _) | (with_reducible refine Below.alloc ?_ ?_ _) | (with_reducible exact Nat.le_refl _) | (with_reducible assumption) | omega | (simp only [World.size_alloc,World.size_setCell,World.size_drew,sz_drewN];omega))))⟩
 ·have h':(nd.toList == m0.toList)=true:=h
  clear h
  go_enter Tryz.func62,Tryz.ntmps62
  go_wp2
  go_ret
  exact ⟨rfl,(by (repeat' (first | (with_reducible exact Below.refl _ _) | (with_reducible refine bdrewN ?_ _) | (with_reducible refine Below.drew ?_) | (with_reducible refine Below.setCell ?_ ?_ _) | (with_reducible refine Below.alloc ?_ ?_ _) | (with_reducible exact Nat.le_refl _) | (with_reducible assumption) | omega | (simp only [World.size_alloc,World.size_setCell,World.size_drew,sz_drewN];omega))))⟩
def onM (s:ByteArray) (l:List Jb):List V3:=(l.filter fun j=>sE j.nd s).map Jb.need
theorem onM_take {s:ByteArray} {l:List Jb} {k:Nat} (h:k<l.length):onM s (l.take (k+1))=onM s (l.take k) ++ if sE l[k].nd s then [l[k].need] else []:=by
 rw [List.take_succ_eq_append_getElem h];simp only [onM,List.filter_append,List.map_append]
 cases he:sE l[k].nd s <;> simp [he]
theorem onM_len (s:ByteArray) (l:List Jb):(onM s l).length<=l.length:=by unfold onM;rw [List.length_map];exact List.length_filter_le _ _
theorem onM_append (s:ByteArray) (l m:List Jb):onM s (l ++ m)=onM s l ++ onM s m:=by simp [onM]
def fre (a b c x y z v:Int):Int × Int × Int × Int:=if v=0 then (kp (sbB a b c x y z) (a - x),kp (sbB a b c x y z) (b - y),kp (sbB a b c x y z) (c - z),sbE a b c x y z) else (0,0,0,v)
theorem fre_0 (a b c x y z:Int):fre a b c x y z 0=(kp (sbB a b c x y z) (a - x),kp (sbB a b c x y z) (b - y),kp (sbB a b c x y z) (c - z),sbE a b c x y z):=rfl
theorem fre_v {a b c x y z v:Int} (h:v ≠ 0):fre a b c x y z v=(0,0,0,v):=if_neg h

theorem free_any (m:Mc) (A:Option Addr) (n cap:Nat) (l:List Jb) (w:World) (hn:Hid (n=l.length)) (hl:n<=1000000) (hA:Hid (RdJ w A l)) (x y z v:Int) (hs:Hid (sm 0 0 0 (onM m.nm l)=(x,y,z,v))) (p q r e:Int) (hr:Hid (fre m.a m.b m.c x y z v=(p,q,r,e))) :
  Calls Tryz.prog 25 #[.agg m.arr,.slice A n cap] w fun t w'=>t = .returned (.tuple #[.agg #[.int .i64 p,.int .i64 q,.int .i64 r],.int .i64 e])/\Below w.heap.size w w':=by
 go_enter Tryz.func25,Tryz.ntmps25
 have hM0:Bk ((w.alloc (.cells m.arr 60)).alloc (.cells #[.int .i64 0,.int .i64 0,.int .i64 0] 40)) w.heap.size 60 m.arr:=(Bk.fresh w _ _).later ((Below.refl _ _).alloc (Nat.le_refl _) _)
 have hR0:Bk ((w.alloc (.cells m.arr 60)).alloc (.cells #[.int .i64 0,.int .i64 0,.int .i64 0] 40)) (w.heap.size+1) 40 #[.int .i64 0,.int .i64 0,.int .i64 0]:=Bk.freshAt _ _ _ (by simp)
 have hB0:Below w.heap.size w ((w.alloc (.cells m.arr 60)).alloc (.cells #[.int .i64 0,.int .i64 0,.int .i64 0] 40)):=((Below.refl _ _).alloc (Nat.le_refl _) _).alloc (by simp) _
 have HM0:=Lib.hid hM0;clear hM0
 have HR0:=Lib.hid hR0;clear hR0
 go_wp2_with fail
 go_loopw [6,13] (fun v i wr=>∃ k:Nat,k<=n/\i = .int .i64 k/\Hid (OwnK wr (w.heap.size+2) 40 3 v (cellsV (onM m.nm (l.take k))))/\Hid (Bk wr w.heap.size 60 m.arr)/\Hid (Bk wr (w.heap.size+1) 40 #[.int .i64 0,.int .i64 0,.int .i64 0])/\Below w.heap.size w wr) (fun _ i wr=>n - (intOf i).toNat)
 case atStart=>exact ⟨0,Nat.zero_le _,rfl,(show OwnK _ _ _ _ _ (cellsV (onM m.nm (l.take 0))) from OwnK.nil _ _ _ _),HM0,HR0,hB0⟩
 case round=>
  clear HM0 HR0 hB0
  obtain ⟨k,hk,rfl,HO,HM,HR,hb⟩:=hrel
  have lt1:w.heap.size+1<wr.heap.size:=HR.out.here
  by_cases hlt:k<n
  ·have hlk:k<l.length:=by have:=hn.out;omega
   obtain ⟨g,o,rfl,hg,hj⟩:=(hA.out.later hb).at hlk
   obtain ⟨j,hjk⟩:∃ j,j=l[k]:=⟨_,rfl⟩
   rw [<- hjk] at hj
   have HJ:=Lib.hid hj;clear hj
   have hlen:(cellsV (onM m.nm (l.take k))).length<=k:=by rw [cellsV_length];exact Nat.le_trans (onM_len _ _) (by rw [List.length_take];omega)
   have k1:=fun W=>isOn_any m j W
   cases he:sE j.nd m.nm
   ·rw [he] at k1
    have HN:Hid (OwnK wr (w.heap.size+2) 40 3 u6 (cellsV (onM m.nm (l.take (k+1))))):=by
     show OwnK _ _ _ _ _ _
     have h:=HO.out
     rw [onM_take hlk,<- hjk,he];simpa using h
    have K1:=Lib.hid k1;clear k1
    have HJK:=Lib.hid hjk;clear hjk he
    go_wp2_with (first | (with_reducible refine load_rg rfl 66 _ rfl g (o+k * 13) rfl j.arr _ HJ.out.rg Tryz.underlying66 rfl (by kernel_rfl) ?_) | ((with_reducible refine store_bk rfl 66 (.tmp 8) (.tmp 16) rfl wr.heap.size 0 j.arr rfl rfl 66 _ j.arr (Bk.fresh _ _ _) (by kernel_rfl) (by simp) (by kernel_rfl) rfl ?_);intro w1 hB1 hg1 hs1;have HX:=Lib.hid hB1;clear hB1;have HM1:=Lib.hid ((HM.out.later ((Below.refl _ _).alloc (Nat.le_refl _) _)).stays hg1 (by simp;omega));have HR1:=Lib.hid ((HR.out.later ((Below.refl _ _).alloc (Nat.le_refl _) _)).stays hg1 (by simp;omega));have hb1:Below w.heap.size w w1:=grown_below (hb.alloc hb.size _) hg1 hb.size) | (with_reducible refine load_bk rfl 60 _ rfl w.heap.size 0 rfl 60 m.arr m.arr _ HM1.out (Part.whole _) Tryz.underlying60 rfl (by kernel_rfl) ?_) | (with_reducible refine load_bk rfl 66 _ rfl wr.heap.size 0 rfl 66 j.arr j.arr _ HX.out (Part.whole _) Tryz.underlying66 rfl (by kernel_rfl) ?_))
    refine (K1.out _).mono ?_;rintro t w2 ⟨rfl,hb2⟩
    go_wp2_with fail
    go_round
    case rel=>exact ⟨k+1,by omega,by go_num,(HN.out.below (grown_below ((Below.refl _ _).alloc (Nat.le_refl _) _) hg1 (Nat.le_refl _))).below hb2,HM1.out.later hb2,HR1.out.later hb2,hb1.trans (hb2.mono hb1.size)⟩
    case measure=>simp [intOf];omega
   ·rw [he] at k1
    have HE:Hid (onM m.nm (l.take (k+1))=onM m.nm (l.take k) ++ [j.need]):=by
     show _=_
     rw [onM_take hlk,<- hjk,he];rfl
    have K1:=Lib.hid k1;clear k1
    have HJK:=Lib.hid hjk;clear hjk he
    go_wp2_with (first | (with_reducible refine load_rg rfl 66 _ rfl g (o+k * 13) rfl j.arr _ HJ.out.rg Tryz.underlying66 rfl (by kernel_rfl) ?_) | ((with_reducible refine store_bk rfl 66 (.tmp 8) (.tmp 16) rfl wr.heap.size 0 j.arr rfl rfl 66 _ j.arr (Bk.fresh _ _ _) (by kernel_rfl) (by simp) (by kernel_rfl) rfl ?_);intro w1 hB1 hg1 hs1;have HX:=Lib.hid hB1;clear hB1;have HM1:=Lib.hid ((HM.out.later ((Below.refl _ _).alloc (Nat.le_refl _) _)).stays hg1 (by simp;omega));have HR1:=Lib.hid ((HR.out.later ((Below.refl _ _).alloc (Nat.le_refl _) _)).stays hg1 (by simp;omega));have hb1:Below w.heap.size w w1:=grown_below (hb.alloc hb.size _) hg1 hb.size) | (with_reducible refine load_bk rfl 60 _ rfl w.heap.size 0 rfl 60 m.arr m.arr _ HM1.out (Part.whole _) Tryz.underlying60 rfl (by kernel_rfl) ?_) | (with_reducible refine load_bk rfl 66 _ rfl wr.heap.size 0 rfl 66 j.arr j.arr _ HX.out (Part.whole _) Tryz.underlying66 rfl (by kernel_rfl) ?_))
    refine (K1.out _).mono ?_;rintro t w2 ⟨rfl,hb2⟩
    have HX2:=Lib.hid (HX.out.later hb2)
    have HM2:=Lib.hid (HM1.out.later hb2)
    have HR2:=Lib.hid (HR1.out.later hb2)
    have hB2:Below w.heap.size w w2:=hb1.trans (hb2.mono hb1.size)
    have HO2:=Lib.hid ((HO.out.below (grown_below ((Below.refl _ _).alloc (Nat.le_refl _) _) hg1 (Nat.le_refl _))).below hb2)
    have lt2:w.heap.size+1<w2.heap.size:=HR2.out.here
    clear HM1 HR1 HX HO hb1 hg1 hs1
    go_wp2_with (first | (with_reducible refine load_bk rfl 40 _ rfl wr.heap.size 3 rfl 66 j.arr #[.int .i64 j.a,.int .i64 j.b,.int .i64 j.c] _ HX2.out (Part.of rfl) Tryz.underlying40 rfl (by kernel_rfl) ?_) | ((with_reducible refine append_k _ rfl (.tmp 20) (.tmp 24) 106 rfl (w.heap.size+2) 40 _ 3 24 Tryz.underlying106 infoV rfl (by omega) u6 (cellsV (onM m.nm (l.take k))) rfl (HO2.out.alloc _) ⟨w2.heap.size,0,none⟩ 1 1 (cellsV [j.need]) rfl (fresh_k w2 3 _ _ rfl) (by simp [cellsV]) (by simp [cellsV,Value.oneCell']) (by simp [cellsV]) (by simp [cellsV,maxLen] at hlen ⊢;omega) (by simp [cellsV] at hlen ⊢;omega) (by simp;omega) ?_);intro u6' w3 hO3 hg3))
    go_round
    case rel=>exact ⟨k+1,by omega,by go_num,(by rw [HE.out,cellsV_append];exact hO3),(HM2.out.later ((Below.refl _ _).alloc (Nat.le_refl _) _)).stays hg3 (fun e=>by have:=HO2.out.block _ e.symm;omega),(HR2.out.later ((Below.refl _ _).alloc (Nat.le_refl _) _)).stays hg3 (fun e=>by have:=HO2.out.block _ e.symm;omega),(hB2.alloc hB2.size _).grown hg3 (by simp;omega) (fun g e=>by have:=HO2.out.block _ e;omega)⟩
    case measure=>simp [intOf];omega
  ·have hk':k=n:=by omega
   subst hk'
   obtain ⟨B,c,hv,hr',_,_,_⟩:=HO.out.sl
   subst hv
   have hlk:l.take k=l:=by rw [hn.out];exact List.take_length
   rw [hlk] at hr'
   have HV:=Lib.hid (RdV.of hr');clear hr'
   rw [hlk]
   have hll:(cellsV (onM m.nm l)).length<=1000000:=by rw [cellsV_length];have:=onM_len m.nm l;have:=hn.out;omega
   obtain ⟨i,hi⟩:∃ i,i=(cellsV (onM m.nm l)).length:=⟨_,rfl⟩
   rw [<- hi]
   have HI:Hid (i=(onM m.nm l).length):=by show _=_;rw [hi,cellsV_length]
   have hil:i<=1000000:=by omega
   clear hi hll HO
   by_cases hv0:v=0
   ·subst hv0
    have hre:=hr.out
    rw [fre_0] at hre
    have k2:=fun W=>sub_any m.a m.b m.c x y z W
    simp only [Prod.mk.injEq] at hre
    obtain ⟨e1,e2,e3,e4⟩:=hre
    rw [e1,e2,e3,e4] at k2
    have K2:=Lib.hid k2;clear k2 e1 e2 e3 e4
    go_wp2_with fail
    refine (sum_any B i c (onM m.nm l) _ HI (by omega) HV x y z 0 hs).mono ?_;rintro t w2 ⟨rfl,hb2⟩
    have HM2:=Lib.hid (HM.out.later hb2)
    have HR2:=Lib.hid (HR.out.later hb2)
    have hB2:Below w.heap.size w w2:=hb.trans (hb2.mono hb.size)
    clear HM HR lt1
    go_wp2_with (first | ((with_reducible refine store_bk rfl 40 (.tmp 9) (.tmp 30) rfl w2.heap.size 0 #[.int .i64 x,.int .i64 y,.int .i64 z] rfl rfl 40 _ #[.int .i64 x,.int .i64 y,.int .i64 z] (Bk.fresh _ _ _) (by kernel_rfl) (by simp) (by kernel_rfl) rfl ?_);intro w3 hB3 hg3 hs3;have HX:=Lib.hid hB3;clear hB3;have lt2:w.heap.size+1<w2.heap.size:=HR2.out.here;have HM3:=Lib.hid ((HM2.out.later ((Below.refl _ _).alloc (Nat.le_refl _) _)).stays hg3 (by simp;omega));have HR3:=Lib.hid ((HR2.out.later ((Below.refl _ _).alloc (Nat.le_refl _) _)).stays hg3 (by simp;omega));have hb3:Below w.heap.size w w3:=grown_below (hB2.alloc hB2.size _) hg3 hB2.size) | (with_reducible refine load_bk rfl 40 _ rfl w.heap.size 1 rfl 60 m.arr #[.int .i64 m.a,.int .i64 m.b,.int .i64 m.c] _ HM3.out (Part.of rfl) Tryz.underlying40 rfl (by kernel_rfl) ?_) | (with_reducible refine load_bk rfl 40 _ rfl w2.heap.size 0 rfl 40 #[.int .i64 x,.int .i64 y,.int .i64 z] #[.int .i64 x,.int .i64 y,.int .i64 z] _ HX.out (Part.whole _) Tryz.underlying40 rfl (by kernel_rfl) ?_))
    refine (K2.out _).mono ?_;rintro t w4 ⟨rfl,hb4⟩
    have HR4:=Lib.hid (HR3.out.later hb4)
    go_wp2_with ((with_reducible refine store_bk rfl 40 (.tmp 4) (.tmp 41) rfl (w.heap.size+1) 0 #[.int .i64 p,.int .i64 q,.int .i64 r] rfl rfl 40 _ #[.int .i64 p,.int .i64 q,.int .i64 r] HR4.out (by kernel_rfl) (by simp) (by kernel_rfl) rfl ?_);intro w5 hB5 hg5 hs5)
    exact bodyPost_ret (v:=.tuple #[.agg #[.int .i64 p,.int .i64 q,.int .i64 r],.int .i64 _]) (results_bk2 Tryz.results25 _ _ (w.heap.size+1) 40 _ _ _ rfl rfl hB5 Tryz.underlying40 rfl (by kernel_rfl)) rfl ⟨rfl,grown_below (hb3.trans (hb4.mono hb3.size)) hg5 (by omega)⟩
   ·have hre:=hr.out
    rw [fre_v hv0] at hre
    simp only [Prod.mk.injEq] at hre
    obtain ⟨rfl,rfl,rfl,rfl⟩:=hre
    have hvd:decide (v=0)=false:=decide_eq_false hv0
    go_wp2_with fail
    refine (sum_any B i c (onM m.nm l) _ HI (by omega) HV x y z v hs).mono ?_;rintro t w2 ⟨rfl,hb2⟩
    have HR2:=Lib.hid (HR.out.later hb2)
    have hB2:Below w.heap.size w w2:=hb.trans (hb2.mono hb.size)
    clear HM HR lt1
    go_wp2_with (first | ((with_reducible refine store_bk rfl 40 (.tmp 9) (.tmp 30) rfl w2.heap.size 0 #[.int .i64 x,.int .i64 y,.int .i64 z] rfl rfl 40 _ #[.int .i64 x,.int .i64 y,.int .i64 z] (Bk.fresh _ _ _) (by kernel_rfl) (by simp) (by kernel_rfl) rfl ?_);intro w3 hB3 hg3 hs3;have HX:=Lib.hid hB3;clear hB3;have lt2:w.heap.size+1<w2.heap.size:=HR2.out.here;have HR3:=Lib.hid ((HR2.out.later ((Below.refl _ _).alloc (Nat.le_refl _) _)).stays hg3 (by simp;omega));have hb3:Below w.heap.size w w3:=grown_below (hB2.alloc hB2.size _) hg3 hB2.size) | ((with_reducible refine store_bk rfl 40 (.tmp 4) (.tmp 34) rfl (w.heap.size+1) 0 #[.int .i64 0,.int .i64 0,.int .i64 0] rfl rfl 40 _ #[.int .i64 0,.int .i64 0,.int .i64 0] HR3.out (by kernel_rfl) (by simp) (by kernel_rfl) rfl ?_);intro w5 hB5 hg5 hs5))
    exact bodyPost_ret (v:=.tuple #[.agg #[.int .i64 0,.int .i64 0,.int .i64 0],.int .i64 _]) (results_bk2 Tryz.results25 _ _ (w.heap.size+1) 40 _ _ _ rfl rfl hB5 Tryz.underlying40 rfl (by kernel_rfl)) rfl ⟨rfl,grown_below hb3 hg5 (by omega)⟩
end
section
open Go.RowKit
def both (s ap nm:ByteArray) (j:Jb):Bool:=sE j.nd s && sE j.ap ap && !sE j.nm nm
def rep (s ap nm:ByteArray) (l:List Jb):Bool:=!decide (ap.size=0) && l.any (both s ap nm)
theorem rep_empty (s nm:ByteArray) (l:List Jb):rep s ⟨#[]⟩ nm l=false:=rfl
theorem rep_full {s ap nm:ByteArray} {l:List Jb} (h:¬ ap.size=0):rep s ap nm l=l.any (both s ap nm):=by unfold rep;rw [decide_eq_false h];rfl
theorem any_takeJ {l:List Jb} {p:Jb->Bool} {k:Nat} (h:k<l.length):(l.take (k+1)).any p=((l.take k).any p || p l[k]):=by
 rw [List.take_succ_eq_append_getElem h,List.any_append];simp
theorem any_atJ {l:List Jb} {p:Jb->Bool} {k:Nat} (hk:k<l.length) (hp:p l[k]=true):l.any p=true:=List.any_eq_true.2 ⟨l[k],List.getElem_mem hk,hp⟩

theorem repels_any (m:Mc) (A:Option Addr) (n cap:Nat) (l:List Jb) (t:Kt) (w:World) (hn:Hid (n=l.length)) (hl:n<=1000000) (hA:Hid (RdJ w A l)) :
  Calls Tryz.prog 112 #[.agg m.arr,.slice A n cap,.agg t.arr] w fun e w'=>e = .returned (.bool (rep m.nm t.ap t.nm l))/\Below w.heap.size w w':=by
 obtain ⟨nm,qu,pr,a,b,c,A2,n2,cp2,ap,ga,sz⟩:=t
 show Calls _ _ _ _ fun e w'=>e = .returned (.bool (rep m.nm ap nm l))/\_
 by_cases h:ap.size=0
 ·obtain rfl:=empty_of h
  rw [rep_empty]
  clear h
  go_enter Tryz.func112,Tryz.ntmps112
  go_wp2
  go_ret
  exact ⟨rfl,(by (repeat' (first | (with_reducible exact Below.refl _ _) | (with_reducible refine bdrewN ?_ _) | (with_reducible refine Below.drew ?_) | (with_reducible refine Below.setCell ?_ ?_ _) | (with_reducible refine Below.alloc ?_ ?_ _) | (with_reducible exact Nat.le_refl _) | (with_reducible assumption) | omega | (simp only [World.size_alloc,World.size_setCell,World.size_drew,sz_drewN];omega))))⟩
 ·rw [rep_full h]
  have hf:=full_of h
  clear h
  obtain ⟨hf1,hf2⟩:=hf
  obtain ⟨T,hT⟩:∃ T:Kt,T=⟨nm,qu,pr,a,b,c,A2,n2,cp2,ap,ga,sz⟩:=⟨_,rfl⟩
  obtain ⟨R,hR⟩:∃ R,R=l.any (both m.nm ap nm):=⟨_,rfl⟩
  rw [<- hR]
  have HR:=Lib.hid hR;clear hR
  go_enter Tryz.func112,Tryz.ntmps112
  have hM0:Bk ((w.alloc (.cells m.arr 60)).alloc (.cells #[.string nm,.string qu,.int .i64 pr,.int .i64 a,.int .i64 b,.int .i64 c,.slice A2 n2 cp2,.string ap,.string ga,.int .i64 sz] 47)) w.heap.size 60 m.arr:=(Bk.fresh w _ _).later ((Below.refl _ _).alloc (Nat.le_refl _) _)
  have hT0:Bk ((w.alloc (.cells m.arr 60)).alloc (.cells #[.string nm,.string qu,.int .i64 pr,.int .i64 a,.int .i64 b,.int .i64 c,.slice A2 n2 cp2,.string ap,.string ga,.int .i64 sz] 47)) (w.heap.size+1) 47 #[.string nm,.string qu,.int .i64 pr,.int .i64 a,.int .i64 b,.int .i64 c,.slice A2 n2 cp2,.string ap,.string ga,.int .i64 sz]:=Bk.freshAt _ _ _ (by simp)
  have hB0:Below w.heap.size w ((w.alloc (.cells m.arr 60)).alloc (.cells #[.string nm,.string qu,.int .i64 pr,.int .i64 a,.int .i64 b,.int .i64 c,.slice A2 n2 cp2,.string ap,.string ga,.int .i64 sz] 47)):=((Below.refl _ _).alloc (Nat.le_refl _) _).alloc (by simp) _
  have HM0:=Lib.hid hM0;clear hM0
  have HT0:=Lib.hid hT0;clear hT0
  go_wp2_with fail
  go_loopw [14] (fun i wr=>∃ k:Nat,k<=n/\i = .int .i64 k/\Hid ((l.take k).any (both m.nm ap nm)=false)/\Hid (Bk wr w.heap.size 60 m.arr)/\Hid (Bk wr (w.heap.size+1) 47 #[.string nm,.string qu,.int .i64 pr,.int .i64 a,.int .i64 b,.int .i64 c,.slice A2 n2 cp2,.string ap,.string ga,.int .i64 sz])/\Below w.heap.size w wr) (fun i wr=>n - (intOf i).toNat)
  case atStart=>exact ⟨0,Nat.zero_le _,rfl,(show _=_ by simp),HM0,HT0,hB0⟩
  case round=>
   clear HM0 HT0 hB0
   obtain ⟨k,hk,rfl,HF,HM,HT,hb⟩:=hrel
   have lt1:w.heap.size+1<wr.heap.size:=HT.out.here
   by_cases hlt:k<n
   ·have hlk:k<l.length:=by have:=hn.out;omega
    obtain ⟨g,o,rfl,hg,hj⟩:=(hA.out.later hb).at hlk
    obtain ⟨j,hjk⟩:∃ j,j=l[k]:=⟨_,rfl⟩
    rw [<- hjk] at hj
    have HJ:=Lib.hid hj;clear hj
    have k1:=fun W=>isOn_any m j W
    cases he1:sE j.nd m.nm
    ·rw [he1] at k1
     have K1:=Lib.hid k1;clear k1
     have HQ:Hid ((l.take (k+1)).any (both m.nm ap nm)=false):=by
      show _=_
      rw [any_takeJ hlk,HF.out,<- hjk];unfold both;rw [he1];rfl
     have HJK:=Lib.hid hjk;clear hjk he1
     go_wp2_with (first | (with_reducible refine load_rg rfl 66 _ rfl g (o+k * 13) rfl j.arr _ HJ.out.rg Tryz.underlying66 rfl (by kernel_rfl) ?_) | ((with_reducible refine store_bk rfl 66 (.tmp 8) (.tmp 17) rfl wr.heap.size 0 j.arr rfl rfl 66 _ j.arr (Bk.fresh _ _ _) (by kernel_rfl) (by simp) (by kernel_rfl) rfl ?_);intro w1 hB1 hg1 hs1;have HX:=Lib.hid hB1;clear hB1;have HM1:=Lib.hid ((HM.out.later ((Below.refl _ _).alloc (Nat.le_refl _) _)).stays hg1 (by simp;omega));have HT1:=Lib.hid ((HT.out.later ((Below.refl _ _).alloc (Nat.le_refl _) _)).stays hg1 (by simp;omega));have hb1:Below w.heap.size w w1:=grown_below (hb.alloc hb.size _) hg1 hb.size) | (with_reducible refine load_bk rfl 60 _ rfl w.heap.size 0 rfl 60 m.arr m.arr _ HM1.out (Part.whole _) Tryz.underlying60 rfl (by kernel_rfl) ?_) | (with_reducible refine load_bk rfl 66 _ rfl wr.heap.size 0 rfl 66 j.arr j.arr _ HX.out (Part.whole _) Tryz.underlying66 rfl (by kernel_rfl) ?_))
     refine (K1.out _).mono ?_;rintro t w2 ⟨rfl,hb2⟩
     go_wp2_with fail
     go_round
     case rel=>exact ⟨k+1,by omega,by go_num,HQ,HM1.out.later hb2,HT1.out.later hb2,hb1.trans (hb2.mono hb1.size)⟩
     case measure=>simp [intOf];omega
    ·rw [he1] at k1
     cases he2:sE j.ap ap
     ·skip
      have K1:=Lib.hid k1;clear k1
      have HQ:Hid ((l.take (k+1)).any (both m.nm ap nm)=false):=by
       show _=_
       rw [any_takeJ hlk,HF.out,<- hjk];unfold both;rw [he1,he2];rfl
      have hx2:(j.ap.toList == ap.toList)=false:=he2
      have HJK:=Lib.hid hjk;clear hjk he1 he2
      go_wp2_with (first | (with_reducible refine load_rg rfl 66 _ rfl g (o+k * 13) rfl j.arr _ HJ.out.rg Tryz.underlying66 rfl (by kernel_rfl) ?_) | ((with_reducible refine store_bk rfl 66 (.tmp 8) (.tmp 17) rfl wr.heap.size 0 j.arr rfl rfl 66 _ j.arr (Bk.fresh _ _ _) (by kernel_rfl) (by simp) (by kernel_rfl) rfl ?_);intro w1 hB1 hg1 hs1;have HX:=Lib.hid hB1;clear hB1;have HM1:=Lib.hid ((HM.out.later ((Below.refl _ _).alloc (Nat.le_refl _) _)).stays hg1 (by simp;omega));have HT1:=Lib.hid ((HT.out.later ((Below.refl _ _).alloc (Nat.le_refl _) _)).stays hg1 (by simp;omega));have hb1:Below w.heap.size w w1:=grown_below (hb.alloc hb.size _) hg1 hb.size) | (with_reducible refine load_bk rfl 60 _ rfl w.heap.size 0 rfl 60 m.arr m.arr _ HM1.out (Part.whole _) Tryz.underlying60 rfl (by kernel_rfl) ?_) | (with_reducible refine load_bk rfl 66 _ rfl wr.heap.size 0 rfl 66 j.arr j.arr _ HX.out (Part.whole _) Tryz.underlying66 rfl (by kernel_rfl) ?_))
      refine (K1.out _).mono ?_;rintro t w2 ⟨rfl,hb2⟩
      have cj7:w2.cell? ⟨wr.heap.size,7,none⟩=some (.string j.ap):=(HX.out.later hb2).cellAt 7
      have ct7:w2.cell? ⟨w.heap.size+1,7,none⟩=some (.string ap):=(HT1.out.later hb2).cellAt 7
      have zj:wr.heap.size<w2.heap.size:=(HX.out.later hb2).here
      have zt:w.heap.size+1<w2.heap.size:=(HT1.out.later hb2).here
      go_wp2_with fail
      go_round
      case rel=>exact ⟨k+1,by omega,by go_num,HQ,HM1.out.later hb2,HT1.out.later hb2,hb1.trans (hb2.mono hb1.size)⟩
      case measure=>simp [intOf];omega
     ·cases he3:sE j.nm nm
      ·skip
       have K1:=Lib.hid k1;clear k1
       have HQ:Hid (l.any (both m.nm ap nm)=true):=by
        show _=_
        refine any_atJ hlk ?_
        rw [<- hjk];unfold both;rw [he1,he2,he3];rfl
       have hx2:(j.ap.toList == ap.toList)=true:=he2
       have hx3:(j.nm.toList == nm.toList)=false:=he3
       have HJK:=Lib.hid hjk;clear hjk he1 he2 he3
       go_wp2_with (first | (with_reducible refine load_rg rfl 66 _ rfl g (o+k * 13) rfl j.arr _ HJ.out.rg Tryz.underlying66 rfl (by kernel_rfl) ?_) | ((with_reducible refine store_bk rfl 66 (.tmp 8) (.tmp 17) rfl wr.heap.size 0 j.arr rfl rfl 66 _ j.arr (Bk.fresh _ _ _) (by kernel_rfl) (by simp) (by kernel_rfl) rfl ?_);intro w1 hB1 hg1 hs1;have HX:=Lib.hid hB1;clear hB1;have HM1:=Lib.hid ((HM.out.later ((Below.refl _ _).alloc (Nat.le_refl _) _)).stays hg1 (by simp;omega));have HT1:=Lib.hid ((HT.out.later ((Below.refl _ _).alloc (Nat.le_refl _) _)).stays hg1 (by simp;omega));have hb1:Below w.heap.size w w1:=grown_below (hb.alloc hb.size _) hg1 hb.size) | (with_reducible refine load_bk rfl 60 _ rfl w.heap.size 0 rfl 60 m.arr m.arr _ HM1.out (Part.whole _) Tryz.underlying60 rfl (by kernel_rfl) ?_) | (with_reducible refine load_bk rfl 66 _ rfl wr.heap.size 0 rfl 66 j.arr j.arr _ HX.out (Part.whole _) Tryz.underlying66 rfl (by kernel_rfl) ?_))
       refine (K1.out _).mono ?_;rintro t w2 ⟨rfl,hb2⟩
       have cj7:w2.cell? ⟨wr.heap.size,7,none⟩=some (.string j.ap):=(HX.out.later hb2).cellAt 7
       have ct7:w2.cell? ⟨w.heap.size+1,7,none⟩=some (.string ap):=(HT1.out.later hb2).cellAt 7
       have zj:wr.heap.size<w2.heap.size:=(HX.out.later hb2).here
       have zt:w.heap.size+1<w2.heap.size:=(HT1.out.later hb2).here
       have cj0:w2.cell? ⟨wr.heap.size,0,none⟩=some (.string j.nm):=(HX.out.later hb2).cellAt 0
       have ct0:w2.cell? ⟨w.heap.size+1,0,none⟩=some (.string nm):=(HT1.out.later hb2).cellAt 0
       go_wp2_with fail
       go_ret
       exact ⟨by rw [HR.out,HQ.out];rfl,hb1.trans (hb2.mono hb1.size)⟩
      ·skip
       have K1:=Lib.hid k1;clear k1
       have HQ:Hid ((l.take (k+1)).any (both m.nm ap nm)=false):=by
        show _=_
        rw [any_takeJ hlk,HF.out,<- hjk];unfold both;rw [he1,he2,he3];rfl
       have hx2:(j.ap.toList == ap.toList)=true:=he2
       have hx3:(j.nm.toList == nm.toList)=true:=he3
       have HJK:=Lib.hid hjk;clear hjk he1 he2 he3
       go_wp2_with (first | (with_reducible refine load_rg rfl 66 _ rfl g (o+k * 13) rfl j.arr _ HJ.out.rg Tryz.underlying66 rfl (by kernel_rfl) ?_) | ((with_reducible refine store_bk rfl 66 (.tmp 8) (.tmp 17) rfl wr.heap.size 0 j.arr rfl rfl 66 _ j.arr (Bk.fresh _ _ _) (by kernel_rfl) (by simp) (by kernel_rfl) rfl ?_);intro w1 hB1 hg1 hs1;have HX:=Lib.hid hB1;clear hB1;have HM1:=Lib.hid ((HM.out.later ((Below.refl _ _).alloc (Nat.le_refl _) _)).stays hg1 (by simp;omega));have HT1:=Lib.hid ((HT.out.later ((Below.refl _ _).alloc (Nat.le_refl _) _)).stays hg1 (by simp;omega));have hb1:Below w.heap.size w w1:=grown_below (hb.alloc hb.size _) hg1 hb.size) | (with_reducible refine load_bk rfl 60 _ rfl w.heap.size 0 rfl 60 m.arr m.arr _ HM1.out (Part.whole _) Tryz.underlying60 rfl (by kernel_rfl) ?_) | (with_reducible refine load_bk rfl 66 _ rfl wr.heap.size 0 rfl 66 j.arr j.arr _ HX.out (Part.whole _) Tryz.underlying66 rfl (by kernel_rfl) ?_))
       refine (K1.out _).mono ?_;rintro t w2 ⟨rfl,hb2⟩
       have cj7:w2.cell? ⟨wr.heap.size,7,none⟩=some (.string j.ap):=(HX.out.later hb2).cellAt 7
       have ct7:w2.cell? ⟨w.heap.size+1,7,none⟩=some (.string ap):=(HT1.out.later hb2).cellAt 7
       have zj:wr.heap.size<w2.heap.size:=(HX.out.later hb2).here
       have zt:w.heap.size+1<w2.heap.size:=(HT1.out.later hb2).here
       have cj0:w2.cell? ⟨wr.heap.size,0,none⟩=some (.string j.nm):=(HX.out.later hb2).cellAt 0
       have ct0:w2.cell? ⟨w.heap.size+1,0,none⟩=some (.string nm):=(HT1.out.later hb2).cellAt 0
       go_wp2_with fail
       go_round
       case rel=>exact ⟨k+1,by omega,by go_num,HQ,HM1.out.later hb2,HT1.out.later hb2,hb1.trans (hb2.mono hb1.size)⟩
       case measure=>simp [intOf];omega
   ·have hk':k=n:=by omega
    subst hk'
    have hlk:l.take k=l:=by rw [hn.out];exact List.take_length
    have HQ:Hid (l.any (both m.nm ap nm)=false):=by show _=_;have h:=HF.out;rw [hlk] at h;exact h
    clear hlk
    go_wp2_with fail
    go_ret
    exact ⟨by rw [HR.out,HQ.out];rfl,hb⟩
end
end Go.Proofs.YtccccbofcnmdiaaGreat
