/- Lemmas that the law stands on. No condition. -/
import Derived.Test.YtccccbofcnmdiaaGreatK24
namespace Go.Proofs.YtccccbofcnmdiaaGreat
set_option linter.unusedSimpArgs false
set_option linter.unusedVariables false
set_option maxRecDepth 100000
set_option maxHeartbeats 51200000
section
open Go.RowKit
theorem haltR {P:Program}{ops:Array Oper}{rest:List Oper}{a:Act}{w:World}{Q:Exit->Act->World->Prop}(h:Hid (wpList P ops Q rest a w)):wpList P ops Q rest a w:=h.out
theorem rangeSub {w:World}{g n:Nat}{cs ds:List Value}(h:w.rangeAt g 0 cs)(e:(cs.drop 0).take n=ds):w.rangeAt g 0 ds:=by
 have:=range_part h 0 n
 rw [e] at this;exact this
theorem asc_next {K:List ByteArray}(h:AscK K) (i:Nat)(h0:i<K.length)(h1:i+1<K.length):sL K[i] K[i+1]=true:=h i (i+1) h0 h1 (Nat.lt_succ_self i)
theorem seqJ_any (x:Jl)(w:World):Calls Tryz.prog 98 #[.agg x.1.arr] w fun e w'=>e = .returned (.int .i64 x.1.sq)/\Below w.heap.size w w':=by
 obtain ⟨⟨a0,a1,a2,a3,a4,a5,a6,a7,a8,a9,b0,b1,b2,b3,b4⟩,l⟩:=x
 go_enter Tryz.func98,Tryz.ntmps98
 go_wp2
 go_ret
 exact ⟨rfl,(Below.refl _ _).alloc (Nat.le_refl _) _⟩


theorem ascM_yes (A:Option Addr) (n cap:Nat)(L:List Ml)(w:World)(hn:Hid (n=L.length))(hr:Hid (RdM w A (mcs L)))(hbig:n<=1000)(hs:Hid (∀ i (h0:i<L.length)(h1:i+1<L.length),sL L[i].1.nm L[i+1].1.nm=true)) :
  Calls Tryz.prog 93 #[.slice A n cap,.func (.func 94) #[] #[]] w fun e w'=>e = .returned (.bool true)/\Below w.heap.size w w':=by
 have KM:=Lib.hid (fun x W=>nameM_any x W)
 go_enter Tryz.func93,Tryz.ntmps93
 go_wp2_with fail
 go_loopw [5] (fun s5 wr=>∃ k:Nat,k<=n/\s5 = .int .i64 ((k+1:Nat):Int)/\Below w.heap.size w wr) (fun s5 wr=>n+1 - (intOf s5).toNat)
 case atStart=>exact ⟨0,Nat.zero_le _,rfl,Below.refl _ _⟩
 case round=>
  obtain ⟨j,hj,rfl,hb⟩:=hrel
  by_cases hlt:j+1<n
  ·have hl0:j<L.length:=by have:=hn.out;omega
   have hl1:j+1<L.length:=by have:=hn.out;omega
   obtain ⟨g,o,hA,hg,hm0⟩:=hr.out.at (i:=j) (by simpa [mcs,jbs] using hl0)
   obtain ⟨g',o',hA',hg',hm1⟩:=hr.out.at (i:=j+1) (by simpa [mcs,jbs] using hl1)
   rw [hA] at hA'
   injection hA' with hA'
   injection hA' with e1 e2
   subst e1 e2
   rw [mcs_at hl0] at hm0;rw [mcs_at hl1] at hm1
   obtain ⟨x0,hx0⟩:∃ x,x=L[j]:=⟨_,rfl⟩
   obtain ⟨x1,hx1⟩:∃ x,x=L[j+1]:=⟨_,rfl⟩
   have hlx:=hs.out j hl0 hl1
   rw [<- hx0] at hm0 hlx
   rw [<- hx1] at hm1 hlx
   have HR0:Hid (∀ W,Below w.heap.size w W->W.rangeAt g (o+j * 7) x0.1.arr.toList):=fun W hW=>range_keep hm0.rg hW
   have HR1:Hid (∀ W,Below w.heap.size w W->W.rangeAt g (o+(j+1) * 7) x1.1.arr.toList):=fun W hW=>range_keep hm1.rg hW
   have HWJ:Hid (IntKind.i64.wrap (j:Int)=(j:Int)):=by show _=_;rw [IntKind.wrap_i64];omega
   have HJ0:Hid ((0:Int)<=(j:Int)+1):=by show _<=_;omega
   have hjn:(j:Int)<(n:Int):=by omega
   have hjn1:((j+1:Nat):Int)<(n:Int):=by omega
   have hjl:j<n:=by omega
   subst hA
   have hlb:Op.bytesLess x0.1.nm.toList x1.1.nm.toList=true:=hlx
   clear hm0 hm1 hx0 hx1 hg hg' hl0 hl1 hlx
   go_wp2_with fail
   refine wp_region_held_drew (S:=fun W=>Below w.heap.size w W) (by kernel_rfl) (Below.drew hb) (fun hS0=>?_)
   refine wU (i:=0) (v:=?_) rfl ?_ hS0 ?_
   rotate_left
   ·intro W _;go_simp;try with_reducible rfl
   try simp only [Act.put,tD,tB,tA,tE,tF]
   refine wU (i:=1) (v:=?_) rfl ?_ hS0 ?_
   rotate_left
   ·intro W _;go_simp;try with_reducible rfl
   try simp only [Act.put,tZ]
   refine wU (i:=2) (v:=?_) rfl ?_ hS0 ?_
   rotate_left
   ·intro W _;go_simp;try with_reducible rfl
   try simp only [Act.put,tZ]
   refine wU (i:=3) (v:=.int .i64 (j:Int)) rfl ?_ hS0 ?_
   ·intro W _;go_simp;first | exact HWJ.out | rw [HWJ.out]
   try simp only [Act.put,tZ]
   refine wU (i:=4) (v:=?_) rfl ?_ hS0 ?_
   rotate_left
   ·intro W _;go_simp;try with_reducible rfl
   try simp only [Act.put,tZ]
   refine wT (i:=5) (v:=.agg x0.1.arr) rfl (yields_rg (by rfl) 60 _ rfl g (o+j * 7) rfl x0.1.arr _ (fun W hW=>HR0.out W hW) Tryz.underlying60 rfl (by kernel_rfl)) hS0 ?_
   try simp only [Act.put,tZ]
   refine wU (i:=7) (v:=?_) rfl ?_ hS0 ?_
   rotate_left
   ·intro W _;go_simp;try with_reducible rfl
   try simp only [Act.put,tZ]
   refine wU (i:=8) (v:=?_) rfl ?_ hS0 ?_
   rotate_left
   ·intro W _;go_simp;try with_reducible rfl
   try simp only [Act.put,tZ]
   refine wU (i:=9) (v:=?_) rfl ?_ hS0 ?_
   rotate_left
   ·intro W _;go_simp;try with_reducible rfl
   try simp only [Act.put,tZ]
   refine wU (i:=10) (v:=?_) rfl ?_ hS0 ?_
   rotate_left
   ·intro W _;go_simp;first | with_reducible rfl | (rw [if_pos HJ0.out];try with_reducible rfl)
   try simp only [Act.put,tZ]
   refine wT (i:=11) (v:=.agg x1.1.arr) rfl (yields_rg (by rfl) 60 _ rfl g (o+(j+1) * 7) rfl x1.1.arr _ (fun W hW=>HR1.out W hW) Tryz.underlying60 rfl (by kernel_rfl)) hS0 ?_
   try simp only [Act.put,tZ]
   refine wpAnyH_ready (rs:=[6]) (by kernel_rfl) (by simp) ?_
   refine AllReadyH.cons rfl (fun K hK=>?_) AllReadyH.nil
   go_simp
   refine (KM.out x0 _).mono ?_
   rintro e y1 ⟨rfl,hb1⟩
   go_simp
   refine hK.out _ _ (hS0.trans (hb1.mono (Below.size hS0))) (fun hS1=>?_)
   clear hK K
   try simp only [Act.put,tZ]
   refine wpAnyH_ready (rs:=[12]) (by kernel_rfl) (by simp) ?_
   refine AllReadyH.cons rfl (fun K hK=>?_) AllReadyH.nil
   go_simp
   refine (KM.out x1 _).mono ?_
   rintro e y2 ⟨rfl,hb2⟩
   go_simp
   refine hK.out _ _ (hS1.trans (hb2.mono (Below.size hS1))) (fun hS2=>?_)
   clear hK K
   try simp only [Act.put,tZ]
   refine wU (i:=13) (v:=?_) rfl ?_ hS2 ?_
   rotate_left
   ·intro W _;go_simp;try with_reducible rfl
   try simp only [Act.put,tZ]
   refine wpAnyH_done (by kernel_rfl) ?_ _
   have HBF:=Lib.hid hS2
   go_wp2_with fail
   go_round
   case rel=>exact ⟨j+1,Nat.le_of_lt hlt,by go_num,HBF.out⟩
   case measure=>simp [intOf];omega
  ·go_wp2_with fail
   go_ret
   exact ⟨rfl,hb⟩


theorem ascQ_yes (A:Option Addr) (n cap:Nat)(L:List Qx)(w:World)(hn:Hid (n=L.length))(hr:Hid (RdQ w A L))(hbig:n<=1000)(hs:Hid (∀ i (h0:i<L.length)(h1:i+1<L.length),sL L[i].1 L[i+1].1=true)) :
  Calls Tryz.prog 95 #[.slice A n cap,.func (.func 96) #[] #[]] w fun e w'=>e = .returned (.bool true)/\Below w.heap.size w w':=by
 have KM:=Lib.hid (fun x W=>nameQ_any x W)
 go_enter Tryz.func95,Tryz.ntmps95
 go_wp2_with fail
 go_loopw [5] (fun s5 wr=>∃ k:Nat,k<=n/\s5 = .int .i64 ((k+1:Nat):Int)/\Below w.heap.size w wr) (fun s5 wr=>n+1 - (intOf s5).toNat)
 case atStart=>exact ⟨0,Nat.zero_le _,rfl,Below.refl _ _⟩
 case round=>
  obtain ⟨j,hj,rfl,hb⟩:=hrel
  by_cases hlt:j+1<n
  ·have hl0:j<L.length:=by have:=hn.out;omega
   have hl1:j+1<L.length:=by have:=hn.out;omega
   obtain ⟨g,o,hA,hg,hm0⟩:=hr.out.at (i:=j) (by simpa [mcs,jbs] using hl0)
   obtain ⟨g',o',hA',hg',hm1⟩:=hr.out.at (i:=j+1) (by simpa [mcs,jbs] using hl1)
   rw [hA] at hA'
   injection hA' with hA'
   injection hA' with e1 e2
   subst e1 e2
   skip
   obtain ⟨x0,hx0⟩:∃ x,x=L[j]:=⟨_,rfl⟩
   obtain ⟨x1,hx1⟩:∃ x,x=L[j+1]:=⟨_,rfl⟩
   have hlx:=hs.out j hl0 hl1
   rw [<- hx0] at hm0 hlx
   rw [<- hx1] at hm1 hlx
   have HR0:Hid (∀ W,Below w.heap.size w W->W.rangeAt g (o+j * 4) x0.arr.toList):=fun W hW=>range_keep hm0.rg hW
   have HR1:Hid (∀ W,Below w.heap.size w W->W.rangeAt g (o+(j+1) * 4) x1.arr.toList):=fun W hW=>range_keep hm1.rg hW
   have HWJ:Hid (IntKind.i64.wrap (j:Int)=(j:Int)):=by show _=_;rw [IntKind.wrap_i64];omega
   have HJ0:Hid ((0:Int)<=(j:Int)+1):=by show _<=_;omega
   have hjn:(j:Int)<(n:Int):=by omega
   have hjn1:((j+1:Nat):Int)<(n:Int):=by omega
   have hjl:j<n:=by omega
   subst hA
   have hlb:Op.bytesLess x0.1.toList x1.1.toList=true:=hlx
   clear hm0 hm1 hx0 hx1 hg hg' hl0 hl1 hlx
   go_wp2_with fail
   refine wp_region_held_drew (S:=fun W=>Below w.heap.size w W) (by kernel_rfl) (Below.drew hb) (fun hS0=>?_)
   refine wU (i:=0) (v:=?_) rfl ?_ hS0 ?_
   rotate_left
   ·intro W _;go_simp;try with_reducible rfl
   try simp only [Act.put,tD,tB,tA,tE,tF]
   refine wU (i:=1) (v:=?_) rfl ?_ hS0 ?_
   rotate_left
   ·intro W _;go_simp;try with_reducible rfl
   try simp only [Act.put,tZ]
   refine wU (i:=2) (v:=?_) rfl ?_ hS0 ?_
   rotate_left
   ·intro W _;go_simp;try with_reducible rfl
   try simp only [Act.put,tZ]
   refine wU (i:=3) (v:=.int .i64 (j:Int)) rfl ?_ hS0 ?_
   ·intro W _;go_simp;first | exact HWJ.out | rw [HWJ.out]
   try simp only [Act.put,tZ]
   refine wU (i:=4) (v:=?_) rfl ?_ hS0 ?_
   rotate_left
   ·intro W _;go_simp;try with_reducible rfl
   try simp only [Act.put,tZ]
   refine wT (i:=5) (v:=.agg x0.arr) rfl (yields_rg (by rfl) 45 _ rfl g (o+j * 4) rfl x0.arr _ (fun W hW=>HR0.out W hW) Tryz.underlying45 rfl (by kernel_rfl)) hS0 ?_
   try simp only [Act.put,tZ]
   refine wU (i:=7) (v:=?_) rfl ?_ hS0 ?_
   rotate_left
   ·intro W _;go_simp;try with_reducible rfl
   try simp only [Act.put,tZ]
   refine wU (i:=8) (v:=?_) rfl ?_ hS0 ?_
   rotate_left
   ·intro W _;go_simp;try with_reducible rfl
   try simp only [Act.put,tZ]
   refine wU (i:=9) (v:=?_) rfl ?_ hS0 ?_
   rotate_left
   ·intro W _;go_simp;try with_reducible rfl
   try simp only [Act.put,tZ]
   refine wU (i:=10) (v:=?_) rfl ?_ hS0 ?_
   rotate_left
   ·intro W _;go_simp;first | with_reducible rfl | (rw [if_pos HJ0.out];try with_reducible rfl)
   try simp only [Act.put,tZ]
   refine wT (i:=11) (v:=.agg x1.arr) rfl (yields_rg (by rfl) 45 _ rfl g (o+(j+1) * 4) rfl x1.arr _ (fun W hW=>HR1.out W hW) Tryz.underlying45 rfl (by kernel_rfl)) hS0 ?_
   try simp only [Act.put,tZ]
   refine wpAnyH_ready (rs:=[6]) (by kernel_rfl) (by simp) ?_
   refine AllReadyH.cons rfl (fun K hK=>?_) AllReadyH.nil
   go_simp
   refine (KM.out x0 _).mono ?_
   rintro e y1 ⟨rfl,hb1⟩
   go_simp
   refine hK.out _ _ (hS0.trans (hb1.mono (Below.size hS0))) (fun hS1=>?_)
   clear hK K
   try simp only [Act.put,tZ]
   refine wpAnyH_ready (rs:=[12]) (by kernel_rfl) (by simp) ?_
   refine AllReadyH.cons rfl (fun K hK=>?_) AllReadyH.nil
   go_simp
   refine (KM.out x1 _).mono ?_
   rintro e y2 ⟨rfl,hb2⟩
   go_simp
   refine hK.out _ _ (hS1.trans (hb2.mono (Below.size hS1))) (fun hS2=>?_)
   clear hK K
   try simp only [Act.put,tZ]
   refine wU (i:=13) (v:=?_) rfl ?_ hS2 ?_
   rotate_left
   ·intro W _;go_simp;try with_reducible rfl
   try simp only [Act.put,tZ]
   refine wpAnyH_done (by kernel_rfl) ?_ _
   have HBF:=Lib.hid hS2
   go_wp2_with fail
   go_round
   case rel=>exact ⟨j+1,Nat.le_of_lt hlt,by go_num,HBF.out⟩
   case measure=>simp [intOf];omega
  ·go_wp2_with fail
   go_ret
   exact ⟨rfl,hb⟩


theorem ascJ_yes (A:Option Addr) (n cap:Nat)(L:List Jl)(w:World)(hn:Hid (n=L.length))(hr:Hid (RdJ w A (jbs L)))(hbig:n<=1000)(hs:Hid (∀ i (h0:i<L.length)(h1:i+1<L.length),L[i].1.sq<L[i+1].1.sq)) :
  Calls Tryz.prog 97 #[.slice A n cap,.func (.func 98) #[] #[]] w fun e w'=>e = .returned (.bool true)/\Below w.heap.size w w':=by
 have KM:=Lib.hid (fun x W=>seqJ_any x W)
 go_enter Tryz.func97,Tryz.ntmps97
 go_wp2_with fail
 go_loopw [5] (fun s5 wr=>∃ k:Nat,k<=n/\s5 = .int .i64 ((k+1:Nat):Int)/\Below w.heap.size w wr) (fun s5 wr=>n+1 - (intOf s5).toNat)
 case atStart=>exact ⟨0,Nat.zero_le _,rfl,Below.refl _ _⟩
 case round=>
  obtain ⟨j,hj,rfl,hb⟩:=hrel
  by_cases hlt:j+1<n
  ·have hl0:j<L.length:=by have:=hn.out;omega
   have hl1:j+1<L.length:=by have:=hn.out;omega
   obtain ⟨g,o,hA,hg,hm0⟩:=hr.out.at (i:=j) (by simpa [mcs,jbs] using hl0)
   obtain ⟨g',o',hA',hg',hm1⟩:=hr.out.at (i:=j+1) (by simpa [mcs,jbs] using hl1)
   rw [hA] at hA'
   injection hA' with hA'
   injection hA' with e1 e2
   subst e1 e2
   rw [jbs_at hl0] at hm0;rw [jbs_at hl1] at hm1
   obtain ⟨x0,hx0⟩:∃ x,x=L[j]:=⟨_,rfl⟩
   obtain ⟨x1,hx1⟩:∃ x,x=L[j+1]:=⟨_,rfl⟩
   have hlx:=hs.out j hl0 hl1
   rw [<- hx0] at hm0 hlx
   rw [<- hx1] at hm1 hlx
   have HR0:Hid (∀ W,Below w.heap.size w W->W.rangeAt g (o+j * 13) x0.1.arr.toList):=fun W hW=>range_keep hm0.rg hW
   have HR1:Hid (∀ W,Below w.heap.size w W->W.rangeAt g (o+(j+1) * 13) x1.1.arr.toList):=fun W hW=>range_keep hm1.rg hW
   have HWJ:Hid (IntKind.i64.wrap (j:Int)=(j:Int)):=by show _=_;rw [IntKind.wrap_i64];omega
   have HJ0:Hid ((0:Int)<=(j:Int)+1):=by show _<=_;omega
   have hjn:(j:Int)<(n:Int):=by omega
   have hjn1:((j+1:Nat):Int)<(n:Int):=by omega
   have hjl:j<n:=by omega
   subst hA
   have hsq:¬ (x0.1.sq ≥ x1.1.sq):=Int.not_le.2 hlx
   clear hm0 hm1 hx0 hx1 hg hg' hl0 hl1 hlx
   go_wp2_with fail
   refine wp_region_held_drew (S:=fun W=>Below w.heap.size w W) (by kernel_rfl) (Below.drew hb) (fun hS0=>?_)
   refine wU (i:=0) (v:=?_) rfl ?_ hS0 ?_
   rotate_left
   ·intro W _;go_simp;try with_reducible rfl
   try simp only [Act.put,tD,tB,tA,tE,tF]
   refine wU (i:=1) (v:=?_) rfl ?_ hS0 ?_
   rotate_left
   ·intro W _;go_simp;try with_reducible rfl
   try simp only [Act.put,tZ]
   refine wU (i:=2) (v:=?_) rfl ?_ hS0 ?_
   rotate_left
   ·intro W _;go_simp;try with_reducible rfl
   try simp only [Act.put,tZ]
   refine wU (i:=3) (v:=.int .i64 (j:Int)) rfl ?_ hS0 ?_
   ·intro W _;go_simp;first | exact HWJ.out | rw [HWJ.out]
   try simp only [Act.put,tZ]
   refine wU (i:=4) (v:=?_) rfl ?_ hS0 ?_
   rotate_left
   ·intro W _;go_simp;try with_reducible rfl
   try simp only [Act.put,tZ]
   refine wT (i:=5) (v:=.agg x0.1.arr) rfl (yields_rg (by rfl) 66 _ rfl g (o+j * 13) rfl x0.1.arr _ (fun W hW=>HR0.out W hW) Tryz.underlying66 rfl (by kernel_rfl)) hS0 ?_
   try simp only [Act.put,tZ]
   refine wU (i:=7) (v:=?_) rfl ?_ hS0 ?_
   rotate_left
   ·intro W _;go_simp;try with_reducible rfl
   try simp only [Act.put,tZ]
   refine wU (i:=8) (v:=?_) rfl ?_ hS0 ?_
   rotate_left
   ·intro W _;go_simp;try with_reducible rfl
   try simp only [Act.put,tZ]
   refine wU (i:=9) (v:=?_) rfl ?_ hS0 ?_
   rotate_left
   ·intro W _;go_simp;try with_reducible rfl
   try simp only [Act.put,tZ]
   refine wU (i:=10) (v:=?_) rfl ?_ hS0 ?_
   rotate_left
   ·intro W _;go_simp;first | with_reducible rfl | (rw [if_pos HJ0.out];try with_reducible rfl)
   try simp only [Act.put,tZ]
   refine wT (i:=11) (v:=.agg x1.1.arr) rfl (yields_rg (by rfl) 66 _ rfl g (o+(j+1) * 13) rfl x1.1.arr _ (fun W hW=>HR1.out W hW) Tryz.underlying66 rfl (by kernel_rfl)) hS0 ?_
   try simp only [Act.put,tZ]
   refine wpAnyH_ready (rs:=[6]) (by kernel_rfl) (by simp) ?_
   refine AllReadyH.cons rfl (fun K hK=>?_) AllReadyH.nil
   go_simp
   refine (KM.out x0 _).mono ?_
   rintro e y1 ⟨rfl,hb1⟩
   go_simp
   refine hK.out _ _ (hS0.trans (hb1.mono (Below.size hS0))) (fun hS1=>?_)
   clear hK K
   try simp only [Act.put,tZ]
   refine wpAnyH_ready (rs:=[12]) (by kernel_rfl) (by simp) ?_
   refine AllReadyH.cons rfl (fun K hK=>?_) AllReadyH.nil
   go_simp
   refine (KM.out x1 _).mono ?_
   rintro e y2 ⟨rfl,hb2⟩
   go_simp
   refine hK.out _ _ (hS1.trans (hb2.mono (Below.size hS1))) (fun hS2=>?_)
   clear hK K
   try simp only [Act.put,tZ]
   refine wU (i:=13) (v:=?_) rfl ?_ hS2 ?_
   rotate_left
   ·intro W _;go_simp;try with_reducible rfl
   try simp only [Act.put,tZ]
   refine wpAnyH_done (by kernel_rfl) ?_ _
   have HBF:=Lib.hid hS2
   go_wp2_with fail
   go_round
   case rel=>exact ⟨j+1,Nat.le_of_lt hlt,by go_num,HBF.out⟩
   case measure=>simp [intOf];omega
  ·go_wp2_with fail
   go_ret
   exact ⟨rfl,hb⟩


theorem areM_yes (A:Option Addr) (n cap:Nat)(L:List Ml)(w:World)(hn:Hid (n=L.length))(hr:Hid (RdM w A (mcs L)))(hLo:Hid (MsOk w L))(hbig:n<=16)(hA:Hid (AscK (keyM L)))(hN:Hid (∀ x ∈ L,x.1.ok x.2=true/\0<=x.1.un/\x.1.un<=1073741828)) :
  Calls Tryz.prog 49 #[.slice A n cap] w fun e w'=>e = .returned (.bool true)/\Below w.heap.size w w':=by
 have KA:=Lib.hid (fun W (h:Hid (RdM W A (mcs L)))=>ascM_yes A n cap L W hn h (by omega) (Lib.hid fun i h0 h1=>by have:=asc_next hA.out i (by simpa using h0) (by simpa using h1);simpa using this))
 have KN:=Lib.hid (fun (x:Ml)(W:World)(h:McOk W x.1 x.2)=>node_any x.1.nm x.1.a x.1.b x.1.c x.1.A x.1.n x.1.cp x.2 W (Nat.le_trans h.nm (by decide)) (Lib.hid h.lb.len) (Lib.hid h.lb.rd) (Lib.hid h.lb.sz) h.lb.cap h.lb.cap2)
 have KW:=Lib.hid (fun (u:Int) W=>within_any u 0 1073741828 W)
 have hnn:¬ ((n:Int) > 16):=by omega
 go_enter Tryz.func49,Tryz.ntmps49
 go_wp2_with fail
 refine (KA.out _ hr).mono ?_;rintro e w1 ⟨rfl,hb1⟩
 go_wp2_with fail
 go_loopw [15] (fun s15 wr=>∃ k:Nat,k<=n/\s15 = .int .i64 k/\Below w.heap.size w wr) (fun s15 wr=>n - (intOf s15).toNat)
 case atStart=>exact ⟨0,Nat.zero_le _,rfl,hb1⟩
 case round=>
  clear hb1
  obtain ⟨k,hk,rfl,hb⟩:=hrel
  by_cases hlt:k<n
  ·have hlk:k<L.length:=by have:=hn.out;omega
   obtain ⟨g,o,hA2,hg,hm⟩:=(hr.out.later hb).at (i:=k) (by simpa [mcs] using hlk)
   rw [mcs_at hlk] at hm
   obtain ⟨x,hx⟩:∃ x,x=L[k]:=⟨_,rfl⟩
   rw [<- hx] at hm
   have HMt:=Lib.hid hm
   have HXo:Hid (McOk w x.1 x.2):=by rw [hx];exact hLo.out.at hlk
   have hxn:=hN.out x (by rw [hx];exact List.getElem_mem hlk)
   have HOK:=Lib.hid hxn.1
   have HUN:Hid ((decide ((0:Int)<=x.1.un) && decide (x.1.un<=1073741828))=true):=by show _=true;simp [hxn.2.1,hxn.2.2]
   subst hA2
   have hkk:(k:Int)<(n:Int):=Int.ofNat_lt.2 hlt
   clear hm hx hxn
   go_wp2_with (first | (with_reducible refine load_rg rfl 60 _ rfl g (o+k * 7) rfl x.1.arr _ HMt.out.rg Tryz.underlying60 rfl (by kernel_rfl) ?_) | ((with_reducible refine store_bk rfl 60 (.tmp 4) (.tmp 18) rfl wr.heap.size 0 x.1.arr rfl rfl 60 _ x.1.arr (Bk.fresh _ _ _) (by kernel_rfl) (by simp) (by kernel_rfl) rfl ?_);intro w2 hB2 hg2 hs2;have HX:=Lib.hid hB2;have hb2:Below w.heap.size w w2:=hb.trans (((Below.refl _ _).alloc (Nat.le_refl _) _).grown hg2 (by simp) (by intro k hk;injection hk with hk;omega) |>.mono hb.size);clear hB2 hg2 hs2;refine haltR ?_))
   obtain ⟨p,hp⟩:∃ p,p=wr.heap.size:=⟨_,rfl⟩
   rw [<- hp] at HX ⊢
   refine Lib.hid ?_
   clear hp
   have cu:w2.cell? ⟨p,6,none⟩=some (.int .i64 x.1.un):=HX.out.cellAt 6
   have HND:Hid (w2.rangeAt p 0 x.1.node.toList):=rangeSub (n:=5) (HX.out.range (Part.whole _)) rfl
   go_wp2_with (with_reducible refine load_rg rfl 43 _ rfl p 0 rfl x.1.node _ HND.out Tryz.underlying43 rfl (by kernel_rfl) ?_)
   refine (KN.out x _ (HXo.out.later hb2)).mono ?_;rintro e w3 ⟨rfl,hb3⟩
   rw [show nodeB x.1.nm x.1.a x.1.b x.1.c x.2=true from HOK.out]
   have hb23:Below w.heap.size w w3:=hb2.trans (hb3.mono hb2.size)
   have cu3:w3.cell? ⟨p,6,none⟩=some (.int .i64 x.1.un):=(HX.out.later hb3).cellAt 6
   clear cu hb3
   go_wp2_with fail
   refine (KW.out _ _).mono ?_;rintro e w4 ⟨rfl,rfl⟩
   rw [HUN.out]
   go_wp2_with fail
   go_round
   case rel=>exact ⟨k+1,hlt,by go_num,hb23⟩
   case measure=>simp [intOf];omega
  ·go_wp2_with fail
   go_ret
   exact ⟨rfl,hb⟩


theorem areQ_yes (A:Option Addr) (n cap:Nat)(L:List Qx)(w:World)(hn:Hid (n=L.length))(hr:Hid (RdQ w A L))(hLo:Hid (QsOk L))(hbig:n<=8)(hA:Hid (AscK (keyQ L)))(hN:Hid (∀ q ∈ L,queueB q.1 q.2.1 q.2.2.1 q.2.2.2=true)) :
  Calls Tryz.prog 50 #[.slice A n cap] w fun e w'=>e = .returned (.bool true)/\Below w.heap.size w w':=by
 have KA:=Lib.hid (fun W (h:Hid (RdQ W A L))=>ascQ_yes A n cap L W hn h (by omega) (Lib.hid fun i h0 h1=>by have:=asc_next hA.out i (by simpa using h0) (by simpa using h1);simpa using this))
 have KN:=Lib.hid (fun (q:Qx)(W:World)(h:q.1.size<=140737488351232)=>queue_any q.1 q.2.1 q.2.2.1 q.2.2.2 W (Nat.le_trans h (by decide)))
 have hnn:¬ ((n:Int) > 8):=by omega
 go_enter Tryz.func50,Tryz.ntmps50
 go_wp2_with fail
 refine (KA.out _ hr).mono ?_;rintro e w1 ⟨rfl,hb1⟩
 go_wp2_with fail
 go_loopw [15] (fun s15 wr=>∃ k:Nat,k<=n/\s15 = .int .i64 k/\Below w.heap.size w wr) (fun s15 wr=>n - (intOf s15).toNat)
 case atStart=>exact ⟨0,Nat.zero_le _,rfl,hb1⟩
 case round=>
  clear hb1
  obtain ⟨k,hk,rfl,hb⟩:=hrel
  by_cases hlt:k<n
  ·have hlk:k<L.length:=by have:=hn.out;omega
   obtain ⟨g,o,hA2,hg,hm⟩:=(hr.out.later hb).at (i:=k) hlk
   obtain ⟨x,hx⟩:∃ x,x=L[k]:=⟨_,rfl⟩
   rw [<- hx] at hm
   have HMt:=Lib.hid hm
   have HXo:Hid (x.1.size<=140737488351232):=by rw [hx];exact hLo.out _ (List.getElem_mem hlk)
   have HOK:Hid (queueB x.1 x.2.1 x.2.2.1 x.2.2.2=true):=hN.out x (by rw [hx];exact List.getElem_mem hlk)
   subst hA2
   have hkk:(k:Int)<(n:Int):=Int.ofNat_lt.2 hlt
   clear hm hx
   go_wp2_with (first | (with_reducible refine load_rg rfl 45 _ rfl g (o+k * 4) rfl x.arr _ HMt.out.rg Tryz.underlying45 rfl (by kernel_rfl) ?_) | ((with_reducible refine store_bk rfl 45 (.tmp 4) (.tmp 18) rfl wr.heap.size 0 x.arr rfl rfl 45 _ x.arr (Bk.fresh _ _ _) (by kernel_rfl) (by simp) (by kernel_rfl) rfl ?_);intro w2 hB2 hg2 hs2;have HX:=Lib.hid hB2;have hb2:Below w.heap.size w w2:=hb.trans (((Below.refl _ _).alloc (Nat.le_refl _) _).grown hg2 (by simp) (by intro k hk;injection hk with hk;omega) |>.mono hb.size);clear hB2 hg2 hs2;refine haltR ?_))
   obtain ⟨p,hp⟩:∃ p,p=wr.heap.size:=⟨_,rfl⟩
   rw [<- hp] at HX ⊢
   refine Lib.hid ?_
   clear hp
   go_wp2_with (with_reducible refine load_bk rfl 45 _ rfl p 0 rfl 45 x.arr x.arr _ HX.out (Part.whole _) Tryz.underlying45 rfl (by kernel_rfl) ?_)
   refine (KN.out x _ HXo.out).mono ?_;rintro e w3 ⟨rfl,hb3⟩
   rw [HOK.out]
   have hb23:Below w.heap.size w w3:=hb2.trans (hb3.mono hb2.size)
   clear hb3
   go_wp2_with fail
   go_round
   case rel=>exact ⟨k+1,hlt,by go_num,hb23⟩
   case measure=>simp [intOf];omega
  ·go_wp2_with fail
   go_ret
   exact ⟨rfl,hb⟩


theorem areJ_yes (A:Option Addr) (n cap:Nat)(L:List Jl) (nx:Int)(w:World)(hn:Hid (n=L.length))(hr:Hid (RdJ w A (jbs L)))(hLo:Hid (JsOk w L))(hbig:n<=48)(hS:Hid (L.Pairwise fun x y=>x.1.sq<y.1.sq))(hnx:1<=nx/\nx<=1073741824)(hN:Hid (∀ x ∈ L,x.1.tk.ok x.2=true/\1<=x.1.sq/\x.1.sq<=nx - 1/\0<=x.1.bo/\x.1.bo<=1099511627776))(hD:Hid (NdJ L)) :
  Calls Tryz.prog 51 #[.slice A n cap,.int .i64 nx] w fun e w'=>e = .returned (.bool true)/\Below w.heap.size w w':=by
 have KA:=Lib.hid (fun W (h:Hid (RdJ W A (jbs L)))=>ascJ_yes A n cap L W hn h (by omega) (Lib.hid fun i h0 h1=>List.pairwise_iff_getElem.1 hS.out i (i+1) h0 h1 (Nat.lt_succ_self i)))
 have KN:=Lib.hid (fun (x:Jl)(W:World)(h:KtOk W x.1.tk x.2)=>task_any x.1.nm x.1.qu x.1.pr x.1.a x.1.b x.1.c x.1.A x.1.n x.1.cp x.2 x.1.ap x.1.ga x.1.sz W (Nat.le_trans h.nm (by decide)) (Nat.le_trans h.qu (by decide)) (Lib.hid h.lb.len) (Lib.hid h.lb.rd) (Lib.hid h.lb.sz) h.lb.cap h.lb.cap2 (Nat.le_trans h.ap (by decide)) (Nat.le_trans h.ga (by decide)))
 have KW1:=Lib.hid (fun (u:Int) W=>within_any u 1 (nx - 1) W)
 have KW2:=Lib.hid (fun (u:Int) W=>within_any u 0 1099511627776 W)
 have KF:=Lib.hid (fun (s:ByteArray) (r:Int)(W:World)(h:RdJ W A (jbs L))(hs:Hid (fnd s 0 (jbs L)=r))=>find_any A n cap (jbs L) s W (by rw [jbs_length];exact hn) (by omega) (Lib.hid h) r hs)
 have hnn:¬ ((n:Int) > 48):=by omega
 go_enter Tryz.func51,Tryz.ntmps51
 go_wp2_with fail
 refine (KA.out _ hr).mono ?_;rintro e w1 ⟨rfl,hb1⟩
 go_wp2_with fail
 go_loopw [17] (fun s17 wr=>∃ k:Nat,k<=n/\s17 = .int .i64 k/\Below w.heap.size w wr) (fun s17 wr=>n - (intOf s17).toNat)
 case atStart=>exact ⟨0,Nat.zero_le _,rfl,hb1⟩
 case round=>
  clear hb1
  obtain ⟨k,hk,rfl,hb⟩:=hrel
  by_cases hlt:k<n
  ·have hlk:k<L.length:=by have:=hn.out;omega
   obtain ⟨g,o,hA2,hg,hm⟩:=(hr.out.later hb).at (i:=k) (by simpa [jbs] using hlk)
   rw [jbs_at hlk] at hm
   obtain ⟨x,hx⟩:∃ x,x=L[k]:=⟨_,rfl⟩
   rw [<- hx] at hm
   have HMt:=Lib.hid hm
   have HXo:Hid (KtOk w x.1.tk x.2):=by rw [hx];exact hLo.out.at hlk
   have hxn:=hN.out x (by rw [hx];exact List.getElem_mem hlk)
   have HOK:Hid (taskB x.1.nm x.1.qu x.1.pr x.1.a x.1.b x.1.c x.2 x.1.ap x.1.ga x.1.sz=true):=hxn.1
   have HU1:Hid ((decide ((1:Int)<=x.1.sq) && decide (x.1.sq<=nx - 1))=true):=by show _=true;simp [hxn.2.1,hxn.2.2.1]
   have HU2:Hid ((decide ((0:Int)<=x.1.bo) && decide (x.1.bo<=1099511627776))=true):=by show _=true;simp [hxn.2.2.2.1,hxn.2.2.2.2]
   have HFK:Hid (fnd x.1.nm 0 (jbs L)=(k:Int)):=plJ_is hD.out hlk (by rw [hx])
   have HWN:Hid (IntKind.i64.wrap (nx - 1)=nx - 1):=by show _=_;rw [IntKind.wrap_i64];omega
   subst hA2
   have hkk:(k:Int)<(n:Int):=Int.ofNat_lt.2 hlt
   clear hm hx hxn
   go_wp2_with (first | (with_reducible refine load_rg rfl 66 _ rfl g (o+k * 13) rfl x.1.arr _ HMt.out.rg Tryz.underlying66 rfl (by kernel_rfl) ?_) | ((with_reducible refine store_bk rfl 66 (.tmp 6) (.tmp 21) rfl wr.heap.size 0 x.1.arr rfl rfl 66 _ x.1.arr (Bk.fresh _ _ _) (by kernel_rfl) (by simp) (by kernel_rfl) rfl ?_);intro w2 hB2 hg2 hs2;have HX:=Lib.hid hB2;have hb2:Below w.heap.size w w2:=hb.trans (((Below.refl _ _).alloc (Nat.le_refl _) _).grown hg2 (by simp) (by intro k hk;injection hk with hk;omega) |>.mono hb.size);clear hB2 hg2 hs2;refine haltR ?_))
   obtain ⟨p,hp⟩:∃ p,p=wr.heap.size:=⟨_,rfl⟩
   rw [<- hp] at HX ⊢
   refine Lib.hid ?_
   clear hp
   have cq:w2.cell? ⟨p,10,none⟩=some (.int .i64 x.1.sq):=HX.out.cellAt 10
   have HND:Hid (w2.rangeAt p 0 x.1.tk.arr.toList):=rangeSub (n:=10) (HX.out.range (Part.whole _)) rfl
   go_wp2_with (with_reducible refine load_rg rfl 47 _ rfl p 0 rfl x.1.tk.arr _ HND.out Tryz.underlying47 rfl (by kernel_rfl) ?_)
   refine (KN.out x _ (HXo.out.later hb2)).mono ?_;rintro e w3 ⟨rfl,hb3⟩
   rw [HOK.out]
   have hb23:Below w.heap.size w w3:=hb2.trans (hb3.mono hb2.size)
   have cq3:w3.cell? ⟨p,10,none⟩=some (.int .i64 x.1.sq):=(HX.out.later hb3).cellAt 10
   have cb3:w3.cell? ⟨p,12,none⟩=some (.int .i64 x.1.bo):=(HX.out.later hb3).cellAt 12
   have cn3:w3.cell? ⟨p,0,none⟩=some (.string x.1.nm):=(HX.out.later hb3).cellAt 0
   clear cq hb3
   go_wp2_with fail
   try rw [HWN.out]
   refine (KW1.out _ _).mono ?_;rintro e w4 ⟨rfl,rfl⟩
   rw [HU1.out]
   go_wp2_with fail
   refine (KW2.out _ _).mono ?_;rintro e w5 ⟨rfl,rfl⟩
   rw [HU2.out]
   go_wp2_with fail
   refine (KF.out _ _ _ (hr.out.later hb23) HFK).mono ?_;rintro e w6 ⟨rfl,hb6⟩
   have hb26:Below w.heap.size w w6:=hb23.trans (hb6.mono hb23.size)
   clear hb6 cq3 cb3 cn3
   go_wp2_with fail
   go_round
   case rel=>exact ⟨k+1,hlt,by go_num,hb26⟩
   case measure=>simp [intOf];omega
  ·go_wp2_with fail
   go_ret
   exact ⟨rfl,hb⟩
theorem rangeSub1 {w:World}{g n:Nat}{cs ds:List Value}(h:w.rangeAt g 0 cs)(e:(cs.drop 1).take n=ds):w.rangeAt g 1 ds:=by
 have:=range_part h 1 n
 rw [e] at this;exact this


theorem quo_yes (A:Option Addr) (n cap:Nat)(J:List Jl)(B:Option Addr) (m cap2:Nat)(Q:List Qx)(w:World)(hn:Hid (n=J.length))(hr:Hid (RdJ w A (jbs J)))(hm:Hid (m=Q.length))(hq:Hid (RdQ w B Q))(hbig:n<=48)(hbig2:m<=8)(hA:Hid (AscK (keyQ Q)))(hqu:Hid (∀ x ∈ J,hasK x.1.qu (keyQ Q)=true))
  (hu:Hid (∀ q ∈ Q,(usdJ q.1 J).2.2.2=0/\fB (usdJ q.1 J).1 (usdJ q.1 J).2.1 (usdJ q.1 J).2.2.1 q.2.1 q.2.2.1 q.2.2.2=true)) :
  Calls Tryz.prog 52 #[.slice A n cap,.slice B m cap2] w fun e w'=>e = .returned (.bool true)/\Below w.heap.size w w':=by
 have KF:=Lib.hid (fun (s:ByteArray)(W:World)(h:Hid (RdQ W B Q))=>findQ_any B m cap2 Q s W hm h (by omega) hA)
 have KU:=Lib.hid (fun (s:ByteArray) (x y z v:Int)(W:World)(h:RdJ W A (jbs J))(hs:Hid (sm 0 0 0 (ofQ s (jbs J))=(x,y,z,v)))=>used_any A n cap (jbs J) s W (by rw [jbs_length];exact hn) (by omega) (Lib.hid h) x y z v hs)
 have KT:=Lib.hid (fun a b c d e f W=>fits_any a b c d e f W)
 go_enter Tryz.func52,Tryz.ntmps52
 go_wp2_with fail
 go_loopw [15] (fun s15 wr=>∃ k:Nat,k<=n/\s15 = .int .i64 k/\Below w.heap.size w wr) (fun s15 wr=>n - (intOf s15).toNat)
 case atStart=>exact ⟨0,Nat.zero_le _,rfl,Below.refl _ _⟩
 case round=>
  obtain ⟨k,hk,rfl,hb⟩:=hrel
  by_cases hlt:k<n
  ·have hlk:k<J.length:=by have:=hn.out;omega
   obtain ⟨g,o,hA2,hg,hmm⟩:=(hr.out.later hb).at (i:=k) (by simpa [jbs] using hlk)
   rw [jbs_at hlk] at hmm
   obtain ⟨x,hx⟩:∃ x,x=J[k]:=⟨_,rfl⟩
   rw [<- hx] at hmm
   have HMt:=Lib.hid hmm
   have HQU:Hid (hasK x.1.qu (keyQ Q)=true):=hqu.out x (by rw [hx];exact List.getElem_mem hlk)
   subst hA2
   have hkk:(k:Int)<(n:Int):=Int.ofNat_lt.2 hlt
   clear hmm hx
   go_wp2_with (first | (with_reducible refine load_rg rfl 66 _ rfl g (o+k * 13) rfl x.1.arr _ HMt.out.rg Tryz.underlying66 rfl (by kernel_rfl) ?_) | ((with_reducible refine store_bk rfl 66 (.tmp 6) (.tmp 18) rfl wr.heap.size 0 x.1.arr rfl rfl 66 _ x.1.arr (Bk.fresh _ _ _) (by kernel_rfl) (by simp) (by kernel_rfl) rfl ?_);intro w2 hB2 hg2 hs2;have HX:=Lib.hid hB2;have hb2:Below w.heap.size w w2:=hb.trans (((Below.refl _ _).alloc (Nat.le_refl _) _).grown hg2 (by simp) (by intro k hk;injection hk with hk;omega) |>.mono hb.size);clear hB2 hg2 hs2;refine haltR ?_))
   obtain ⟨p,hp⟩:∃ p,p=wr.heap.size:=⟨_,rfl⟩
   rw [<- hp] at HX ⊢
   refine Lib.hid ?_
   clear hp
   have c1:w2.cell? ⟨p,1,none⟩=some (.string x.1.qu):=HX.out.cellAt 1
   go_wp2_with fail
   refine (KF.out x.1.qu _ (hq.out.later hb2)).mono ?_;rintro e w3 ⟨rfl,hb3⟩
   rw [show hasK x.1.qu (Q.map fun q=>q.1)=true from HQU.out]
   have hb23:Below w.heap.size w w3:=hb2.trans (hb3.mono hb2.size)
   clear c1 hb3
   go_wp2_with fail
   go_round
   case rel=>exact ⟨k+1,hlt,by go_num,hb23⟩
   case measure=>simp [intOf];omega
  ·go_wp2_with fail
   go_loopw [32] (fun s32 wr=>∃ k:Nat,k<=m/\s32 = .int .i64 k/\Below w.heap.size w wr) (fun s32 wr=>m - (intOf s32).toNat)
   case atStart=>exact ⟨0,Nat.zero_le _,rfl,hb⟩
   case round=>
    clear hb hlt hk
    obtain ⟨k,hk,rfl,hb⟩:=hrel
    by_cases hlt:k<m
    ·have hlk:k<Q.length:=by have:=hm.out;omega
     obtain ⟨g,o,hA2,hg,hmm⟩:=(hq.out.later hb).at (i:=k) hlk
     obtain ⟨x,hx⟩:∃ x,x=Q[k]:=⟨_,rfl⟩
     rw [<- hx] at hmm
     have HMt:=Lib.hid hmm
     have hux:=hu.out x (by rw [hx];exact List.getElem_mem hlk)
     obtain ⟨a,b,c,v,hua⟩:∃ a b c v,usdJ x.1 J=(a,b,c,v):=⟨_,_,_,_,rfl⟩
     rw [hua] at hux
     simp only at hux
     obtain ⟨rfl,hfb⟩:=hux
     have HUA:Hid (sm 0 0 0 (ofQ x.1 (jbs J))=(a,b,c,0)):=hua
     have HFB:=Lib.hid hfb
     subst hA2
     have hkk:(k:Int)<(m:Int):=Int.ofNat_lt.2 hlt
     clear hmm hx hua hfb
     go_wp2_with (first | (with_reducible refine load_rg rfl 45 _ rfl g (o+k * 4) rfl x.arr _ HMt.out.rg Tryz.underlying45 rfl (by kernel_rfl) ?_) | ((with_reducible refine store_bk rfl 45 (.tmp 10) (.tmp 35) rfl wr.heap.size 0 x.arr rfl rfl 45 _ x.arr (Bk.fresh _ _ _) (by kernel_rfl) (by simp) (by kernel_rfl) rfl ?_);intro w2 hB2 hg2 hs2;have HX:=Lib.hid hB2;have hb2:Below w.heap.size w w2:=hb.trans (((Below.refl _ _).alloc (Nat.le_refl _) _).grown hg2 (by simp) (by intro k hk;injection hk with hk;omega) |>.mono hb.size);clear hB2 hg2 hs2;refine haltR ?_))
     obtain ⟨p,hp⟩:∃ p,p=wr.heap.size:=⟨_,rfl⟩
     rw [<- hp] at HX ⊢
     refine Lib.hid ?_
     clear hp
     have c0:w2.cell? ⟨p,0,none⟩=some (.string x.1):=HX.out.cellAt 0
     go_wp2_with fail
     refine (KU.out x.1 a b c 0 _ (hr.out.later hb2) HUA).mono ?_;rintro e w3 ⟨rfl,hb3⟩
     have hb23:Below w.heap.size w w3:=hb2.trans (hb3.mono hb2.size)
     have HX3:=Lib.hid (HX.out.later hb3)
     clear c0 hb3
     go_wp2_with (first | ((with_reducible refine store_bk rfl 40 (.tmp 11) (.tmp 41) rfl w3.heap.size 0 #[.int .i64 a,.int .i64 b,.int .i64 c] rfl rfl 40 _ #[.int .i64 a,.int .i64 b,.int .i64 c] (Bk.fresh _ _ _) (by kernel_rfl) (by simp) (by kernel_rfl) rfl ?_);intro w4 hB4 hg4 hs4;have HB4:=Lib.hid hB4;have hb34:Below w3.heap.size w3 w4:=((Below.refl _ _).alloc (Nat.le_refl _) _).grown hg4 (by simp) (by intro k hk;injection hk with hk;omega);have HQ4:Hid (w4.rangeAt p 1 [.int .i64 x.2.1,.int .i64 x.2.2.1,.int .i64 x.2.2.2]):=rangeSub1 (n:=3) ((HX3.out.later hb34).range (Part.whole _)) rfl;clear hB4 hg4 hs4) | (with_reducible refine load_bk rfl 40 _ rfl w3.heap.size 0 rfl 40 #[.int .i64 a,.int .i64 b,.int .i64 c] #[.int .i64 a,.int .i64 b,.int .i64 c] _ HB4.out (Part.whole _) Tryz.underlying40 rfl (by kernel_rfl) ?_) | (with_reducible refine load_rg rfl 40 _ rfl p 1 rfl #[.int .i64 x.2.1,.int .i64 x.2.2.1,.int .i64 x.2.2.2] _ HQ4.out Tryz.underlying40 rfl (by kernel_rfl) ?_))
     refine (KT.out a b c x.2.1 x.2.2.1 x.2.2.2 _).mono ?_;rintro e w5 ⟨rfl,hb5⟩
     rw [HFB.out]
     have hb25:Below w.heap.size w w5:=hb23.trans ((hb34.trans (hb5.mono hb34.size)).mono hb23.size)
     clear hb5
     go_wp2_with fail
     go_round
     case rel=>exact ⟨k+1,hlt,by go_num,hb25⟩
     case measure=>simp [intOf];omega
    ·go_wp2_with fail
     go_ret
     exact ⟨rfl,hb⟩

theorem idxS_no (A:Option Addr) (n c:Nat)(l:List ByteArray)(s:ByteArray)(w:World)(hn:Hid (n=l.length))(hbig:n<=1000)(hr:Hid (RdS w A l))(hno:Hid (∀ x ∈ l,sE s x=false)) :
  Calls Tryz.prog 173 #[.slice A n c,.string s] w fun e w'=>e = .returned (.int .i64 (-1))/\Below w.heap.size w w':=by
 go_enter Tryz.func173,Tryz.ntmps173
 go_wp2_with fail
 go_loopw [8] (fun s8 wr=>∃ k:Nat,k<=n/\s8 = .int .i64 k/\Below w.heap.size w wr) (fun s8 wr=>n - (intOf s8).toNat)
 case atStart=>exact ⟨0,Nat.zero_le _,rfl,Below.refl _ _⟩
 case round=>
  obtain ⟨k,hk,rfl,hb⟩:=hrel
  by_cases hlt:k<n
  ·have hlk:k<l.length:=by have:=hn.out;omega
   obtain ⟨g,o,hA2,hg,hc⟩:=(hr.out.later hb).at hlk
   have hE:(s.toList == l[k].toList)=false:=hno.out _ (List.getElem_mem hlk)
   obtain ⟨x,hx⟩:∃ x,x=l[k]:=⟨_,rfl⟩
   rw [<- hx] at hc hE
   subst hA2
   have hkk:(k:Int)<(n:Int):=Int.ofNat_lt.2 hlt
   clear hx
   go_wp2_with fail
   go_round
   case rel=>exact ⟨k+1,hlt,by go_num,hb⟩
   case measure=>simp [intOf];omega
  ·go_wp2_with fail
   go_ret
   exact ⟨rfl,hb⟩

theorem contS_no (A:Option Addr) (n c:Nat)(l:List ByteArray)(s:ByteArray)(w:World)(hn:Hid (n=l.length))(hbig:n<=1000)(hr:Hid (RdS w A l))(hno:Hid (∀ x ∈ l,sE s x=false)) :
  Calls Tryz.prog 141 #[.slice A n c,.string s] w fun e w'=>e = .returned (.bool false)/\Below w.heap.size w w':=by
 have K:=Lib.hid (idxS_no A n c l s w hn hbig hr hno)
 go_enter Tryz.func141,Tryz.ntmps141
 go_wp2_with fail
 refine K.out.mono ?_;rintro e w1 ⟨rfl,hb1⟩
 go_wp2_with fail
 go_ret
 exact ⟨rfl,hb1⟩
def aps (s:ByteArray)(J:List Jl):List ByteArray:=(J.filter fun x=>sE x.1.nd s && !decide (x.1.ap.size=0)).map fun x=>x.1.ap
theorem aps_yes {s:ByteArray}{J:List Jl}{k:Nat}(h:k<J.length)(h1:sE J[k].1.nd s=true)(h2:J[k].1.ap.size ≠ 0):aps s (J.take (k+1))=aps s (J.take k) ++ [J[k].1.ap]:=by
 have hc:(sE J[k].1.nd s && !decide (J[k].1.ap.size=0))=true:=by rw [h1,decide_eq_false h2];rfl
 unfold aps;rw [List.take_succ_eq_append_getElem h,List.filter_append,List.map_append]
 simp only [List.filter_cons,hc,if_true,List.filter_nil,List.map_cons,List.map_nil]
theorem aps_no {s:ByteArray}{J:List Jl}{k:Nat}(h:k<J.length)(h1:sE J[k].1.nd s=false ∨ J[k].1.ap.size=0):aps s (J.take (k+1))=aps s (J.take k):=by
 have hc:(sE J[k].1.nd s && !decide (J[k].1.ap.size=0))=false:=by
  rcases h1 with h1 | h1
  ·rw [h1];rfl
  ·rw [decide_eq_true h1];cases sE J[k].1.nd s <;> rfl
 unfold aps;rw [List.take_succ_eq_append_getElem h,List.filter_append,List.map_append]
 simp only [List.filter_cons,hc,Bool.false_eq_true,if_false,List.filter_nil,List.map_nil,List.append_nil]
theorem aps_len (s:ByteArray)(J:List Jl):(aps s J).length<=J.length:=by unfold aps;rw [List.length_map];exact List.length_filter_le _ _
theorem aps_new {s:ByteArray}{J:List Jl}{k:Nat}(hs:s.size ≠ 0)(h:k<J.length)(hp:J.Pairwise Apt)(h1:J[k].1.nd=s):∀ a ∈ aps s (J.take k),sE J[k].1.ap a=false:=fun a ha=>by
 unfold aps at ha
 obtain ⟨x,hx,rfl⟩:=List.mem_map.1 ha
 rw [List.mem_filter,Bool.and_eq_true] at hx
 obtain ⟨i,hi,rfl⟩:=List.getElem_of_mem hx.1
 rw [List.length_take] at hi
 rw [List.getElem_take] at hx ⊢
 have hA:=List.pairwise_iff_getElem.1 hp i k (by omega) h (by omega)
 have e1:=sE_iff.1 hx.2.1
 cases hc:sE J[k].1.ap J[i].1.ap with
 | false=>rfl
 | true=>
  have h2:J[i].1.ap.size ≠ 0:=by simpa using hx.2.2
  exact absurd (sE_iff.1 hc).symm (hA (by rw [e1];exact hs) (by rw [e1,h1]) h2)


theorem bears_yes (m:Ml)(A:Option Addr) (n cap:Nat)(J:List Jl)(w:World)(hm:Hid (McOk w m.1 m.2))(hn:Hid (n=J.length))(hr:Hid (RdJ w A (jbs J)))(hLo:Hid (JsOk w J))(hbig:n<=48)(hs:Hid (m.1.nm.size ≠ 0))(hf:Hid ((freM m.1 (jbs J)).2.2.2=0))(hl:Hid (∀ x ∈ J,x.1.nd=m.1.nm->hasB m.2 x.2=true))(hp:Hid (J.Pairwise Apt)) :
  Calls Tryz.prog 103 #[.agg m.1.arr,.slice A n cap] w fun e w'=>e = .returned (.bool true)/\Below w.heap.size w w':=by
 obtain ⟨fa,fb,fc,fe,hfe⟩:∃ a b c e,freM m.1 (jbs J)=(a,b,c,e):=⟨_,_,_,_,rfl⟩
 have hf0:=hf.out
 rw [hfe] at hf0
 simp only at hf0
 subst hf0
 have KF:=Lib.hid (fun (W:World)(h:RdJ W A (jbs J))=>freeM_any m.1 A n cap (jbs J) W (by rw [jbs_length];exact hn) (by omega) (Lib.hid h) fa fb fc 0 (Lib.hid hfe))
 have KH:=Lib.hid (fun (x:Jl)(W:World)(h1:McOk W m.1 m.2)(h2:KtOk W x.1.tk x.2)=>has_any m.1.A x.1.A m.1.n m.1.cp x.1.n x.1.cp m.2 x.2 W (Lib.hid h1.lb.len) (Lib.hid h2.lb.len) (Lib.hid h1.lb.rd) (Lib.hid h2.lb.rd) h1.lb.cap h1.lb.cap2 h2.lb.cap h2.lb.cap2)
 have KC:=Lib.hid (fun (B:Option Addr) (q c:Nat)(l:List ByteArray)(s:ByteArray)(W:World)(h1:q=l.length)(h2:q<=1000)(h3:RdS W B l)(h4:Hid (∀ x ∈ l,sE s x=false))=>contS_no B q c l s W (Lib.hid h1) h2 (Lib.hid h3) h4)
 have HM0:Hid (Bk (w.alloc (.cells m.1.arr 60)) w.heap.size 60 m.1.arr):=Bk.fresh _ _ _
 have hb0:Below w.heap.size w (w.alloc (.cells m.1.arr 60)):=(Below.refl _ _).alloc (Nat.le_refl _) _
 clear hfe
 go_enter Tryz.func103,Tryz.ntmps103
 go_wp2_with (with_reducible refine load_bk rfl 60 _ rfl w.heap.size 0 rfl 60 m.1.arr m.1.arr _ HM0.out (Part.whole _) Tryz.underlying60 rfl (by kernel_rfl) ?_)
 refine (KF.out _ (hr.out.later hb0)).mono ?_;rintro e w1 ⟨rfl,hb1⟩
 have hB1:Below w.heap.size w w1:=hb0.trans (hb1.mono hb0.size)
 have HM1:=Lib.hid (HM0.out.later hb1)
 clear HM0 hb0 hb1
 go_wp2_with (first | ((with_reducible refine store_bk rfl 40 (.tmp 5) (.tmp 15) rfl w1.heap.size 0 #[.int .i64 fa,.int .i64 fb,.int .i64 fc] rfl rfl 40 _ #[.int .i64 fa,.int .i64 fb,.int .i64 fc] (Bk.fresh _ _ _) (by kernel_rfl) (by simp) (by kernel_rfl) rfl ?_);intro w2 hB2 hg2 hs2;have hb12:Below w1.heap.size w1 w2:=((Below.refl _ _).alloc (Nat.le_refl _) _).grown hg2 (by simp) (by intro k hk;injection hk with hk;omega);clear hB2 hg2 hs2))
 have hB2:Below w.heap.size w w2:=hB1.trans (hb12.mono hB1.size)
 have HM2:=Lib.hid (HM1.out.later hb12)
 clear HM1 hb12 hB1
 go_loopw [7,21] (fun s7 s21 wr=>∃ k:Nat,k<=n/\s21 = .int .i64 k/\Hid (OwnK wr (w.heap.size+1) 9 1 s7 (cellsS (aps m.1.nm (J.take k))))/\Hid (Bk wr w.heap.size 60 m.1.arr)/\Below w.heap.size w wr) (fun s7 s21 wr=>n - (intOf s21).toNat)
 case atStart=>exact ⟨0,Nat.zero_le _,rfl,(show OwnK _ _ _ _ _ (cellsS (aps m.1.nm (J.take 0))) from OwnK.nil _ _ _ _),HM2,hB2⟩
 case round=>
  clear HM2 hB2
  obtain ⟨k,hk,rfl,HO,HMb,hb⟩:=hrel
  by_cases hlt:k<n
  ·have hlk:k<J.length:=by have:=hn.out;omega
   obtain ⟨g,o,hA2,hg,hmm⟩:=(hr.out.later hb).at (i:=k) (by simpa [jbs] using hlk)
   rw [jbs_at hlk] at hmm
   obtain ⟨x,hx⟩:∃ x,x=J[k]:=⟨_,rfl⟩
   rw [<- hx] at hmm
   have HMt:=Lib.hid hmm
   have HXo:Hid (KtOk w x.1.tk x.2):=by rw [hx];exact hLo.out.at hlk
   have HLL:Hid (x.1.nd=m.1.nm->hasB m.2 x.2=true):=hl.out x (by rw [hx];exact List.getElem_mem hlk)
   have HNW:Hid (x.1.nd=m.1.nm -> ∀ a ∈ aps m.1.nm (J.take k),sE x.1.ap a=false):=fun e=>by rw [hx] at e ⊢;exact aps_new hs.out hlk hp.out e
   have HYS:Hid (sE x.1.nd m.1.nm=true->x.1.ap.size ≠ 0->aps m.1.nm (J.take (k+1))=aps m.1.nm (J.take k) ++ [x.1.ap]):=fun h1 h2=>by rw [hx] at h1 h2 ⊢;exact aps_yes hlk h1 h2
   have HNO:Hid (sE x.1.nd m.1.nm=false ∨ x.1.ap.size=0->aps m.1.nm (J.take (k+1))=aps m.1.nm (J.take k)):=fun h1=>by rw [hx] at h1;exact aps_no hlk h1
   have HAL:Hid ((aps m.1.nm (J.take k)).length<=48):=by show _<=_;have:=aps_len m.1.nm (J.take k);rw [List.length_take] at this;omega
   have HLB:Hid (w.heap.size<wr.heap.size):=HMb.out.here
   subst hA2
   have hkk:(k:Int)<(n:Int):=Int.ofNat_lt.2 hlt
   clear hmm hx
   go_wp2_with (first | (with_reducible refine load_rg rfl 66 _ rfl g (o+k * 13) rfl x.1.arr _ HMt.out.rg Tryz.underlying66 rfl (by kernel_rfl) ?_) | ((with_reducible refine store_bk rfl 66 (.tmp 9) (.tmp 24) rfl wr.heap.size 0 x.1.arr rfl rfl 66 _ x.1.arr (Bk.fresh _ _ _) (by kernel_rfl) (by simp) (by kernel_rfl) rfl ?_);intro w2 hB2 hg2 hs2;have HX:=Lib.hid hB2;have hb2:Below w.heap.size w w2:=hb.trans (((Below.refl _ _).alloc (Nat.le_refl _) _).grown hg2 (by simp) (by intro k hk;injection hk with hk;omega) |>.mono hb.size);have HBW:Hid (Below wr.heap.size wr w2):=((Below.refl _ _).alloc (Nat.le_refl _) _).grown hg2 (by simp) (by intro k hk;injection hk with hk;omega);clear hB2 hg2 hs2;refine haltR ?_))
   obtain ⟨p,hp⟩:∃ p,p=wr.heap.size:=⟨_,rfl⟩
   rw [<- hp] at HX ⊢
   refine Lib.hid ?_
   clear hp
   -- behind it
   have hb22:Below wr.heap.size wr w2:=HBW.out
   have HO2:=Lib.hid (HO.out.below hb22)
   have HM3:=Lib.hid (HMb.out.later hb22)
   clear HO HMb hb22 HBW
   have c11:w2.cell? ⟨p,11,none⟩=some (.string x.1.nd):=HX.out.cellAt 11
   have c0:w2.cell? ⟨w.heap.size,0,none⟩=some (.string m.1.nm):=HM3.out.cellAt 0
   cases hE:sE x.1.nd m.1.nm
   case false=>
    have hE':(x.1.nd.toList == m.1.nm.toList)=false:=hE
    have HO3:Hid (OwnK w2 (w.heap.size+1) 9 1 u7 (cellsS (aps m.1.nm (J.take (k+1))))):=by rw [HNO.out (.inl hE)];exact HO2.out
    clear hE HO2
    go_wp2_with fail
    go_round
    case rel=>exact ⟨k+1,hlt,by go_num,HO3,HM3,hb2⟩
    case measure=>simp [intOf];omega
   case true=>
    have hE':(x.1.nd.toList == m.1.nm.toList)=true:=hE
    have HEQ:Hid (x.1.nd=m.1.nm):=sE_iff.1 hE
    have HHB:Hid (hasB m.2 x.2=true):=HLL.out HEQ.out
    have c4:w2.cell? ⟨w.heap.size,4,none⟩=some (.slice m.1.A m.1.n m.1.cp):=HM3.out.cellAt 4
    have c6:w2.cell? ⟨p,6,none⟩=some (.slice x.1.A x.1.n x.1.cp):=HX.out.cellAt 6
    go_wp2_with fail
    refine (KH.out x _ (hm.out.later hb2) (HXo.out.later hb2)).mono ?_;rintro e w3 ⟨rfl,hb3⟩
    rw [HHB.out]
    have HO3:=Lib.hid (HO2.out.below hb3)
    have HM4:=Lib.hid (HM3.out.later hb3)
    have hb23:Below w.heap.size w w3:=hb2.trans (hb3.mono hb2.size)
    have c7:w3.cell? ⟨p,7,none⟩=some (.string x.1.ap):=(HX.out.later hb3).cellAt 7
    have HSY:Hid (sE x.1.nd m.1.nm=true):=hE
    clear c11 c0 c4 c6 HO2 HM3 hb3 hE' hE
    obtain ⟨ap,hap⟩:∃ ap,ap=x.1.ap:=⟨_,rfl⟩
    rw [<- hap] at c7 HNW HYS HNO
    by_cases hw:ap.size=0
    ·have HO4:Hid (OwnK w3 (w.heap.size+1) 9 1 u7 (cellsS (aps m.1.nm (J.take (k+1))))):=by rw [HNO.out (.inr hw)];exact HO3.out
     obtain rfl:=empty_of hw
     clear hap hw HO3
     go_wp2_with fail
     go_round
     case rel=>exact ⟨k+1,hlt,by go_num,HO4,HM4,hb23⟩
     case measure=>simp [intOf];omega
    ·have hfu:=full_of hw
     have HAP:Hid (aps m.1.nm (J.take (k+1))=aps m.1.nm (J.take k) ++ [ap]):=HYS.out HSY.out hw
     obtain ⟨B,c5,hSl⟩:=HO3.out.sl
     have hv:=hSl.val
     rw [cellsS_length] at hv
     obtain ⟨qn,hqn⟩:∃ q,q=(aps m.1.nm (J.take k)).length:=⟨_,rfl⟩
     rw [<- hqn] at hv HAL
     have HQN:=Lib.hid hqn
     have HRS:Hid (RdS w3 B (aps m.1.nm (J.take k))):=hSl.rd
     subst hv
     clear hSl hqn hap
     go_wp2_with fail
     refine (KC.out B qn c5 _ ap _ HQN.out (Nat.le_trans HAL.out (by decide)) HRS.out (HNW.out HEQ.out)).mono ?_;rintro e w4 ⟨rfl,hb4⟩
     have HO4:=Lib.hid (HO3.out.below hb4)
     have HM5:=Lib.hid (HM4.out.later hb4)
     have hb24:Below w.heap.size w w4:=hb23.trans (hb4.mono hb23.size)
     have HL4:Hid (w.heap.size+1<=w4.heap.size):=HM5.out.here
     have HF1:Hid ((cellsS (aps m.1.nm (J.take k))).length+(cellsS [ap]).length<=maxLen/\((cellsS (aps m.1.nm (J.take k))).length+(cellsS [ap]).length) * 16<=140737488355328):=by
      show _/\_
      rw [cellsS_length,cellsS_length,<- HQN.out]
      have:=HAL.out
      exact ⟨by simp only [maxLen,List.length_singleton];omega,by rw [List.length_singleton];omega⟩
     clear HO3 HM4 hb4 c7
     go_wp2_with ((with_reducible refine append_k _ rfl (.tmp 47) (.tmp 49) 67 rfl (w.heap.size+1) 9 _ 1 16 Tryz.underlying67 infoS rfl (by decide) (.slice B qn c5) (cellsS (aps m.1.nm (J.take k))) rfl (HO4.out.alloc _) ⟨w4.heap.size,0,none⟩ 1 1 (cellsS [ap]) rfl (fresh_k w4 1 _ _ rfl) (by simp [cellsS]) (by simp [cellsS,Value.oneCell']) (by simp [cellsS]) HF1.out.1 HF1.out.2 (Nat.le_trans HL4.out ((Below.refl _ _).alloc (Nat.le_refl _) _).size) ?_);intro v9 w9 hO9 hg9;have HO9:=Lib.hid hO9;have HG9:=Lib.hid hg9;clear hO9 hg9)
     go_round
     case rel=>exact ⟨k+1,hlt,by go_num,(by rw [HAP.out];have h9:=HO9.out;simp only [cellsS,List.map_append] at h9 ⊢;exact h9),(HM5.out.later ((Below.refl _ _).alloc (Nat.le_refl _) _)).stays HG9.out (fun e=>by have:=HO4.out.block _ e.symm;omega),(hb24.alloc hb24.size _).grown HG9.out (by have:=hb24.size;simp;omega) (fun g e=>by have:=HO4.out.block _ e;omega)⟩
     case measure=>simp [intOf];omega
  ·go_wp2_with fail
   go_ret
   exact ⟨rfl,hb⟩


theorem hom_yes (A:Option Addr) (n cap:Nat)(J:List Jl)(B:Option Addr) (m cap2:Nat)(M:List Ml)(w:World)(hn:Hid (n=J.length))(hr:Hid (RdJ w A (jbs J)))(hLo:Hid (JsOk w J))(hbig:n<=48)(hm:Hid (m=M.length))(hq:Hid (RdM w B (mcs M)))(hMo:Hid (MsOk w M))(hbig2:m<=16)(hcap:m<=cap2/\cap2<=9223372036854775807)(hA:Hid (AscK (keyM M)))
  (hhm:Hid (∀ x ∈ J,x.1.nd.size ≠ 0->1<=x.1.bo /\ ∃ y ∈ M,y.1.nm=x.1.nd/\y.1.up=true))(hs:Hid (NeM M))(hf:Hid (∀ y ∈ M,(freM y.1 (jbs J)).2.2.2=0))(hl:Hid (∀ y ∈ M,∀ x ∈ J,x.1.nd=y.1.nm->hasB y.2 x.2=true))(hp:Hid (J.Pairwise Apt)) :
  Calls Tryz.prog 53 #[.slice A n cap,.slice B m cap2] w fun e w'=>e = .returned (.bool true)/\Below w.heap.size w w':=by
 have KF:=Lib.hid (fun (s:ByteArray)(W:World)(h:Hid (RdM W B (mcs M)))=>findM_any B m cap2 M s W hm h (by omega) hA)
 have KW:=Lib.hid (fun (x:Jl)(W:World)=>waits_any x.1 W)
 have KB:=Lib.hid (fun (y:Ml)(hy:y ∈ M)(W:World)(h1:McOk W y.1 y.2)(h2:RdJ W A (jbs J))(h3:JsOk W J)=>bears_yes y A n cap J W (Lib.hid h1) hn (Lib.hid h2) (Lib.hid h3) hbig (Lib.hid (hs.out y hy)) (Lib.hid (hf.out y hy)) (Lib.hid (hl.out y hy)) hp)
 have hcap1:=hcap.1
 have hcap2:=hcap.2
 clear hcap
 go_enter Tryz.func53,Tryz.ntmps53
 go_wp2_with fail
 go_loopw [13] (fun s13 wr=>∃ k:Nat,k<=n/\s13 = .int .i64 k/\Below w.heap.size w wr) (fun s13 wr=>n - (intOf s13).toNat)
 case atStart=>exact ⟨0,Nat.zero_le _,rfl,Below.refl _ _⟩
 case round=>
  obtain ⟨k,hk,rfl,hb⟩:=hrel
  by_cases hlt:k<n
  ·have hlk:k<J.length:=by have:=hn.out;omega
   obtain ⟨g,o,hA2,hg,hmm⟩:=(hr.out.later hb).at (i:=k) (by simpa [jbs] using hlk)
   rw [jbs_at hlk] at hmm
   obtain ⟨x,hx⟩:∃ x,x=J[k]:=⟨_,rfl⟩
   rw [<- hx] at hmm
   have HMt:=Lib.hid hmm
   have HHM:Hid (x.1.nd.size ≠ 0->1<=x.1.bo /\ ∃ y ∈ M,y.1.nm=x.1.nd/\y.1.up=true):=hhm.out x (by rw [hx];exact List.getElem_mem hlk)
   subst hA2
   have hkk:(k:Int)<(n:Int):=Int.ofNat_lt.2 hlt
   clear hmm hx
   go_wp2_with (first | (with_reducible refine load_rg rfl 66 _ rfl g (o+k * 13) rfl x.1.arr _ HMt.out.rg Tryz.underlying66 rfl (by kernel_rfl) ?_) | ((with_reducible refine store_bk rfl 66 (.tmp 6) (.tmp 16) rfl wr.heap.size 0 x.1.arr rfl rfl 66 _ x.1.arr (Bk.fresh _ _ _) (by kernel_rfl) (by simp) (by kernel_rfl) rfl ?_);intro w2 hB2 hg2 hs2;have HX:=Lib.hid hB2;have hb2:Below w.heap.size w w2:=hb.trans (((Below.refl _ _).alloc (Nat.le_refl _) _).grown hg2 (by simp) (by intro k hk;injection hk with hk;omega) |>.mono hb.size);clear hB2 hg2 hs2;refine haltR ?_))
   obtain ⟨p,hp⟩:∃ p,p=wr.heap.size:=⟨_,rfl⟩
   rw [<- hp] at HX ⊢
   refine Lib.hid ?_
   clear hp
   go_wp2_with (with_reducible refine load_bk rfl 66 _ rfl p 0 rfl 66 x.1.arr x.1.arr _ HX.out (Part.whole _) Tryz.underlying66 rfl (by kernel_rfl) ?_)
   refine (KW.out x _).mono ?_;rintro e w3 ⟨rfl,hb3⟩
   have hb23:Below w.heap.size w w3:=hb2.trans (hb3.mono hb2.size)
   have HX3:=Lib.hid (HX.out.later hb3)
   clear hb3 HX
   by_cases hw:x.1.nd.size=0
   ·rw [show wB x.1.nd=true from decide_eq_true hw]
    clear hw
    go_wp2_with fail
    go_round
    case rel=>exact ⟨k+1,hlt,by go_num,hb23⟩
    case measure=>simp [intOf];omega
   ·rw [show wB x.1.nd=false from decide_eq_false hw]
    obtain ⟨hbo,y,hy,hyn,hup⟩:=HHM.out hw
    have hh:hasK x.1.nd (keyM M)=true:=hasM_iff.2 ⟨y,hy,hyn⟩
    obtain ⟨hl1,hl2⟩:=atM_key hA.out hh
    have hye:M[lbK x.1.nd (keyM M)]=y:=(show NdM M from nodup_of hA.out).one (List.getElem_mem hl1) hy (hl2.trans hyn.symm)
    have HHK:=Lib.hid hh
    obtain ⟨q,hq2⟩:∃ q,q=lbK x.1.nd (keyM M):=⟨_,rfl⟩
    have hqm:q<m:=by rw [hq2,hm.out];exact hl1
    have hqi:(q:Int)<(m:Int):=Int.ofNat_lt.2 hqm
    obtain ⟨g2,o2,hB2,hg2,hm2⟩:=(hq.out.later hb23).at (i:=lbK x.1.nd (keyM M)) (by simpa [mcs] using hl1)
    rw [mcs_at hl1,hye,<- hq2] at hm2
    have HM2:Hid (∀ W,Below w3.heap.size w3 W->W.cell? ⟨g2,o2+q * 7+5,none⟩=some (.bool true)):=fun W hW=>by
     have:=range_keep hm2.rg hW 5 (.bool y.1.up) rfl
     rw [hup] at this;exact this
    have HQ2:=Lib.hid hq2
    subst hB2
    have c11:w3.cell? ⟨p,11,none⟩=some (.string x.1.nd):=HX3.out.cellAt 11
    clear hw hh hl1 hl2 hye hy hyn hup hm2 hq2
    go_wp2_with fail
    refine (KF.out x.1.nd _ (hq.out.later hb23)).mono ?_;rintro e w4 ⟨rfl,hb4⟩
    rw [show hasK x.1.nd (M.map fun q=>q.1.nm)=true from HHK.out,show lbK x.1.nd (M.map fun q=>q.1.nm)=q from HQ2.out.symm]
    have cup:w4.cell? ⟨g2,o2+q * 7+5,none⟩=some (.bool true):=HM2.out w4 hb4
    have hb24:Below w.heap.size w w4:=hb23.trans (hb4.mono hb23.size)
    have cbo:w4.cell? ⟨p,12,none⟩=some (.int .i64 x.1.bo):=(HX3.out.later hb4).cellAt 12
    have hbo2:¬ (x.1.bo<1):=Int.not_lt.2 hbo
    have hg24:g2<w4.heap.size:=World.block_lt_of_cell? w4 _ cup
    clear c11 hb4 hbo
    go_wp2_with fail
    go_round
    case rel=>exact ⟨k+1,hlt,by go_num,hb24⟩
    case measure=>simp [intOf];omega
  ·go_wp2_with fail
   go_loopw [44] (fun s44 wr=>∃ k:Nat,k<=m/\s44 = .int .i64 k/\Below w.heap.size w wr) (fun s44 wr=>m - (intOf s44).toNat)
   case atStart=>exact ⟨0,Nat.zero_le _,rfl,hb⟩
   case round=>
    clear hb hlt hk
    obtain ⟨k,hk,rfl,hb⟩:=hrel
    by_cases hlt:k<m
    ·have hlk:k<M.length:=by have:=hm.out;omega
     obtain ⟨g,o,hA2,hg,hmm⟩:=(hq.out.later hb).at (i:=k) (by simpa [mcs] using hlk)
     rw [mcs_at hlk] at hmm
     obtain ⟨x,hx⟩:∃ x,x=M[k]:=⟨_,rfl⟩
     rw [<- hx] at hmm
     have HMt:=Lib.hid hmm
     have HXM:Hid (x ∈ M):=by rw [hx];exact List.getElem_mem hlk
     subst hA2
     have hkk:(k:Int)<(m:Int):=Int.ofNat_lt.2 hlt
     clear hmm hx
     go_wp2_with (first | (with_reducible refine load_rg rfl 60 _ rfl g (o+k * 7) rfl x.1.arr _ HMt.out.rg Tryz.underlying60 rfl (by kernel_rfl) ?_) | ((with_reducible refine store_bk rfl 60 (.tmp 10) (.tmp 47) rfl wr.heap.size 0 x.1.arr rfl rfl 60 _ x.1.arr (Bk.fresh _ _ _) (by kernel_rfl) (by simp) (by kernel_rfl) rfl ?_);intro w2 hB2 hg2 hs2;have HX:=Lib.hid hB2;have hb2:Below w.heap.size w w2:=hb.trans (((Below.refl _ _).alloc (Nat.le_refl _) _).grown hg2 (by simp) (by intro k hk;injection hk with hk;omega) |>.mono hb.size);clear hB2 hg2 hs2;refine haltR ?_))
     obtain ⟨p,hp⟩:∃ p,p=wr.heap.size:=⟨_,rfl⟩
     rw [<- hp] at HX ⊢
     refine Lib.hid ?_
     clear hp
     go_wp2_with (with_reducible refine load_bk rfl 60 _ rfl p 0 rfl 60 x.1.arr x.1.arr _ HX.out (Part.whole _) Tryz.underlying60 rfl (by kernel_rfl) ?_)
     refine (KB.out x HXM.out _ ((hMo.out x HXM.out).later hb2) (hr.out.later hb2) (hLo.out.later hb2)).mono ?_;rintro e w3 ⟨rfl,hb3⟩
     have hb23:Below w.heap.size w w3:=hb2.trans (hb3.mono hb2.size)
     clear hb3
     go_wp2_with fail
     go_round
     case rel=>exact ⟨k+1,hlt,by go_num,hb23⟩
     case measure=>simp [intOf];omega
    ·go_wp2_with fail
     go_ret
     exact ⟨rfl,hb⟩


theorem right_yes (v:Sv)(S:Sg) (m:Int)(w:World)(hS:Hid (RdSt w v S))(hI:Hid (In2 m S))(hm:m<=1099511627776)(hR:Hid (Rg S)):Calls Tryz.prog 23 #[.agg v.arr] w fun e w'=>e = .returned (.bool true)/\Below w.heap.size w w':=by
 obtain ⟨ck,nx,A,N,cA,B,K0,cB,C,n,cC⟩:=v
 have hck:ck=S.ck:=hS.out.ck
 have hnx:nx=S.nx:=hS.out.nx
 have HN:Hid (N=S.M.length):=hS.out.N
 have HK:Hid (K0=S.Q.length):=hS.out.K
 have Hn:Hid (n=S.J.length):=hS.out.n
 have hNb:N<=16:=by rw [HN.out];exact hI.out.M
 have hKb:K0<=8:=by rw [HK.out];exact hI.out.Q
 have hnb:n<=48:=by rw [Hn.out];exact hI.out.J
 have hA1:N<=cA:=hS.out.cA
 have hA2:cA<=9223372036854775807:=hS.out.cA2
 have hB1:K0<=cB:=hS.out.cB
 have hB2:cB<=9223372036854775807:=hS.out.cB2
 have hC1:n<=cC:=hS.out.cC
 have hC2:cC<=9223372036854775807:=hS.out.cC2
 have HRM:Hid (RdM w A (mcs S.M)):=hS.out.M
 have HRQ:Hid (RdQ w B S.Q):=hS.out.Q
 have HRJ:Hid (RdJ w C (jbs S.J)):=hS.out.J
 have hck1:=hI.out.ck
 have hnx1:=hI.out.nx
 rw [<- hck] at hck1
 rw [<- hnx] at hnx1
 have K1:=Lib.hid (fun W=>within_any ck 0 1073741824 W)
 have K2:=Lib.hid (fun W=>within_any nx 1 1073741824 W)
 have HW1:Hid ((decide ((0:Int)<=ck) && decide (ck<=1073741824))=true):=by show _=true;simp [hck1.1,hck1.2]
 have HW2:Hid ((decide ((1:Int)<=nx) && decide (nx<=1073741824))=true):=by show _=true;simp [hnx1.1,hnx1.2]
 have K3:=Lib.hid (fun (W:World)(hb:Below w.heap.size w W)=>areM_yes A N cA S.M W HN (Lib.hid (HRM.out.later hb)) (Lib.hid fun x hx=>(hS.out.oM x hx).later hb) hNb (Lib.hid hI.out.aM) (Lib.hid hR.out.mN))
 have K4:=Lib.hid (fun (W:World)(hb:Below w.heap.size w W)=>areQ_yes B K0 cB S.Q W HK (Lib.hid (HRQ.out.later hb)) (Lib.hid hS.out.oQ) hKb (Lib.hid hI.out.aQ) (Lib.hid hR.out.qN))
 have K5:=Lib.hid (fun (W:World)(hb:Below w.heap.size w W)=>areJ_yes C n cC S.J nx W Hn (Lib.hid (HRJ.out.later hb)) (Lib.hid fun x hx=>(hS.out.oJ x hx).later hb) hnb (Lib.hid hR.out.j.sq) hnx1 (Lib.hid fun x hx=>by
  have h1:=hR.out.j.tk x hx
  have h2:=(hI.out.bo x hx).2
  exact ⟨h1.1,h1.2.1,by rw [hnx];exact h1.2.2.1,h1.2.2.2,by omega⟩) (Lib.hid hR.out.j.nd))
 have K6:=Lib.hid (fun (W:World)(hb:Below w.heap.size w W)=>quo_yes C n cC S.J B K0 cB S.Q W Hn (Lib.hid (HRJ.out.later hb)) HK (Lib.hid (HRQ.out.later hb)) hnb hKb (Lib.hid hI.out.aQ) (Lib.hid hR.out.j.qu) (Lib.hid hR.out.used))
 have K7:=Lib.hid (fun (W:World)(hb:Below w.heap.size w W)=>hom_yes C n cC S.J A N cA S.M W Hn (Lib.hid (HRJ.out.later hb)) (Lib.hid fun x hx=>(hS.out.oJ x hx).later hb) hnb HN (Lib.hid (HRM.out.later hb)) (Lib.hid fun x hx=>(hS.out.oM x hx).later hb) hNb ⟨hA1,hA2⟩ (Lib.hid hI.out.aM) (Lib.hid hR.out.j.hm) (Lib.hid hR.out.neM) (Lib.hid hR.out.free) (Lib.hid fun y hy=>(hR.out.j.be y hy).2) (Lib.hid hR.out.j.ap))
 have HB0:Hid (Bk (w.alloc (.cells (⟨ck,nx,A,N,cA,B,K0,cB,C,n,cC⟩:Sv).arr 31)) w.heap.size 31 (⟨ck,nx,A,N,cA,B,K0,cB,C,n,cC⟩:Sv).arr):=Bk.fresh _ _ _
 have hb0:Below w.heap.size w (w.alloc (.cells (⟨ck,nx,A,N,cA,B,K0,cB,C,n,cC⟩:Sv).arr 31)):=(Below.refl _ _).alloc (Nat.le_refl _) _
 have d0:=HB0.out.cellAt 0
 have d1:=HB0.out.cellAt 1
 have d2:=HB0.out.cellAt 2
 clear hck hnx hck1 hnx1 hS hI hR HRM HRQ HRJ hm
 go_enter Tryz.func23,Tryz.ntmps23
 go_wp2_with fail
 refine (K1.out _).mono ?_;rintro e w1 ⟨rfl,rfl⟩
 rw [HW1.out]
 go_wp2_with fail
 refine (K2.out _).mono ?_;rintro e w2 ⟨rfl,rfl⟩
 rw [HW2.out]
 go_wp2_with fail
 refine (K3.out _ hb0).mono ?_;rintro e w3 ⟨rfl,hb3⟩
 have HB3:=Lib.hid (HB0.out.later hb3)
 have hbb3:Below w.heap.size w w3:=hb0.trans (hb3.mono hb0.size)
 have e3:w3.cell? ⟨w.heap.size,3,none⟩=some (.slice B K0 cB):=HB3.out.cellAt 3
 clear hb3 d0 d1 d2 hb0 HB0
 go_wp2_with fail
 refine (K4.out _ hbb3).mono ?_;rintro e w4 ⟨rfl,hb4⟩
 have HB4:=Lib.hid (HB3.out.later hb4)
 have hbb4:Below w.heap.size w w4:=hbb3.trans (hb4.mono hbb3.size)
 have f1:w4.cell? ⟨w.heap.size,1,none⟩=some (.int .i64 nx):=HB4.out.cellAt 1
 have f4:w4.cell? ⟨w.heap.size,4,none⟩=some (.slice C n cC):=HB4.out.cellAt 4
 clear hb4 e3 hbb3 HB3
 go_wp2_with fail
 refine (K5.out _ hbb4).mono ?_;rintro e w5 ⟨rfl,hb5⟩
 have HB5:=Lib.hid (HB4.out.later hb5)
 have hbb5:Below w.heap.size w w5:=hbb4.trans (hb5.mono hbb4.size)
 have g3:w5.cell? ⟨w.heap.size,3,none⟩=some (.slice B K0 cB):=HB5.out.cellAt 3
 have g4:w5.cell? ⟨w.heap.size,4,none⟩=some (.slice C n cC):=HB5.out.cellAt 4
 clear hb5 f1 f4 hbb4 HB4
 go_wp2_with fail
 refine (K6.out _ hbb5).mono ?_;rintro e w6 ⟨rfl,hb6⟩
 have HB6:=Lib.hid (HB5.out.later hb6)
 have hbb6:Below w.heap.size w w6:=hbb5.trans (hb6.mono hbb5.size)
 have i2:w6.cell? ⟨w.heap.size,2,none⟩=some (.slice A N cA):=HB6.out.cellAt 2
 have i4:w6.cell? ⟨w.heap.size,4,none⟩=some (.slice C n cC):=HB6.out.cellAt 4
 clear hb6 g3 g4 hbb5 HB5
 go_wp2_with fail
 refine (K7.out _ hbb6).mono ?_;rintro e w7 ⟨rfl,hb7⟩
 have hbb7:Below w.heap.size w w7:=hbb6.trans (hb7.mono hbb6.size)
 clear hb7 i2 i4 hbb6 HB6
 go_wp2_with fail
 go_ret
 exact ⟨rfl,hbb7⟩
end
section
open Go.RowKit
theorem onF_map {f:Jb->Int}{p:Jb->Bool}(hf:∀ j:Jb,f j.bare=f j)(hp:∀ j:Jb,p j.bare=p j):∀ J:List Jl,onF f p (bL J)=onF f p J
 | []=>rfl
 | x :: J=>by
  have ih:=onF_map hf hp J
  have e:tm f p (bY x)=tm f p x:=by unfold tm;rw [show (bY x).1=x.1.bare from rfl,hf,hp]
  show tm f p (bY x)+onF f p (bL J)=tm f p x+onF f p J
  rw [ih,e]
theorem Fit.map {p:Jb->Bool}(hp:∀ j:Jb,p j.bare=p j){J:List Jl}{a b c:Int}:Fit p (bL J) a b c ↔ Fit p J a b c:=by
 unfold Fit
 rw [onF_map (fun _=>rfl) hp,onF_map (fun _=>rfl) hp,onF_map (fun _=>rfl) hp]
theorem Rg.bared {S:Sg}:Rg S.bare ↔ Rg S:=by
 have mX:∀ {P:Ml->Prop},(∀ x ∈ bM S.M,P x) ↔ ∀ x ∈ S.M,P (bX x):=fun {P}=>⟨fun h x hx=>h _ (List.mem_map_of_mem hx),fun h x hx=>by obtain ⟨y,hy,rfl⟩:=List.mem_map.1 hx;exact h y hy⟩
 have mY:∀ {P:Jl->Prop},(∀ x ∈ bL S.J,P x) ↔ ∀ x ∈ S.J,P (bY x):=fun {P}=>⟨fun h x hx=>h _ (List.mem_map_of_mem hx),fun h x hx=>by obtain ⟨y,hy,rfl⟩:=List.mem_map.1 hx;exact h y hy⟩
 have nms:(bL S.J).map (fun x=>x.1.nm)=S.J.map fun x=>x.1.nm:=by rw [List.map_map];rfl
 constructor
 ·intro h
  have h1:=mX.1 h.mN
  refine ⟨h1,h.qN,⟨?_,mY.1 h.j.tk,?_,mY.1 h.j.qu,fun q hq=>(Fit.map fun _=>rfl).1 (h.j.us q hq),fun x hx hn=>?_,fun y hy=>?_,?_⟩⟩
  ·have h5:(S.J.map bY).Pairwise fun x y=>x.1.sq<y.1.sq:=h.j.sq
   have h6:=List.pairwise_map.1 h5
   exact h6
  ·have:=h.j.nd;unfold NdJ at this ⊢;rw [<- nms];exact this
  ·obtain ⟨a,y,hy,b,c⟩:=mY.1 h.j.hm x hx hn
   obtain ⟨z,hz,rfl⟩:=List.mem_map.1 hy
   exact ⟨a,z,hz,b,c⟩
  ·obtain ⟨a,b⟩:=mX.1 h.j.be y hy
   exact ⟨(Fit.map fun _=>rfl).1 a,mY.1 b⟩
  ·have h5:(S.J.map bY).Pairwise Apt:=h.j.ap
   have h6:=List.pairwise_map.1 h5
   exact h6
 ·intro h
  refine ⟨mX.2 h.mN,h.qN,⟨?_,mY.2 h.j.tk,?_,mY.2 h.j.qu,fun q hq=>(Fit.map fun _=>rfl).2 (h.j.us q hq),mY.2 fun x hx hn=>?_,mX.2 fun y hy=>?_,?_⟩⟩
  ·show (S.J.map bY).Pairwise fun x y=>x.1.sq<y.1.sq
   exact List.pairwise_map.2 h.j.sq
  ·have:=h.j.nd;unfold NdJ at this ⊢
   show ((bL S.J).map fun x=>x.1.nm).Nodup
   rw [nms];exact this
  ·obtain ⟨a,y,hy,b,c⟩:=h.j.hm x hx hn
   exact ⟨a,bX y,List.mem_map_of_mem hy,b,c⟩
  ·obtain ⟨a,b⟩:=h.j.be y hy
   exact ⟨(Fit.map fun _=>rfl).2 a,mY.2 b⟩
  ·show (S.J.map bY).Pairwise Apt
   exact List.pairwise_map.2 h.j.ap
theorem Rg.alike {S T:Sg}(h:Rg S)(e:T.bare=S.bare):Rg T:=Rg.bared.1 (by rw [e];exact Rg.bared.2 h)
theorem gx_told {b g:Nat}{F:Nat->Prop}{m:Int}{S:Sg}{w:World}(hG:Gx w b g F S)(hI:In2 m S) :
  Calls Tryz.prog 20 #[.pointer (some ⟨g,0,none⟩)] w fun e w'=>RetT1 w.heap.size w' e S/\Below w.heap.size w w':=by
 refine (gx_state b g F m S w hG hI).mono ?_
 rintro e w' ⟨⟨uM,uQ,uJ,S',rfl,hO,hbr⟩,-,hb⟩
 obtain ⟨⟨ck,nx,A,N,cA,B,K,cB,C,n,cC⟩,hva,hvr⟩:=hO.rd
 have hv1:.slice A N cA=uM:=congrArg (fun a:Array Value=>a.getD 2 undef) hva
 have hv2:.slice B K cB=uQ:=congrArg (fun a:Array Value=>a.getD 3 undef) hva
 have hv3:.slice C n cC=uJ:=congrArg (fun a:Array Value=>a.getD 4 undef) hva
 subst hv1 hv2 hv3
 have hck:S.ck=S'.ck:=(congrArg Sg.ck hbr:S'.bare.ck=S.bare.ck).symm
 have hnx:S.nx=S'.nx:=(congrArg Sg.nx hbr:S'.bare.nx=S.bare.nx).symm
 exact ⟨⟨⟨S.ck,S.nx,A,N,cA,B,K,cB,C,n,cC⟩,S',rfl,hO,hO.rdOf hck hnx,hbr,hck,hnx⟩,hb⟩
end
end Go.Proofs.YtccccbofcnmdiaaGreat
