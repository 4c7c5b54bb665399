/- Lemmas that the law stands on. No condition. -/
import Derived.Test.YtccccbofcnmdiaaGreatM20
namespace Go.Proofs.YtccccbofcnmdiaaGreat
set_option linter.unusedSimpArgs false
set_option linter.unusedVariables false
set_option maxRecDepth 100000
set_option maxHeartbeats 51200000
section
open Go.RowKit
def adm (nm:ByteArray) (a b c d e f x y z v:Int):Int:=
 if queueB nm a b c && rB d e f then (if v=0 then (if fB (x+d) (y+e) (z+f) a b c then 0 else 9) else v) else 1
section
variable {nm:ByteArray} {a b c d e f x y z v:Int}
theorem adm_q (h:queueB nm a b c=false):adm nm a b c d e f x y z v=1:=by unfold adm;rw [h];rfl
theorem adm_n (h:rB d e f=false):adm nm a b c d e f x y z v=1:=by unfold adm;rw [h,Bool.and_false];rfl
theorem adm_v (h:queueB nm a b c=true) (h2:rB d e f=true) (h3:v ≠ 0):adm nm a b c d e f x y z v=v:=by unfold adm;rw [h,h2,if_neg h3];rfl
theorem adm_0 (h:queueB nm a b c=true) (h2:rB d e f=true):adm nm a b c d e f x y z 0=if fB (x+d) (y+e) (z+f) a b c then 0 else 9:=by unfold adm;rw [h,h2,if_pos rfl];rfl
end
theorem fB_over {a b c x y z d e f:Int} (h1:rB x y z=true) (h2:rB d e f=true) (hq:rB a b c=true) (h:adB x y z d e f=false):fB (x+d) (y+e) (z+f) a b c=false:=by
 have k1:=rB_bd h1
 have k2:=rB_bd h2
 have k3:=rB_bd hq
 have h3:rB (x+d) (y+e) (z+f)=false:=by unfold adB at h;rw [h1,h2] at h;simpa using h
 refine decide_eq_false fun hc=>?_
 rw [rB_mk (by omega)] at h3
 cases h3
theorem queueB_r {nm:ByteArray} {a b c:Int} (h:queueB nm a b c=true):rB a b c=true:=by unfold queueB at h;rw [Bool.and_eq_true] at h;exact h.2

theorem admit_any (nm:ByteArray) (a b c:Int) (A:Option Addr) (n cap:Nat) (l:List Jb) (d e f:Int) (w:World) (hn:Hid (n=l.length)) (hl:n<=9223372036854775807) (hA:Hid (RdJ w A l)) (hnm:nm.size<=9223372036854775807) (x y z v:Int) (hs:Hid (sm 0 0 0 (ofQ nm l)=(x,y,z,v))) :
  Calls Tryz.prog 131 #[.agg #[.string nm,.int .i64 a,.int .i64 b,.int .i64 c],.slice A n cap,.agg #[.int .i64 d,.int .i64 e,.int .i64 f]] w fun r w'=>r = .returned (.int .i64 (adm nm a b c d e f x y z v))/\Below w.heap.size w w':=by
 have k1:=fun W=>queue_any nm a b c W hnm
 have k2:=fun W=>right_any d e f W
 cases c1:queueB nm a b c
 case false=>
  rw [adm_q c1]
  rw [c1] at k1
  have K1:=Lib.hid k1
  clear k1 k2 c1
  go_enter Tryz.func131,Tryz.ntmps131
  have hQ0:Bk ((w.alloc (.cells #[.string nm,.int .i64 a,.int .i64 b,.int .i64 c] 45)).alloc (.cells #[.int .i64 d,.int .i64 e,.int .i64 f] 40)) w.heap.size 45 #[.string nm,.int .i64 a,.int .i64 b,.int .i64 c]:=(Bk.fresh w _ _).later ((Below.refl _ _).alloc (Nat.le_refl _) _)
  have hN0:Bk ((w.alloc (.cells #[.string nm,.int .i64 a,.int .i64 b,.int .i64 c] 45)).alloc (.cells #[.int .i64 d,.int .i64 e,.int .i64 f] 40)) (w.heap.size+1) 40 #[.int .i64 d,.int .i64 e,.int .i64 f]:=Bk.freshAt _ _ _ (by simp)
  have HQ0:=Lib.hid hQ0;clear hQ0
  have HN0:=Lib.hid hN0;clear hN0
  have hb0:Below w.heap.size w ((w.alloc (.cells #[.string nm,.int .i64 a,.int .i64 b,.int .i64 c] 45)).alloc (.cells #[.int .i64 d,.int .i64 e,.int .i64 f] 40)):=((Below.refl _ _).alloc (Nat.le_refl _) _).alloc (by simp) _
  go_wp2_with ((with_reducible refine load_bk rfl 45 _ rfl w.heap.size 0 rfl 45 #[.string nm,.int .i64 a,.int .i64 b,.int .i64 c] #[.string nm,.int .i64 a,.int .i64 b,.int .i64 c] _ HQ0.out (Part.whole _) Tryz.underlying45 rfl (by kernel_rfl) ?_))
  refine (K1.out _).mono ?_;rintro r w1 ⟨rfl,hb1⟩
  go_wp2_with fail
  go_ret
  exact ⟨rfl,hb0.trans (hb1.mono hb0.size)⟩
 case true=>
  rw [c1] at k1
  have K1:=Lib.hid k1;clear k1
  cases c2:rB d e f
  case false=>
   rw [adm_n c2]
   rw [c2] at k2
   have K2:=Lib.hid k2;clear k2 c1 c2
   go_enter Tryz.func131,Tryz.ntmps131
   have hQ0:Bk ((w.alloc (.cells #[.string nm,.int .i64 a,.int .i64 b,.int .i64 c] 45)).alloc (.cells #[.int .i64 d,.int .i64 e,.int .i64 f] 40)) w.heap.size 45 #[.string nm,.int .i64 a,.int .i64 b,.int .i64 c]:=(Bk.fresh w _ _).later ((Below.refl _ _).alloc (Nat.le_refl _) _)
   have hN0:Bk ((w.alloc (.cells #[.string nm,.int .i64 a,.int .i64 b,.int .i64 c] 45)).alloc (.cells #[.int .i64 d,.int .i64 e,.int .i64 f] 40)) (w.heap.size+1) 40 #[.int .i64 d,.int .i64 e,.int .i64 f]:=Bk.freshAt _ _ _ (by simp)
   have HQ0:=Lib.hid hQ0;clear hQ0
   have HN0:=Lib.hid hN0;clear hN0
   have hb0:Below w.heap.size w ((w.alloc (.cells #[.string nm,.int .i64 a,.int .i64 b,.int .i64 c] 45)).alloc (.cells #[.int .i64 d,.int .i64 e,.int .i64 f] 40)):=((Below.refl _ _).alloc (Nat.le_refl _) _).alloc (by simp) _
   go_wp2_with ((with_reducible refine load_bk rfl 45 _ rfl w.heap.size 0 rfl 45 #[.string nm,.int .i64 a,.int .i64 b,.int .i64 c] #[.string nm,.int .i64 a,.int .i64 b,.int .i64 c] _ HQ0.out (Part.whole _) Tryz.underlying45 rfl (by kernel_rfl) ?_))
   refine (K1.out _).mono ?_;rintro r w1 ⟨rfl,hb1⟩
   have hB1:Below w.heap.size w w1:=hb0.trans (hb1.mono hb0.size)
   have HQ1:=Lib.hid (HQ0.out.later hb1);have HN1:=Lib.hid (HN0.out.later hb1);clear HQ0 HN0 hb0
   go_wp2_with ((with_reducible refine load_bk rfl 40 _ rfl (w.heap.size+1) 0 rfl 40 #[.int .i64 d,.int .i64 e,.int .i64 f] #[.int .i64 d,.int .i64 e,.int .i64 f] _ HN1.out (Part.whole _) Tryz.underlying40 rfl (by kernel_rfl) ?_))
   refine (K2.out _).mono ?_;rintro r w2 ⟨rfl,hb2⟩
   have hB2:Below w.heap.size w w2:=hB1.trans (hb2.mono hB1.size)
   have HQ2:=Lib.hid (HQ1.out.later hb2);have HN2:=Lib.hid (HN1.out.later hb2);clear HQ1 HN1
   go_wp2_with fail
   go_ret
   exact ⟨rfl,hB2⟩
  case true=>
   rw [c2] at k2
   have K2:=Lib.hid k2;clear k2
   have hqr:=queueB_r c1
   rcases sm_is (by decide) hs.out with ⟨rfl,hx⟩ | ⟨hv,rfl,rfl,rfl⟩
   case inr=>
    rw [adm_v c1 c2 (by omega)]
    clear c1 c2 hqr
    rcases hv with rfl | rfl
    all_goals
     go_enter Tryz.func131,Tryz.ntmps131
     have hQ0:Bk ((w.alloc (.cells #[.string nm,.int .i64 a,.int .i64 b,.int .i64 c] 45)).alloc (.cells #[.int .i64 d,.int .i64 e,.int .i64 f] 40)) w.heap.size 45 #[.string nm,.int .i64 a,.int .i64 b,.int .i64 c]:=(Bk.fresh w _ _).later ((Below.refl _ _).alloc (Nat.le_refl _) _)
     have hN0:Bk ((w.alloc (.cells #[.string nm,.int .i64 a,.int .i64 b,.int .i64 c] 45)).alloc (.cells #[.int .i64 d,.int .i64 e,.int .i64 f] 40)) (w.heap.size+1) 40 #[.int .i64 d,.int .i64 e,.int .i64 f]:=Bk.freshAt _ _ _ (by simp)
     have HQ0:=Lib.hid hQ0;clear hQ0
     have HN0:=Lib.hid hN0;clear hN0
     have hb0:Below w.heap.size w ((w.alloc (.cells #[.string nm,.int .i64 a,.int .i64 b,.int .i64 c] 45)).alloc (.cells #[.int .i64 d,.int .i64 e,.int .i64 f] 40)):=((Below.refl _ _).alloc (Nat.le_refl _) _).alloc (by simp) _
     go_wp2_with ((with_reducible refine load_bk rfl 45 _ rfl w.heap.size 0 rfl 45 #[.string nm,.int .i64 a,.int .i64 b,.int .i64 c] #[.string nm,.int .i64 a,.int .i64 b,.int .i64 c] _ HQ0.out (Part.whole _) Tryz.underlying45 rfl (by kernel_rfl) ?_))
     refine (K1.out _).mono ?_;rintro r w1 ⟨rfl,hb1⟩
     have hB1:Below w.heap.size w w1:=hb0.trans (hb1.mono hb0.size)
     have HQ1:=Lib.hid (HQ0.out.later hb1);have HN1:=Lib.hid (HN0.out.later hb1);clear HQ0 HN0 hb0
     go_wp2_with ((with_reducible refine load_bk rfl 40 _ rfl (w.heap.size+1) 0 rfl 40 #[.int .i64 d,.int .i64 e,.int .i64 f] #[.int .i64 d,.int .i64 e,.int .i64 f] _ HN1.out (Part.whole _) Tryz.underlying40 rfl (by kernel_rfl) ?_))
     refine (K2.out _).mono ?_;rintro r w2 ⟨rfl,hb2⟩
     have hB2:Below w.heap.size w w2:=hB1.trans (hb2.mono hB1.size)
     have HQ2:=Lib.hid (HQ1.out.later hb2);have HN2:=Lib.hid (HN1.out.later hb2);clear HQ1 HN1
     have H2A:=Lib.hid (hA.out.later hB2)
     have cnm:w2.cell? ⟨w.heap.size,0,none⟩=some (.string nm):=HQ2.out.cellAt 0
     have hsz2:w.heap.size<w2.heap.size:=HQ2.out.here
     go_wp2_with fail
     refine (used_any A n cap l nm _ hn hl H2A _ _ _ _ hs).mono ?_;rintro r w3 ⟨rfl,hb3⟩
     have hB3:Below w.heap.size w w3:=hB2.trans (hb3.mono hB2.size)
     have HQ3:=Lib.hid (HQ2.out.later hb3);have HN3:=Lib.hid (HN2.out.later hb3);clear HQ2 HN2 cnm H2A
     go_wp2_with (((with_reducible refine store_bk rfl 40 (.tmp 7) (.tmp 23) rfl w3.heap.size 0 #[.int .i64 0,.int .i64 0,.int .i64 0] rfl rfl 40 _ #[.int .i64 0,.int .i64 0,.int .i64 0] (Bk.fresh _ _ _) (by kernel_rfl) (by simp) (by kernel_rfl) rfl ?_);intro w4 hU4 hg4 hs4;have HU4:=Lib.hid hU4;clear hU4;have hB4:Below w.heap.size w w4:=grown_below (hB3.alloc hB3.size _) hg4 hB3.size;have HQ4:=Lib.hid ((HQ3.out.later ((Below.refl _ _).alloc (Nat.le_refl _) _)).stays hg4 (by have:=HQ3.out.here;simp;omega));have HN4:=Lib.hid ((HN3.out.later ((Below.refl _ _).alloc (Nat.le_refl _) _)).stays hg4 (by have:=HN3.out.here;simp;omega))))
     go_ret
     exact ⟨rfl,hB4⟩
   case inl=>
    rw [adm_0 c1 c2]
    cases ha:adB x y z d e f
    case false=>
     rw [fB_over hx c2 hqr ha]
     have H6:=Lib.hid (adE_over hx c2 ha)
     have HH:=Lib.hid ha
     clear c1 c2 hqr ha hx
     go_enter Tryz.func131,Tryz.ntmps131
     have hQ0:Bk ((w.alloc (.cells #[.string nm,.int .i64 a,.int .i64 b,.int .i64 c] 45)).alloc (.cells #[.int .i64 d,.int .i64 e,.int .i64 f] 40)) w.heap.size 45 #[.string nm,.int .i64 a,.int .i64 b,.int .i64 c]:=(Bk.fresh w _ _).later ((Below.refl _ _).alloc (Nat.le_refl _) _)
     have hN0:Bk ((w.alloc (.cells #[.string nm,.int .i64 a,.int .i64 b,.int .i64 c] 45)).alloc (.cells #[.int .i64 d,.int .i64 e,.int .i64 f] 40)) (w.heap.size+1) 40 #[.int .i64 d,.int .i64 e,.int .i64 f]:=Bk.freshAt _ _ _ (by simp)
     have HQ0:=Lib.hid hQ0;clear hQ0
     have HN0:=Lib.hid hN0;clear hN0
     have hb0:Below w.heap.size w ((w.alloc (.cells #[.string nm,.int .i64 a,.int .i64 b,.int .i64 c] 45)).alloc (.cells #[.int .i64 d,.int .i64 e,.int .i64 f] 40)):=((Below.refl _ _).alloc (Nat.le_refl _) _).alloc (by simp) _
     go_wp2_with ((with_reducible refine load_bk rfl 45 _ rfl w.heap.size 0 rfl 45 #[.string nm,.int .i64 a,.int .i64 b,.int .i64 c] #[.string nm,.int .i64 a,.int .i64 b,.int .i64 c] _ HQ0.out (Part.whole _) Tryz.underlying45 rfl (by kernel_rfl) ?_))
     refine (K1.out _).mono ?_;rintro r w1 ⟨rfl,hb1⟩
     have hB1:Below w.heap.size w w1:=hb0.trans (hb1.mono hb0.size)
     have HQ1:=Lib.hid (HQ0.out.later hb1);have HN1:=Lib.hid (HN0.out.later hb1);clear HQ0 HN0 hb0
     go_wp2_with ((with_reducible refine load_bk rfl 40 _ rfl (w.heap.size+1) 0 rfl 40 #[.int .i64 d,.int .i64 e,.int .i64 f] #[.int .i64 d,.int .i64 e,.int .i64 f] _ HN1.out (Part.whole _) Tryz.underlying40 rfl (by kernel_rfl) ?_))
     refine (K2.out _).mono ?_;rintro r w2 ⟨rfl,hb2⟩
     have hB2:Below w.heap.size w w2:=hB1.trans (hb2.mono hB1.size)
     have HQ2:=Lib.hid (HQ1.out.later hb2);have HN2:=Lib.hid (HN1.out.later hb2);clear HQ1 HN1
     have H2A:=Lib.hid (hA.out.later hB2)
     have cnm:w2.cell? ⟨w.heap.size,0,none⟩=some (.string nm):=HQ2.out.cellAt 0
     have hsz2:w.heap.size<w2.heap.size:=HQ2.out.here
     go_wp2_with fail
     refine (used_any A n cap l nm _ hn hl H2A _ _ _ _ hs).mono ?_;rintro r w3 ⟨rfl,hb3⟩
     have hB3:Below w.heap.size w w3:=hB2.trans (hb3.mono hB2.size)
     have HQ3:=Lib.hid (HQ2.out.later hb3);have HN3:=Lib.hid (HN2.out.later hb3);clear HQ2 HN2 cnm H2A
     go_wp2_with (first | ((with_reducible refine store_bk rfl 40 (.tmp 7) (.tmp 23) rfl w3.heap.size 0 #[.int .i64 x,.int .i64 y,.int .i64 z] rfl rfl 40 _ #[.int .i64 x,.int .i64 y,.int .i64 z] (Bk.fresh _ _ _) (by kernel_rfl) (by simp) (by kernel_rfl) rfl ?_);intro w4 hU4 hg4 hs4;have HU4:=Lib.hid hU4;clear hU4;have hB4:Below w.heap.size w w4:=grown_below (hB3.alloc hB3.size _) hg4 hB3.size;have HQ4:=Lib.hid ((HQ3.out.later ((Below.refl _ _).alloc (Nat.le_refl _) _)).stays hg4 (by have:=HQ3.out.here;simp;omega));have HN4:=Lib.hid ((HN3.out.later ((Below.refl _ _).alloc (Nat.le_refl _) _)).stays hg4 (by have:=HN3.out.here;simp;omega))) | (with_reducible refine load_bk rfl 40 _ rfl w3.heap.size 0 rfl 40 #[.int .i64 x,.int .i64 y,.int .i64 z] #[.int .i64 x,.int .i64 y,.int .i64 z] _ HU4.out (Part.whole _) Tryz.underlying40 rfl (by kernel_rfl) ?_) | (with_reducible refine load_bk rfl 40 _ rfl (w.heap.size+1) 0 rfl 40 #[.int .i64 d,.int .i64 e,.int .i64 f] #[.int .i64 d,.int .i64 e,.int .i64 f] _ HN4.out (Part.whole _) Tryz.underlying40 rfl (by kernel_rfl) ?_))
     refine (add_false HH.out H6.out _).mono ?_;rintro r w5 ⟨rfl,hb5⟩
     have hB5:Below w.heap.size w w5:=hB4.trans (hb5.mono hB4.size)
     go_wp2_with (((with_reducible refine store_bk rfl 40 (.tmp 9) (.tmp 32) rfl w5.heap.size 0 #[.int .i64 0,.int .i64 0,.int .i64 0] rfl rfl 40 _ #[.int .i64 0,.int .i64 0,.int .i64 0] (Bk.fresh _ _ _) (by kernel_rfl) (by simp) (by kernel_rfl) rfl ?_);intro w6 hU6 hg6 hs6;have HU6:=Lib.hid hU6;clear hU6;have hB6:Below w.heap.size w w6:=grown_below (hB5.alloc hB5.size _) hg6 hB5.size;have HQ6:=Lib.hid (((HQ4.out.later hb5).later ((Below.refl _ _).alloc (Nat.le_refl _) _)).stays hg6 (by have:=(HQ4.out.later hb5).here;simp;omega))))
     go_ret
     exact ⟨rfl,hB6⟩
    case true=>
     have HH:=Lib.hid ha
     clear c1 c2 hqr ha hx
     obtain ⟨F,hF⟩:∃ F,F=fB (x+d) (y+e) (z+f) a b c:=⟨_,rfl⟩
     rw [<- hF]
     have k3:=fun W=>fits_any (x+d) (y+e) (z+f) a b c W
     rw [<- hF] at k3
     have K3:=Lib.hid k3;clear k3 hF
     cases F
     ·go_enter Tryz.func131,Tryz.ntmps131
      have hQ0:Bk ((w.alloc (.cells #[.string nm,.int .i64 a,.int .i64 b,.int .i64 c] 45)).alloc (.cells #[.int .i64 d,.int .i64 e,.int .i64 f] 40)) w.heap.size 45 #[.string nm,.int .i64 a,.int .i64 b,.int .i64 c]:=(Bk.fresh w _ _).later ((Below.refl _ _).alloc (Nat.le_refl _) _)
      have hN0:Bk ((w.alloc (.cells #[.string nm,.int .i64 a,.int .i64 b,.int .i64 c] 45)).alloc (.cells #[.int .i64 d,.int .i64 e,.int .i64 f] 40)) (w.heap.size+1) 40 #[.int .i64 d,.int .i64 e,.int .i64 f]:=Bk.freshAt _ _ _ (by simp)
      have HQ0:=Lib.hid hQ0;clear hQ0
      have HN0:=Lib.hid hN0;clear hN0
      have hb0:Below w.heap.size w ((w.alloc (.cells #[.string nm,.int .i64 a,.int .i64 b,.int .i64 c] 45)).alloc (.cells #[.int .i64 d,.int .i64 e,.int .i64 f] 40)):=((Below.refl _ _).alloc (Nat.le_refl _) _).alloc (by simp) _
      go_wp2_with ((with_reducible refine load_bk rfl 45 _ rfl w.heap.size 0 rfl 45 #[.string nm,.int .i64 a,.int .i64 b,.int .i64 c] #[.string nm,.int .i64 a,.int .i64 b,.int .i64 c] _ HQ0.out (Part.whole _) Tryz.underlying45 rfl (by kernel_rfl) ?_))
      refine (K1.out _).mono ?_;rintro r w1 ⟨rfl,hb1⟩
      have hB1:Below w.heap.size w w1:=hb0.trans (hb1.mono hb0.size)
      have HQ1:=Lib.hid (HQ0.out.later hb1);have HN1:=Lib.hid (HN0.out.later hb1);clear HQ0 HN0 hb0
      go_wp2_with ((with_reducible refine load_bk rfl 40 _ rfl (w.heap.size+1) 0 rfl 40 #[.int .i64 d,.int .i64 e,.int .i64 f] #[.int .i64 d,.int .i64 e,.int .i64 f] _ HN1.out (Part.whole _) Tryz.underlying40 rfl (by kernel_rfl) ?_))
      refine (K2.out _).mono ?_;rintro r w2 ⟨rfl,hb2⟩
      have hB2:Below w.heap.size w w2:=hB1.trans (hb2.mono hB1.size)
      have HQ2:=Lib.hid (HQ1.out.later hb2);have HN2:=Lib.hid (HN1.out.later hb2);clear HQ1 HN1
      have H2A:=Lib.hid (hA.out.later hB2)
      have cnm:w2.cell? ⟨w.heap.size,0,none⟩=some (.string nm):=HQ2.out.cellAt 0
      have hsz2:w.heap.size<w2.heap.size:=HQ2.out.here
      go_wp2_with fail
      refine (used_any A n cap l nm _ hn hl H2A _ _ _ _ hs).mono ?_;rintro r w3 ⟨rfl,hb3⟩
      have hB3:Below w.heap.size w w3:=hB2.trans (hb3.mono hB2.size)
      have HQ3:=Lib.hid (HQ2.out.later hb3);have HN3:=Lib.hid (HN2.out.later hb3);clear HQ2 HN2 cnm H2A
      go_wp2_with (first | ((with_reducible refine store_bk rfl 40 (.tmp 7) (.tmp 23) rfl w3.heap.size 0 #[.int .i64 x,.int .i64 y,.int .i64 z] rfl rfl 40 _ #[.int .i64 x,.int .i64 y,.int .i64 z] (Bk.fresh _ _ _) (by kernel_rfl) (by simp) (by kernel_rfl) rfl ?_);intro w4 hU4 hg4 hs4;have HU4:=Lib.hid hU4;clear hU4;have hB4:Below w.heap.size w w4:=grown_below (hB3.alloc hB3.size _) hg4 hB3.size;have HQ4:=Lib.hid ((HQ3.out.later ((Below.refl _ _).alloc (Nat.le_refl _) _)).stays hg4 (by have:=HQ3.out.here;simp;omega));have HN4:=Lib.hid ((HN3.out.later ((Below.refl _ _).alloc (Nat.le_refl _) _)).stays hg4 (by have:=HN3.out.here;simp;omega))) | (with_reducible refine load_bk rfl 40 _ rfl w3.heap.size 0 rfl 40 #[.int .i64 x,.int .i64 y,.int .i64 z] #[.int .i64 x,.int .i64 y,.int .i64 z] _ HU4.out (Part.whole _) Tryz.underlying40 rfl (by kernel_rfl) ?_) | (with_reducible refine load_bk rfl 40 _ rfl (w.heap.size+1) 0 rfl 40 #[.int .i64 d,.int .i64 e,.int .i64 f] #[.int .i64 d,.int .i64 e,.int .i64 f] _ HN4.out (Part.whole _) Tryz.underlying40 rfl (by kernel_rfl) ?_))
      refine (add_true HH.out _).mono ?_;rintro r w5 ⟨rfl,hb5⟩
      have hB5:Below w.heap.size w w5:=hB4.trans (hb5.mono hB4.size)
      go_wp2_with (first | ((with_reducible refine store_bk rfl 40 (.tmp 9) (.tmp 32) rfl w5.heap.size 0 #[.int .i64 (x+d),.int .i64 (y+e),.int .i64 (z+f)] rfl rfl 40 _ #[.int .i64 (x+d),.int .i64 (y+e),.int .i64 (z+f)] (Bk.fresh _ _ _) (by kernel_rfl) (by simp) (by kernel_rfl) rfl ?_);intro w6 hU6 hg6 hs6;have HU6:=Lib.hid hU6;clear hU6;have hB6:Below w.heap.size w w6:=grown_below (hB5.alloc hB5.size _) hg6 hB5.size;have HQ6:=Lib.hid (((HQ4.out.later hb5).later ((Below.refl _ _).alloc (Nat.le_refl _) _)).stays hg6 (by have:=(HQ4.out.later hb5).here;simp;omega))) | (with_reducible refine load_bk rfl 40 _ rfl w5.heap.size 0 rfl 40 #[.int .i64 (x+d),.int .i64 (y+e),.int .i64 (z+f)] #[.int .i64 (x+d),.int .i64 (y+e),.int .i64 (z+f)] _ HU6.out (Part.whole _) Tryz.underlying40 rfl (by kernel_rfl) ?_) | (with_reducible refine load_bk rfl 40 _ rfl w.heap.size 1 rfl 45 #[.string nm,.int .i64 a,.int .i64 b,.int .i64 c] #[.int .i64 a,.int .i64 b,.int .i64 c] _ HQ6.out (Part.of rfl) Tryz.underlying40 rfl (by kernel_rfl) ?_))
      refine (K3.out _).mono ?_;rintro r w7 ⟨rfl,hb7⟩
      have hB7:Below w.heap.size w w7:=hB6.trans (hb7.mono hB6.size)
      go_wp2_with fail
      go_ret
      exact ⟨rfl,hB7⟩
     ·go_enter Tryz.func131,Tryz.ntmps131
      have hQ0:Bk ((w.alloc (.cells #[.string nm,.int .i64 a,.int .i64 b,.int .i64 c] 45)).alloc (.cells #[.int .i64 d,.int .i64 e,.int .i64 f] 40)) w.heap.size 45 #[.string nm,.int .i64 a,.int .i64 b,.int .i64 c]:=(Bk.fresh w _ _).later ((Below.refl _ _).alloc (Nat.le_refl _) _)
      have hN0:Bk ((w.alloc (.cells #[.string nm,.int .i64 a,.int .i64 b,.int .i64 c] 45)).alloc (.cells #[.int .i64 d,.int .i64 e,.int .i64 f] 40)) (w.heap.size+1) 40 #[.int .i64 d,.int .i64 e,.int .i64 f]:=Bk.freshAt _ _ _ (by simp)
      have HQ0:=Lib.hid hQ0;clear hQ0
      have HN0:=Lib.hid hN0;clear hN0
      have hb0:Below w.heap.size w ((w.alloc (.cells #[.string nm,.int .i64 a,.int .i64 b,.int .i64 c] 45)).alloc (.cells #[.int .i64 d,.int .i64 e,.int .i64 f] 40)):=((Below.refl _ _).alloc (Nat.le_refl _) _).alloc (by simp) _
      go_wp2_with ((with_reducible refine load_bk rfl 45 _ rfl w.heap.size 0 rfl 45 #[.string nm,.int .i64 a,.int .i64 b,.int .i64 c] #[.string nm,.int .i64 a,.int .i64 b,.int .i64 c] _ HQ0.out (Part.whole _) Tryz.underlying45 rfl (by kernel_rfl) ?_))
      refine (K1.out _).mono ?_;rintro r w1 ⟨rfl,hb1⟩
      have hB1:Below w.heap.size w w1:=hb0.trans (hb1.mono hb0.size)
      have HQ1:=Lib.hid (HQ0.out.later hb1);have HN1:=Lib.hid (HN0.out.later hb1);clear HQ0 HN0 hb0
      go_wp2_with ((with_reducible refine load_bk rfl 40 _ rfl (w.heap.size+1) 0 rfl 40 #[.int .i64 d,.int .i64 e,.int .i64 f] #[.int .i64 d,.int .i64 e,.int .i64 f] _ HN1.out (Part.whole _) Tryz.underlying40 rfl (by kernel_rfl) ?_))
      refine (K2.out _).mono ?_;rintro r w2 ⟨rfl,hb2⟩
      have hB2:Below w.heap.size w w2:=hB1.trans (hb2.mono hB1.size)
      have HQ2:=Lib.hid (HQ1.out.later hb2);have HN2:=Lib.hid (HN1.out.later hb2);clear HQ1 HN1
      have H2A:=Lib.hid (hA.out.later hB2)
      have cnm:w2.cell? ⟨w.heap.size,0,none⟩=some (.string nm):=HQ2.out.cellAt 0
      have hsz2:w.heap.size<w2.heap.size:=HQ2.out.here
      go_wp2_with fail
      refine (used_any A n cap l nm _ hn hl H2A _ _ _ _ hs).mono ?_;rintro r w3 ⟨rfl,hb3⟩
      have hB3:Below w.heap.size w w3:=hB2.trans (hb3.mono hB2.size)
      have HQ3:=Lib.hid (HQ2.out.later hb3);have HN3:=Lib.hid (HN2.out.later hb3);clear HQ2 HN2 cnm H2A
      go_wp2_with (first | ((with_reducible refine store_bk rfl 40 (.tmp 7) (.tmp 23) rfl w3.heap.size 0 #[.int .i64 x,.int .i64 y,.int .i64 z] rfl rfl 40 _ #[.int .i64 x,.int .i64 y,.int .i64 z] (Bk.fresh _ _ _) (by kernel_rfl) (by simp) (by kernel_rfl) rfl ?_);intro w4 hU4 hg4 hs4;have HU4:=Lib.hid hU4;clear hU4;have hB4:Below w.heap.size w w4:=grown_below (hB3.alloc hB3.size _) hg4 hB3.size;have HQ4:=Lib.hid ((HQ3.out.later ((Below.refl _ _).alloc (Nat.le_refl _) _)).stays hg4 (by have:=HQ3.out.here;simp;omega));have HN4:=Lib.hid ((HN3.out.later ((Below.refl _ _).alloc (Nat.le_refl _) _)).stays hg4 (by have:=HN3.out.here;simp;omega))) | (with_reducible refine load_bk rfl 40 _ rfl w3.heap.size 0 rfl 40 #[.int .i64 x,.int .i64 y,.int .i64 z] #[.int .i64 x,.int .i64 y,.int .i64 z] _ HU4.out (Part.whole _) Tryz.underlying40 rfl (by kernel_rfl) ?_) | (with_reducible refine load_bk rfl 40 _ rfl (w.heap.size+1) 0 rfl 40 #[.int .i64 d,.int .i64 e,.int .i64 f] #[.int .i64 d,.int .i64 e,.int .i64 f] _ HN4.out (Part.whole _) Tryz.underlying40 rfl (by kernel_rfl) ?_))
      refine (add_true HH.out _).mono ?_;rintro r w5 ⟨rfl,hb5⟩
      have hB5:Below w.heap.size w w5:=hB4.trans (hb5.mono hB4.size)
      go_wp2_with (first | ((with_reducible refine store_bk rfl 40 (.tmp 9) (.tmp 32) rfl w5.heap.size 0 #[.int .i64 (x+d),.int .i64 (y+e),.int .i64 (z+f)] rfl rfl 40 _ #[.int .i64 (x+d),.int .i64 (y+e),.int .i64 (z+f)] (Bk.fresh _ _ _) (by kernel_rfl) (by simp) (by kernel_rfl) rfl ?_);intro w6 hU6 hg6 hs6;have HU6:=Lib.hid hU6;clear hU6;have hB6:Below w.heap.size w w6:=grown_below (hB5.alloc hB5.size _) hg6 hB5.size;have HQ6:=Lib.hid (((HQ4.out.later hb5).later ((Below.refl _ _).alloc (Nat.le_refl _) _)).stays hg6 (by have:=(HQ4.out.later hb5).here;simp;omega))) | (with_reducible refine load_bk rfl 40 _ rfl w5.heap.size 0 rfl 40 #[.int .i64 (x+d),.int .i64 (y+e),.int .i64 (z+f)] #[.int .i64 (x+d),.int .i64 (y+e),.int .i64 (z+f)] _ HU6.out (Part.whole _) Tryz.underlying40 rfl (by kernel_rfl) ?_) | (with_reducible refine load_bk rfl 40 _ rfl w.heap.size 1 rfl 45 #[.string nm,.int .i64 a,.int .i64 b,.int .i64 c] #[.int .i64 a,.int .i64 b,.int .i64 c] _ HQ6.out (Part.of rfl) Tryz.underlying40 rfl (by kernel_rfl) ?_))
      refine (K3.out _).mono ?_;rintro r w7 ⟨rfl,hb7⟩
      have hB7:Below w.heap.size w w7:=hB6.trans (hb7.mono hB6.size)
      go_wp2_with fail
      go_ret
      exact ⟨rfl,hB7⟩
end
section
open Go.RowKit
def upX (ck:Int) (x:Ml):Ml:=({ x.1 with up:=true,un:=ck+4 },x.2)
def beatN (S:Sg) (s:ByteArray):Sg × An:=
 if hasK s (keyM S.M) then ({ S with M:=S.M.modify (lbK s (keyM S.M)) (upX S.ck) },0,[]) else (S,7,[])
def dropN' (S:Sg) (s:ByteArray):Sg × An:=
 if hasK s (keyM S.M) then ({ S with M:=S.M.eraseIdx (lbK s (keyM S.M)),J:=relJ s S.J },0,relA s S.J) else (S,7,[])
def hasJ (s:ByteArray) (J:List Jl):Bool:=J.any fun x=>sE x.1.qu s
def dropQ (S:Sg) (s:ByteArray):Sg × An:=
 if hasK s (keyQ S.Q) then (if hasJ s S.J then (S,11,[]) else ({ S with Q:=S.Q.eraseIdx (lbK s (keyQ S.Q)) },0,[])) else (S,7,[])
abbrev plJ (s:ByteArray) (J:List Jl):Int:=fnd s 0 (jbs J)
def noJ:Jl:=(⟨⟨#[]⟩,⟨#[]⟩,0,0,0,0,none,0,0,⟨#[]⟩,⟨#[]⟩,0,0,⟨#[]⟩,0⟩,[])
abbrev jl (J:List Jl) (p:Nat):Jl:=J.getD p noJ
abbrev ql (Q:List Qx) (p:Nat):Qx:=Q.getD p (⟨#[]⟩,0,0,0)
def canJ (S:Sg) (s:ByteArray):Sg × An:=
 if plJ s S.J<0 then (S,7,[]) else ({ S with J:=S.J.eraseIdx (plJ s S.J).toNat },0,if wB (jl S.J (plJ s S.J).toNat).1.nd then [] else [(3,(jl S.J (plJ s S.J).toNat).1.nm,(jl S.J (plJ s S.J).toNat).1.nd)])
def finJ (S:Sg) (s:ByteArray):Sg × An:=
 if plJ s S.J<0 then (S,7,[]) else if wB (jl S.J (plJ s S.J).toNat).1.nd then (S,12,[]) else ({ S with J:=S.J.eraseIdx (plJ s S.J).toNat },0,[])
def usdJ (s:ByteArray) (J:List Jl):Int × Int × Int × Int:=sm 0 0 0 (ofQ s (jbs J))
def admQ (q:Qx) (J:List Jl) (d e f:Int):Int:=adm q.1 q.2.1 q.2.2.1 q.2.2.2 d e f (usdJ q.1 J).1 (usdJ q.1 J).2.1 (usdJ q.1 J).2.2.1 (usdJ q.1 J).2.2.2
def newJ (nx:Int) (nm qu:ByteArray) (pr a b c:Int) (A:Option Addr) (n cp:Nat) (ap ga:ByteArray) (sz:Int) (l:List Lb):Jl:=(⟨nm,qu,pr,a,b,c,A,n,cp,ap,ga,sz,nx,⟨#[]⟩,0⟩,l)
def subJ (S:Sg) (nm qu:ByteArray) (pr a b c:Int) (ap ga:ByteArray) (sz:Int) (l:List Lb):Sg × An:=
 if 0<=plJ nm S.J then (S,8,[]) else if hasK qu (keyQ S.Q)=false then (S,7,[]) else if 48<=S.J.length then (S,10,[])
 else if admQ (ql S.Q (lbK qu (keyQ S.Q))) S.J a b c ≠ 0 then (S,admQ (ql S.Q (lbK qu (keyQ S.Q))) S.J a b c,[])
 else if 1073741824<=S.nx then (S,6,[]) else ({ S with J:=S.J ++ [newJ S.nx nm qu pr a b c none 0 0 ap ga sz l],nx:=S.nx+1 },0,[])
end
end Go.Proofs.YtccccbofcnmdiaaGreat
