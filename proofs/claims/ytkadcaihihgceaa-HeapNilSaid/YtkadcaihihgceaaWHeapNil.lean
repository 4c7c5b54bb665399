/- The walk of HeapNil. No condition beyond the form's own. -/
import Derived.Test.YtkadcaihihgceaaHaw
import Derived.Test.YtkadcaihihgceaaHra
namespace Go.Proofs.Ytkadcaihihgceaa
open Go.RowKit
set_option linter.unusedSimpArgs false
set_option linter.unusedVariables false
namespace heapNil
set_option maxHeartbeats 12800000 in
set_option maxRecDepth 100000 in
theorem walk (x : Px) (w : World) :
    Calls Try.prog 7 #[.agg #[.int .i64 x.1, .int .i64 x.2]] w fun r w' => r = .returned (.bool true) ∧ Below w.heap.size w w' := by
  have K1 := Lib.hid (fun W => awake16_any W)
  have K2 := Lib.hid (fun W => pushP_nil x W)
  have K3 := Lib.hid (fun W => popP_nil W)
  have K4 := Lib.hid (fun W => topP_nil W)
  have K5 := Lib.hid (fun W => lenP_nil W)
  have K6 := Lib.hid (fun W => sortedP_nil W)
  have K7 := Lib.hid (fun W => remP_nil 28 W)
  have k1 := eqlP_run
  have k2 := guardP_run
  obtain ⟨W0, hW0⟩ : ∃ W0, W0 = w.alloc (.cells #[.int .i64 x.1, .int .i64 x.2] 27) := ⟨_, rfl⟩
  have hb0 : Below w.heap.size w W0 := by rw [hW0]; exact (Below.refl _ _).alloc (Nat.le_refl _) _
  have HX0 : Hid (Bk W0 w.heap.size 27 #[.int .i64 x.1, .int .i64 x.2]) := by rw [hW0]; exact Bk.fresh _ _ _
  have HB0 := Lib.hid hb0
  clear hb0
  go_enter Try.func7, Try.ntmps7
  go_wp2_with fail
  rw [← hW0]
  clear hW0
  refine (K1.out _).mono ?_; rintro e w1 ⟨rfl, hb1⟩
  have HB1 := Lib.hid (HB0.out.trans (hb1.mono HB0.out.size))
  have HX1 := Lib.hid (HX0.out.later hb1)
  clear hb1 HB0 HX0
  go_wp2_with (with_reducible refine load_bk rfl 27 _ rfl w.heap.size 0 rfl 27 #[.int .i64 x.1, .int .i64 x.2] #[.int .i64 x.1, .int .i64 x.2] _ HX1.out (Part.whole _) Try.underlying27 rfl (by kernel_rfl) ?_)
  refine (K2.out _).mono ?_; rintro e w2 ⟨rfl, hb2⟩
  have HB2 := Lib.hid (HB1.out.trans (hb2.mono HB1.out.size))
  clear hb2 HB1 HX1
  go_wp2_with fail
  refine (K3.out _).mono ?_; rintro e w3 ⟨rfl, hb3⟩
  have HB3 := Lib.hid (HB2.out.trans (hb3.mono HB2.out.size))
  clear hb3 HB2
  obtain ⟨W3, hW3⟩ : ∃ W, W = w3.alloc (.cells #[.int .i64 0, .int .i64 0] 27) := ⟨_, rfl⟩
  have H3 : Hid (Bk W3 w3.heap.size 27 #[.int .i64 0, .int .i64 0]) := by rw [hW3]; exact Bk.fresh _ _ _
  have HB3' : Hid (Below w.heap.size w W3) := by rw [hW3]; exact HB3.out.alloc HB3.out.size _
  go_wp2_with fail
  rw [← hW3]
  clear hW3 HB3
  refine (K4.out _).mono ?_; rintro e w4 ⟨rfl, hb4⟩
  have HB4 := Lib.hid (HB3'.out.trans (hb4.mono HB3'.out.size))
  have H34 := Lib.hid (H3.out.later hb4)
  clear hb4 HB3' H3
  have c1 : w4.cell? ⟨w3.heap.size, 0, none⟩ = some (.int .i64 0) := H34.out.cellAt 0
  have c2 : w4.cell? ⟨w3.heap.size, 1, none⟩ = some (.int .i64 0) := H34.out.cellAt 1
  have hlt : w3.heap.size < w4.heap.size := H34.out.here
  have hlt1 : w3.heap.size < w4.heap.size + 1 := by omega
  go_wp2_with fail
  refine (K5.out _).mono ?_; rintro e w5 ⟨rfl, hw5⟩; rw [hw5]; clear hw5 w5
  have HB5 : Hid (Below w.heap.size w ((w4.alloc (.cells #[.int .i64 0, .int .i64 0] 27)).alloc (.cells #[.int .i64 0, .int .i64 0] 27))) := (HB4.out.alloc HB4.out.size _).alloc (by simp; have := HB4.out.size; omega) _
  go_wp2_with fail
  refine (K6.out _).mono ?_; rintro e w6 ⟨rfl, hb6⟩
  have HB6 := Lib.hid (HB5.out.trans (hb6.mono HB5.out.size))
  clear hb6
  go_wp2_with fail
  refine (K7.out _).mono ?_; rintro e w7 ⟨rfl, hb7⟩
  have HB7 := Lib.hid (HB6.out.trans (hb7.mono HB6.out.size))
  clear hb7
  go_wp2_with fail
  go_ret
  exact ⟨rfl, HB7.out⟩
end heapNil
end Go.Proofs.Ytkadcaihihgceaa
