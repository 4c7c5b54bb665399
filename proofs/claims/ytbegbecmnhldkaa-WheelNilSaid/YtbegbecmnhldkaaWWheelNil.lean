/- The walk of WheelNil. No condition beyond the form's own. -/
import Derived.Test.YtbegbecmnhldkaaTwa
namespace Go.Proofs.Ytbegbecmnhldkaa
open Go.RowKit
set_option linter.unusedSimpArgs false
set_option linter.unusedVariables false
namespace wheelNil
set_option maxHeartbeats 12800000 in
set_option maxRecDepth 100000 in
theorem walk (x : Oe) (w : World) :
    Calls Try.prog 6 #[.agg #[.int .i64 x.1, .int .i64 x.2.1, .string x.2.2]] w fun r w' => r = .returned (.bool true) ∧ Below w.heap.size w w' := by
  obtain ⟨k, t, s⟩ := x
  have K1 := Lib.hid (fun W => awake19_any W)
  have K2 := Lib.hid (fun W => setT_nil s t W)
  have K3 := Lib.hid (fun W => atT_nil s W)
  have K4 := Lib.hid (fun W => delT_nil s W)
  have K5 := Lib.hid (fun W => lenT_nil W)
  have K6 := Lib.hid (fun W => dueT_nil t W)
  have K7 := Lib.hid (fun (A : Option Addr) (n c : Nat) (l : List Oe) (W : World) (hn : n = l.length) (hm : n ≤ 9223372036854775807) (hr : RdK W 3 A (l.map eE)) => few19_any A n c l W (Lib.hid hn) hm (Lib.hid hr))
  obtain ⟨W0, hW0⟩ : ∃ W0, W0 = w.alloc (.cells #[.int .i64 k, .int .i64 t, .string s] 37) := ⟨_, rfl⟩
  have hb0 : Below w.heap.size w W0 := by rw [hW0]; exact (Below.refl _ _).alloc (Nat.le_refl _) _
  have HX0 : Hid (Bk W0 w.heap.size 37 #[.int .i64 k, .int .i64 t, .string s]) := by rw [hW0]; exact Bk.fresh _ _ _
  have HB0 := Lib.hid hb0
  clear hb0
  go_enter Try.func6, Try.ntmps6
  go_wp2_with fail
  rw [← hW0]
  clear hW0
  refine (K1.out _).mono ?_; rintro e w1 ⟨rfl, hb1⟩
  have HB1 := Lib.hid (HB0.out.trans (hb1.mono HB0.out.size))
  have HX1 := Lib.hid (HX0.out.later hb1)
  clear hb1 HB0 HX0
  go_wp2_with (with_reducible refine load_bk rfl 37 _ rfl w.heap.size 0 rfl 37 #[.int .i64 k, .int .i64 t, .string s] #[.int .i64 k, .int .i64 t, .string s] _ HX1.out (Part.whole _) Try.underlying37 rfl (by kernel_rfl) ?_)
  refine (K7.out _ _ _ [(k, t, s)] _ rfl (by simp) (RdK.of_bk (Bk.fresh _ _ _))).mono ?_; rintro e w2 ⟨⟨b, rfl, -⟩, hb2⟩
  have HAL : Hid (Below w1.heap.size w1 (w1.alloc (.cells #[.int .i64 k, .int .i64 t, .string s] 37))) := (Below.refl _ _).alloc (Nat.le_refl _) _
  have HB2 := Lib.hid (HB1.out.trans ((HAL.out.trans (hb2.mono HAL.out.size)).mono HB1.out.size))
  have HX2 := Lib.hid (HX1.out.later (HAL.out.trans (hb2.mono HAL.out.size)))
  clear hb2 HAL HB1 HX1
  cases b with
  | false =>
    go_wp2_with fail
    refine (K1.out _).mono ?_; rintro e w3 ⟨rfl, hb3⟩
    go_wp2_with fail
    go_ret
    exact ⟨rfl, HB2.out.trans (hb3.mono HB2.out.size)⟩
  | true =>
    have c2 : w2.cell? ⟨w.heap.size, 2, none⟩ = some (.string s) := HX2.out.cellAt 2
    have c1 : w2.cell? ⟨w.heap.size, 1, none⟩ = some (.int .i64 t) := HX2.out.cellAt 1
    have hl : w.heap.size < w2.heap.size := HX2.out.here
    go_wp2_with fail
    refine (K2.out _).mono ?_; rintro e w3 ⟨rfl, hb3⟩
    have HB3 := Lib.hid (HB2.out.trans (hb3.mono HB2.out.size))
    have HX3 := Lib.hid (HX2.out.later hb3)
    clear hb3 HB2 HX2 c1 c2 hl
    have c2 : w3.cell? ⟨w.heap.size, 2, none⟩ = some (.string s) := HX3.out.cellAt 2
    have c1 : w3.cell? ⟨w.heap.size, 1, none⟩ = some (.int .i64 t) := HX3.out.cellAt 1
    have hl : w.heap.size < w3.heap.size := HX3.out.here
    go_wp2_with fail
    refine (K3.out _).mono ?_; rintro e w4 ⟨rfl, hb4⟩
    have HB4 := Lib.hid (HB3.out.trans (hb4.mono HB3.out.size))
    have HX4 := Lib.hid (HX3.out.later hb4)
    clear hb4 HB3 HX3 c1 c2 hl
    have c2 : w4.cell? ⟨w.heap.size, 2, none⟩ = some (.string s) := HX4.out.cellAt 2
    have c1 : w4.cell? ⟨w.heap.size, 1, none⟩ = some (.int .i64 t) := HX4.out.cellAt 1
    have hl : w.heap.size < w4.heap.size := HX4.out.here
    go_wp2_with fail
    refine (K4.out _).mono ?_; rintro e w5 ⟨rfl, hb5⟩
    have HB5 := Lib.hid (HB4.out.trans (hb5.mono HB4.out.size))
    have HX5 := Lib.hid (HX4.out.later hb5)
    clear hb5 HB4 HX4 c1 c2 hl
    have c2 : w5.cell? ⟨w.heap.size, 2, none⟩ = some (.string s) := HX5.out.cellAt 2
    have c1 : w5.cell? ⟨w.heap.size, 1, none⟩ = some (.int .i64 t) := HX5.out.cellAt 1
    have hl : w.heap.size < w5.heap.size := HX5.out.here
    go_wp2_with fail
    refine (K5.out _).mono ?_; rintro e w6 ⟨rfl, hb6⟩
    have HB6 := Lib.hid (HB5.out.trans (hb6.mono HB5.out.size))
    have HX6 := Lib.hid (HX5.out.later hb6)
    clear hb6 HB5 HX5 c1 c2 hl
    have c2 : w6.cell? ⟨w.heap.size, 2, none⟩ = some (.string s) := HX6.out.cellAt 2
    have c1 : w6.cell? ⟨w.heap.size, 1, none⟩ = some (.int .i64 t) := HX6.out.cellAt 1
    have hl : w.heap.size < w6.heap.size := HX6.out.here
    go_wp2_with fail
    refine (K6.out _).mono ?_; rintro e w7 ⟨rfl, hb7⟩
    have HB7 := Lib.hid (HB6.out.trans (hb7.mono HB6.out.size))
    have HX7 := Lib.hid (HX6.out.later hb7)
    clear hb7 HB6 HX6 c1 c2 hl
    go_wp2_with fail
    go_ret
    exact ⟨rfl, HB7.out⟩
end wheelNil
end Go.Proofs.Ytbegbecmnhldkaa
