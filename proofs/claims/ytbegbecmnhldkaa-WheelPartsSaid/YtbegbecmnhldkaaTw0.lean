/- Layer 19, its beginnings: names with times, plainly; the number of a spoke; the spokes of a wheel. No condition. -/
import Derived.Test.YtbegbecmnhldkaaMpl
import Derived.Test.YtbegbecmnhldkaaHgr
import Derived.Test.YtbegbecmnhldkaaSt
namespace Go.Proofs.Ytbegbecmnhldkaa
open Go.RowKit
set_option linter.unusedSimpArgs false
set_option linter.unusedVariables false

/-- A name with its time. -/
abbrev NT := ByteArray × Int
abbrev eT (p : NT) : ByteArray × Value := (p.1, .int .i64 p.2)
/-- The number of a time's spoke. -/
def numT (t : Int) : Nat := (t % 16).toNat
theorem numT_lt (t : Int) : numT t < 16 := by unfold numT; omega
set_option maxHeartbeats 1600000 in
set_option maxRecDepth 100000 in
theorem numberT_any (t : Int) (w : World) : Calls Try.prog 20 #[.int .i64 t] w fun e w' => e = .returned (.int .i64 (numT t : Nat)) ∧ w' = w := by
  obtain ⟨a, ha⟩ : ∃ a, a = t.tmod 16 := ⟨_, rfl⟩
  have h1 : wrap64 (a + 16) = a + 16 := by have := Int.tmod_lt_of_pos t (show (0 : Int) < 16 by omega); have := Int.lt_tmod_of_pos t (show (0 : Int) < 16 by omega); unfold wrap64; omega
  have h0 : wrap64 a = a := by have := Int.tmod_lt_of_pos t (show (0 : Int) < 16 by omega); have := Int.lt_tmod_of_pos t (show (0 : Int) < 16 by omega); unfold wrap64; omega
  have h2 : (a + 16).tmod 16 = (numT t : Nat) := by
    have h3 : 0 ≤ a + 16 := by have := Int.lt_tmod_of_pos t (show (0 : Int) < 16 by omega); omega
    rw [Int.tmod_eq_emod_of_nonneg h3, ha]
    unfold numT
    rcases Int.le_total 0 t with h | h
    · rw [Int.tmod_eq_emod_of_nonneg h]; omega
    · have e : t.tmod 16 = -((-t) % 16) := by
        have : t = -(-t) := by omega
        rw [this, Int.neg_tmod, Int.tmod_eq_emod_of_nonneg (by omega)]
        simp
      rw [e]; omega
  have h4 : wrap64 ((numT t : Nat) : Int) = ((numT t : Nat) : Int) := by have := numT_lt t; unfold wrap64; omega
  rw [← h2] at h4
  go_enter Try.func20, Try.ntmps20
  rw [← h2]
  clear h2
  rw [ha] at h0 h1 h4 ⊢
  clear ha
  go_wp2_with fail
  go_ret
  exact ⟨by simp [h0, h1, h4], rfl⟩
theorem slice_arrT (g : Nat) (w : World) : (Instr.sliceAt 33 (.pointer (some ⟨g, 0, none⟩)) none none none).run Try.prog w = .ok (.slice (some ⟨g, 0, none⟩) 16 16) w := by
  have hu : Try.prog.underlying 33 = some (.array 16 32) := by kernel_rfl
  have hz : (sizeOf 32).run Try.prog w = .ok 1 w := by kernel_rfl
  simp [Instr.sliceAt, Instr.sureAddr, run_underlying hu, Instr.sliceBounds, run_sliceBound, hz, Addr.add, Result.andThen]
set_option maxHeartbeats 1600000 in
set_option maxRecDepth 100000 in
theorem allT_any (g : Nat) (w : World) : Calls Try.prog 21 #[.pointer (some ⟨g, 0, none⟩)] w fun e w' => e = .returned (.slice (some ⟨g, 0, none⟩) 16 16) ∧ w' = w := by
  have hs := fun w => slice_arrT g w
  go_enter Try.func21, Try.ntmps21
  go_wp2_with fail
  all_goals go_ret
  all_goals exact ⟨rfl, rfl⟩
set_option maxHeartbeats 1600000 in
set_option maxRecDepth 100000 in
theorem allT_nil (w : World) : Calls Try.prog 21 #[.pointer none] w fun e w' => e = .returned (.slice none 0 0) ∧ w' = w := by
  go_enter Try.func21, Try.ntmps21
  go_wp2_with fail
  all_goals go_ret
  all_goals exact ⟨rfl, rfl⟩
/-- The cells of a wheel. -/
def cT (M : Nat → Value) : Array Value := Array.ofFn (n := 16) fun i => M i
theorem cT_size (M : Nat → Value) : (cT M).size = 16 := by simp [cT]
theorem cT_get (M : Nat → Value) {i : Nat} (hi : i < 16) : (cT M)[i]? = some (M i) := by simp [cT, hi]
theorem cT_set (M : Nat → Value) {i : Nat} (hi : i < 16) (v : Value) : (cT M).setIfInBounds i v = cT fun j => if j = i then v else M j := by
  apply Array.ext (by simp [cT])
  intro j h1 h2
  simp only [cT, Array.getElem_ofFn]
  rw [Array.getElem_setIfInBounds (by simpa [cT] using h2)]
  simp only [Array.getElem_ofFn, eq_comm]
set_option maxHeartbeats 1600000 in
set_option maxRecDepth 100000 in
theorem newT_any (w : World) : Calls Try.prog 9 #[] w fun e w' => e = .returned (.pointer (some ⟨w.heap.size, 0, none⟩)) ∧ Bk w' w.heap.size 35 (cT fun _ => .map none) ∧ Below w.heap.size w w' := by
  obtain ⟨C, hC⟩ : ∃ C, C = cT fun _ => .map none := ⟨_, rfl⟩
  rw [← hC]
  have HL : Hid (C = #[.map none, .map none, .map none, .map none, .map none, .map none, .map none, .map none, .map none, .map none, .map none, .map none, .map none, .map none, .map none, .map none]) := hC.trans (by kernel_rfl)
  clear hC
  go_enter Try.func9, Try.ntmps9
  go_wp2_with fail
  all_goals go_ret
  all_goals rw [HL.out]
  all_goals exact ⟨rfl, Bk.fresh _ _ _, (Below.refl _ _).alloc (Nat.le_refl _) _⟩
end Go.Proofs.Ytbegbecmnhldkaa
