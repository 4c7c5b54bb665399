/- Layer 17, its beginnings: names with vectors, plainly; the number of a bucket; the buckets of an index. No condition beyond that the vector's first number is an int. -/
import Derived.Test.YtiklogoookngaaaMpl
import Derived.Test.YtiklogoookngaaaWid
import Derived.Test.YtiklogoookngaaaVk
import Derived.Test.YtiklogoookngaaaVec2
import Derived.Test.YtiklogoookngaaaHgr
import Derived.Test.YtiklogoookngaaaSt
namespace Go.Proofs.Ytiklogoookngaaa
open Go.RowKit
set_option linter.unusedSimpArgs false
set_option linter.unusedVariables false

abbrev R3 := Int × Int × Int
abbrev vR (t : R3) : Value := .agg #[.int .i64 t.1, .int .i64 t.2.1, .int .i64 t.2.2]
/-- A name with its vector. -/
abbrev NV := ByteArray × R3
abbrev eV (p : NV) : ByteArray × Value := (p.1, vR p.2)
/-- The number of a vector's bucket. -/
def num (t : R3) : Nat := Lib.bitLen (max t.1 0).toNat
/-- Is the vector's first number an int? -/
def okV (t : R3) : Prop := -9223372036854775808 ≤ t.1 ∧ t.1 ≤ 9223372036854775807
theorem num_lt {t : R3} (h : okV t) : num t < 64 := by
  unfold num
  have := Lib.bitLen_le (max t.1 0).toNat 63 (by omega) (by have := h.2; omega)
  omega
/-- A vector that fits another one has no greater number. -/
theorem bitLen_mono {a b : Nat} (h : a ≤ b) (hb : b < 2 ^ 63) : Lib.bitLen a ≤ Lib.bitLen b := by
  rcases Nat.eq_zero_or_pos a with h0 | h0
  · subst h0; simp [Lib.bitLen, Lib.bitLenAux]
  · have h1 := Lib.bitLenAux_bounds 64 a (by omega) (by omega)
    have h2 := Lib.bitLenAux_bounds 64 b (by omega) (by omega)
    have e : ∀ n, Lib.bitLenAux 64 n = Lib.bitLen n := fun _ => rfl
    rw [e] at h1 h2
    rcases Nat.lt_or_ge (Lib.bitLen b) (Lib.bitLen a) with h3 | h3
    · have := Nat.pow_le_pow_right (show 0 < 2 by omega) (show Lib.bitLen b ≤ Lib.bitLen a - 1 by omega)
      omega
    · exact h3
theorem num_mono {a b : R3} (h : a.1 ≤ b.1) (hb : okV b) : num a ≤ num b := bitLen_mono (by omega) (by have := hb.2; omega)

set_option maxHeartbeats 1600000 in
set_option maxRecDepth 100000 in
theorem number_any (t : R3) (w : World) (ht : okV t) : Calls Try.prog 20 #[vR t] w fun e w' => e = .returned (.int .i64 (num t : Nat)) ∧ Below w.heap.size w w' := by
  obtain ⟨a, b, c⟩ := t
  have h1 : -9223372036854775808 ≤ a ∧ a ≤ 9223372036854775807 := ht
  obtain ⟨m, hm⟩ : ∃ m, m = max a 0 := ⟨_, rfl⟩
  have hm0 : 0 ≤ m ∧ m ≤ 9223372036854775807 := by omega
  have HM := Lib.hid hm
  have hmx : (max a 0 : Int) = m := hm.symm
  have hn : Hid (num (a, b, c) = Lib.bitLen m.toNat) := by show num _ = _; unfold num; rw [hm]
  clear hm ht
  have hw : IntKind.u64.wrap m = m := by unfold IntKind.wrap; simp [IntKind.bits, IntKind.signed]; omega
  have C : Hid (∀ w, Calls Try.prog 28 #[.int .u64 m] w fun e w' => e = .returned (.int .i64 (Lib.bitLen m.toNat : Nat)) ∧ w = w') := fun w => len64_any m w hm0.1 (by omega)
  rw [hn.out]
  generalize hq : Lib.bitLen m.toNat = q at C ⊢
  clear hn hq
  have L : Hid (∀ w, Calls Try.prog 25 #[.int .u64 m] w fun e w' => e = .returned (.int .i64 (q : Nat)) ∧ w = w') := fun w => by
    go_enter Try.func25, Try.ntmps25
    go_wp2_with (go_at_call 28; refine (C.out _).mono ?_; rintro e w' ⟨rfl, rfl⟩)
    go_ret
    exact ⟨rfl, rfl⟩
  clear C
  go_enter Try.func20, Try.ntmps20
  go_wp2_with (go_at_call 25; refine (L.out _).mono ?_; rintro e w' ⟨rfl, rfl⟩)
  all_goals go_ret
  all_goals exact ⟨rfl, (Below.refl _ _).alloc (Nat.le_refl _) _⟩
theorem slice_arr (g n : Nat) (w : World) (hn : n < 64) : (Instr.sliceAt 33 (.pointer (some ⟨g, 0, none⟩)) (some (.int .i64 n)) none none).run Try.prog w = .ok (.slice (some ⟨g, n, none⟩) (64 - n) (64 - n)) w := by
  have hu : Try.prog.underlying 33 = some (.array 64 32) := by kernel_rfl
  have hz : (sizeOf 32).run Try.prog w = .ok 1 w := by kernel_rfl
  have h0 : (0 : Int) ≤ n := by omega
  have h1 : (n : Int) ≤ 64 := by omega
  have h2 : ¬ 64 = n := by omega
  simp [Instr.sliceAt, Instr.sureAddr, run_underlying hu, Instr.sliceBounds, run_sliceBound, hz, h1, h2, Addr.add, Result.andThen]
  exact fun h => h.symm
set_option maxHeartbeats 1600000 in
set_option maxRecDepth 100000 in
theorem from_any (g n : Nat) (w : World) (hn : n < 64) : Calls Try.prog 21 #[.pointer (some ⟨g, 0, none⟩), .int .i64 n] w fun e w' => e = .returned (.slice (some ⟨g, n, none⟩) (64 - n) (64 - n)) ∧ w' = w := by
  have hs := fun w => slice_arr g n w hn
  go_enter Try.func21, Try.ntmps21
  go_wp2_with fail
  all_goals go_ret
  all_goals exact ⟨rfl, rfl⟩
set_option maxHeartbeats 1600000 in
set_option maxRecDepth 100000 in
theorem from_nil (n : Int) (w : World) : Calls Try.prog 21 #[.pointer none, .int .i64 n] w fun e w' => e = .returned (.slice none 0 0) ∧ w' = w := by
  go_enter Try.func21, Try.ntmps21
  go_wp2_with fail
  all_goals go_ret
  all_goals exact ⟨rfl, rfl⟩
/-- The cells of an index. -/
def cM (M : Nat → Value) : Array Value := Array.ofFn (n := 64) fun i => M i
theorem cM_size (M : Nat → Value) : (cM M).size = 64 := by simp [cM]
theorem cM_get (M : Nat → Value) {i : Nat} (hi : i < 64) : (cM M)[i]? = some (M i) := by simp [cM, hi]
theorem cM_set (M : Nat → Value) {i : Nat} (hi : i < 64) (v : Value) : (cM M).setIfInBounds i v = cM fun j => if j = i then v else M j := by
  apply Array.ext (by simp [cM])
  intro j h1 h2
  simp only [cM, Array.getElem_ofFn]
  rw [Array.getElem_setIfInBounds (by simpa [cM] using h2)]
  simp only [Array.getElem_ofFn, eq_comm]
set_option maxHeartbeats 1600000 in
set_option maxRecDepth 100000 in
theorem new_any (w : World) : Calls Try.prog 9 #[] w fun e w' => e = .returned (.pointer (some ⟨w.heap.size, 0, none⟩)) ∧ Bk w' w.heap.size 35 (cM fun _ => .map none) ∧ Below w.heap.size w w' := by
  obtain ⟨C, hC⟩ : ∃ C, C = cM fun _ => .map none := ⟨_, rfl⟩
  rw [← hC]
  have HL : Hid (C = #[.map none, .map none, .map none, .map none, .map none, .map none, .map none, .map none, .map none, .map none, .map none, .map none, .map none, .map none, .map none, .map none, .map none, .map none, .map none, .map none, .map none, .map none, .map none, .map none, .map none, .map none, .map none, .map none, .map none, .map none, .map none, .map none, .map none, .map none, .map none, .map none, .map none, .map none, .map none, .map none, .map none, .map none, .map none, .map none, .map none, .map none, .map none, .map none, .map none, .map none, .map none, .map none, .map none, .map none, .map none, .map none, .map none, .map none, .map none, .map none, .map none, .map none, .map none, .map none]) := hC.trans (by kernel_rfl)
  clear hC
  go_enter Try.func9, Try.ntmps9
  go_wp2_with fail
  all_goals go_ret
  all_goals rw [HL.out]
  all_goals exact ⟨rfl, Bk.fresh _ _ _, (Below.refl _ _).alloc (Nat.le_refl _) _⟩
end Go.Proofs.Ytiklogoookngaaa
