/- Layer 19: At, Len of a wheel; what a nil one answers. Condition: at most 1000000 names. -/
import Derived.Test.YtbegbecmnhldkaaTw1
namespace Go.Proofs.Ytbegbecmnhldkaa
open Go.RowKit
set_option linter.unusedSimpArgs false
set_option linter.unusedVariables false

set_option maxHeartbeats 3200000 in
set_option maxRecDepth 100000 in
/-- A name's time. -/
theorem atT_any (b g : Nat) (M : Nat → Value) (D : List NT) (s : ByteArray) (w : World) (hH : Hid (Wx w b g M D)) : Calls Try.prog 14 #[.pointer (some ⟨g, 0, none⟩), .string s] w fun e w' => e = .returned (.tuple #[.int .i64 ((getT D s).getD 0), .bool (getT D s).isSome]) ∧ Below w.heap.size w w' := by
  obtain ⟨R, hR⟩ : ∃ R, R = getT D s := ⟨_, rfl⟩
  rw [← hR]
  have HR := Lib.hid hR
  clear hR
  have KF : Hid (∀ w, Calls Try.prog 21 #[.pointer (some ⟨g, 0, none⟩)] w fun e w' => e = .returned (.slice (some ⟨g, 0, none⟩) 16 16) ∧ w' = w) := fun w => allT_any g w
  go_enter Try.func14, Try.ntmps14
  go_wp2_with fail
  refine (KF.out _).mono ?_
  rintro e w' ⟨rfl, hw'⟩
  rw [hw']
  clear hw' w' KF
  go_wp2_with fail
  go_loopw [13] (fun s13 wr => ∃ k : Nat, k ≤ 16 ∧ s13 = .int .i64 k ∧ Hid (∀ p ∈ D, numT p.2 < k → p.1 ≠ s) ∧ Hid (Below w.heap.size w wr)) (fun s13 wr => 16 - (intOf s13).toNat)
  case atStart => exact ⟨0, Nat.zero_le _, rfl, (fun p _ h => absurd h (Nat.not_lt_zero _)), Below.refl _ _⟩
  case round =>
    obtain ⟨k, hk, rfl, HN, HB⟩ := hrel
    by_cases hlt : k < 16
    · have H1 := Lib.hid (hH.out.later HB.out)
      obtain ⟨L, hm, hL⟩ := H1.out.maps k hlt
      obtain ⟨o, ho⟩ := hm.val
      have hc : wr.cell? ⟨g, k, none⟩ = some (.map o) := by rw [H1.out.cell hlt, ho]
      have HM : Hid (MapV wr (.map o) (L.map eT)) := by rw [← ho]; exact hm
      have HL := Lib.hid hL
      clear hm hL ho
      have hw1 : wrap64 ((k : Int) + 1) = ((k + 1 : Nat) : Int) := by unfold wrap64; omega
      cases hq : getT L s with
      | none =>
        have h1 : Hid ((getL (L.map eT) s).getD (.int .i64 0) = .int .i64 0) := by show _ = _; rw [getL_T, hq]; rfl
        have h2 : Hid ((getL (L.map eT) s).isSome = false) := by show _ = _; rw [getL_T, hq]; rfl
        have HN2 : Hid (∀ p ∈ D, numT p.2 < k + 1 → p.1 ≠ s) := fun p hp hlt2 => by
          by_cases hpk : numT p.2 < k
          · exact HN.out p hp hpk
          · exact getT_none.1 hq p (HL.out.mem_iff.2 (inT_mem.2 ⟨hp, by omega⟩))
        go_wp2_with (with_reducible refine look_l rfl _ _ 32 rfl 9 3 Try.underlying32 Try.underlying9 (.int .i64 0) (zeroT _) (.map o) rfl HM.out s rfl _ h1.out _ h2.out ?_)
        go_round
        case rel => exact ⟨k + 1, by omega, by go_num, HN2, HB⟩
        case measure => first | (rw [hw1]; show 16 - ((k + 1 : Nat) : Int).toNat < 16 - ((k : Nat) : Int).toNat; rw [Int.toNat_natCast, Int.toNat_natCast]; omega) | (show 16 - ((k : Int) + 1).toNat < 16 - ((k : Nat) : Int).toNat; omega)
      | some t =>
        have h1 : Hid ((getL (L.map eT) s).getD (.int .i64 0) = .int .i64 t) := by show _ = _; rw [getL_T, hq]; rfl
        have h2 : Hid ((getL (L.map eT) s).isSome = true) := by show _ = _; rw [getL_T, hq]; rfl
        have hmem := getT_mem hq
        obtain ⟨hD, hk2⟩ := inT_mem.1 (HL.out.mem_iff.1 hmem)
        have hR : R = some t := by
          rw [HR.out, getT_some (p := (s, t)) hH.out.nodup hD]
        subst hR
        clear hq hmem hD hk2
        go_wp2_with (with_reducible refine look_l rfl _ _ 32 rfl 9 3 Try.underlying32 Try.underlying9 (.int .i64 0) (zeroT _) (.map o) rfl HM.out s rfl _ h1.out _ h2.out ?_)
        go_ret2
        exact ⟨rfl, HB.out⟩
    · have hk64 : k = 16 := by omega
      subst hk64
      have hall : ∀ p ∈ D, p.1 ≠ s := fun p hp => HN.out p hp (numT_lt p.2)
      have hR : R = none := by rw [HR.out, getT_none.2 hall]
      subst hR
      go_wp2_with fail
      go_ret2
      exact ⟨rfl, HB.out⟩

/-- How many names there are in the first k buckets. -/
def cntT (D : List NT) (k : Nat) : Nat := (D.filter fun p => decide (numT p.2 < k)).length
theorem cntT_zero (D : List NT) : cntT D 0 = 0 := by unfold cntT; rw [List.length_eq_zero_iff, List.filter_eq_nil_iff]; intro p _; simp
theorem cntT_succ (D : List NT) (k : Nat) : cntT D (k + 1) = cntT D k + (inT D k).length := by
  unfold cntT inT
  induction D with
  | nil => rfl
  | cons p D ih =>
    simp only [List.filter_cons]
    rcases Nat.lt_trichotomy (numT p.2) k with h | h | h
    · rw [if_pos (decide_eq_true (by omega)), if_pos (decide_eq_true h), if_neg (by simp; omega), List.length_cons, List.length_cons, ih]; omega
    · rw [if_pos (decide_eq_true (by omega)), if_neg (by simp; omega), if_pos (by simp [h]), List.length_cons, List.length_cons, ih]; omega
    · rw [if_neg (by simp; omega), if_neg (by simp; omega), if_neg (by simp; omega), ih]
theorem cntT_all (D : List NT) : cntT D 16 = D.length := by
  unfold cntT
  rw [List.filter_eq_self.2 fun p hp => decide_eq_true (numT_lt p.2)]
theorem cntT_le (D : List NT) (k : Nat) : cntT D k ≤ D.length := List.length_filter_le _ _
set_option maxHeartbeats 3200000 in
set_option maxRecDepth 100000 in
/-- How many names there are. -/
theorem lenT_any (b g : Nat) (M : Nat → Value) (D : List NT) (w : World) (hbig : D.length ≤ 1000000) (hH : Hid (Wx w b g M D)) : Calls Try.prog 19 #[.pointer (some ⟨g, 0, none⟩)] w fun e w' => e = .returned (.int .i64 D.length) ∧ Below w.heap.size w w' := by
  have KF : Hid (∀ w, Calls Try.prog 21 #[.pointer (some ⟨g, 0, none⟩)] w fun e w' => e = .returned (.slice (some ⟨g, 0, none⟩) 16 16) ∧ w' = w) := fun w => allT_any g w
  go_enter Try.func19, Try.ntmps19
  go_wp2_with fail
  refine (KF.out _).mono ?_
  rintro e w' ⟨rfl, hw'⟩
  rw [hw']
  clear hw' w' KF
  go_wp2_with fail
  go_loopw [9, 3] (fun s9 s3 wr => ∃ k : Nat, k ≤ 16 ∧ s9 = .int .i64 k ∧ s3 = .int .i64 (cntT D k) ∧ Hid (Below w.heap.size w wr)) (fun s9 s3 wr => 16 - (intOf s9).toNat)
  case atStart => exact ⟨0, Nat.zero_le _, rfl, by rw [cntT_zero]; rfl, Below.refl _ _⟩
  case round =>
    obtain ⟨k, hk, rfl, rfl, HB⟩ := hrel
    by_cases hlt : k < 16
    · obtain ⟨L, hm, hL⟩ := (hH.out.later HB.out).maps k hlt
      obtain ⟨o, ho⟩ := hm.val
      have hc : wr.cell? ⟨g, k, none⟩ = some (.map o) := by rw [(hH.out.later HB.out).cell hlt, ho]
      have HM : Hid (MapV wr (.map o) (L.map eT)) := by rw [← ho]; exact hm
      have HS := Lib.hid (cntT_succ D k)
      have h1 := cntT_le D k
      have h2 := cntT_le D (k + 1)
      have hll : (L.map eT).length = (inT D k).length := by rw [List.length_map]; exact hL.length_eq
      obtain ⟨q, hq⟩ : ∃ q, q = (L.map eT).length := ⟨_, rfl⟩
      obtain ⟨c, hc2⟩ : ∃ c, c = cntT D k := ⟨_, rfl⟩
      obtain ⟨c', hc3⟩ : ∃ c, c = cntT D (k + 1) := ⟨_, rfl⟩
      have hcc : Hid (c' = c + q) := by show _ = _; rw [hc3, hc2, hq, hll]; exact HS.out
      have HC3 := Lib.hid hc3
      have HQ := Lib.hid hq
      rw [← hc2] at h1 ⊢
      rw [← hc3] at h2
      have hw1 : wrap64 ((k : Int) + 1) = ((k + 1 : Nat) : Int) := by unfold wrap64; omega
      have hw2 : wrap64 ((c : Int) + (q : Int)) = (c' : Int) := by have := hcc.out; unfold wrap64; omega
      clear hm hL ho hll hc2 hc3 hq h1 h2 HS
      go_wp2_with ((with_reducible refine len_l rfl _ 32 rfl 9 3 Try.underlying32 (.map o) rfl HM.out ?_); rw [← HQ.out])
      go_round
      case rel => exact ⟨k + 1, by omega, by go_num, by rw [hw2, HC3.out], HB⟩
      case measure => first | (rw [hw1]; show 16 - ((k + 1 : Nat) : Int).toNat < 16 - ((k : Nat) : Int).toNat; rw [Int.toNat_natCast, Int.toNat_natCast]; omega) | (show 16 - ((k : Int) + 1).toNat < 16 - ((k : Nat) : Int).toNat; omega)
    · have hk64 : k = 16 := by omega
      subst hk64
      rw [cntT_all D]
      go_wp2_with fail
      go_ret
      exact ⟨rfl, HB.out⟩
set_option maxHeartbeats 1600000 in
set_option maxRecDepth 100000 in
theorem delT_nil (s : ByteArray) (w : World) : Calls Try.prog 12 #[.pointer none, .string s] w fun e w' => e = .returned (.bool false) ∧ Below w.heap.size w w' := by
  have KF : Hid (∀ w, Calls Try.prog 21 #[.pointer none] w fun e w' => e = .returned (.slice none 0 0) ∧ w' = w) := fun w => allT_nil w
  go_enter Try.func12, Try.ntmps12
  go_wp2_with fail
  refine (KF.out _).mono ?_
  rintro e w' ⟨rfl, hw'⟩
  rw [hw']
  clear hw' w' KF
  go_wp2_with fail
  refine wp_loop_rounds 1 ?_
  rw [rounds_succ]
  go_wp2_with fail
  go_ret
  exact ⟨rfl, Below.refl _ _⟩
set_option maxHeartbeats 1600000 in
set_option maxRecDepth 100000 in
theorem lenT_nil (w : World) : Calls Try.prog 19 #[.pointer none] w fun e w' => e = .returned (.int .i64 0) ∧ Below w.heap.size w w' := by
  have KF : Hid (∀ w, Calls Try.prog 21 #[.pointer none] w fun e w' => e = .returned (.slice none 0 0) ∧ w' = w) := fun w => allT_nil w
  go_enter Try.func19, Try.ntmps19
  go_wp2_with fail
  refine (KF.out _).mono ?_
  rintro e w' ⟨rfl, hw'⟩
  rw [hw']
  clear hw' w' KF
  go_wp2_with fail
  refine wp_loop_rounds 1 ?_
  rw [rounds_succ]
  go_wp2_with fail
  go_ret
  exact ⟨rfl, Below.refl _ _⟩
set_option maxHeartbeats 1600000 in
set_option maxRecDepth 100000 in
theorem atT_nil (s : ByteArray) (w : World) : Calls Try.prog 14 #[.pointer none, .string s] w fun e w' => e = .returned (.tuple #[.int .i64 0, .bool false]) ∧ Below w.heap.size w w' := by
  have KF : Hid (∀ w, Calls Try.prog 21 #[.pointer none] w fun e w' => e = .returned (.slice none 0 0) ∧ w' = w) := fun w => allT_nil w
  go_enter Try.func14, Try.ntmps14
  go_wp2_with fail
  refine (KF.out _).mono ?_
  rintro e w' ⟨rfl, hw'⟩
  rw [hw']
  clear hw' w' KF
  go_wp2_with fail
  refine wp_loop_rounds 1 ?_
  rw [rounds_succ]
  go_wp2_with fail
  go_ret2
  exact ⟨rfl, Below.refl _ _⟩
set_option maxHeartbeats 1600000 in
set_option maxRecDepth 100000 in
theorem setT_nil (s : ByteArray) (t : Int) (w : World) : Calls Try.prog 10 #[.pointer none, .string s, .int .i64 t] w fun e w' => e = .returned (.tuple #[]) ∧ Below w.heap.size w w' := by
  go_enter Try.func10, Try.ntmps10
  go_wp2_with fail
  first | go_end0 | refine bodyPost_ret (results_none rfl _ _ _) rfl ?_
  exact ⟨rfl, Below.refl _ _⟩
end Go.Proofs.Ytbegbecmnhldkaa
