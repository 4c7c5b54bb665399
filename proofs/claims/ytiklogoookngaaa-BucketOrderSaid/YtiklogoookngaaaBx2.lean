/- Layer 17: Get, Len, Put of an index; what a nil one answers. Condition: vectors' first numbers are ints; at most 1000000 names. -/
import Derived.Test.YtiklogoookngaaaBx1
namespace Go.Proofs.Ytiklogoookngaaa
open Go.RowKit
set_option linter.unusedSimpArgs false
set_option linter.unusedVariables false

set_option maxHeartbeats 3200000 in
set_option maxRecDepth 100000 in
/-- A name's vector. -/
theorem get_any (b g : Nat) (M : Nat → Value) (D : List NV) (s : ByteArray) (w : World) (hH : Hid (Ix w b g M D)) : Calls Try.prog 14 #[.pointer (some ⟨g, 0, none⟩), .string s] w fun e w' => e = .returned (.tuple #[vR ((getN D s).getD (0, 0, 0)), .bool (getN D s).isSome]) ∧ Below w.heap.size w w' := by
  obtain ⟨R, hR⟩ : ∃ R, R = getN D s := ⟨_, rfl⟩
  rw [← hR]
  have HR := Lib.hid hR
  clear hR
  have KF : Hid (∀ w, Calls Try.prog 21 #[.pointer (some ⟨g, 0, none⟩), .int .i64 0] w fun e w' => e = .returned (.slice (some ⟨g, 0, none⟩) 64 64) ∧ w' = w) := fun w => from_0 g w
  obtain ⟨w1, hw1⟩ : ∃ W, W = w.alloc (.cells #[.int .i64 0, .int .i64 0, .int .i64 0] 37) := ⟨_, rfl⟩
  have HB1 : Hid (Below w.heap.size w w1) := by rw [hw1]; exact (Below.refl _ _).alloc (Nat.le_refl _) _
  have HZ1 : Hid (Bk w1 w.heap.size 37 #[.int .i64 0, .int .i64 0, .int .i64 0]) := by rw [hw1]; exact Bk.fresh _ _ _
  have H1 := Lib.hid (hH.out.later HB1.out)
  go_enter Try.func14, Try.ntmps14
  go_wp2_with fail
  rw [← hw1]
  clear hw1
  refine (KF.out _).mono ?_
  rintro e w' ⟨rfl, hw'⟩
  rw [hw']
  clear hw' w' KF
  go_wp2_with fail
  go_loopw [13] (fun s13 wr => ∃ k : Nat, k ≤ 64 ∧ s13 = .int .i64 k ∧ Hid (∀ p ∈ D, num p.2 < k → p.1 ≠ s) ∧ Hid (Below w1.heap.size w1 wr)) (fun s13 wr => 64 - (intOf s13).toNat)
  case atStart => exact ⟨0, Nat.zero_le _, rfl, (fun p _ h => absurd h (Nat.not_lt_zero _)), Below.refl _ _⟩
  case round =>
    obtain ⟨k, hk, rfl, HN, HB⟩ := hrel
    by_cases hlt : k < 64
    · obtain ⟨L, hm, hL⟩ := (H1.out.later HB.out).maps k hlt
      obtain ⟨o, ho⟩ := hm.val
      have hc : wr.cell? ⟨g, k, none⟩ = some (.map o) := by rw [(H1.out.later HB.out).cell hlt, ho]
      have HM : Hid (MapV wr (.map o) (L.map eV)) := by rw [← ho]; exact hm
      have HL := Lib.hid hL
      clear hm hL ho
      have hw1 : wrap64 ((k : Int) + 1) = ((k + 1 : Nat) : Int) := by unfold wrap64; omega
      cases hq : getN L s with
      | none =>
        have h1 : Hid ((getL (L.map eV) s).getD (vR (0, 0, 0)) = vR (0, 0, 0)) := by show _ = _; rw [getL_N, hq]; rfl
        have h2 : Hid ((getL (L.map eV) s).isSome = false) := by show _ = _; rw [getL_N, hq]; rfl
        have HN2 : Hid (∀ p ∈ D, num p.2 < k + 1 → p.1 ≠ s) := fun p hp hlt2 => by
          by_cases hpk : num p.2 < k
          · exact HN.out p hp hpk
          · exact getN_none.1 hq p (HL.out.mem_iff.2 (inB_mem.2 ⟨hp, by omega⟩))
        have HB2 : Hid (Below w1.heap.size w1 (wr.alloc (.cells #[.int .i64 0, .int .i64 0, .int .i64 0] 37))) := HB.out.alloc HB.out.size _
        go_wp2_with (with_reducible refine look_l rfl _ _ 32 rfl 9 37 Try.underlying32 Try.underlying9 (vR (0, 0, 0)) (zeroR _) (.map o) rfl HM.out s rfl _ h1.out _ h2.out ?_)
        go_round
        case rel => exact ⟨k + 1, by omega, by go_num, HN2, HB2⟩
        case measure => simp [intOf]; omega
      | some t =>
        have h1 : Hid ((getL (L.map eV) s).getD (vR (0, 0, 0)) = vR t) := by show _ = _; rw [getL_N, hq]; rfl
        have h2 : Hid ((getL (L.map eV) s).isSome = true) := by show _ = _; rw [getL_N, hq]; rfl
        have hmem := getN_mem hq
        obtain ⟨hD, hk2⟩ := inB_mem.1 (HL.out.mem_iff.1 hmem)
        have hR : R = some t := by
          rw [HR.out, getN_some (p := (s, t)) hH.out.nodup hD]
        subst hR
        have HB2 : Hid (Below w1.heap.size w1 (wr.alloc (.cells #[.int .i64 t.1, .int .i64 t.2.1, .int .i64 t.2.2] 37))) := HB.out.alloc HB.out.size _
        have HZ2 : Hid (Bk (wr.alloc (.cells #[.int .i64 t.1, .int .i64 t.2.1, .int .i64 t.2.2] 37)) w.heap.size 37 #[.int .i64 0, .int .i64 0, .int .i64 0]) := HZ1.out.later HB2.out
        clear hq hmem hD hk2
        go_wp2_with (first | (with_reducible refine look_l rfl _ _ 32 rfl 9 37 Try.underlying32 Try.underlying9 (vR (0, 0, 0)) (zeroR _) (.map o) rfl HM.out s rfl _ h1.out _ h2.out ?_) | ((with_reducible refine store_bk rfl 37 (.tmp 4) (.tmp 24) rfl w.heap.size 0 #[.int .i64 t.1, .int .i64 t.2.1, .int .i64 t.2.2] rfl rfl 37 _ #[.int .i64 t.1, .int .i64 t.2.1, .int .i64 t.2.2] HZ2.out (by kernel_rfl) (by simp) (by kernel_rfl) rfl ?_); intro w4 hB4 hg4 hs4; have HB4 := Lib.hid hB4; have HG4 := Lib.hid hg4; clear hB4 hg4 hs4))
        refine bodyPost_ret (v := .tuple #[.agg #[.int .i64 t.1, .int .i64 t.2.1, .int .i64 t.2.2], .bool true]) (results_bk2 Try.results14 _ _ w.heap.size 37 _ _ _ rfl rfl HB4.out Try.underlying37 rfl (by kernel_rfl)) rfl ⟨rfl, ?_⟩
        exact (HB1.out.trans (HB2.out.mono HB1.out.size)).grown HG4.out (by have h1 := HB1.out.size; have h2 := HB2.out.size; omega) (fun q e => by injection e with e; omega)
    · have hk64 : k = 64 := by omega
      subst hk64
      have hall : ∀ p ∈ D, p.1 ≠ s := fun p hp => HN.out p hp (num_lt (hH.out.ok p hp))
      have hR : R = none := by rw [HR.out, getN_none.2 hall]
      subst hR
      have HZ2 := Lib.hid (HZ1.out.later HB.out)
      go_wp2_with (((with_reducible refine store_bk rfl 37 (.tmp 4) (.tmp 26) rfl w.heap.size 0 #[.int .i64 0, .int .i64 0, .int .i64 0] rfl rfl 37 _ #[.int .i64 0, .int .i64 0, .int .i64 0] HZ2.out (by kernel_rfl) (by simp) (by kernel_rfl) rfl ?_); intro w4 hB4 hg4 hs4; have HB4 := Lib.hid hB4; have HG4 := Lib.hid hg4; clear hB4 hg4 hs4))
      refine bodyPost_ret (v := .tuple #[.agg #[.int .i64 0, .int .i64 0, .int .i64 0], .bool false]) (results_bk2 Try.results14 _ _ w.heap.size 37 _ _ _ rfl rfl HB4.out Try.underlying37 rfl (by kernel_rfl)) rfl ⟨rfl, ?_⟩
      exact (HB1.out.trans (HB.out.mono HB1.out.size)).grown HG4.out (by have h1 := HB1.out.size; have h2 := HB.out.size; omega) (fun q e => by injection e with e; omega)

/-- How many names there are in the first k buckets. -/
def cntN (D : List NV) (k : Nat) : Nat := (D.filter fun p => decide (num p.2 < k)).length
theorem cntN_zero (D : List NV) : cntN D 0 = 0 := by unfold cntN; rw [List.length_eq_zero_iff, List.filter_eq_nil_iff]; intro p _; simp
theorem cntN_succ (D : List NV) (k : Nat) : cntN D (k + 1) = cntN D k + (inB D k).length := by
  unfold cntN inB
  induction D with
  | nil => rfl
  | cons p D ih =>
    simp only [List.filter_cons]
    rcases Nat.lt_trichotomy (num p.2) k with h | h | h
    · rw [if_pos (decide_eq_true (by omega)), if_pos (decide_eq_true h), if_neg (by simp; omega), List.length_cons, List.length_cons, ih]; omega
    · rw [if_pos (decide_eq_true (by omega)), if_neg (by simp; omega), if_pos (by simp [h]), List.length_cons, List.length_cons, ih]; omega
    · rw [if_neg (by simp; omega), if_neg (by simp; omega), if_neg (by simp; omega), ih]
theorem cntN_all {D : List NV} (h : ∀ p ∈ D, okV p.2) : cntN D 64 = D.length := by
  unfold cntN
  rw [List.filter_eq_self.2 fun p hp => decide_eq_true (num_lt (h p hp))]
theorem cntN_le (D : List NV) (k : Nat) : cntN D k ≤ D.length := List.length_filter_le _ _
set_option maxHeartbeats 3200000 in
set_option maxRecDepth 100000 in
/-- How many names there are. -/
theorem len_any (b g : Nat) (M : Nat → Value) (D : List NV) (w : World) (hbig : D.length ≤ 1000000) (hH : Hid (Ix w b g M D)) : Calls Try.prog 19 #[.pointer (some ⟨g, 0, none⟩)] w fun e w' => e = .returned (.int .i64 D.length) ∧ Below w.heap.size w w' := by
  have KF : Hid (∀ w, Calls Try.prog 21 #[.pointer (some ⟨g, 0, none⟩), .int .i64 0] w fun e w' => e = .returned (.slice (some ⟨g, 0, none⟩) 64 64) ∧ w' = w) := fun w => from_0 g w
  go_enter Try.func19, Try.ntmps19
  go_wp2_with fail
  refine (KF.out _).mono ?_
  rintro e w' ⟨rfl, hw'⟩
  rw [hw']
  clear hw' w' KF
  go_wp2_with fail
  go_loopw [9, 3] (fun s9 s3 wr => ∃ k : Nat, k ≤ 64 ∧ s9 = .int .i64 k ∧ s3 = .int .i64 (cntN D k) ∧ Hid (Below w.heap.size w wr)) (fun s9 s3 wr => 64 - (intOf s9).toNat)
  case atStart => exact ⟨0, Nat.zero_le _, rfl, by rw [cntN_zero]; rfl, Below.refl _ _⟩
  case round =>
    obtain ⟨k, hk, rfl, rfl, HB⟩ := hrel
    by_cases hlt : k < 64
    · obtain ⟨L, hm, hL⟩ := (hH.out.later HB.out).maps k hlt
      obtain ⟨o, ho⟩ := hm.val
      have hc : wr.cell? ⟨g, k, none⟩ = some (.map o) := by rw [(hH.out.later HB.out).cell hlt, ho]
      have HM : Hid (MapV wr (.map o) (L.map eV)) := by rw [← ho]; exact hm
      have HS := Lib.hid (cntN_succ D k)
      have h1 := cntN_le D k
      have h2 := cntN_le D (k + 1)
      have hll : (L.map eV).length = (inB D k).length := by rw [List.length_map]; exact hL.length_eq
      obtain ⟨q, hq⟩ : ∃ q, q = (L.map eV).length := ⟨_, rfl⟩
      obtain ⟨c, hc2⟩ : ∃ c, c = cntN D k := ⟨_, rfl⟩
      obtain ⟨c', hc3⟩ : ∃ c, c = cntN D (k + 1) := ⟨_, rfl⟩
      have hcc : Hid (c' = c + q) := by show _ = _; rw [hc3, hc2, hq, hll]; exact HS.out
      have HC3 := Lib.hid hc3
      have HQ := Lib.hid hq
      rw [← hc2] at h1 ⊢
      rw [← hc3] at h2
      have hw1 : wrap64 ((k : Int) + 1) = ((k + 1 : Nat) : Int) := by unfold wrap64; omega
      have hw2 : wrap64 ((c : Int) + (q : Int)) = (c' : Int) := by have := hcc.out; unfold wrap64; omega
      clear hm hL ho hll hc2 hc3 hq h1 h2 HS
      go_wp2_with ((with_reducible refine len_l rfl _ 32 rfl 9 37 Try.underlying32 (.map o) rfl HM.out ?_); rw [← HQ.out])
      go_round
      case rel => exact ⟨k + 1, by omega, by go_num, by rw [hw2, HC3.out], HB⟩
      case measure => simp [intOf]; omega
    · have hk64 : k = 64 := by omega
      subst hk64
      rw [cntN_all hH.out.ok]
      go_wp2_with fail
      go_ret
      exact ⟨rfl, HB.out⟩
set_option maxHeartbeats 1600000 in
set_option maxRecDepth 100000 in
theorem del_nil (s : ByteArray) (w : World) : Calls Try.prog 12 #[.pointer none, .string s] w fun e w' => e = .returned (.bool false) ∧ Below w.heap.size w w' := by
  have KF : Hid (∀ w, Calls Try.prog 21 #[.pointer none, .int .i64 0] w fun e w' => e = .returned (.slice none 0 0) ∧ w' = w) := fun w => from_nil 0 w
  go_enter Try.func12, Try.ntmps12
  go_wp2_with fail
  refine (KF.out _).mono ?_
  rintro e w' ⟨rfl, hw'⟩
  rw [hw']
  clear hw' w' KF
  go_wp2_with fail
  refine wp_loop_rounds 1 ?_
  rw [rounds_succ]
  go_wp2_with fail
  go_ret
  exact ⟨rfl, Below.refl _ _⟩
set_option maxHeartbeats 1600000 in
set_option maxRecDepth 100000 in
theorem len_nil (w : World) : Calls Try.prog 19 #[.pointer none] w fun e w' => e = .returned (.int .i64 0) ∧ Below w.heap.size w w' := by
  have KF : Hid (∀ w, Calls Try.prog 21 #[.pointer none, .int .i64 0] w fun e w' => e = .returned (.slice none 0 0) ∧ w' = w) := fun w => from_nil 0 w
  go_enter Try.func19, Try.ntmps19
  go_wp2_with fail
  refine (KF.out _).mono ?_
  rintro e w' ⟨rfl, hw'⟩
  rw [hw']
  clear hw' w' KF
  go_wp2_with fail
  refine wp_loop_rounds 1 ?_
  rw [rounds_succ]
  go_wp2_with fail
  go_ret
  exact ⟨rfl, Below.refl _ _⟩
set_option maxHeartbeats 1600000 in
set_option maxRecDepth 100000 in
theorem get_nil (s : ByteArray) (w : World) : Calls Try.prog 14 #[.pointer none, .string s] w fun e w' => e = .returned (.tuple #[vR (0, 0, 0), .bool false]) ∧ Below w.heap.size w w' := by
  have KF : Hid (∀ w, Calls Try.prog 21 #[.pointer none, .int .i64 0] w fun e w' => e = .returned (.slice none 0 0) ∧ w' = w) := fun w => from_nil 0 w
  have HZ1 : Hid (Bk (w.alloc (.cells #[.int .i64 0, .int .i64 0, .int .i64 0] 37)) w.heap.size 37 #[.int .i64 0, .int .i64 0, .int .i64 0]) := Bk.fresh _ _ _
  go_enter Try.func14, Try.ntmps14
  go_wp2_with fail
  refine (KF.out _).mono ?_
  rintro e w' ⟨rfl, hw'⟩
  rw [hw']
  clear hw' w' KF
  go_wp2_with fail
  refine wp_loop_rounds 1 ?_
  rw [rounds_succ]
  go_wp2_with (((with_reducible refine store_bk rfl 37 (.tmp 4) (.tmp 26) rfl w.heap.size 0 #[.int .i64 0, .int .i64 0, .int .i64 0] rfl rfl 37 _ #[.int .i64 0, .int .i64 0, .int .i64 0] HZ1.out (by kernel_rfl) (by simp) (by kernel_rfl) rfl ?_); intro w4 hB4 hg4 hs4; have HB4 := Lib.hid hB4; have HG4 := Lib.hid hg4; clear hB4 hg4 hs4))
  refine bodyPost_ret (v := .tuple #[.agg #[.int .i64 0, .int .i64 0, .int .i64 0], .bool false]) (results_bk2 Try.results14 _ _ w.heap.size 37 _ _ _ rfl rfl HB4.out Try.underlying37 rfl (by kernel_rfl)) rfl ⟨rfl, ?_⟩
  exact ((Below.refl _ _).alloc (Nat.le_refl _) _).grown HG4.out (by simp) (fun q e => by injection e with e; omega)
set_option maxHeartbeats 1600000 in
set_option maxRecDepth 100000 in
theorem put_nil (s : ByteArray) (t : R3) (w : World) : Calls Try.prog 10 #[.pointer none, .string s, vR t] w fun e w' => e = .returned (.tuple #[]) ∧ Below w.heap.size w w' := by
  go_enter Try.func10, Try.ntmps10
  go_wp2_with fail
  first | go_end0 | refine bodyPost_ret (results_none rfl _ _ _) rfl ?_
  exact ⟨rfl, (Below.refl _ _).alloc (Nat.le_refl _) _⟩
end Go.Proofs.Ytiklogoookngaaa
