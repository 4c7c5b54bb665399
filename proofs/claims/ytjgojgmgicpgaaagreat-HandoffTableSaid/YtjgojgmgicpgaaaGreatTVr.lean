/- Vectors of three integers: the contracts of res.bounded and res.Right, and of the document's own Right. No condition. -/
import Derived.Test.YtjgojgmgicpgaaaGreatChecked
import Derived.WalkKit
import Derived.WalkSpells
import Derived.Handy
import Derived.Lib.Hide
import Derived.Lib.MinMax
import Derived.Below
import Derived.BigQuiet
import Derived.Deep.QuietTactic
import Derived.Deep.RegionWith
namespace Go.Proofs.YtjgojgmgicpgaaaGreat
open Go.RowKit
set_option linter.unusedSimpArgs false
set_option linter.unusedVariables false

theorem bcell {W w1 : World} (hb : Below W.heap.size W w1) : (∀ b o, b < W.heap.size → w1.cell? ⟨b, o, none⟩ = W.cell? ⟨b, o, none⟩) ∧ (∀ b o, b < W.heap.size → w1.frozen? ⟨b, o, none⟩ = W.frozen? ⟨b, o, none⟩) :=
  ⟨fun b o h => hb.cell (p := ⟨b, o, none⟩) h, fun b o h => hb.frozen (p := ⟨b, o, none⟩) h⟩

/-- Are three numbers the other three? -/
def eq3 (a b c d e f : Int) : Bool := a == d && b == e && c == f
/-- Are three numbers within the bounds? -/
def rB (a b c : Int) : Bool := decide (0 ≤ a ∧ a ≤ 1048576 ∧ 0 ≤ b ∧ b ≤ 1048576 ∧ 0 ≤ c ∧ c ≤ 1048576)

set_option maxHeartbeats 400000 in
theorem bounded_any (a b c : Int) (w : World) :
    Calls Tryz.prog 289 #[.agg #[.int .i64 a, .int .i64 b, .int .i64 c]] w fun e w' => e = .returned (.agg #[.int .i64 (min (max a 0) 1048576), .int .i64 (min (max b 0) 1048576), .int .i64 (min (max c 0) 1048576)]) ∧ Below w.heap.size w w' := by
  have i0 : ∀ w, (Instr.index 50 (.agg #[.int .i64 a, .int .i64 b, .int .i64 c]) (.int .i64 0)).run Tryz.prog w = .ok (.int .i64 a) w := fun _ => by kernel_rfl
  have i1 : ∀ w, (Instr.index 50 (.agg #[.int .i64 a, .int .i64 b, .int .i64 c]) (.int .i64 1)).run Tryz.prog w = .ok (.int .i64 b) w := fun _ => by kernel_rfl
  have i2 : ∀ w, (Instr.index 50 (.agg #[.int .i64 a, .int .i64 b, .int .i64 c]) (.int .i64 2)).run Tryz.prog w = .ok (.int .i64 c) w := fun _ => by kernel_rfl
  go_enter Tryz.func289, Tryz.ntmps289
  go_wp2
  go_rounds 4
  exact bodyPost_ret (v := .agg #[.int .i64 (min (max a 0) 1048576), .int .i64 (min (max b 0) 1048576), .int .i64 (min (max c 0) 1048576)]) (by simp [results, Tryz.results289, go_sem]) rfl ⟨rfl, by go_grown⟩

@[go_sem] theorem run_eq3 (a b c d e f : Int) (w : World) : (Op.equalIn 10000 50 (.agg #[.int .i64 a, .int .i64 b, .int .i64 c]) (.agg #[.int .i64 d, .int .i64 e, .int .i64 f])).run Tryz.prog w = .ok (eq3 a b c d e f) w := by
  have u3 := Tryz.underlying3
  have a3 := Tryz.isAgg3
  have z3 := Tryz.sizeOf3
  rw [show (10000 : Nat) = 9999 + 1 from rfl, Op.equalIn]
  simp only [Sem.run_bind, run_underlying Tryz.underlying50, Result.andThen_ok]
  simp only [Std.Legacy.Range.forIn_eq_forIn_range', Std.Legacy.Range.size, Nat.sub_zero, Nat.add_sub_cancel, Nat.div_one, List.range'_succ, List.range'_zero, List.forIn_cons, List.forIn_nil]
  go_simp
  by_cases h1 : a = d <;> by_cases h2 : b = e <;> by_cases h3 : c = f <;> simp [h1, h2, h3, eq3]

theorem eq3_bounded (a b c : Int) : eq3 a b c (min (max a 0) 1048576) (min (max b 0) 1048576) (min (max c 0) 1048576) = rB a b c := by
  rw [Bool.eq_iff_iff]
  simp only [eq3, rB, Bool.and_eq_true, beq_iff_eq, decide_eq_true_eq]
  omega

set_option maxHeartbeats 400000 in
theorem right_any (a b c : Int) (w : World) :
    Calls Tryz.prog 214 #[.agg #[.int .i64 a, .int .i64 b, .int .i64 c]] w fun e w' => e = .returned (.bool (rB a b c)) ∧ Below w.heap.size w w' := by
  have E := eq3_bounded a b c
  go_enter Tryz.func214, Tryz.ntmps214
  go_wp2
  go_region_with (go_at_call 289; refine (bounded_any _ _ _ _).mono ?_; rintro e w1 ⟨rfl, hb1⟩; obtain ⟨hc1, hf1⟩ := bcell hb1)
  all_goals go_wp2
  all_goals go_ret
  all_goals clear hc1 hf1
  all_goals refine ⟨by rfl, ?_⟩
  all_goals exact (((Below.refl _ _).alloc (Nat.le_refl _) _).drew.trans (hb1.mono (by simp)))

theorem rB_mk {a b c : Int} (h : 0 ≤ a ∧ a ≤ 1048576 ∧ 0 ≤ b ∧ b ≤ 1048576 ∧ 0 ≤ c ∧ c ≤ 1048576) : rB a b c = true := decide_eq_true h
theorem rB_bd {a b c : Int} (h : rB a b c = true) : 0 ≤ a ∧ a ≤ 1048576 ∧ 0 ≤ b ∧ b ≤ 1048576 ∧ 0 ≤ c ∧ c ≤ 1048576 := of_decide_eq_true h

set_option maxHeartbeats 800000 in
theorem rright_any (a b c : Int) (w : World) :
    Calls Tryz.prog 206 #[.agg #[.int .i64 a, .int .i64 b, .int .i64 c]] w fun r w' => r = .returned (.bool (rB a b c)) ∧ Below w.heap.size w w' := by
  have hfin : rB a b c = decide (0 ≤ a ∧ a ≤ 1048576 ∧ 0 ≤ b ∧ b ≤ 1048576 ∧ 0 ≤ c ∧ c ≤ 1048576) := rfl
  rw [hfin]
  clear hfin
  obtain ⟨v, hv⟩ : ∃ v, v = decide (0 ≤ a ∧ a ≤ 1048576 ∧ 0 ≤ b ∧ b ≤ 1048576 ∧ 0 ≤ c ∧ c ≤ 1048576) := ⟨_, rfl⟩
  rw [← hv]
  have HV := Lib.hid hv; clear hv
  rcases (show a < 0 ∨ (0 ≤ a ∧ 1048576 < a) ∨ (0 ≤ a ∧ a ≤ 1048576) by omega) with h1 | ⟨h1, h1'⟩ | ⟨h1, h1'⟩
  rotate_left 2
  rcases (show b < 0 ∨ (0 ≤ b ∧ 1048576 < b) ∨ (0 ≤ b ∧ b ≤ 1048576) by omega) with h2 | ⟨h2, h2'⟩ | ⟨h2, h2'⟩
  rotate_left 2
  rcases (show c < 0 ∨ (0 ≤ c ∧ 1048576 < c) ∨ (0 ≤ c ∧ c ≤ 1048576) by omega) with h3 | ⟨h3, h3'⟩ | ⟨h3, h3'⟩
  all_goals
    go_enter Tryz.func206, Tryz.ntmps206
    go_wp2_with fail
    refine wp_loop_rounds 4 ?_
    repeat any_goals (rw [rounds_succ]; go_wp2_with fail)
    all_goals go_ret
    all_goals exact ⟨by rw [HV.out]; simp; omega, by (repeat' (first | (with_reducible exact Below.refl _ _) | (with_reducible refine Below.drew ?_) | (with_reducible refine Below.setCell ?_ ?_ _) | (with_reducible refine Below.alloc ?_ ?_ _) | go_size))⟩
end Go.Proofs.YtjgojgmgicpgaaaGreat
