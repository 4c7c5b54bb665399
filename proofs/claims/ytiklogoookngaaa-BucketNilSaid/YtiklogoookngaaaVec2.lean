/- Vectors: Add and Sub whole, Fits. No condition beyond those that each contract bears. -/
import Derived.Test.YtiklogoookngaaaVec
namespace Go.Proofs.Ytiklogoookngaaa
open Go.RowKit
set_option linter.unusedSimpArgs false
set_option linter.unusedVariables false

@[go_sem] theorem build_000 (w : World) : (Instr.build 37 #[]).run Try.prog w = .ok (.agg #[.int .i64 0, .int .i64 0, .int .i64 0]) w := run_build w 37 _ _ (by kernel_rfl)





/-- What is kept where there is a result: the number, else 0. -/
def kp (ok : Bool) (x : Int) : Int := if ok then x else 0
theorem kp_t (x : Int) : kp true x = x := rfl
theorem kp_f (x : Int) : kp false x = 0 := rfl
def adB (a b c d e f : Int) : Bool := rB a b c && rB d e f && rB (a + d) (b + e) (c + f)
def adE (a b c d e f : Int) : Int := if rB a b c && rB d e f then (if rB (a + d) (b + e) (c + f) then 0 else 6) else 1
def sbB (a b c d e f : Int) : Bool := rB a b c && rB d e f && rB (a - d) (b - e) (c - f)
def sbE (a b c d e f : Int) : Int := if rB a b c && rB d e f then (if rB (a - d) (b - e) (c - f) then 0 else 6) else 1



/-- Does each number of the first fit the second's? -/
def fB (a b c d e f : Int) : Bool := decide (a ≤ d ∧ b ≤ e ∧ c ≤ f)

set_option maxHeartbeats 400000 in
theorem fits_any (a b c d e f : Int) (w : World) :
    Calls Try.prog 22 #[.agg #[.int .i64 a, .int .i64 b, .int .i64 c], .agg #[.int .i64 d, .int .i64 e, .int .i64 f]] w fun r w' => r = .returned (.bool (fB a b c d e f)) ∧ Below w.heap.size w w' := by
  have i0 : ∀ w, (Instr.index 37 (.agg #[.int .i64 a, .int .i64 b, .int .i64 c]) (.int .i64 0)).run Try.prog w = .ok (.int .i64 a) w := fun _ => by kernel_rfl
  have i1 : ∀ w, (Instr.index 37 (.agg #[.int .i64 a, .int .i64 b, .int .i64 c]) (.int .i64 1)).run Try.prog w = .ok (.int .i64 b) w := fun _ => by kernel_rfl
  have i2 : ∀ w, (Instr.index 37 (.agg #[.int .i64 a, .int .i64 b, .int .i64 c]) (.int .i64 2)).run Try.prog w = .ok (.int .i64 c) w := fun _ => by kernel_rfl
  have hfin : fB a b c d e f = decide (a ≤ d ∧ b ≤ e ∧ c ≤ f) := rfl
  rw [hfin]
  clear hfin
  rcases (show d < a ∨ a ≤ d by omega) with h1 | h1 <;> rcases (show e < b ∨ b ≤ e by omega) with h2 | h2 <;> rcases (show f < c ∨ c ≤ f by omega) with h3 | h3
  all_goals
    obtain ⟨v, hv⟩ : ∃ v, v = decide (a ≤ d ∧ b ≤ e ∧ c ≤ f) := ⟨_, rfl⟩
    rw [← hv]
    have HV := Lib.hid hv; clear hv
    go_enter Try.func22, Try.ntmps22
    go_wp2_with fail
    refine wp_loop_rounds 4 ?_
    repeat any_goals (rw [rounds_succ]; go_wp2_with fail)
    all_goals go_ret
    all_goals exact ⟨by rw [HV.out]; simp; omega, by (repeat' (first | (with_reducible exact Below.refl _ _) | (with_reducible refine Below.drew ?_) | (with_reducible refine Below.setCell ?_ ?_ _) | (with_reducible refine Below.alloc ?_ ?_ _) | go_size))⟩
end Go.Proofs.Ytiklogoookngaaa
