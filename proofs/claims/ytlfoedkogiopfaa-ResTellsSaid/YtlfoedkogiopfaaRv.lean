/- Vectors: the document's own Right. No condition. -/
import Derived.Test.YtlfoedkogiopfaaVec2
namespace Go.Proofs.Ytlfoedkogiopfaa
open Go.RowKit
set_option linter.unusedSimpArgs false
set_option linter.unusedVariables false

set_option maxHeartbeats 800000 in
theorem rright_any (a b c : Int) (w : World) :
    Calls Try.prog 15 #[.agg #[.int .i64 a, .int .i64 b, .int .i64 c]] w fun r w' => r = .returned (.bool (rB a b c)) ∧ Below w.heap.size w w' := by
  have hfin : rB a b c = decide (0 ≤ a ∧ a ≤ 1048576 ∧ 0 ≤ b ∧ b ≤ 1048576 ∧ 0 ≤ c ∧ c ≤ 1048576) := rfl
  rw [hfin]
  clear hfin
  obtain ⟨v, hv⟩ : ∃ v, v = decide (0 ≤ a ∧ a ≤ 1048576 ∧ 0 ≤ b ∧ b ≤ 1048576 ∧ 0 ≤ c ∧ c ≤ 1048576) := ⟨_, rfl⟩
  rw [← hv]
  have HV := Lib.hid hv; clear hv
  rcases (show a < 0 ∨ (0 ≤ a ∧ 1048576 < a) ∨ (0 ≤ a ∧ a ≤ 1048576) by omega) with h1 | ⟨h1, h1'⟩ | ⟨h1, h1'⟩
  rotate_left 2
  rcases (show b < 0 ∨ (0 ≤ b ∧ 1048576 < b) ∨ (0 ≤ b ∧ b ≤ 1048576) by omega) with h2 | ⟨h2, h2'⟩ | ⟨h2, h2'⟩
  rotate_left 2
  rcases (show c < 0 ∨ (0 ≤ c ∧ 1048576 < c) ∨ (0 ≤ c ∧ c ≤ 1048576) by omega) with h3 | ⟨h3, h3'⟩ | ⟨h3, h3'⟩
  all_goals
    go_enter Try.func15, Try.ntmps15
    go_wp2_with fail
    refine wp_loop_rounds 4 ?_
    repeat any_goals (rw [rounds_succ]; go_wp2_with fail)
    all_goals go_ret
    all_goals exact ⟨by rw [HV.out]; simp; omega, by (repeat' (first | (with_reducible exact Below.refl _ _) | (with_reducible refine Below.drew ?_) | (with_reducible refine Below.setCell ?_ ?_ _) | (with_reducible refine Below.alloc ?_ ?_ _) | go_size))⟩
end Go.Proofs.Ytlfoedkogiopfaa
