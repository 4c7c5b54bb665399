/- Vectors: the document's own Add, Sub, Fits. No condition beyond those that each contract bears. -/
import Derived.Test.YtiklogoookngaaaVec2
import Derived.RegionTactic
import Derived.BigRegion
namespace Go.Proofs.Ytiklogoookngaaa
open Go.RowKit
set_option linter.unusedSimpArgs false
set_option linter.unusedVariables false











set_option maxHeartbeats 400000 in
theorem rfits_any (a b c d e f : Int) (w : World) :
    Calls Try.prog 24 #[.agg #[.int .i64 a, .int .i64 b, .int .i64 c], .agg #[.int .i64 d, .int .i64 e, .int .i64 f]] w fun r w' => r = .returned (.bool (fB a b c d e f)) ∧ Below w.heap.size w w' := by
  have hfin : fB a b c d e f = decide (a ≤ d ∧ b ≤ e ∧ c ≤ f) := rfl
  rw [hfin]
  clear hfin
  obtain ⟨v, hv⟩ : ∃ v, v = decide (a ≤ d ∧ b ≤ e ∧ c ≤ f) := ⟨_, rfl⟩
  rw [← hv]
  have HV := Lib.hid hv; clear hv
  rcases (show d < a ∨ a ≤ d by omega) with h1 | h1 <;> rcases (show e < b ∨ b ≤ e by omega) with h2 | h2 <;> rcases (show f < c ∨ c ≤ f by omega) with h3 | h3
  all_goals
    go_enter Try.func24, Try.ntmps24
    go_wp2
    all_goals go_ret
    all_goals refine ⟨?_, by (repeat' (first | (with_reducible exact Below.refl _ _) | (with_reducible refine Below.drew ?_) | (with_reducible refine Below.setCell ?_ ?_ _) | (with_reducible refine Below.alloc ?_ ?_ _) | go_size))⟩
    all_goals rw [HV.out]

    all_goals first | (simp; done) | (simp; omega) | (simp [h1, h2]; done)
end Go.Proofs.Ytiklogoookngaaa
