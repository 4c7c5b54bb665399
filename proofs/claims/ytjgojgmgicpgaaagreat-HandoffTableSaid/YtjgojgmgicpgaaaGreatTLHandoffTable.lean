/- The law HandoffTable holds of the program: the Go function returns true for every input, and each argument reads afterwards as it did. No condition beyond the form's own. -/
import Derived.Test.YtjgojgmgicpgaaaGreatRows
import Derived.Test.YtjgojgmgicpgaaaGreatTQ15
import Derived.ProofKit
import Derived.OpenShut
import Derived.ShutString
import Derived.ChangeOld
import Derived.Below
import Derived.SizedLaws
import Derived.Test.YtjgojgmgicpgaaaGreatTQ14
namespace Go.Proofs.YtjgojgmgicpgaaaGreat.handoffTable
open Go.ChangeShapes Go.WideShapes Go.ChangeAt Go.RowKit
open Go.ChangeMaps (open_string shut_string)
set_option linter.unusedVariables false
set_option maxHeartbeats 0

theorem ai {a b : Bool} (h : a = true) (k : b = true) : (a && b) = true := by rw [h, k]; rfl
theorem q10 : (Rows.handoffTableRow.inPlace == Tryz.prog.inPlace 13) = true := by kernel_rfl
theorem q11 : (Rows.handoffTableRow.unfollowed == Tryz.prog.unfollowed 13) = true := by kernel_rfl
theorem q12 : (Rows.handoffTableRow.recurses == Tryz.prog.recurses 13) = true := by kernel_rfl
theorem q13 : (Rows.handoffTableRow.named == Tryz.prog.varsNamed 13) = true := by kernel_rfl
theorem closed : joinedFacts Tryz.prog 13 Tryz.f13 Rows.handoffTableSpec Rows.handoffTableRow = true := by
  unfold joinedFacts
  repeat' (with_reducible refine ai ?_ ?_)
  all_goals (first | (with_reducible exact q10) | (with_reducible exact q11) | (with_reducible exact q12) | (with_reducible exact q13) | (as_aux_lemma => kernel_rfl))
theorem proved : Rows.HandoffTableSaid :=
  OpenClaim.holds_of_wide 13 Tryz.f13 rfl rfl rfl rfl rfl rfl rfl ⟨rfl, rfl, rfl, rfl, rfl⟩ rfl rfl rfl rfl rfl (by kernel_rfl) Tryz.func13 closed
    (of_decide_eq_true (by kernel_rfl)) (by unfold Func.isWrapper; first | (rw [if_pos (by decide +kernel)]; kernel_rfl) | (rw [if_neg (by decide +kernel)]; exact ⟨rfl, rfl⟩))
    (fun os started H enc _ => lifted os started H enc)
end Go.Proofs.YtjgojgmgicpgaaaGreat.handoffTable
