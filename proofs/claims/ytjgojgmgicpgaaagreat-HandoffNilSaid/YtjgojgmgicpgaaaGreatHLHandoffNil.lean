/- The law HandoffNil holds of the program: the Go function returns true for every input, and each argument reads afterwards as it did. No condition beyond the form's own. -/
import Derived.Test.YtjgojgmgicpgaaaGreatRows
import Derived.Test.YtjgojgmgicpgaaaGreatHQ09
import Derived.ProofKit
import Derived.OpenShut
import Derived.ShutString
import Derived.ChangeOld
import Derived.Below
import Derived.SizedLaws
import Derived.Test.YtjgojgmgicpgaaaGreatHQ08
namespace Go.Proofs.YtjgojgmgicpgaaaGreat.handoffNil
open Go.ChangeShapes Go.WideShapes Go.ChangeAt Go.RowKit
open Go.ChangeMaps (open_string shut_string)
set_option linter.unusedVariables false
set_option maxHeartbeats 0

theorem ai {a b : Bool} (h : a = true) (k : b = true) : (a && b) = true := by rw [h, k]; rfl
theorem q10 : (Rows.handoffNilRow.inPlace == Tryz.prog.inPlace 12) = true := by kernel_rfl
theorem q11 : (Rows.handoffNilRow.unfollowed == Tryz.prog.unfollowed 12) = true := by kernel_rfl
theorem q12 : (Rows.handoffNilRow.recurses == Tryz.prog.recurses 12) = true := by kernel_rfl
theorem q13 : (Rows.handoffNilRow.named == Tryz.prog.varsNamed 12) = true := by kernel_rfl
theorem closed : joinedFacts Tryz.prog 12 Tryz.f12 Rows.handoffNilSpec Rows.handoffNilRow = true := by
  unfold joinedFacts
  repeat' (with_reducible refine ai ?_ ?_)
  all_goals (first | (with_reducible exact q10) | (with_reducible exact q11) | (with_reducible exact q12) | (with_reducible exact q13) | (as_aux_lemma => kernel_rfl))
theorem proved : Rows.HandoffNilSaid :=
  OpenClaim.holds_of_wide 12 Tryz.f12 rfl rfl rfl rfl rfl rfl rfl ⟨rfl, rfl, rfl, rfl, rfl⟩ rfl rfl rfl rfl rfl (by kernel_rfl) Tryz.func12 closed
    (of_decide_eq_true (by kernel_rfl)) (by unfold Func.isWrapper; first | (rw [if_pos (by decide +kernel)]; kernel_rfl) | (rw [if_neg (by decide +kernel)]; exact ⟨rfl, rfl⟩))
    (fun os started H enc _ => lifted os started H enc)
end Go.Proofs.YtjgojgmgicpgaaaGreat.handoffNil
