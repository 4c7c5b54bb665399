/- Places in an order that tells those that are alike apart by which is earlier: there is one such list only. No condition; it serves any seat. -/
import Derived.Test.YtamlcjepkoagmaaChecked
namespace Go.Proofs.Ytamlcjepkoagmaa
set_option linter.unusedSimpArgs false
set_option linter.unusedVariables false

section
variable {ah : Nat → Nat → Bool}
/-- Ahead, or alike and earlier. -/
def Fore (ah : Nat → Nat → Bool) (u v : Nat) : Prop := ah u v = true ∨ (ah v u = false ∧ u < v)
/-- There is one such list only. -/
theorem fore_one (has : ∀ u v, ah u v = true → ah v u = false) : ∀ {E F : List Nat}, E.Pairwise (Fore ah) → F.Pairwise (Fore ah) → E.Perm F → E = F
  | [], F, _, _, h => h.nil_eq
  | x :: E, [], _, _, h => by have := h.length_eq; simp at this
  | x :: E, y :: F, h1, h2, h => by
    rw [List.pairwise_cons] at h1 h2
    have hx : x ∈ y :: F := h.subset (by simp)
    have hy : y ∈ x :: E := h.symm.subset (by simp)
    have e : x = y := by
      rcases List.mem_cons.1 hx with hx | hx
      · exact hx
      · rcases List.mem_cons.1 hy with hy | hy
        · exact hy.symm
        · rcases h1.1 y hy with k1 | ⟨k1, k2⟩
          · rcases h2.1 x hx with k3 | ⟨k3, k4⟩
            · have := has _ _ k1; rw [k3] at this; cases this
            · rw [k1] at k3; cases k3
          · rcases h2.1 x hx with k3 | ⟨k3, k4⟩
            · rw [k3] at k1; cases k1
            · omega
    subst e
    rw [fore_one has h1.2 h2.2 ((List.perm_cons x).1 h)]
end
end Go.Proofs.Ytamlcjepkoagmaa
