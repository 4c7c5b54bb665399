/- More of elements of k cells: blocks that are apart, an empty row, a row of one element. No condition. -/
import Derived.Test.YtbegbecmnhldkaaRk
namespace Go.Proofs.Ytbegbecmnhldkaa
open Go.RowKit
set_option linter.unusedSimpArgs false
set_option linter.unusedVariables false

theorem Bk.ne {w : World} {g g' : Nat} {t t' : TypeId} {cs cs' : Array Value} (h : Bk w g t cs) (h' : Bk w g' t' cs') (hne : cs.size ≠ cs'.size) : g ≠ g' := fun e => by
  subst e
  have := h.symm.trans h'
  injection this with this
  injection this with this
  exact hne (by rw [this])
theorem OwnK.ne {w : World} {g base k : Nat} {t e : TypeId} {cs : Array Value} {v : Value} {l : List (List Value)} (h : OwnK w base e k v l) (h' : Bk w g t cs) (hne : t ≠ e) : some g ≠ v.ownBlock := fun he => by
  rcases h.2.2 with ⟨rfl, _⟩ | ⟨g', cap, cur, rfl, _, hg, _⟩
  · cases he
  · injection he with he
    subst he
    have := h'.symm.trans hg
    injection this with this
    injection this with _ this
    exact hne this
theorem OwnK.of_empty {w : World} {g base k : Nat} {e : TypeId} (h : Bk w g e #[]) (hb : base ≤ g) : OwnK w base e k (.slice (some ⟨g, 0, none⟩) 0 0) [] :=
  ⟨by simp, by simp, .inr ⟨g, 0, #[], rfl, hb, h, Nat.le_refl _, by simp [maxLen], by simp, by simp⟩⟩
theorem RdK.of_bk {w : World} {g k : Nat} {t : TypeId} {cs : List Value} (h : Bk w g t cs.toArray) : RdK w k (some ⟨g, 0, none⟩) [cs] := by
  intro i x hx
  match i, hx with
  | 0, hx =>
    simp at hx; subst hx
    refine ⟨_, _, rfl, fun j v hv => ?_⟩
    have h' := h.cellAt j
    simp only [List.getElem?_toArray] at h'
    simp only [Nat.zero_mul, Nat.zero_add]
    exact h'.trans hv
  | i + 1, hx => simp at hx
end Go.Proofs.Ytbegbecmnhldkaa
