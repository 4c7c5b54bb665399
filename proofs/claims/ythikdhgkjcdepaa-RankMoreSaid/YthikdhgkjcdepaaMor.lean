/- One machine more: what becomes of the best one. No condition. -/
import Derived.Test.YthikdhgkjcdepaaSrs
import Derived.Test.YthikdhgkjcdepaaRbe
namespace Go.Proofs.Ythikdhgkjcdepaa
open Go.RowKit
set_option linter.unusedSimpArgs false
set_option linter.unusedVariables false

section
variable {t : Kt} {tl : List Lb} {l : List Jb} {L : List Ml}
theorem srt_append (x : Ml) : srt t tl l (L ++ [x]) = match entry t tl l x with | some y => insE y (srt t tl l L) | none => srt t tl l L := by
  unfold srt
  rw [List.foldl_append]; rfl
theorem best_ins (x : En) (E : List En) : bestP (insE x E) = (x.1, true) ∨ ((bestP E).2 = true ∧ bestP (insE x E) = bestP E) := by
  cases E with
  | nil => exact .inl rfl
  | cons y r =>
    unfold insE
    rw [List.takeWhile_cons, List.dropWhile_cons]
    cases bef x y
    · exact .inl rfl
    · exact .inr ⟨rfl, rfl⟩
/-- The statement's own test. -/
theorem more_test (m : Mc) (ml : List Lb) {s1 s2 : ByteArray} {b1 b2 can : Bool} (h1 : bestP (srt t tl l L) = (s1, b1)) (h2 : bestP (srt t tl l (L ++ [(m, ml)])) = (s2, b2)) (hc : (sco m ml t tl l).isSome = can) :
    ((b2 == (b1 || can)) && ((sE s2 s1 && b1) || (sE s2 m.nm && can) || !b2)) = true := by
  rw [srt_append] at h2
  unfold entry at h2
  cases hs : sco m ml t tl l with
  | none =>
    rw [hs] at h2 hc
    simp only [Option.map_none] at h2
    rw [h1] at h2
    injection h2 with e1 e2
    subst e1 e2
    simp at hc; subst hc
    cases b1 <;> simp [sE_refl]
  | some s =>
    rw [hs] at h2 hc
    simp only [Option.map_some] at h2
    simp at hc; subst hc
    rcases best_ins (m.nm, s) (srt t tl l L) with h | ⟨h, h'⟩
    · rw [h] at h2
      injection h2 with e1 e2
      subst e1 e2
      simp [sE_refl]
    · rw [h', h1] at h2
      rw [h1] at h
      injection h2 with e1 e2
      subst e1 e2
      simp only at h
      subst h
      simp [sE_refl]
end
end Go.Proofs.Ythikdhgkjcdepaa
