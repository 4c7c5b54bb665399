/- The score of a machine, plainly. No condition. -/
import Derived.Test.YthikdhgkjcdepaaWp
import Derived.Test.YthikdhgkjcdepaaShr
namespace Go.Proofs.Ythikdhgkjcdepaa
open Go.RowKit
set_option linter.unusedSimpArgs false
set_option linter.unusedVariables false

/-- A machine's score for a task, if it can run it. -/
def sco (m : Mc) (ml : List Lb) (t : Kt) (tl : List Lb) (l : List Jb) : Option Int :=
  if why m ml t tl l = 0 then some (shN ((freM m l).1 - t.a) ((freM m l).2.1 - t.b) ((freM m l).2.2.1 - t.c) m.a m.b m.c) else none
section
variable {m : Mc} {ml : List Lb} {t : Kt} {tl : List Lb} {l : List Jb}
theorem sco_no (h : why m ml t tl l ≠ 0) : sco m ml t tl l = none := if_neg h
theorem sco_some : (sco m ml t tl l).isSome = decide (why m ml t tl l = 0) := by
  unfold sco
  by_cases h : why m ml t tl l = 0
  · rw [if_pos h, decide_eq_true h]; rfl
  · rw [if_neg h, decide_eq_false h]; rfl
theorem sco_yes (h : why m ml t tl l = 0) : ∃ p q s, freM m l = (p, q, s, 0) ∧ sco m ml t tl l = some (shN (p - t.a) (q - t.b) (s - t.c) m.a m.b m.c) ∧ sbB p q s t.a t.b t.c = true ∧ sbE p q s t.a t.b t.c = 0 := by
  obtain ⟨p, q, s, hf, _, h1, h2, _⟩ := room h
  refine ⟨p, q, s, hf, ?_, h1, h2⟩
  unfold sco
  rw [if_pos h, hf]
end
end Go.Proofs.Ythikdhgkjcdepaa
