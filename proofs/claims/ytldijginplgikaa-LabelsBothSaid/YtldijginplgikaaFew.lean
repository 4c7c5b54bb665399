/- The contracts of the statements' own size test (few) and of the document's test whether labels are alike (Same). Condition: the slices are ones that Go can have. -/
import Derived.Test.YtldijginplgikaaLab
import Derived.BigQuiet
import Derived.Deep.QuietTactic
import Derived.Handy
namespace Go.Proofs.Ytldijginplgikaa
open Go.RowKit
set_option linter.unusedSimpArgs false
set_option linter.unusedVariables false

theorem ret_bool' {a b : Bool} (h : a = b) : Ending.returned (.bool a) = .returned (.bool b) := by rw [h]
/-- Is this label of a size that is looked at? -/
def smallB (x : Lb) : Bool := decide (x.1.size + x.2.size ≤ 1000)
/-- Are labels of a size that is looked at? -/
def fewB (l : List Lb) : Bool := decide (l.length ≤ 300) && l.all smallB

theorem all_takeL {l : List Lb} {p : Lb → Bool} {k : Nat} (h : k < l.length) : (l.take (k + 1)).all p = ((l.take k).all p && p l[k]) := by
  rw [List.take_succ_eq_append_getElem h, List.all_append]; simp
theorem all_take_falseL {l : List Lb} {p : Lb → Bool} {k : Nat} (h : k < l.length) (hp : p l[k] = false) : l.all p = false := by
  rw [List.all_eq_false]
  exact ⟨l[k], List.getElem_mem h, by simp [hp]⟩


@[go_sem] theorem run_guardL (op : BinOp) (x y : Operand) (xs ys : Array Value) (w : World) : (eqGuard op 48 x y (.agg xs) (.agg ys)).run Try.prog w = .ok () w := run_eqGuard_agg w op 48 x y xs ys (by kernel_rfl)

theorem lE_yes {x y : Lb} (h : lE x y = true) : x.1.toList = y.1.toList ∧ x.2.toList = y.2.toList := by rw [lE_iff.1 h]; exact ⟨rfl, rfl⟩
theorem lE_no {x y : Lb} (h : lE x y = false) : (x.1.toList ≠ y.1.toList) ∨ (x.1.toList = y.1.toList ∧ x.2.toList ≠ y.2.toList) := by
  by_cases h1 : x.1.toList = y.1.toList
  · refine .inr ⟨h1, fun h2 => ?_⟩
    unfold lE sE at h
    simp [h1, h2] at h
  · exact .inl h1

/-- Are labels alike? -/
def sameB (l m : List Lb) : Bool := decide (l = m)
theorem same_len {l m : List Lb} (h : l.length ≠ m.length) : sameB l m = false := decide_eq_false fun hc => h (by rw [hc])
theorem same_at {l m : List Lb} {k : Nat} (h1 : k < l.length) (h2 : k < m.length) (h : lE l[k] m[k] = false) : sameB l m = false := decide_eq_false fun hc => by
  subst hc
  rw [lE_iff.2 rfl] at h; cases h

end Go.Proofs.Ytldijginplgikaa
