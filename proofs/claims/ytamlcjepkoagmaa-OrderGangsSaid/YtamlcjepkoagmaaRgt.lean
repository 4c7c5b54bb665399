/- The contracts of ident.Labels and of the document's own Labels: are these labels valid. Condition: the slice is one that Go can have, its texts too. -/
import Derived.Test.YtamlcjepkoagmaaLbs
import Derived.Laws.Cover1
namespace Go.Proofs.Ytamlcjepkoagmaa
open Go.RowKit
set_option linter.unusedSimpArgs false
set_option linter.unusedVariables false

/-- Is the label at this place one that may stand there? -/
def labAt (l : List Lb) (i : Nat) : Bool := nameB (l.getD i default).1 && nameB (l.getD i default).2 && (decide (i = 0) || sL (l.getD (i - 1) default).1 (l.getD i default).1)
/-- Are these labels valid? -/
def labelsB (l : List Lb) : Bool := decide (l.length ≤ 4) && (List.range l.length).all (labAt l)
theorem labAt_lt {l : List Lb} {i : Nat} (h : i < l.length) : labAt l i = (nameB l[i].1 && nameB l[i].2 && (decide (i = 0) || sL (l.getD (i - 1) default).1 l[i].1)) := by
  unfold labAt
  rw [show l.getD i default = l[i] by simp [List.getD, List.getElem?_eq_getElem h]]
theorem labAt_zero {l : List Lb} (h : 0 < l.length) : labAt l 0 = (nameB l[0].1 && nameB l[0].2) := by rw [labAt_lt h]; simp
theorem labAt_succ {l : List Lb} {i : Nat} (h : i + 1 < l.length) : labAt l (i + 1) = (nameB l[i + 1].1 && nameB l[i + 1].2 && sL l[i].1 l[i + 1].1) := by
  rw [labAt_lt h, Nat.add_sub_cancel, show l.getD i default = l[i] by simp [List.getD, List.getElem?_eq_getElem (show i < l.length by omega)]]; simp
theorem range_all {p : Nat → Bool} {k : Nat} : (List.range (k + 1)).all p = ((List.range k).all p && p k) := by
  rw [List.range_succ, List.all_append]; simp
theorem labelsB_bad {l : List Lb} {k : Nat} (h : k < l.length) (hp : labAt l k = false) : labelsB l = false := by
  unfold labelsB
  rw [Bool.and_eq_false_iff]; right
  rw [List.all_eq_false]
  exact ⟨k, List.mem_range.2 h, by simp [hp]⟩
theorem labelsB_long {l : List Lb} (h : 4 < l.length) : labelsB l = false := by
  unfold labelsB; rw [show decide (l.length ≤ 4) = false from decide_eq_false (by omega)]; rfl
theorem labelsB_good {l : List Lb} (h : l.length ≤ 4) (h2 : (List.range l.length).all (labAt l) = true) : labelsB l = true := by
  unfold labelsB; rw [h2, decide_eq_true h]; rfl



end Go.Proofs.Ytamlcjepkoagmaa
