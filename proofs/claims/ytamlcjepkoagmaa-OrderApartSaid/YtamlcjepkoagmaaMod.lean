/- Nodes, queues and tasks: the contracts of model.Node, Queue, Task, isApart, isGang, and of the document's own Node, Queue, Task: are they valid. Condition: texts and slices are ones that Go can have. -/
import Derived.Test.YtamlcjepkoagmaaVr
import Derived.Test.YtamlcjepkoagmaaRgt
namespace Go.Proofs.Ytamlcjepkoagmaa
open Go.RowKit
set_option linter.unusedSimpArgs false
set_option linter.unusedVariables false

/-- May a task be kept apart by this text? -/
def apartB (s : ByteArray) : Bool := decide (s.size = 0) || nameB s
/-- May a task be of such a gang? -/
def gangB (g : ByteArray) (k : Int) : Bool := if g.size = 0 then decide (k = 0) else nameB g && decide (2 ≤ k) && decide (k ≤ 4)
/-- Is this node valid? -/
def nodeB (nm : ByteArray) (a b c : Int) (l : List Lb) : Bool := nameB nm && rB a b c && labelsB l
/-- Is this queue valid? -/
def queueB (nm : ByteArray) (a b c : Int) : Bool := nameB nm && rB a b c
/-- Is this task valid? -/
def taskB (nm qu : ByteArray) (pr a b c : Int) (l : List Lb) (ap ga : ByteArray) (sz : Int) : Bool :=
  nameB nm && nameB qu && decide (0 ≤ pr) && decide (pr ≤ 9) && rB a b c && labelsB l && apartB ap && gangB ga sz

theorem empty_of {s : ByteArray} (h : s.size = 0) : s = ⟨#[]⟩ := by cases s; congr; exact Array.eq_empty_of_size_eq_zero h
theorem full_of {s : ByteArray} (h : ¬ s.size = 0) : ¬ s.toList = [] ∧ s.toList.isEmpty = false := by
  have h2 : ¬ s.toList = [] := fun hc => h (by
    have : s.toList.length = s.size := by rw [ByteArray.toList_eq]; simp
    rw [hc] at this; simpa using this.symm)
  exact ⟨h2, by simpa using h2⟩
theorem apartB_empty : apartB ⟨#[]⟩ = true := rfl
theorem apartB_full {s : ByteArray} (h : ¬ s.size = 0) : apartB s = nameB s := by unfold apartB; rw [decide_eq_false h]; rfl
theorem gangB_empty (k : Int) : gangB ⟨#[]⟩ k = decide (k = 0) := rfl
theorem gangB_full {g : ByteArray} {k : Int} (h : ¬ g.size = 0) : gangB g k = (nameB g && decide (2 ≤ k) && decide (k ≤ 4)) := by unfold gangB; rw [if_neg h]








end Go.Proofs.Ytamlcjepkoagmaa
