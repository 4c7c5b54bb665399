/- Nodes, queues and tasks: the contracts of model.Node, Queue, Task, isApart, isGang, and of the document's own Node, Queue, Task: are they valid. Condition: texts and slices are ones that Go can have. -/
import Derived.Test.YtblmjaidonopeaaVr
import Derived.Test.YtblmjaidonopeaaRgt
namespace Go.Proofs.Ytblmjaidonopeaa
open Go.RowKit
set_option linter.unusedSimpArgs false
set_option linter.unusedVariables false

/-- May a task be kept apart by this text? -/
def apartB (s : ByteArray) : Bool := decide (s.size = 0) || nameB s
/-- May a task be of such a gang? -/
def gangB (g : ByteArray) (k : Int) : Bool := if g.size = 0 then decide (k = 0) else nameB g && decide (2 ≤ k) && decide (k ≤ 4)
/-- Is this node valid? -/
def nodeB (nm : ByteArray) (a b c : Int) (l : List Lb) : Bool := nameB nm && rB a b c && labelsB l
/-- Is this queue valid? -/
def queueB (nm : ByteArray) (a b c : Int) : Bool := nameB nm && rB a b c
/-- Is this task valid? -/
def taskB (nm qu : ByteArray) (pr a b c : Int) (l : List Lb) (ap ga : ByteArray) (sz : Int) : Bool :=
  nameB nm && nameB qu && decide (0 ≤ pr) && decide (pr ≤ 9) && rB a b c && labelsB l && apartB ap && gangB ga sz

theorem empty_of {s : ByteArray} (h : s.size = 0) : s = ⟨#[]⟩ := by cases s; congr; exact Array.eq_empty_of_size_eq_zero h
theorem full_of {s : ByteArray} (h : ¬ s.size = 0) : ¬ s.toList = [] ∧ s.toList.isEmpty = false := by
  have h2 : ¬ s.toList = [] := fun hc => h (by
    have : s.toList.length = s.size := by rw [ByteArray.toList_eq]; simp
    rw [hc] at this; simpa using this.symm)
  exact ⟨h2, by simpa using h2⟩
theorem apartB_empty : apartB ⟨#[]⟩ = true := rfl
theorem apartB_full {s : ByteArray} (h : ¬ s.size = 0) : apartB s = nameB s := by unfold apartB; rw [decide_eq_false h]; rfl
theorem gangB_empty (k : Int) : gangB ⟨#[]⟩ k = decide (k = 0) := rfl
theorem gangB_full {g : ByteArray} {k : Int} (h : ¬ g.size = 0) : gangB g k = (nameB g && decide (2 ≤ k) && decide (k ≤ 4)) := by unfold gangB; rw [if_neg h]




set_option maxHeartbeats 3200000 in
set_option maxRecDepth 100000 in
theorem queue_any (nm : ByteArray) (a b c : Int) (w : World) (hnm : nm.size ≤ 9223372036854775807) : Calls Try.prog 18 #[.agg #[.string nm, .int .i64 a, .int .i64 b, .int .i64 c]] w fun e w' => e = .returned (.bool (queueB nm a b c)) ∧ Below w.heap.size w w' := by
  have k1 := fun W => name_any nm W hnm
  have k2 := fun W => right_any a b c W
  by_cases c1 : nameB nm = true
  case neg =>
    have c1x : nameB nm = false := by simpa using c1
    have hres : queueB nm a b c = false := by unfold queueB; rw [c1x]; simp
    rw [c1x] at k1
    rw [hres]
    have HK1 := Lib.hid k1
    clear hres k1 k2 c1 c1x
    go_enter Try.func18, Try.ntmps18
    go_wp2_with fail
    refine (HK1.out _).mono ?_; rintro e w' ⟨rfl, rfl⟩
    go_wp2
    go_ret
    exact ⟨rfl, (by (repeat' (first | (with_reducible exact Below.refl _ _) | (with_reducible refine Below.alloc ?_ ?_ _) | (with_reducible exact Nat.le_refl _) | (with_reducible assumption) | omega | (simp only [World.size_alloc]; omega))))⟩
  case pos =>
    rw [c1] at k1
    by_cases c2 : rB a b c = true
    case neg =>
      have c2x : rB a b c = false := by simpa using c2
      have hres : queueB nm a b c = false := by unfold queueB; rw [c2x]; simp
      rw [c2x] at k2
      rw [hres]
      have HK1 := Lib.hid k1
      have HK2 := Lib.hid k2
      clear hres k1 k2 c1 c2 c2x
      go_enter Try.func18, Try.ntmps18
      go_wp2_with fail
      refine (HK1.out _).mono ?_; rintro e w' ⟨rfl, rfl⟩
      go_wp2_with fail
      refine (HK2.out _).mono ?_; rintro e w1 ⟨rfl, hb1⟩
      obtain ⟨hc1, hf1⟩ := bcell hb1; have hz1 : w.heap.size < w1.heap.size := by have h := hb1.size; (try simp only [World.size_alloc] at h); omega
      go_wp2
      go_ret
      exact ⟨rfl, (by (repeat' (first | (with_reducible exact Below.refl _ _) | (with_reducible refine Below.alloc ?_ ?_ _) | (with_reducible refine Below.trans ?_ (Below.mono hb1 ?_)) | (with_reducible exact Nat.le_refl _) | (with_reducible assumption) | omega | (simp only [World.size_alloc]; omega))))⟩
    case pos =>
      rw [c2] at k2
      have hres : queueB nm a b c = true := by unfold queueB; rw [c1, c2]; rfl
      rw [hres]
      have HK1 := Lib.hid k1
      have HK2 := Lib.hid k2
      clear hres k1 c1 k2 c2
      go_enter Try.func18, Try.ntmps18
      go_wp2_with fail
      refine (HK1.out _).mono ?_; rintro e w' ⟨rfl, rfl⟩
      go_wp2_with fail
      refine (HK2.out _).mono ?_; rintro e w1 ⟨rfl, hb1⟩
      obtain ⟨hc1, hf1⟩ := bcell hb1; have hz1 : w.heap.size < w1.heap.size := by have h := hb1.size; (try simp only [World.size_alloc] at h); omega
      go_wp2
      go_ret
      exact ⟨rfl, (by (repeat' (first | (with_reducible exact Below.refl _ _) | (with_reducible refine Below.alloc ?_ ?_ _) | (with_reducible refine Below.trans ?_ (Below.mono hb1 ?_)) | (with_reducible exact Nat.le_refl _) | (with_reducible assumption) | omega | (simp only [World.size_alloc]; omega))))⟩


set_option maxHeartbeats 3200000 in
set_option maxRecDepth 100000 in
theorem rqueue_any (nm : ByteArray) (a b c : Int) (w : World) (hnm : nm.size ≤ 9223372036854775807) : Calls Try.prog 20 #[.agg #[.string nm, .int .i64 a, .int .i64 b, .int .i64 c]] w fun e w' => e = .returned (.bool (queueB nm a b c)) ∧ Below w.heap.size w w' := by
  have k1 := fun W => rname_any nm W hnm
  have k2 := fun W => rright_any a b c W
  by_cases c1 : nameB nm = true
  case neg =>
    have c1x : nameB nm = false := by simpa using c1
    have hres : queueB nm a b c = false := by unfold queueB; rw [c1x]; simp
    rw [c1x] at k1
    rw [hres]
    have HK1 := Lib.hid k1
    clear hres k1 k2 c1 c1x
    go_enter Try.func20, Try.ntmps20
    go_wp2_with fail
    refine (HK1.out _).mono ?_; rintro e w' ⟨rfl, rfl⟩
    go_wp2
    go_ret
    exact ⟨rfl, (by (repeat' (first | (with_reducible exact Below.refl _ _) | (with_reducible refine Below.alloc ?_ ?_ _) | (with_reducible exact Nat.le_refl _) | (with_reducible assumption) | omega | (simp only [World.size_alloc]; omega))))⟩
  case pos =>
    rw [c1] at k1
    by_cases c2 : rB a b c = true
    case neg =>
      have c2x : rB a b c = false := by simpa using c2
      have hres : queueB nm a b c = false := by unfold queueB; rw [c2x]; simp
      rw [c2x] at k2
      rw [hres]
      have HK1 := Lib.hid k1
      have HK2 := Lib.hid k2
      clear hres k1 k2 c1 c2 c2x
      go_enter Try.func20, Try.ntmps20
      go_wp2_with fail
      refine (HK1.out _).mono ?_; rintro e w' ⟨rfl, rfl⟩
      go_wp2_with fail
      refine (HK2.out _).mono ?_; rintro e w1 ⟨rfl, hb1⟩
      obtain ⟨hc1, hf1⟩ := bcell hb1; have hz1 : w.heap.size < w1.heap.size := by have h := hb1.size; (try simp only [World.size_alloc] at h); omega
      go_wp2
      go_ret
      exact ⟨rfl, (by (repeat' (first | (with_reducible exact Below.refl _ _) | (with_reducible refine Below.alloc ?_ ?_ _) | (with_reducible refine Below.trans ?_ (Below.mono hb1 ?_)) | (with_reducible exact Nat.le_refl _) | (with_reducible assumption) | omega | (simp only [World.size_alloc]; omega))))⟩
    case pos =>
      rw [c2] at k2
      have hres : queueB nm a b c = true := by unfold queueB; rw [c1, c2]; rfl
      rw [hres]
      have HK1 := Lib.hid k1
      have HK2 := Lib.hid k2
      clear hres k1 c1 k2 c2
      go_enter Try.func20, Try.ntmps20
      go_wp2_with fail
      refine (HK1.out _).mono ?_; rintro e w' ⟨rfl, rfl⟩
      go_wp2_with fail
      refine (HK2.out _).mono ?_; rintro e w1 ⟨rfl, hb1⟩
      obtain ⟨hc1, hf1⟩ := bcell hb1; have hz1 : w.heap.size < w1.heap.size := by have h := hb1.size; (try simp only [World.size_alloc] at h); omega
      go_wp2
      go_ret
      exact ⟨rfl, (by (repeat' (first | (with_reducible exact Below.refl _ _) | (with_reducible refine Below.alloc ?_ ?_ _) | (with_reducible refine Below.trans ?_ (Below.mono hb1 ?_)) | (with_reducible exact Nat.le_refl _) | (with_reducible assumption) | omega | (simp only [World.size_alloc]; omega))))⟩


end Go.Proofs.Ytblmjaidonopeaa
