/- Nodes, queues and tasks: the contracts of model.Node, Queue, Task, isApart, isGang, and of the document's own Node, Queue, Task: are they valid. Condition: texts and slices are ones that Go can have. -/
import Derived.Test.YtjgojgmgicpgaaaGreatTVr
import Derived.Test.YtjgojgmgicpgaaaGreatTRgt
namespace Go.Proofs.YtjgojgmgicpgaaaGreat
open Go.RowKit
set_option linter.unusedSimpArgs false
set_option linter.unusedVariables false

/-- May a task be kept apart by this text? -/
def apartB (s : ByteArray) : Bool := decide (s.size = 0) || nameB s
/-- May a task be of such a gang? -/
def gangB (g : ByteArray) (k : Int) : Bool := if g.size = 0 then decide (k = 0) else nameB g && decide (2 ≤ k) && decide (k ≤ 4)
/-- Is this node valid? -/
def nodeB (nm : ByteArray) (a b c : Int) (l : List Lb) : Bool := nameB nm && rB a b c && labelsB l
/-- Is this queue valid? -/
def queueB (nm : ByteArray) (a b c : Int) : Bool := nameB nm && rB a b c
/-- Is this task valid? -/
def taskB (nm qu : ByteArray) (pr a b c : Int) (l : List Lb) (ap ga : ByteArray) (sz : Int) : Bool :=
  nameB nm && nameB qu && decide (0 ≤ pr) && decide (pr ≤ 9) && rB a b c && labelsB l && apartB ap && gangB ga sz

theorem empty_of {s : ByteArray} (h : s.size = 0) : s = ⟨#[]⟩ := by cases s; congr; exact Array.eq_empty_of_size_eq_zero h
theorem full_of {s : ByteArray} (h : ¬ s.size = 0) : ¬ s.toList = [] ∧ s.toList.isEmpty = false := by
  have h2 : ¬ s.toList = [] := fun hc => h (by
    have : s.toList.length = s.size := by rw [ByteArray.toList_eq]; simp
    rw [hc] at this; simpa using this.symm)
  exact ⟨h2, by simpa using h2⟩
theorem apartB_empty : apartB ⟨#[]⟩ = true := rfl
theorem apartB_full {s : ByteArray} (h : ¬ s.size = 0) : apartB s = nameB s := by unfold apartB; rw [decide_eq_false h]; rfl
theorem gangB_empty (k : Int) : gangB ⟨#[]⟩ k = decide (k = 0) := rfl
theorem gangB_full {g : ByteArray} {k : Int} (h : ¬ g.size = 0) : gangB g k = (nameB g && decide (2 ≤ k) && decide (k ≤ 4)) := by unfold gangB; rw [if_neg h]

set_option maxHeartbeats 800000 in
theorem apart_any (s : ByteArray) (w : World) (hs : s.size ≤ 9223372036854775807) : Calls Tryz.prog 216 #[.string s] w fun e w' => e = .returned (.bool (apartB s)) ∧ w = w' := by
  by_cases h0 : s.size = 0
  · obtain rfl := empty_of h0
    rw [apartB_empty]
    go_enter Tryz.func216, Tryz.ntmps216
    go_wp2
    go_ret
    exact ⟨rfl, rfl⟩
  · have hn := fun W => name_any s W hs
    obtain ⟨f1, f2⟩ := full_of h0
    rw [apartB_full h0]
    generalize nameB s = r at hn ⊢
    have HN := Lib.hid hn
    clear hn h0
    go_enter Tryz.func216, Tryz.ntmps216
    go_wp2_with fail
    refine (HN.out _).mono ?_; rintro e w' ⟨rfl, rfl⟩
    go_wp2
    go_ret
    exact ⟨rfl, rfl⟩

set_option maxHeartbeats 1600000 in
theorem gang_any (s : ByteArray) (k : Int) (w : World) (hs : s.size ≤ 9223372036854775807) : Calls Tryz.prog 217 #[.string s, .int .i64 k] w fun e w' => e = .returned (.bool (gangB s k)) ∧ w = w' := by
  by_cases h0 : s.size = 0
  · obtain rfl := empty_of h0
    rw [gangB_empty]
    by_cases hk : k = 0
    · subst hk
      go_enter Tryz.func217, Tryz.ntmps217
      go_wp2
      go_ret
      exact ⟨rfl, rfl⟩
    · have hk' : (k == 0) = false := by simpa using hk
      rw [decide_eq_false hk]
      clear hk
      go_enter Tryz.func217, Tryz.ntmps217
      go_wp2
      go_ret
      exact ⟨rfl, rfl⟩
  · have hn := fun W => name_any s W hs
    obtain ⟨f1, f2⟩ := full_of h0
    rw [gangB_full h0]
    by_cases hN : nameB s = true
    · rw [hN] at hn ⊢
      have HN := Lib.hid hn
      clear hn h0 hN
      by_cases k1 : 2 ≤ k
      · rw [decide_eq_true k1]
        go_enter Tryz.func217, Tryz.ntmps217
        go_wp2_with fail
        refine (HN.out _).mono ?_; rintro e w' ⟨rfl, rfl⟩
        go_wp2
        go_ret
        exact ⟨rfl, rfl⟩
      · rw [decide_eq_false k1]
        go_enter Tryz.func217, Tryz.ntmps217
        go_wp2_with fail
        refine (HN.out _).mono ?_; rintro e w' ⟨rfl, rfl⟩
        go_wp2
        go_ret
        exact ⟨rfl, rfl⟩
    · have hN' : nameB s = false := by simpa using hN
      rw [hN'] at hn ⊢
      have HN := Lib.hid hn
      clear hn h0 hN hN'
      go_enter Tryz.func217, Tryz.ntmps217
      go_wp2_with fail
      refine (HN.out _).mono ?_; rintro e w' ⟨rfl, rfl⟩
      go_wp2
      go_ret
      exact ⟨rfl, rfl⟩

set_option maxHeartbeats 3200000 in
set_option maxRecDepth 100000 in
theorem node_any (nm : ByteArray) (a b c : Int) (A : Option Addr) (n cp : Nat) (l : List Lb) (w : World) (hnm : nm.size ≤ 9223372036854775807) (hn : Hid (n = l.length)) (hr : Hid (RdL w A l)) (hz : Hid (Sz l)) (hc : n ≤ cp) (hc2 : cp ≤ 9223372036854775807) : Calls Tryz.prog 121 #[.agg #[.string nm, .int .i64 a, .int .i64 b, .int .i64 c, .slice A n cp]] w fun e w' => e = .returned (.bool (nodeB nm a b c l)) ∧ Below w.heap.size w w' := by
  have k1 := fun W => name_any nm W hnm
  have k2 := fun W => right_any a b c W
  have k3 := fun W (h : RdL W A l) => labels_any A n cp l W hn (Lib.hid h) hz hc hc2
  by_cases c1 : nameB nm = true
  case neg =>
    have c1x : nameB nm = false := by simpa using c1
    have hres : nodeB nm a b c l = false := by unfold nodeB; rw [c1x]; simp
    rw [c1x] at k1
    rw [hres]
    have HK1 := Lib.hid k1
    clear hres k1 k2 k3 c1 c1x
    go_enter Tryz.func121, Tryz.ntmps121
    go_wp2_with fail
    refine (HK1.out _).mono ?_; rintro e w' ⟨rfl, rfl⟩
    go_wp2
    go_ret
    exact ⟨rfl, (by (repeat' (first | (with_reducible exact Below.refl _ _) | (with_reducible refine Below.alloc ?_ ?_ _) | (with_reducible exact Nat.le_refl _) | (with_reducible assumption) | omega | (simp only [World.size_alloc]; omega))))⟩
  case pos =>
    rw [c1] at k1
    by_cases c2 : rB a b c = true
    case neg =>
      have c2x : rB a b c = false := by simpa using c2
      have hres : nodeB nm a b c l = false := by unfold nodeB; rw [c2x]; simp
      rw [c2x] at k2
      rw [hres]
      have HK1 := Lib.hid k1
      have HK2 := Lib.hid k2
      clear hres k1 k2 k3 c1 c2 c2x
      go_enter Tryz.func121, Tryz.ntmps121
      go_wp2_with fail
      refine (HK1.out _).mono ?_; rintro e w' ⟨rfl, rfl⟩
      go_wp2_with fail
      refine (HK2.out _).mono ?_; rintro e w1 ⟨rfl, hb1⟩
      obtain ⟨hc1, hf1⟩ := bcell hb1; have hz1 : w.heap.size < w1.heap.size := by have h := hb1.size; (try simp only [World.size_alloc] at h); omega
      go_wp2
      go_ret
      exact ⟨rfl, (by (repeat' (first | (with_reducible exact Below.refl _ _) | (with_reducible refine Below.alloc ?_ ?_ _) | (with_reducible refine Below.trans ?_ (Below.mono hb1 ?_)) | (with_reducible exact Nat.le_refl _) | (with_reducible assumption) | omega | (simp only [World.size_alloc]; omega))))⟩
    case pos =>
      rw [c2] at k2
      by_cases c3 : labelsB l = true
      case neg =>
        have c3x : labelsB l = false := by simpa using c3
        have hres : nodeB nm a b c l = false := by unfold nodeB; rw [c3x]; simp
        rw [c3x] at k3
        rw [hres]
        have HK1 := Lib.hid k1
        have HK2 := Lib.hid k2
        have HK3 := Lib.hid k3
        clear hres k1 k2 k3 c1 c2 c3 c3x
        go_enter Tryz.func121, Tryz.ntmps121
        go_wp2_with fail
        refine (HK1.out _).mono ?_; rintro e w' ⟨rfl, rfl⟩
        go_wp2_with fail
        refine (HK2.out _).mono ?_; rintro e w1 ⟨rfl, hb1⟩
        obtain ⟨hc1, hf1⟩ := bcell hb1; have hz1 : w.heap.size < w1.heap.size := by have h := hb1.size; (try simp only [World.size_alloc] at h); omega
        go_wp2_with fail
        refine (HK3.out _ (hr.out.later (by (repeat' (first | (with_reducible exact Below.refl _ _) | (with_reducible refine Below.alloc ?_ ?_ _) | (with_reducible refine Below.trans ?_ (Below.mono hb1 ?_)) | (with_reducible exact Nat.le_refl _) | (with_reducible assumption) | omega | (simp only [World.size_alloc]; omega)))))).mono ?_; rintro e w2 ⟨rfl, hb2⟩
        obtain ⟨hc2, hf2⟩ := bcell hb2; have hz2 : w.heap.size < w2.heap.size := by have h := hb2.size; (try simp only [World.size_alloc] at h); omega
        go_wp2
        go_ret
        exact ⟨rfl, (by (repeat' (first | (with_reducible exact Below.refl _ _) | (with_reducible refine Below.alloc ?_ ?_ _) | (with_reducible refine Below.trans ?_ (Below.mono hb2 ?_)) | (with_reducible refine Below.trans ?_ (Below.mono hb1 ?_)) | (with_reducible exact Nat.le_refl _) | (with_reducible assumption) | omega | (simp only [World.size_alloc]; omega))))⟩
      case pos =>
        rw [c3] at k3
        have hres : nodeB nm a b c l = true := by unfold nodeB; rw [c1, c2, c3]; rfl
        rw [hres]
        have HK1 := Lib.hid k1
        have HK2 := Lib.hid k2
        have HK3 := Lib.hid k3
        clear hres k1 c1 k2 c2 k3 c3
        go_enter Tryz.func121, Tryz.ntmps121
        go_wp2_with fail
        refine (HK1.out _).mono ?_; rintro e w' ⟨rfl, rfl⟩
        go_wp2_with fail
        refine (HK2.out _).mono ?_; rintro e w1 ⟨rfl, hb1⟩
        obtain ⟨hc1, hf1⟩ := bcell hb1; have hz1 : w.heap.size < w1.heap.size := by have h := hb1.size; (try simp only [World.size_alloc] at h); omega
        go_wp2_with fail
        refine (HK3.out _ (hr.out.later (by (repeat' (first | (with_reducible exact Below.refl _ _) | (with_reducible refine Below.alloc ?_ ?_ _) | (with_reducible refine Below.trans ?_ (Below.mono hb1 ?_)) | (with_reducible exact Nat.le_refl _) | (with_reducible assumption) | omega | (simp only [World.size_alloc]; omega)))))).mono ?_; rintro e w2 ⟨rfl, hb2⟩
        obtain ⟨hc2, hf2⟩ := bcell hb2; have hz2 : w.heap.size < w2.heap.size := by have h := hb2.size; (try simp only [World.size_alloc] at h); omega
        go_wp2
        go_ret
        exact ⟨rfl, (by (repeat' (first | (with_reducible exact Below.refl _ _) | (with_reducible refine Below.alloc ?_ ?_ _) | (with_reducible refine Below.trans ?_ (Below.mono hb2 ?_)) | (with_reducible refine Below.trans ?_ (Below.mono hb1 ?_)) | (with_reducible exact Nat.le_refl _) | (with_reducible assumption) | omega | (simp only [World.size_alloc]; omega))))⟩

set_option maxHeartbeats 3200000 in
set_option maxRecDepth 100000 in
theorem queue_any (nm : ByteArray) (a b c : Int) (w : World) (hnm : nm.size ≤ 9223372036854775807) : Calls Tryz.prog 124 #[.agg #[.string nm, .int .i64 a, .int .i64 b, .int .i64 c]] w fun e w' => e = .returned (.bool (queueB nm a b c)) ∧ Below w.heap.size w w' := by
  have k1 := fun W => name_any nm W hnm
  have k2 := fun W => right_any a b c W
  by_cases c1 : nameB nm = true
  case neg =>
    have c1x : nameB nm = false := by simpa using c1
    have hres : queueB nm a b c = false := by unfold queueB; rw [c1x]; simp
    rw [c1x] at k1
    rw [hres]
    have HK1 := Lib.hid k1
    clear hres k1 k2 c1 c1x
    go_enter Tryz.func124, Tryz.ntmps124
    go_wp2_with fail
    refine (HK1.out _).mono ?_; rintro e w' ⟨rfl, rfl⟩
    go_wp2
    go_ret
    exact ⟨rfl, (by (repeat' (first | (with_reducible exact Below.refl _ _) | (with_reducible refine Below.alloc ?_ ?_ _) | (with_reducible exact Nat.le_refl _) | (with_reducible assumption) | omega | (simp only [World.size_alloc]; omega))))⟩
  case pos =>
    rw [c1] at k1
    by_cases c2 : rB a b c = true
    case neg =>
      have c2x : rB a b c = false := by simpa using c2
      have hres : queueB nm a b c = false := by unfold queueB; rw [c2x]; simp
      rw [c2x] at k2
      rw [hres]
      have HK1 := Lib.hid k1
      have HK2 := Lib.hid k2
      clear hres k1 k2 c1 c2 c2x
      go_enter Tryz.func124, Tryz.ntmps124
      go_wp2_with fail
      refine (HK1.out _).mono ?_; rintro e w' ⟨rfl, rfl⟩
      go_wp2_with fail
      refine (HK2.out _).mono ?_; rintro e w1 ⟨rfl, hb1⟩
      obtain ⟨hc1, hf1⟩ := bcell hb1; have hz1 : w.heap.size < w1.heap.size := by have h := hb1.size; (try simp only [World.size_alloc] at h); omega
      go_wp2
      go_ret
      exact ⟨rfl, (by (repeat' (first | (with_reducible exact Below.refl _ _) | (with_reducible refine Below.alloc ?_ ?_ _) | (with_reducible refine Below.trans ?_ (Below.mono hb1 ?_)) | (with_reducible exact Nat.le_refl _) | (with_reducible assumption) | omega | (simp only [World.size_alloc]; omega))))⟩
    case pos =>
      rw [c2] at k2
      have hres : queueB nm a b c = true := by unfold queueB; rw [c1, c2]; rfl
      rw [hres]
      have HK1 := Lib.hid k1
      have HK2 := Lib.hid k2
      clear hres k1 c1 k2 c2
      go_enter Tryz.func124, Tryz.ntmps124
      go_wp2_with fail
      refine (HK1.out _).mono ?_; rintro e w' ⟨rfl, rfl⟩
      go_wp2_with fail
      refine (HK2.out _).mono ?_; rintro e w1 ⟨rfl, hb1⟩
      obtain ⟨hc1, hf1⟩ := bcell hb1; have hz1 : w.heap.size < w1.heap.size := by have h := hb1.size; (try simp only [World.size_alloc] at h); omega
      go_wp2
      go_ret
      exact ⟨rfl, (by (repeat' (first | (with_reducible exact Below.refl _ _) | (with_reducible refine Below.alloc ?_ ?_ _) | (with_reducible refine Below.trans ?_ (Below.mono hb1 ?_)) | (with_reducible exact Nat.le_refl _) | (with_reducible assumption) | omega | (simp only [World.size_alloc]; omega))))⟩

set_option maxHeartbeats 3200000 in
set_option maxRecDepth 100000 in
theorem rnode_any (nm : ByteArray) (a b c : Int) (A : Option Addr) (n cp : Nat) (l : List Lb) (w : World) (hnm : nm.size ≤ 9223372036854775807) (hn : Hid (n = l.length)) (hr : Hid (RdL w A l)) (hz : Hid (Sz l)) (hc : n ≤ cp) (hc2 : cp ≤ 9223372036854775807) : Calls Tryz.prog 105 #[.agg #[.string nm, .int .i64 a, .int .i64 b, .int .i64 c, .slice A n cp]] w fun e w' => e = .returned (.bool (nodeB nm a b c l)) ∧ Below w.heap.size w w' := by
  have k1 := fun W => rname_any nm W hnm
  have k2 := fun W => rright_any a b c W
  have k3 := fun W (h : RdL W A l) => rlabels_any A n cp l W hn (Lib.hid h) hz hc hc2
  by_cases c1 : nameB nm = true
  case neg =>
    have c1x : nameB nm = false := by simpa using c1
    have hres : nodeB nm a b c l = false := by unfold nodeB; rw [c1x]; simp
    rw [c1x] at k1
    rw [hres]
    have HK1 := Lib.hid k1
    clear hres k1 k2 k3 c1 c1x
    go_enter Tryz.func105, Tryz.ntmps105
    go_wp2_with fail
    refine (HK1.out _).mono ?_; rintro e w' ⟨rfl, rfl⟩
    go_wp2
    go_ret
    exact ⟨rfl, (by (repeat' (first | (with_reducible exact Below.refl _ _) | (with_reducible refine Below.alloc ?_ ?_ _) | (with_reducible exact Nat.le_refl _) | (with_reducible assumption) | omega | (simp only [World.size_alloc]; omega))))⟩
  case pos =>
    rw [c1] at k1
    by_cases c2 : rB a b c = true
    case neg =>
      have c2x : rB a b c = false := by simpa using c2
      have hres : nodeB nm a b c l = false := by unfold nodeB; rw [c2x]; simp
      rw [c2x] at k2
      rw [hres]
      have HK1 := Lib.hid k1
      have HK2 := Lib.hid k2
      clear hres k1 k2 k3 c1 c2 c2x
      go_enter Tryz.func105, Tryz.ntmps105
      go_wp2_with fail
      refine (HK1.out _).mono ?_; rintro e w' ⟨rfl, rfl⟩
      go_wp2_with fail
      refine (HK2.out _).mono ?_; rintro e w1 ⟨rfl, hb1⟩
      obtain ⟨hc1, hf1⟩ := bcell hb1; have hz1 : w.heap.size < w1.heap.size := by have h := hb1.size; (try simp only [World.size_alloc] at h); omega
      go_wp2
      go_ret
      exact ⟨rfl, (by (repeat' (first | (with_reducible exact Below.refl _ _) | (with_reducible refine Below.alloc ?_ ?_ _) | (with_reducible refine Below.trans ?_ (Below.mono hb1 ?_)) | (with_reducible exact Nat.le_refl _) | (with_reducible assumption) | omega | (simp only [World.size_alloc]; omega))))⟩
    case pos =>
      rw [c2] at k2
      by_cases c3 : labelsB l = true
      case neg =>
        have c3x : labelsB l = false := by simpa using c3
        have hres : nodeB nm a b c l = false := by unfold nodeB; rw [c3x]; simp
        rw [c3x] at k3
        rw [hres]
        have HK1 := Lib.hid k1
        have HK2 := Lib.hid k2
        have HK3 := Lib.hid k3
        clear hres k1 k2 k3 c1 c2 c3 c3x
        go_enter Tryz.func105, Tryz.ntmps105
        go_wp2_with fail
        refine (HK1.out _).mono ?_; rintro e w' ⟨rfl, rfl⟩
        go_wp2_with fail
        refine (HK2.out _).mono ?_; rintro e w1 ⟨rfl, hb1⟩
        obtain ⟨hc1, hf1⟩ := bcell hb1; have hz1 : w.heap.size < w1.heap.size := by have h := hb1.size; (try simp only [World.size_alloc] at h); omega
        go_wp2_with fail
        refine (HK3.out _ (hr.out.later (by (repeat' (first | (with_reducible exact Below.refl _ _) | (with_reducible refine Below.alloc ?_ ?_ _) | (with_reducible refine Below.trans ?_ (Below.mono hb1 ?_)) | (with_reducible exact Nat.le_refl _) | (with_reducible assumption) | omega | (simp only [World.size_alloc]; omega)))))).mono ?_; rintro e w2 ⟨rfl, hb2⟩
        obtain ⟨hc2, hf2⟩ := bcell hb2; have hz2 : w.heap.size < w2.heap.size := by have h := hb2.size; (try simp only [World.size_alloc] at h); omega
        go_wp2
        go_ret
        exact ⟨rfl, (by (repeat' (first | (with_reducible exact Below.refl _ _) | (with_reducible refine Below.alloc ?_ ?_ _) | (with_reducible refine Below.trans ?_ (Below.mono hb2 ?_)) | (with_reducible refine Below.trans ?_ (Below.mono hb1 ?_)) | (with_reducible exact Nat.le_refl _) | (with_reducible assumption) | omega | (simp only [World.size_alloc]; omega))))⟩
      case pos =>
        rw [c3] at k3
        have hres : nodeB nm a b c l = true := by unfold nodeB; rw [c1, c2, c3]; rfl
        rw [hres]
        have HK1 := Lib.hid k1
        have HK2 := Lib.hid k2
        have HK3 := Lib.hid k3
        clear hres k1 c1 k2 c2 k3 c3
        go_enter Tryz.func105, Tryz.ntmps105
        go_wp2_with fail
        refine (HK1.out _).mono ?_; rintro e w' ⟨rfl, rfl⟩
        go_wp2_with fail
        refine (HK2.out _).mono ?_; rintro e w1 ⟨rfl, hb1⟩
        obtain ⟨hc1, hf1⟩ := bcell hb1; have hz1 : w.heap.size < w1.heap.size := by have h := hb1.size; (try simp only [World.size_alloc] at h); omega
        go_wp2_with fail
        refine (HK3.out _ (hr.out.later (by (repeat' (first | (with_reducible exact Below.refl _ _) | (with_reducible refine Below.alloc ?_ ?_ _) | (with_reducible refine Below.trans ?_ (Below.mono hb1 ?_)) | (with_reducible exact Nat.le_refl _) | (with_reducible assumption) | omega | (simp only [World.size_alloc]; omega)))))).mono ?_; rintro e w2 ⟨rfl, hb2⟩
        obtain ⟨hc2, hf2⟩ := bcell hb2; have hz2 : w.heap.size < w2.heap.size := by have h := hb2.size; (try simp only [World.size_alloc] at h); omega
        go_wp2
        go_ret
        exact ⟨rfl, (by (repeat' (first | (with_reducible exact Below.refl _ _) | (with_reducible refine Below.alloc ?_ ?_ _) | (with_reducible refine Below.trans ?_ (Below.mono hb2 ?_)) | (with_reducible refine Below.trans ?_ (Below.mono hb1 ?_)) | (with_reducible exact Nat.le_refl _) | (with_reducible assumption) | omega | (simp only [World.size_alloc]; omega))))⟩

set_option maxHeartbeats 3200000 in
set_option maxRecDepth 100000 in
theorem rqueue_any (nm : ByteArray) (a b c : Int) (w : World) (hnm : nm.size ≤ 9223372036854775807) : Calls Tryz.prog 107 #[.agg #[.string nm, .int .i64 a, .int .i64 b, .int .i64 c]] w fun e w' => e = .returned (.bool (queueB nm a b c)) ∧ Below w.heap.size w w' := by
  have k1 := fun W => rname_any nm W hnm
  have k2 := fun W => rright_any a b c W
  by_cases c1 : nameB nm = true
  case neg =>
    have c1x : nameB nm = false := by simpa using c1
    have hres : queueB nm a b c = false := by unfold queueB; rw [c1x]; simp
    rw [c1x] at k1
    rw [hres]
    have HK1 := Lib.hid k1
    clear hres k1 k2 c1 c1x
    go_enter Tryz.func107, Tryz.ntmps107
    go_wp2_with fail
    refine (HK1.out _).mono ?_; rintro e w' ⟨rfl, rfl⟩
    go_wp2
    go_ret
    exact ⟨rfl, (by (repeat' (first | (with_reducible exact Below.refl _ _) | (with_reducible refine Below.alloc ?_ ?_ _) | (with_reducible exact Nat.le_refl _) | (with_reducible assumption) | omega | (simp only [World.size_alloc]; omega))))⟩
  case pos =>
    rw [c1] at k1
    by_cases c2 : rB a b c = true
    case neg =>
      have c2x : rB a b c = false := by simpa using c2
      have hres : queueB nm a b c = false := by unfold queueB; rw [c2x]; simp
      rw [c2x] at k2
      rw [hres]
      have HK1 := Lib.hid k1
      have HK2 := Lib.hid k2
      clear hres k1 k2 c1 c2 c2x
      go_enter Tryz.func107, Tryz.ntmps107
      go_wp2_with fail
      refine (HK1.out _).mono ?_; rintro e w' ⟨rfl, rfl⟩
      go_wp2_with fail
      refine (HK2.out _).mono ?_; rintro e w1 ⟨rfl, hb1⟩
      obtain ⟨hc1, hf1⟩ := bcell hb1; have hz1 : w.heap.size < w1.heap.size := by have h := hb1.size; (try simp only [World.size_alloc] at h); omega
      go_wp2
      go_ret
      exact ⟨rfl, (by (repeat' (first | (with_reducible exact Below.refl _ _) | (with_reducible refine Below.alloc ?_ ?_ _) | (with_reducible refine Below.trans ?_ (Below.mono hb1 ?_)) | (with_reducible exact Nat.le_refl _) | (with_reducible assumption) | omega | (simp only [World.size_alloc]; omega))))⟩
    case pos =>
      rw [c2] at k2
      have hres : queueB nm a b c = true := by unfold queueB; rw [c1, c2]; rfl
      rw [hres]
      have HK1 := Lib.hid k1
      have HK2 := Lib.hid k2
      clear hres k1 c1 k2 c2
      go_enter Tryz.func107, Tryz.ntmps107
      go_wp2_with fail
      refine (HK1.out _).mono ?_; rintro e w' ⟨rfl, rfl⟩
      go_wp2_with fail
      refine (HK2.out _).mono ?_; rintro e w1 ⟨rfl, hb1⟩
      obtain ⟨hc1, hf1⟩ := bcell hb1; have hz1 : w.heap.size < w1.heap.size := by have h := hb1.size; (try simp only [World.size_alloc] at h); omega
      go_wp2
      go_ret
      exact ⟨rfl, (by (repeat' (first | (with_reducible exact Below.refl _ _) | (with_reducible refine Below.alloc ?_ ?_ _) | (with_reducible refine Below.trans ?_ (Below.mono hb1 ?_)) | (with_reducible exact Nat.le_refl _) | (with_reducible assumption) | omega | (simp only [World.size_alloc]; omega))))⟩

set_option maxHeartbeats 3200000 in
set_option maxRecDepth 100000 in
theorem task_any (nm qu : ByteArray) (pr a b c : Int) (A : Option Addr) (n cp : Nat) (l : List Lb) (ap ga : ByteArray) (sz : Int) (w : World) (hnm : nm.size ≤ 9223372036854775807) (hqu : qu.size ≤ 9223372036854775807) (hn : Hid (n = l.length)) (hr : Hid (RdL w A l)) (hz : Hid (Sz l)) (hc : n ≤ cp) (hc2 : cp ≤ 9223372036854775807) (hap : ap.size ≤ 9223372036854775807) (hga : ga.size ≤ 9223372036854775807) : Calls Tryz.prog 127 #[.agg #[.string nm, .string qu, .int .i64 pr, .int .i64 a, .int .i64 b, .int .i64 c, .slice A n cp, .string ap, .string ga, .int .i64 sz]] w fun e w' => e = .returned (.bool (taskB nm qu pr a b c l ap ga sz)) ∧ Below w.heap.size w w' := by
  have k1 := fun W => name_any nm W hnm
  have k2 := fun W => name_any qu W hqu
  have k5 := fun W => right_any a b c W
  have k6 := fun W (h : RdL W A l) => labels_any A n cp l W hn (Lib.hid h) hz hc hc2
  have k7 := fun W => apart_any ap W hap
  have k8 := fun W => gang_any ga sz W hga
  by_cases c1 : nameB nm = true
  case neg =>
    have c1x : nameB nm = false := by simpa using c1
    have hres : taskB nm qu pr a b c l ap ga sz = false := by unfold taskB; rw [c1x]; simp
    rw [c1x] at k1
    rw [hres]
    have HK1 := Lib.hid k1
    clear hres k1 k2 k5 k6 k7 k8 c1 c1x
    go_enter Tryz.func127, Tryz.ntmps127
    go_wp2_with fail
    refine (HK1.out _).mono ?_; rintro e w' ⟨rfl, rfl⟩
    go_wp2
    go_ret
    exact ⟨rfl, (by (repeat' (first | (with_reducible exact Below.refl _ _) | (with_reducible refine Below.alloc ?_ ?_ _) | (with_reducible exact Nat.le_refl _) | (with_reducible assumption) | omega | (simp only [World.size_alloc]; omega))))⟩
  case pos =>
    rw [c1] at k1
    by_cases c2 : nameB qu = true
    case neg =>
      have c2x : nameB qu = false := by simpa using c2
      have hres : taskB nm qu pr a b c l ap ga sz = false := by unfold taskB; rw [c2x]; simp
      rw [c2x] at k2
      rw [hres]
      have HK1 := Lib.hid k1
      have HK2 := Lib.hid k2
      clear hres k1 k2 k5 k6 k7 k8 c1 c2 c2x
      go_enter Tryz.func127, Tryz.ntmps127
      go_wp2_with fail
      refine (HK1.out _).mono ?_; rintro e w' ⟨rfl, rfl⟩
      go_wp2_with fail
      refine (HK2.out _).mono ?_; rintro e w' ⟨rfl, rfl⟩
      go_wp2
      go_ret
      exact ⟨rfl, (by (repeat' (first | (with_reducible exact Below.refl _ _) | (with_reducible refine Below.alloc ?_ ?_ _) | (with_reducible exact Nat.le_refl _) | (with_reducible assumption) | omega | (simp only [World.size_alloc]; omega))))⟩
    case pos =>
      rw [c2] at k2
      by_cases c3 : 0 ≤ pr
      case neg =>
        have hres : taskB nm qu pr a b c l ap ga sz = false := by unfold taskB; rw [show decide (0 ≤ pr) = false from decide_eq_false c3]; simp
        rw [hres]
        have HK1 := Lib.hid k1
        have HK2 := Lib.hid k2
        clear hres k1 k2 k5 k6 k7 k8 c1 c2
        go_enter Tryz.func127, Tryz.ntmps127
        go_wp2_with fail
        refine (HK1.out _).mono ?_; rintro e w' ⟨rfl, rfl⟩
        go_wp2_with fail
        refine (HK2.out _).mono ?_; rintro e w' ⟨rfl, rfl⟩
        go_wp2
        go_ret
        exact ⟨rfl, (by (repeat' (first | (with_reducible exact Below.refl _ _) | (with_reducible refine Below.alloc ?_ ?_ _) | (with_reducible exact Nat.le_refl _) | (with_reducible assumption) | omega | (simp only [World.size_alloc]; omega))))⟩
      case pos =>
        by_cases c4 : pr ≤ 9
        case neg =>
          have hres : taskB nm qu pr a b c l ap ga sz = false := by unfold taskB; rw [show decide (pr ≤ 9) = false from decide_eq_false c4]; simp
          rw [hres]
          have HK1 := Lib.hid k1
          have HK2 := Lib.hid k2
          clear hres k1 k2 k5 k6 k7 k8 c1 c2
          go_enter Tryz.func127, Tryz.ntmps127
          go_wp2_with fail
          refine (HK1.out _).mono ?_; rintro e w' ⟨rfl, rfl⟩
          go_wp2_with fail
          refine (HK2.out _).mono ?_; rintro e w' ⟨rfl, rfl⟩
          go_wp2
          go_ret
          exact ⟨rfl, (by (repeat' (first | (with_reducible exact Below.refl _ _) | (with_reducible refine Below.alloc ?_ ?_ _) | (with_reducible exact Nat.le_refl _) | (with_reducible assumption) | omega | (simp only [World.size_alloc]; omega))))⟩
        case pos =>
          by_cases c5 : rB a b c = true
          case neg =>
            have c5x : rB a b c = false := by simpa using c5
            have hres : taskB nm qu pr a b c l ap ga sz = false := by unfold taskB; rw [c5x]; simp
            rw [c5x] at k5
            rw [hres]
            have HK1 := Lib.hid k1
            have HK2 := Lib.hid k2
            have HK5 := Lib.hid k5
            clear hres k1 k2 k5 k6 k7 k8 c1 c2 c5 c5x
            go_enter Tryz.func127, Tryz.ntmps127
            go_wp2_with fail
            refine (HK1.out _).mono ?_; rintro e w' ⟨rfl, rfl⟩
            go_wp2_with fail
            refine (HK2.out _).mono ?_; rintro e w' ⟨rfl, rfl⟩
            go_wp2_with fail
            refine (HK5.out _).mono ?_; rintro e w1 ⟨rfl, hb1⟩
            obtain ⟨hc1, hf1⟩ := bcell hb1; have hz1 : w.heap.size < w1.heap.size := by have h := hb1.size; (try simp only [World.size_alloc] at h); omega
            go_wp2
            go_ret
            exact ⟨rfl, (by (repeat' (first | (with_reducible exact Below.refl _ _) | (with_reducible refine Below.alloc ?_ ?_ _) | (with_reducible refine Below.trans ?_ (Below.mono hb1 ?_)) | (with_reducible exact Nat.le_refl _) | (with_reducible assumption) | omega | (simp only [World.size_alloc]; omega))))⟩
          case pos =>
            rw [c5] at k5
            by_cases c6 : labelsB l = true
            case neg =>
              have c6x : labelsB l = false := by simpa using c6
              have hres : taskB nm qu pr a b c l ap ga sz = false := by unfold taskB; rw [c6x]; simp
              rw [c6x] at k6
              rw [hres]
              have HK1 := Lib.hid k1
              have HK2 := Lib.hid k2
              have HK5 := Lib.hid k5
              have HK6 := Lib.hid k6
              clear hres k1 k2 k5 k6 k7 k8 c1 c2 c5 c6 c6x
              go_enter Tryz.func127, Tryz.ntmps127
              go_wp2_with fail
              refine (HK1.out _).mono ?_; rintro e w' ⟨rfl, rfl⟩
              go_wp2_with fail
              refine (HK2.out _).mono ?_; rintro e w' ⟨rfl, rfl⟩
              go_wp2_with fail
              refine (HK5.out _).mono ?_; rintro e w1 ⟨rfl, hb1⟩
              obtain ⟨hc1, hf1⟩ := bcell hb1; have hz1 : w.heap.size < w1.heap.size := by have h := hb1.size; (try simp only [World.size_alloc] at h); omega
              go_wp2_with fail
              refine (HK6.out _ (hr.out.later (by (repeat' (first | (with_reducible exact Below.refl _ _) | (with_reducible refine Below.alloc ?_ ?_ _) | (with_reducible refine Below.trans ?_ (Below.mono hb1 ?_)) | (with_reducible exact Nat.le_refl _) | (with_reducible assumption) | omega | (simp only [World.size_alloc]; omega)))))).mono ?_; rintro e w2 ⟨rfl, hb2⟩
              obtain ⟨hc2, hf2⟩ := bcell hb2; have hz2 : w.heap.size < w2.heap.size := by have h := hb2.size; (try simp only [World.size_alloc] at h); omega
              go_wp2
              go_ret
              exact ⟨rfl, (by (repeat' (first | (with_reducible exact Below.refl _ _) | (with_reducible refine Below.alloc ?_ ?_ _) | (with_reducible refine Below.trans ?_ (Below.mono hb2 ?_)) | (with_reducible refine Below.trans ?_ (Below.mono hb1 ?_)) | (with_reducible exact Nat.le_refl _) | (with_reducible assumption) | omega | (simp only [World.size_alloc]; omega))))⟩
            case pos =>
              rw [c6] at k6
              by_cases c7 : apartB ap = true
              case neg =>
                have c7x : apartB ap = false := by simpa using c7
                have hres : taskB nm qu pr a b c l ap ga sz = false := by unfold taskB; rw [c7x]; simp
                rw [c7x] at k7
                rw [hres]
                have HK1 := Lib.hid k1
                have HK2 := Lib.hid k2
                have HK5 := Lib.hid k5
                have HK6 := Lib.hid k6
                have HK7 := Lib.hid k7
                clear hres k1 k2 k5 k6 k7 k8 c1 c2 c5 c6 c7 c7x
                go_enter Tryz.func127, Tryz.ntmps127
                go_wp2_with fail
                refine (HK1.out _).mono ?_; rintro e w' ⟨rfl, rfl⟩
                go_wp2_with fail
                refine (HK2.out _).mono ?_; rintro e w' ⟨rfl, rfl⟩
                go_wp2_with fail
                refine (HK5.out _).mono ?_; rintro e w1 ⟨rfl, hb1⟩
                obtain ⟨hc1, hf1⟩ := bcell hb1; have hz1 : w.heap.size < w1.heap.size := by have h := hb1.size; (try simp only [World.size_alloc] at h); omega
                go_wp2_with fail
                refine (HK6.out _ (hr.out.later (by (repeat' (first | (with_reducible exact Below.refl _ _) | (with_reducible refine Below.alloc ?_ ?_ _) | (with_reducible refine Below.trans ?_ (Below.mono hb1 ?_)) | (with_reducible exact Nat.le_refl _) | (with_reducible assumption) | omega | (simp only [World.size_alloc]; omega)))))).mono ?_; rintro e w2 ⟨rfl, hb2⟩
                obtain ⟨hc2, hf2⟩ := bcell hb2; have hz2 : w.heap.size < w2.heap.size := by have h := hb2.size; (try simp only [World.size_alloc] at h); omega
                go_wp2_with fail
                refine (HK7.out _).mono ?_; rintro e w' ⟨rfl, rfl⟩
                go_wp2
                go_ret
                exact ⟨rfl, (by (repeat' (first | (with_reducible exact Below.refl _ _) | (with_reducible refine Below.alloc ?_ ?_ _) | (with_reducible refine Below.trans ?_ (Below.mono hb2 ?_)) | (with_reducible refine Below.trans ?_ (Below.mono hb1 ?_)) | (with_reducible exact Nat.le_refl _) | (with_reducible assumption) | omega | (simp only [World.size_alloc]; omega))))⟩
              case pos =>
                rw [c7] at k7
                by_cases c8 : gangB ga sz = true
                case neg =>
                  have c8x : gangB ga sz = false := by simpa using c8
                  have hres : taskB nm qu pr a b c l ap ga sz = false := by unfold taskB; rw [c8x]; simp
                  rw [c8x] at k8
                  rw [hres]
                  have HK1 := Lib.hid k1
                  have HK2 := Lib.hid k2
                  have HK5 := Lib.hid k5
                  have HK6 := Lib.hid k6
                  have HK7 := Lib.hid k7
                  have HK8 := Lib.hid k8
                  clear hres k1 k2 k5 k6 k7 k8 c1 c2 c5 c6 c7 c8 c8x
                  go_enter Tryz.func127, Tryz.ntmps127
                  go_wp2_with fail
                  refine (HK1.out _).mono ?_; rintro e w' ⟨rfl, rfl⟩
                  go_wp2_with fail
                  refine (HK2.out _).mono ?_; rintro e w' ⟨rfl, rfl⟩
                  go_wp2_with fail
                  refine (HK5.out _).mono ?_; rintro e w1 ⟨rfl, hb1⟩
                  obtain ⟨hc1, hf1⟩ := bcell hb1; have hz1 : w.heap.size < w1.heap.size := by have h := hb1.size; (try simp only [World.size_alloc] at h); omega
                  go_wp2_with fail
                  refine (HK6.out _ (hr.out.later (by (repeat' (first | (with_reducible exact Below.refl _ _) | (with_reducible refine Below.alloc ?_ ?_ _) | (with_reducible refine Below.trans ?_ (Below.mono hb1 ?_)) | (with_reducible exact Nat.le_refl _) | (with_reducible assumption) | omega | (simp only [World.size_alloc]; omega)))))).mono ?_; rintro e w2 ⟨rfl, hb2⟩
                  obtain ⟨hc2, hf2⟩ := bcell hb2; have hz2 : w.heap.size < w2.heap.size := by have h := hb2.size; (try simp only [World.size_alloc] at h); omega
                  go_wp2_with fail
                  refine (HK7.out _).mono ?_; rintro e w' ⟨rfl, rfl⟩
                  go_wp2_with fail
                  refine (HK8.out _).mono ?_; rintro e w' ⟨rfl, rfl⟩
                  go_wp2
                  go_ret
                  exact ⟨rfl, (by (repeat' (first | (with_reducible exact Below.refl _ _) | (with_reducible refine Below.alloc ?_ ?_ _) | (with_reducible refine Below.trans ?_ (Below.mono hb2 ?_)) | (with_reducible refine Below.trans ?_ (Below.mono hb1 ?_)) | (with_reducible exact Nat.le_refl _) | (with_reducible assumption) | omega | (simp only [World.size_alloc]; omega))))⟩
                case pos =>
                  rw [c8] at k8
                  have hres : taskB nm qu pr a b c l ap ga sz = true := by unfold taskB; rw [c1, c2, show decide (0 ≤ pr) = true from decide_eq_true c3, show decide (pr ≤ 9) = true from decide_eq_true c4, c5, c6, c7, c8]; rfl
                  rw [hres]
                  have HK1 := Lib.hid k1
                  have HK2 := Lib.hid k2
                  have HK5 := Lib.hid k5
                  have HK6 := Lib.hid k6
                  have HK7 := Lib.hid k7
                  have HK8 := Lib.hid k8
                  clear hres k1 c1 k2 c2 k5 c5 k6 c6 k7 c7 k8 c8
                  go_enter Tryz.func127, Tryz.ntmps127
                  go_wp2_with fail
                  refine (HK1.out _).mono ?_; rintro e w' ⟨rfl, rfl⟩
                  go_wp2_with fail
                  refine (HK2.out _).mono ?_; rintro e w' ⟨rfl, rfl⟩
                  go_wp2_with fail
                  refine (HK5.out _).mono ?_; rintro e w1 ⟨rfl, hb1⟩
                  obtain ⟨hc1, hf1⟩ := bcell hb1; have hz1 : w.heap.size < w1.heap.size := by have h := hb1.size; (try simp only [World.size_alloc] at h); omega
                  go_wp2_with fail
                  refine (HK6.out _ (hr.out.later (by (repeat' (first | (with_reducible exact Below.refl _ _) | (with_reducible refine Below.alloc ?_ ?_ _) | (with_reducible refine Below.trans ?_ (Below.mono hb1 ?_)) | (with_reducible exact Nat.le_refl _) | (with_reducible assumption) | omega | (simp only [World.size_alloc]; omega)))))).mono ?_; rintro e w2 ⟨rfl, hb2⟩
                  obtain ⟨hc2, hf2⟩ := bcell hb2; have hz2 : w.heap.size < w2.heap.size := by have h := hb2.size; (try simp only [World.size_alloc] at h); omega
                  go_wp2_with fail
                  refine (HK7.out _).mono ?_; rintro e w' ⟨rfl, rfl⟩
                  go_wp2_with fail
                  refine (HK8.out _).mono ?_; rintro e w' ⟨rfl, rfl⟩
                  go_wp2
                  go_ret
                  exact ⟨rfl, (by (repeat' (first | (with_reducible exact Below.refl _ _) | (with_reducible refine Below.alloc ?_ ?_ _) | (with_reducible refine Below.trans ?_ (Below.mono hb2 ?_)) | (with_reducible refine Below.trans ?_ (Below.mono hb1 ?_)) | (with_reducible exact Nat.le_refl _) | (with_reducible assumption) | omega | (simp only [World.size_alloc]; omega))))⟩

end Go.Proofs.YtjgojgmgicpgaaaGreat
