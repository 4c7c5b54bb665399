/- The contracts of the statements' own size test (few) and of the document's test whether labels are alike (Same). Condition: the slices are ones that Go can have. -/
import Derived.Test.YtlomeicilgfhnaaGreatLab
import Derived.BigQuiet
import Derived.Deep.QuietTactic
import Derived.Handy
namespace Go.Proofs.YtlomeicilgfhnaaGreat
open Go.RowKit
set_option linter.unusedSimpArgs false
set_option linter.unusedVariables false

theorem ret_bool' {a b : Bool} (h : a = b) : Ending.returned (.bool a) = .returned (.bool b) := by rw [h]
/-- Is this label of a size that is looked at? -/
def smallB (x : Lb) : Bool := decide (x.1.size + x.2.size ≤ 1000)
/-- Are labels of a size that is looked at? -/
def fewB (l : List Lb) : Bool := decide (l.length ≤ 300) && l.all smallB

theorem all_takeL {l : List Lb} {p : Lb → Bool} {k : Nat} (h : k < l.length) : (l.take (k + 1)).all p = ((l.take k).all p && p l[k]) := by
  rw [List.take_succ_eq_append_getElem h, List.all_append]; simp
theorem all_take_falseL {l : List Lb} {p : Lb → Bool} {k : Nat} (h : k < l.length) (hp : p l[k] = false) : l.all p = false := by
  rw [List.all_eq_false]
  exact ⟨l[k], List.getElem_mem h, by simp [hp]⟩


@[go_sem] theorem run_guardL (op : BinOp) (x y : Operand) (xs ys : Array Value) (w : World) : (eqGuard op 70 x y (.agg xs) (.agg ys)).run Tryz.prog w = .ok () w := run_eqGuard_agg w op 70 x y xs ys (by kernel_rfl)

theorem lE_yes {x y : Lb} (h : lE x y = true) : x.1.toList = y.1.toList ∧ x.2.toList = y.2.toList := by rw [lE_iff.1 h]; exact ⟨rfl, rfl⟩
theorem lE_no {x y : Lb} (h : lE x y = false) : (x.1.toList ≠ y.1.toList) ∨ (x.1.toList = y.1.toList ∧ x.2.toList ≠ y.2.toList) := by
  by_cases h1 : x.1.toList = y.1.toList
  · refine .inr ⟨h1, fun h2 => ?_⟩
    unfold lE sE at h
    simp [h1, h2] at h
  · exact .inl h1

/-- Are labels alike? -/
def sameB (l m : List Lb) : Bool := decide (l = m)
theorem same_len {l m : List Lb} (h : l.length ≠ m.length) : sameB l m = false := decide_eq_false fun hc => h (by rw [hc])
theorem same_at {l m : List Lb} {k : Nat} (h1 : k < l.length) (h2 : k < m.length) (h : lE l[k] m[k] = false) : sameB l m = false := decide_eq_false fun hc => by
  subst hc
  rw [lE_iff.2 rfl] at h; cases h

set_option maxHeartbeats 1600000 in
theorem same_any (A B : Option Addr) (n c m d : Nat) (l r : List Lb) (w : World) (hn : Hid (n = l.length)) (hm : Hid (m = r.length)) (hr : Hid (RdL w A l)) (hq : Hid (RdL w B r)) (hc : n ≤ c) (hc2 : c ≤ 9223372036854775807) (hd : m ≤ d) (hd2 : d ≤ 9223372036854775807) :
    Calls Tryz.prog 92 #[.slice A n c, .slice B m d] w fun e w' => e = .returned (.bool (sameB l r)) ∧ Below w.heap.size w w' := by
  by_cases hnm : n = m
  · obtain rfl : n = m := hnm
    go_enter Tryz.func92, Tryz.ntmps92
    go_wp2
    go_loopw [5, 13] (fun _ i wr => ∃ k : Nat, k ≤ n ∧ i = .int .i64 k ∧ Hid (l.take k = r.take k) ∧ Below w.heap.size w wr) (fun _ i wr => n - (intOf i).toNat)
    case atStart => exact ⟨0, Nat.zero_le _, rfl, (show l.take 0 = r.take 0 by simp), Below.refl _ _⟩
    case round =>
      obtain ⟨k, hk, rfl, HA, hb⟩ := hrel
      by_cases hlt : k < n
      · have hl : k < l.length := by have := hn.out; omega
        have hl2 : k < r.length := by have := hm.out; omega
        obtain ⟨g, o, rfl, hg, h1, h2⟩ := (hr.out.later hb).at hl
        obtain ⟨g', o', rfl, hg', h1', h2'⟩ := (hq.out.later hb).at hl2
        by_cases hE : lE l[k] r[k] = true
        · have HS : Hid (l.take (k + 1) = r.take (k + 1)) := by
            show _ = _
            rw [List.take_succ_eq_append_getElem hl, List.take_succ_eq_append_getElem hl2, HA.out, lE_iff.1 hE]
          obtain ⟨e1, e2⟩ := lE_yes hE
          clear hE
          go_wp2_with fail
          go_quiet (fail)
          go_wp2
          go_round
          case rel => exact ⟨k + 1, by omega, by go_num, HS, (by (repeat' (first | (with_reducible exact Below.refl _ _) | (with_reducible refine bdrewN ?_ _) | (with_reducible refine Below.drew ?_) | (with_reducible refine Below.setCell ?_ ?_ _) | (with_reducible refine Below.alloc ?_ ?_ _) | (with_reducible refine Below.trans ?_ (Below.mono hb ?_)) | (with_reducible exact Nat.le_refl _) | (with_reducible assumption) | omega | (simp only [World.size_alloc, World.size_setCell, World.size_drew, sz_drewN]; omega))))⟩
          case measure => simp [intOf]; omega
        · have HK : Hid (sameB l r = false) := same_at hl hl2 (by simpa using hE)
          have hE' := lE_no (by simpa using hE)
          clear hE
          rcases hE' with e1 | ⟨e1, e2⟩
          all_goals
            go_wp2_with fail
            go_quiet (fail)
            go_wp2
            go_ret
            exact ⟨ret_bool' HK.out.symm, (by (repeat' (first | (with_reducible exact Below.refl _ _) | (with_reducible refine bdrewN ?_ _) | (with_reducible refine Below.drew ?_) | (with_reducible refine Below.setCell ?_ ?_ _) | (with_reducible refine Below.alloc ?_ ?_ _) | (with_reducible refine Below.trans ?_ (Below.mono hb ?_)) | (with_reducible exact Nat.le_refl _) | (with_reducible assumption) | omega | (simp only [World.size_alloc, World.size_setCell, World.size_drew, sz_drewN]; omega))))⟩
      · have HK : Hid (sameB l r = true) := decide_eq_true (by
          have := HA.out
          rwa [List.take_of_length_le (by have := hn.out; omega), List.take_of_length_le (by have := hm.out; omega)] at this)
        go_wp2
        go_ret
        exact ⟨ret_bool' HK.out.symm, (by (repeat' (first | (with_reducible exact Below.refl _ _) | (with_reducible refine bdrewN ?_ _) | (with_reducible refine Below.drew ?_) | (with_reducible refine Below.setCell ?_ ?_ _) | (with_reducible refine Below.alloc ?_ ?_ _) | (with_reducible refine Below.trans ?_ (Below.mono hb ?_)) | (with_reducible exact Nat.le_refl _) | (with_reducible assumption) | omega | (simp only [World.size_alloc, World.size_setCell, World.size_drew, sz_drewN]; omega))))⟩
  · have hr : sameB l r = false := same_len (by have := hn.out; have := hm.out; omega)
    rw [hr]
    go_enter Tryz.func92, Tryz.ntmps92
    go_wp2
    go_ret
    exact ⟨rfl, Below.refl _ _⟩
end Go.Proofs.YtlomeicilgfhnaaGreat
