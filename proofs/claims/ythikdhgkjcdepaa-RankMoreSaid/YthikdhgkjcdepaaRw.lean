/- The contract of the statements' own size test (few). Condition: the slices are ones that Go can have. -/
import Derived.Test.YthikdhgkjcdepaaMc
namespace Go.Proofs.Ythikdhgkjcdepaa
open Go.RowKit
set_option linter.unusedSimpArgs false
set_option linter.unusedVariables false

/-- Is this machine of a size that is looked at? -/
def mfew (m : Mc) : Bool := decide (m.n ≤ 20) && decide (m.nm.size ≤ 1000)
/-- Are these machines, so many jobs, so many wanted labels? -/
def fewR (l : List Mc) (k q : Nat) : Bool := decide (l.length ≤ 40) && decide (k ≤ 100) && decide (q ≤ 20) && l.all mfew
theorem all_takeM {l : List Mc} {p : Mc → Bool} {k : Nat} (h : k < l.length) : (l.take (k + 1)).all p = ((l.take k).all p && p l[k]) := by
  rw [List.take_succ_eq_append_getElem h, List.all_append]; simp
theorem all_take_falseM {l : List Mc} {p : Mc → Bool} {k : Nat} (h : k < l.length) (hp : p l[k] = false) : l.all p = false := by
  rw [List.all_eq_false]
  exact ⟨l[k], List.getElem_mem h, by simp [hp]⟩

set_option maxHeartbeats 3200000 in
theorem few_any (A : Option Addr) (n cap : Nat) (l : List Mc) (B : Option Addr) (k c : Nat) (t : Kt) (w : World) (hn : Hid (n = l.length)) (hl : n ≤ 9223372036854775807) (hk : k ≤ 9223372036854775807) (hq : t.n ≤ 9223372036854775807) (hA : Hid (RdM w A l)) :
    Calls Try.prog 8 #[.slice A n cap, .slice B k c, .agg t.arr] w fun e w' => e = .returned (.bool (fewR l k t.n)) ∧ Below w.heap.size w w' := by
  obtain ⟨R, hR⟩ : ∃ R, fewR l k t.n = R := ⟨_, rfl⟩
  rw [hR]
  have HR := Lib.hid hR; clear hR
  by_cases h1 : n ≤ 40
  case neg =>
    have hq : R = false := by rw [← HR.out]; unfold fewR; rw [decide_eq_false (by rw [← hn.out]; exact h1)]; rfl
    subst hq
    go_enter Try.func8, Try.ntmps8
    go_wp2_with fail
    go_ret
    exact ⟨rfl, (by (repeat' (first | (with_reducible exact Below.refl _ _) | (with_reducible refine bdrewN ?_ _) | (with_reducible refine Below.drew ?_) | (with_reducible refine Below.setCell ?_ ?_ _) | (with_reducible refine Below.alloc ?_ ?_ _) | (with_reducible exact Nat.le_refl _) | (with_reducible assumption) | omega | (simp only [World.size_alloc, World.size_setCell, World.size_drew, sz_drewN]; omega))))⟩
  have d1 : decide (40 < (n : Int)) = false := by rw [decide_eq_false_iff_not]; omega
  by_cases h2 : k ≤ 100
  case neg =>
    have hq : R = false := by rw [← HR.out]; unfold fewR; rw [decide_eq_false h2, Bool.and_false]; rfl
    subst hq
    go_enter Try.func8, Try.ntmps8
    go_wp2_with fail
    go_ret
    exact ⟨rfl, (by (repeat' (first | (with_reducible exact Below.refl _ _) | (with_reducible refine bdrewN ?_ _) | (with_reducible refine Below.drew ?_) | (with_reducible refine Below.setCell ?_ ?_ _) | (with_reducible refine Below.alloc ?_ ?_ _) | (with_reducible exact Nat.le_refl _) | (with_reducible assumption) | omega | (simp only [World.size_alloc, World.size_setCell, World.size_drew, sz_drewN]; omega))))⟩
  have d2 : decide (100 < (k : Int)) = false := by rw [decide_eq_false_iff_not]; omega
  have HB : ∀ u, (w.alloc (.cells t.arr u)).cell? ⟨w.heap.size, 6, none⟩ = some (.slice t.A t.n t.cp) := fun u => (Bk.fresh w u t.arr).cellAt 6
  by_cases h3 : t.n ≤ 20
  case neg =>
    have hq : R = false := by rw [← HR.out]; unfold fewR; rw [decide_eq_false h3, Bool.and_false]; rfl
    subst hq
    have hc := HB 28
    clear HB
    go_enter Try.func8, Try.ntmps8
    go_wp2_with fail
    go_ret
    exact ⟨rfl, (by (repeat' (first | (with_reducible exact Below.refl _ _) | (with_reducible refine bdrewN ?_ _) | (with_reducible refine Below.drew ?_) | (with_reducible refine Below.setCell ?_ ?_ _) | (with_reducible refine Below.alloc ?_ ?_ _) | (with_reducible exact Nat.le_refl _) | (with_reducible assumption) | omega | (simp only [World.size_alloc, World.size_setCell, World.size_drew, sz_drewN]; omega))))⟩
  have d3 : decide (20 < (t.n : Int)) = false := by rw [decide_eq_false_iff_not]; omega
  have hq : l.all mfew = R := by rw [← HR.out]; unfold fewR; rw [decide_eq_true (by rw [← hn.out]; exact h1), decide_eq_true h2, decide_eq_true h3]; simp
  have HQ := Lib.hid hq; clear hq HR
  have hc := HB 28
  clear HB
  go_enter Try.func8, Try.ntmps8
  go_wp2_with fail
  clear hc d3
  go_loopw [7, 24] (fun _ i wr => ∃ j : Nat, j ≤ n ∧ i = .int .i64 j ∧ Hid ((l.take j).all mfew = true) ∧ Below w.heap.size w wr) (fun _ i wr => n - (intOf i).toNat)
  case atStart => exact ⟨0, Nat.zero_le _, rfl, (show _ = _ by simp), (by (repeat' (first | (with_reducible exact Below.refl _ _) | (with_reducible refine bdrewN ?_ _) | (with_reducible refine Below.drew ?_) | (with_reducible refine Below.setCell ?_ ?_ _) | (with_reducible refine Below.alloc ?_ ?_ _) | (with_reducible exact Nat.le_refl _) | (with_reducible assumption) | omega | (simp only [World.size_alloc, World.size_setCell, World.size_drew, sz_drewN]; omega))))⟩
  case round =>
    obtain ⟨j, hj, rfl, HF, hb⟩ := hrel
    by_cases hlt : j < n
    · have hlk : j < l.length := by have := hn.out; omega
      obtain ⟨g, o, rfl, hg, hm⟩ := (hA.out.later hb).at hlk
      obtain ⟨x, hx⟩ : ∃ x, x = l[j] := ⟨_, rfl⟩
      rw [← hx] at hm
      have c0 := hm.nm
      have c4 := hm.labs
      clear hm
      by_cases h3 : x.n ≤ 20
      case neg =>
        have hq : R = false := by rw [← HQ.out]; exact all_take_falseM hlk (by rw [← hx]; unfold mfew; rw [decide_eq_false h3]; rfl)
        subst hq
        have HX := Lib.hid hx; clear hx
        go_wp2_with fail
        go_ret
        exact ⟨rfl, hb⟩
      have d3 : decide (20 < (x.n : Int)) = false := by rw [decide_eq_false_iff_not]; omega
      by_cases h4 : x.nm.size ≤ 1000
      case neg =>
        have hq : R = false := by rw [← HQ.out]; exact all_take_falseM hlk (by rw [← hx]; unfold mfew; rw [decide_eq_false h4, Bool.and_false])
        subst hq
        have HX := Lib.hid hx; clear hx
        go_wp2_with fail
        go_ret
        exact ⟨rfl, hb⟩
      have d4 : decide (1000 < (x.nm.size : Int)) = false := by rw [decide_eq_false_iff_not]; omega
      have HF2 : Hid ((l.take (j + 1)).all mfew = true) := by show _ = _; rw [all_takeM hlk, HF.out, ← hx]; unfold mfew; rw [decide_eq_true h3, decide_eq_true h4]; rfl
      have HX := Lib.hid hx; clear hx
      go_wp2_with fail
      go_round
      case rel => exact ⟨j + 1, by omega, by go_num, HF2, hb⟩
      case measure => simp [intOf]; omega
    · have hj' : j = n := by omega
      subst hj'
      have hlk : l.take j = l := by rw [hn.out]; exact List.take_length
      have hq : R = true := by rw [← HQ.out, ← HF.out, hlk]
      subst hq
      clear hlk
      go_wp2_with fail
      go_ret
      exact ⟨rfl, hb⟩
end Go.Proofs.Ythikdhgkjcdepaa
