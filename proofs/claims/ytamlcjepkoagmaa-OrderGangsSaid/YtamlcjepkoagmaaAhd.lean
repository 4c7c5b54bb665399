/- The contracts of the document's own ahead (layer 13) and Ahead (layer 14): which of two jobs stands ahead. No condition. -/
import Derived.Test.YtamlcjepkoagmaaJbo
namespace Go.Proofs.Ytamlcjepkoagmaa
open Go.RowKit
set_option linter.unusedSimpArgs false
set_option linter.unusedVariables false

/-- Does a job go ahead of another one? -/
def goB (a b : Jb) : Bool := decide (a.pr < b.pr) || (decide (a.pr = b.pr) && decide (b.sq < a.sq))
/-- Is a job tried ahead of another one? -/
def tryB (a b : Jb) : Bool := decide (b.pr < a.pr) || (decide (a.pr = b.pr) && decide (a.sq < b.sq))


set_option maxHeartbeats 1600000 in
theorem rahead14_any (a b : Jb) (w : World) : Calls Try.prog 14 #[.agg a.arr, .agg b.arr] w fun e w' => e = .returned (.bool (tryB a b)) ∧ Below w.heap.size w w' := by
  obtain ⟨R, hR⟩ : ∃ R, tryB a b = R := ⟨_, rfl⟩
  rw [hR]
  have HR := Lib.hid hR; clear hR
  obtain ⟨nm, qu, pr, a1, b1, c1, A, n, cp, ap, ga, sz, sq, nd, bo⟩ := a
  obtain ⟨nm2, qu2, pr2, a2, b2, c2, A2, n2, cp2, ap2, ga2, sz2, sq2, nd2, bo2⟩ := b
  by_cases h1 : pr2 < pr
  · have hq : R = true := by rw [← HR.out]; show (decide (pr2 < pr) || _) = true; rw [decide_eq_true h1]; rfl
    subst hq
    go_enter Try.func14, Try.ntmps14
    go_wp2
    go_ret
    exact ⟨rfl, (by (repeat' (first | (with_reducible exact Below.refl _ _) | (with_reducible refine bdrewN ?_ _) | (with_reducible refine Below.drew ?_) | (with_reducible refine Below.setCell ?_ ?_ _) | (with_reducible refine Below.alloc ?_ ?_ _) | (with_reducible exact Nat.le_refl _) | (with_reducible assumption) | omega | (simp only [World.size_alloc, World.size_setCell, World.size_drew, sz_drewN]; omega))))⟩
  · by_cases h2 : pr = pr2
    · by_cases h3 : sq < sq2
      · have hq : R = true := by rw [← HR.out]; show (decide (pr2 < pr) || (decide (pr = pr2) && decide (sq < sq2))) = true; rw [decide_eq_true h2, decide_eq_true h3]; simp
        subst hq
        subst h2
        go_enter Try.func14, Try.ntmps14
        go_wp2
        go_ret
        exact ⟨rfl, (by (repeat' (first | (with_reducible exact Below.refl _ _) | (with_reducible refine bdrewN ?_ _) | (with_reducible refine Below.drew ?_) | (with_reducible refine Below.setCell ?_ ?_ _) | (with_reducible refine Below.alloc ?_ ?_ _) | (with_reducible exact Nat.le_refl _) | (with_reducible assumption) | omega | (simp only [World.size_alloc, World.size_setCell, World.size_drew, sz_drewN]; omega))))⟩
      · have hq : R = false := by rw [← HR.out]; show (decide (pr2 < pr) || (decide (pr = pr2) && decide (sq < sq2))) = false; rw [decide_eq_false h1, decide_eq_false h3]; simp
        subst hq
        subst h2
        have d3 : decide (sq < sq2) = false := decide_eq_false h3
        go_enter Try.func14, Try.ntmps14
        go_wp2
        go_ret
        exact ⟨rfl, (by (repeat' (first | (with_reducible exact Below.refl _ _) | (with_reducible refine bdrewN ?_ _) | (with_reducible refine Below.drew ?_) | (with_reducible refine Below.setCell ?_ ?_ _) | (with_reducible refine Below.alloc ?_ ?_ _) | (with_reducible exact Nat.le_refl _) | (with_reducible assumption) | omega | (simp only [World.size_alloc, World.size_setCell, World.size_drew, sz_drewN]; omega))))⟩
    · have hq : R = false := by rw [← HR.out]; show (decide (pr2 < pr) || (decide (pr = pr2) && decide (sq < sq2))) = false; rw [decide_eq_false h1, decide_eq_false h2]; rfl
      subst hq
      have d1 : decide (pr2 < pr) = false := decide_eq_false h1
      have d2 : (pr == pr2) = false := by simpa using h2
      go_enter Try.func14, Try.ntmps14
      go_wp2
      go_ret
      exact ⟨rfl, (by (repeat' (first | (with_reducible exact Below.refl _ _) | (with_reducible refine bdrewN ?_ _) | (with_reducible refine Below.drew ?_) | (with_reducible refine Below.setCell ?_ ?_ _) | (with_reducible refine Below.alloc ?_ ?_ _) | (with_reducible exact Nat.le_refl _) | (with_reducible assumption) | omega | (simp only [World.size_alloc, World.size_setCell, World.size_drew, sz_drewN]; omega))))⟩

end Go.Proofs.Ytamlcjepkoagmaa
