/- A row of integers that the call owns: one is read, one is written; a new row; how often places stand in a list. No condition. -/
import Derived.Test.YtamlcjepkoagmaaUrd
import Derived.Deep.OwnRows
import Derived.Laws.OwnMore
namespace Go.Proofs.Ytamlcjepkoagmaa
open Go.RowKit
set_option linter.unusedSimpArgs false
set_option linter.unusedVariables false

theorem flatI (l : List Int) : (cellsI l).flatten = l.map fun x => Value.int .i64 x := by
  unfold cellsI
  induction l with
  | nil => rfl
  | cons a r ih => simp [ih]
section
variable {w w' : World} {b g n c p : Nat} {e : TypeId} {l : List Int} {x : Int}
theorem OwnK.bkI (h : OwnK w b e 1 (.slice (some ⟨g, 0, none⟩) n c) (cellsI l)) : n = l.length ∧ b ≤ g ∧ ∃ cur : Array Value, Bk w g e cur ∧ n ≤ c ∧ c ≤ maxLen ∧ cur.size = c ∧ cur.toList.take l.length = l.map fun x => Value.int .i64 x := by
  obtain ⟨hk, hs, h⟩ := h
  rcases h with ⟨h1, _⟩ | ⟨g', cap, cur, h1, h2, h3, h4, h5, h6, h7⟩
  · cases h1
  · injection h1 with e1 e2 e3
    injection e1 with e1
    injection e1 with e1
    subst e1 e3
    rw [cellsI_length] at e2 h7
    refine ⟨e2, h2, cur, h3, by rw [e2, ← cellsI_length]; exact h4, h5, by omega, ?_⟩
    rw [Nat.mul_one] at h7
    rw [h7, flatI]
theorem OwnK.cellI (h : OwnK w b e 1 (.slice (some ⟨g, 0, none⟩) n c) (cellsI l)) (hp : p < l.length) : w.cell? ⟨g, p, none⟩ = some (.int .i64 l[p]) ∧ w.frozen? ⟨g, p, none⟩ = false := by
  obtain ⟨_, _, cur, h1, h2, h3, h4, h5⟩ := h.bkI
  refine ⟨?_, h1.free p⟩
  rw [h1.cellAt p]
  have := congrArg (fun l => l[p]?) h5
  simp only [List.getElem?_take] at this
  rw [if_pos hp] at this
  rw [← Array.getElem?_toList, this]
  simp [hp]
theorem grown_cell (w : World) (g p : Nat) (u : Value) : w.grownBy (w.setCell ⟨g, p, none⟩ u) (some g) :=
  ⟨rfl, rfl, rfl, by simp [World.setCell], fun k hk hne => Below.heap_setCell _ _ _ _ (by intro e; exact hne (by rw [e]))⟩
theorem OwnK.setI (h : OwnK w b e 1 (.slice (some ⟨g, 0, none⟩) n c) (cellsI l)) (hp : p < l.length) (x : Int) : OwnK (w.setCell ⟨g, p, none⟩ (.int .i64 x)) b e 1 (.slice (some ⟨g, 0, none⟩) n c) (cellsI (l.set p x)) := by
  obtain ⟨e0, h0, cur, h1, h2, h3, h4, h5⟩ := h.bkI
  refine ⟨cellsI_k _, by rw [flatI, cellsI_length]; simp, .inr ⟨g, c, cur.setIfInBounds p (.int .i64 x), by rw [cellsI_length, List.length_set, ← e0], h0, h1.put p _, by rw [cellsI_length, List.length_set, ← e0]; exact h2, h3, by rw [Array.size_setIfInBounds, h4, Nat.mul_one], ?_⟩⟩
  rw [cellsI_length, List.length_set, Nat.mul_one, Array.toList_setIfInBounds, List.take_set, h5]
  rw [flatI, List.map_set]
end
/-- How often each place stands in a list. -/
def cntL (n : Nat) (T : List Nat) : List Int := (List.range n).map fun p => (T.count p : Int)
theorem cntL_len (n : Nat) (T : List Nat) : (cntL n T).length = n := by simp [cntL]
theorem cntL_at {n p : Nat} {T : List Nat} (h : p < (cntL n T).length) : (cntL n T)[p] = (T.count p : Int) := by simp [cntL]
theorem cntL_snoc {n p : Nat} {T : List Nat} : cntL n (T ++ [p]) = (cntL n T).set p ((T.count p : Int) + 1) := by
  apply List.ext_getElem (by simp [cntL])
  intro i h1 h2
  rw [cntL_at, List.getElem_set, List.count_append]
  by_cases e : p = i
  · subst e; simp
  · rw [if_neg e, cntL_at]
    have : List.count i [p] = 0 := by simp [List.count_cons, e]
    rw [this]; rfl
theorem made_own (w : World) (b : Nat) (e : TypeId) (n : Nat) (hb : b ≤ w.heap.size) (hn : n ≤ maxLen) : OwnK (w.alloc (.cells (madeCells #[.int .i64 0] n) e)) b e 1 (.slice (some ⟨w.heap.size, 0, none⟩) n n) (cellsI (cntL n [])) := by
  refine ⟨cellsI_k _, by rw [flatI, cellsI_length]; simp, .inr ⟨w.heap.size, n, madeCells #[.int .i64 0] n, by rw [cellsI_length, cntL_len], hb, Bk.fresh _ _ _, by rw [cellsI_length, cntL_len]; exact Nat.le_refl _, hn, by rw [size_madeCells, Nat.mul_one], ?_⟩⟩
  rw [cellsI_length, cntL_len, flatI, toList_madeCells_one, Nat.mul_one, List.take_replicate, Nat.min_self]
  unfold cntL
  rw [List.map_map]
  apply List.ext_getElem (by simp)
  intro i h1 h2
  simp
end Go.Proofs.Ytamlcjepkoagmaa
