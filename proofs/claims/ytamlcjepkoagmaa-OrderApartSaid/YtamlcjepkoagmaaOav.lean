/- Units whose places are moved up in place: the rows lie apart; one place is written; what stands behind so many rounds. No condition. -/
import Derived.Test.YtamlcjepkoagmaaOsn
namespace Go.Proofs.Ytamlcjepkoagmaa
open Go.RowKit
set_option linter.unusedSimpArgs false
set_option linter.unusedVariables false

section
variable {w w' : World} {b g n c p i j : Nat} {vs : List Value} {U V : List (List Nat)} {u : List Nat} {k : Nat}
/-- Rows in unlike blocks. -/
def Apv (vs : List Value) : Prop := ∀ i j, i < vs.length → j < vs.length → i ≠ j → ∀ g, (vs.getD i undef).ownBlock = some g → (vs.getD j undef).ownBlock = some g → False
theorem UOk.own (h : UOk w b vs U) (hi : i < U.length) : OwnK w b 3 1 (vs.getD i undef) (cellsI (ints U[i])) := by
  obtain ⟨v, h1, h2⟩ := h.el i U[i] (List.getElem?_eq_getElem hi)
  rw [show vs.getD i undef = v by rw [List.getD, h1]; rfl]
  exact h2
/-- A row that isn't empty lies somewhere. -/
theorem OwnK.some_row {v : Value} {l : List Int} {e : TypeId} (h : OwnK w b e 1 v (cellsI l)) (hl : 0 < l.length) : ∃ g c, v = .slice (some ⟨g, 0, none⟩) l.length c ∧ b ≤ g ∧ g < w.heap.size := by
  have h' := h
  obtain ⟨hk, hs, h⟩ := h
  rcases h with ⟨_, h0⟩ | ⟨g, cap, cur, h1, h2, h3, _⟩
  · rw [cellsI_length] at h0; omega
  · rw [cellsI_length] at h1
    exact ⟨g, cap, h1, h2, Bk.here h3⟩
theorem UOk.apv (h : UOk w b vs U) (hne : ∀ u ∈ U, 0 < u.length) (hd : ∀ i j (hi : i < U.length) (hj : j < U.length), i ≠ j → ∀ (a : 0 < U[i].length) (c : 0 < U[j].length), U[i][0] ≠ U[j][0]) : Apv vs := by
  intro i j hi hj hij g h1 h2
  rw [h.len] at hi hj
  have li := hne _ (List.getElem_mem hi)
  have lj := hne _ (List.getElem_mem hj)
  have oi := h.own hi
  have oj := h.own hj
  obtain ⟨gi, ci, e1, _, _⟩ := oi.some_row (by simpa [ints] using li)
  obtain ⟨gj, cj, e2, _, _⟩ := oj.some_row (by simpa [ints] using lj)
  rw [e1] at h1 oi
  rw [e2] at h2 oj
  injection h1 with h1
  injection h2 with h2
  have h1' : gi = g := h1
  have h2' : gj = g := h2
  subst h1'
  subst h2'
  have c1 := (OwnK.cellI oi (p := 0) (by simpa [ints] using li)).1
  have c2 := (OwnK.cellI oj (p := 0) (by simpa [ints] using lj)).1
  rw [c1] at c2
  injection c2 with c2
  injection c2 with _ c2
  simp only [ints, List.getElem_map] at c2
  exact hd i j hi hj hij li lj (by omega)
theorem UOk.set (h : UOk w b vs U) (hap : Apv vs) (hi : i < U.length) (hv : vs.getD i undef = .slice (some ⟨g, 0, none⟩) n c) (hp : p < U[i].length) (x : Nat) : UOk (w.setCell ⟨g, p, none⟩ (.int .i64 (x : Int))) b vs (U.set i (U[i].set p x)) := by
  refine ⟨by rw [List.length_set]; exact h.len, fun j y hy => ?_⟩
  have hj : j < U.length := by have := (List.getElem?_eq_some_iff.1 hy).1; rwa [List.length_set] at this
  have hjv : j < vs.length := by rw [h.len]; exact hj
  refine ⟨vs.getD j undef, by rw [List.getD, List.getElem?_eq_getElem hjv]; rfl, ?_⟩
  rw [List.getElem?_set] at hy
  split at hy
  · rename_i e
    subst e
    injection hy with hy
    subst hy
    have ho := h.own hi
    rw [hv] at ho ⊢
    have := OwnK.setI ho (p := p) (by simpa [ints] using hp) (x : Int)
    rw [show ints (U[i].set p x) = (ints U[i]).set p (x : Int) by simp only [ints]; rw [List.map_set]]
    exact this
  · rename_i e
    rw [List.getElem?_eq_getElem hj] at hy
    injection hy with hy
    subst hy
    refine OwnK.grown (h.own hj) (grown_cell _ _ _ _) ?_
    cases hq : (vs.getD j undef).ownBlock with
    | none => exact .inl rfl
    | some g' =>
      refine .inr fun e9 => ?_
      injection e9 with e9
      subst e9
      exact hap i j (by rw [h.len]; exact hi) hjv e g' (by rw [hv]; rfl) hq
end

section
variable {U : List (List Nat)} {u : List Nat} {k i a : Nat}
/-- The units when i of them are moved up. -/
def mvU (k : Nat) (U : List (List Nat)) (i : Nat) : List (List Nat) := (U.take i).map (fun u => u.map (sh k)) ++ U.drop i
/-- A unit when a of its places are moved up. -/
def mvA (k : Nat) (u : List Nat) (a : Nat) : List Nat := (u.take a).map (sh k) ++ u.drop a
theorem mvU_len : (mvU k U i).length = U.length := by unfold mvU; simp; omega
theorem mvA_len : (mvA k u a).length = u.length := by unfold mvA; simp; omega
theorem mvU_zero : mvU k U 0 = U := by unfold mvU; simp
theorem mvA_zero : mvA k u 0 = u := by unfold mvA; simp
theorem mvU_all : mvU k U U.length = U.map fun u => u.map (sh k) := by unfold mvU; rw [List.take_length, List.drop_length, List.append_nil]
theorem mvA_all : mvA k u u.length = u.map (sh k) := by unfold mvA; rw [List.take_length, List.drop_length, List.append_nil]
theorem mvU_at (hi : i < U.length) (h : i < (mvU k U i).length) : (mvU k U i)[i] = U[i] := by
  have e : (mvU k U i)[i]? = some U[i] := by
    unfold mvU
    rw [List.getElem?_append_right (by simp; omega)]
    simp [Nat.min_eq_left (Nat.le_of_lt hi), hi]
  rw [List.getElem?_eq_getElem h] at e
  injection e
theorem mvA_at (ha : a < u.length) (h : a < (mvA k u a).length) : (mvA k u a)[a] = u[a] := by
  have e : (mvA k u a)[a]? = some u[a] := by
    unfold mvA
    rw [List.getElem?_append_right (by simp; omega)]
    simp [Nat.min_eq_left (Nat.le_of_lt ha), ha]
  rw [List.getElem?_eq_getElem h] at e
  injection e
theorem set_mid {α : Type} (A B : List α) (x y : α) {n : Nat} (h : n = A.length) : (A ++ x :: B).set n y = A ++ y :: B := by
  subst h
  induction A with
  | nil => rfl
  | cons a A ih => simp [ih]
theorem mvU_succ (hi : i < U.length) : mvU k U (i + 1) = (mvU k U i).set i (U[i].map (sh k)) := by
  unfold mvU
  rw [List.drop_eq_getElem_cons hi, set_mid _ _ _ _ (by simp; omega), List.take_succ_eq_append_getElem hi, List.map_append, List.append_assoc]
  rfl
theorem mvA_succ (ha : a < u.length) : mvA k u (a + 1) = (mvA k u a).set a (sh k u[a]) := by
  unfold mvA
  rw [List.drop_eq_getElem_cons ha, set_mid _ _ _ _ (by simp; omega), List.take_succ_eq_append_getElem ha, List.map_append, List.append_assoc]
  rfl
end
end Go.Proofs.Ytamlcjepkoagmaa
