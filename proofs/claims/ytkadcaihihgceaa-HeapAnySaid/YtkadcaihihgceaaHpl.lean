/- Binary trees in lists, plainly: elements rise and sink; the first one of a tree comes ahead of all; elements with their turns. No program, no condition. -/
import Derived.Test.YtkadcaihihgceaaChecked
namespace Go.Proofs.Ytkadcaihihgceaa
set_option linter.unusedSimpArgs false
set_option linter.unusedVariables false
set_option linter.unusedSectionVars false

section
variable {α : Type} {le : α → α → Prop}
/-- Two places change. -/
def swp (l : List α) (i k : Nat) (hi : i < l.length) (hk : k < l.length) : List α := (l.set i l[k]).set k l[i]
theorem swp_length (l : List α) (i k : Nat) (hi : i < l.length) (hk : k < l.length) : (swp l i k hi hk).length = l.length := by simp [swp]
theorem swp_at {l : List α} {i k : Nat} {hi : i < l.length} {hk : k < l.length} (j : Nat) (hj : j < l.length) : (swp l i k hi hk)[j]'(by rw [swp_length]; exact hj) = if j = k then l[i] else if j = i then l[k] else l[j] := by
  show ((l.set i l[k]).set k l[i])[j]'(by simpa using hj) = _
  rw [List.getElem_set]
  by_cases e : k = j
  · subst e; simp
  · rw [if_neg e, if_neg (fun h => e h.symm), List.getElem_set]
    by_cases e2 : i = j
    · subst e2; simp
    · rw [if_neg e2, if_neg (fun h => e2 h.symm)]
theorem swp_perm (l : List α) (i k : Nat) (hi : i < l.length) (hk : k < l.length) : (swp l i k hi hk).Perm l := by
  unfold swp
  exact List.set_set_perm hi hk

/-- From k on nobody stands above one that is ahead of it. -/
def HpF (le : α → α → Prop) (k : Nat) (l : List α) : Prop := ∀ j (h : j < l.length) (h0 : 0 < j), k ≤ (j - 1) / 2 → le (l[(j - 1) / 2]'(by omega)) l[j]
/-- So it is but at i, that may be ahead of the one above it. -/
structure RsI (le : α → α → Prop) (i : Nat) (l : List α) : Prop where
  a : ∀ j (h : j < l.length) (h0 : 0 < j), j ≠ i → le (l[(j - 1) / 2]'(by omega)) l[j]
  b : ∀ j (h : j < l.length) (h0 : 0 < j), (hji : (j - 1) / 2 = i) → 0 < i → le (l[(i - 1) / 2]'(by omega)) l[j]
/-- So it is from k on but at i, that those below it may be ahead of. -/
structure SkI (le : α → α → Prop) (k i : Nat) (l : List α) : Prop where
  a : ∀ j (h : j < l.length) (h0 : 0 < j), k ≤ (j - 1) / 2 → (j - 1) / 2 ≠ i → le (l[(j - 1) / 2]'(by omega)) l[j]
  b : ∀ j (h : j < l.length) (h0 : 0 < j), (hji : (j - 1) / 2 = i) → 0 < i → k ≤ (i - 1) / 2 → le (l[(i - 1) / 2]'(by omega)) l[j]

variable (tot : ∀ x y, le x y ∨ le y x) (tra : ∀ x y z, le x y → le y z → le x z)
include tot tra
theorem RsI.done {i : Nat} {l : List α} (h : RsI le i l) (hi : i < l.length) (he : 0 < i → le (l[(i - 1) / 2]'(by omega)) l[i]) : HpF le 0 l := fun j hj h0 _ => by
  by_cases e : j = i
  · subst e; exact he h0
  · exact h.a j hj h0 e
theorem RsI.step {i : Nat} {l : List α} (h : RsI le i l) (hi : i < l.length) (h0 : 0 < i) (he : le l[i] (l[(i - 1) / 2]'(by omega))) : RsI le ((i - 1) / 2) (swp l i ((i - 1) / 2) hi (by omega)) := by
  have hp : (i - 1) / 2 < i := by omega
  constructor
  · intro j hj hj0 hne
    rw [swp_length] at hj
    rw [swp_at _ (by omega), swp_at _ (by omega), if_neg hne]
    by_cases e : j = i
    · subst e
      rw [if_pos rfl, if_pos rfl]; exact he
    · rw [if_neg e]
      by_cases e1 : (j - 1) / 2 = (i - 1) / 2
      · rw [if_pos e1]
        refine tra _ _ _ he ?_
        have := h.a j hj hj0 e
        simp only [e1] at this
        exact this
      · rw [if_neg e1]
        by_cases e2 : (j - 1) / 2 = i
        · rw [if_pos e2]; exact h.b j hj hj0 e2 h0
        · rw [if_neg e2]; exact h.a j hj hj0 e
  · intro j hj hj0 hpar hp0
    rw [swp_length] at hj
    have hjk : j ≠ (i - 1) / 2 := by omega
    rw [swp_at _ (by omega), swp_at _ (by omega), if_neg (show ¬ ((i - 1) / 2 - 1) / 2 = (i - 1) / 2 by omega), if_neg (show ¬ ((i - 1) / 2 - 1) / 2 = i by omega), if_neg hjk]
    have hup := h.a ((i - 1) / 2) (by omega) hp0 (by omega)
    by_cases e : j = i
    · subst e; rw [if_pos rfl]; exact hup
    · rw [if_neg e]
      refine tra _ _ _ hup ?_
      have := h.a j hj hj0 e
      simp only [hpar] at this
      exact this
theorem RsI.stepP {i p : Nat} {l : List α} (h : RsI le i l) (hi : i < l.length) (h0 : 0 < i) (hp : p = (i - 1) / 2) (hpl : p < l.length) (he : le l[i] l[p]) : RsI le p (swp l i p hi hpl) := by
  subst hp
  exact h.step tot tra hi h0 he
theorem RsI.doneP {i p : Nat} {l : List α} (h : RsI le i l) (hi : i < l.length) (hp : p = (i - 1) / 2) (hpl : p < l.length) (he : le l[p] l[i]) : HpF le 0 l := by
  subst hp
  exact h.done tot tra hi fun _ => he
theorem SkI.done {k i : Nat} {l : List α} (h : SkI le k i l) (he : ∀ j (hj : j < l.length), 0 < j → (hji : (j - 1) / 2 = i) → le (l[i]'(by omega)) l[j]) : HpF le k l := fun j hj h0 hk => by
  by_cases e : (j - 1) / 2 = i
  · have := he j hj h0 e
    simp only [e]; exact this
  · exact h.a j hj h0 hk e
/-- f stands below i, is ahead of it and of its like. -/
theorem SkI.step {k i f : Nat} {l : List α} (h : SkI le k i l) (hf : f < l.length) (hfi : (f - 1) / 2 = i) (hf0 : 0 < f) (hki : k ≤ i) (he : le l[f] (l[i]'(by omega)))
    (hl : ∀ j (hj : j < l.length), 0 < j → (j - 1) / 2 = i → le l[f] l[j]) : SkI le k f (swp l i f (by omega) hf) := by
  have hlt : i < f := by omega
  constructor
  · intro j hj hj0 hk hne
    rw [swp_length] at hj
    rw [swp_at _ (by omega), swp_at _ (by omega), if_neg hne]
    by_cases e : (j - 1) / 2 = i
    · rw [if_pos e]
      by_cases e1 : j = f
      · rw [if_pos e1]; exact he
      · rw [if_neg e1, if_neg (by omega)]
        exact hl j hj hj0 e
    · rw [if_neg e]
      have hjf : j ≠ f := by intro e'; subst e'; exact e hfi
      rw [if_neg hjf]
      by_cases e1 : j = i
      · subst e1
        rw [if_pos rfl]
        exact h.b f hf hf0 hfi hj0 hk
      · rw [if_neg e1]; exact h.a j hj hj0 hk e
  · intro j hj hj0 hpar _ hk
    rw [swp_length] at hj
    rw [swp_at _ (by omega), swp_at _ (by omega)]
    simp only [hfi]
    rw [if_neg (show ¬ i = f by omega), if_pos trivial, if_neg (show ¬ j = f by omega), if_neg (show ¬ j = i by omega)]
    have := h.a j hj hj0 (by omega) (by omega)
    simp only [hpar] at this
    exact this
/-- The first one comes ahead of all. -/
theorem HpF.first {l : List α} (h : HpF le 0 l) (h0 : 0 < l.length) : ∀ j (hj : j < l.length), le l[0] l[j] := by
  intro j
  induction j using Nat.strongRecOn with
  | ind j ih =>
    intro hj
    by_cases e : j = 0
    · subst e; exact (tot l[0] l[0]).elim id id
    · exact tra _ _ _ (ih ((j - 1) / 2) (by omega) (by omega)) (h j hj (by omega) (by omega))
omit tot tra in
/-- Behind its last one nothing stands below: so it is from there on. -/
theorem HpF.end (l : List α) (k : Nat) (hk : l.length ≤ 2 * k + 1) : HpF le k l := fun j hj h0 h => by omega
omit tot tra in
theorem HpF.sink {l : List α} {k : Nat} (h : HpF le (k + 1) l) : SkI le k k l := ⟨fun j hj h0 hk hne => h j hj h0 (by omega), fun j hj h0 e h1 h2 => by omega⟩
omit tot tra in
/-- Behind the first one's turn into another one. -/
theorem HpF.root {l : List α} (h : HpF le 0 l) (x : α) : HpF le 1 (l.set 0 x) := fun j hj h0 hk => by
  rw [List.length_set] at hj
  rw [List.getElem_set_ne (by omega), List.getElem_set_ne (by omega)]
  exact h j hj h0 (by omega)
omit tot tra in
theorem HpF.front {l : List α} {k : Nat} (h : HpF le k l) (n : Nat) : HpF le k (l.take n) := fun j hj h0 hk => by
  rw [List.length_take] at hj
  rw [List.getElem_take, List.getElem_take]
  exact h j (by omega) h0 hk
omit tot tra in
theorem HpF.snoc {l : List α} (h : HpF le 0 l) (x : α) : RsI le l.length (l ++ [x]) := by
  constructor
  · intro j hj h0 hne
    rw [List.length_append, List.length_singleton] at hj
    rw [List.getElem_append_left (by omega), List.getElem_append_left (by omega)]
    exact h j (by omega) h0 (by omega)
  · intro j hj h0 e _
    rw [List.length_append, List.length_singleton] at hj
    omega
end

/-! ### Elements with turns -/
/-- An order as it should be. -/
structure WkO {α : Type} (lt : α → α → Bool) : Prop where
  asy : ∀ x y, lt x y = true → lt y x = false
  neg : ∀ x y z, lt x y = false → lt y z = false → lt x z = false
theorem WkO.irr {α : Type} {lt : α → α → Bool} (h : WkO lt) (x : α) : lt x x = false := by
  cases e : lt x x with
  | false => rfl
  | true => have h1 := h.asy x x e; rw [e] at h1; cases h1
theorem WkO.tra {α : Type} {lt : α → α → Bool} (h : WkO lt) {x y z : α} (h1 : lt x y = true) (h2 : lt y z = true) : lt x z = true := by
  cases e : lt x z with
  | true => rfl
  | false =>
    have h3 := h.asy _ _ h2
    have h4 := h.neg x z y e h3
    rw [h1] at h4; cases h4
section
variable {α : Type}
/-- Does one come before another one? -/
def ahd (lt : α → α → Bool) (a b : α × Int) : Bool := if a.2 < b.2 then !lt b.1 a.1 else lt a.1 b.1
/-- The one doesn't come behind the other. -/
def leO (lt : α → α → Bool) (a b : α × Int) : Prop := ahd lt b a = false
theorem leO_iff {lt : α → α → Bool} (h : WkO lt) (a b : α × Int) : leO lt a b ↔ lt a.1 b.1 = true ∨ (lt b.1 a.1 = false ∧ a.2 ≤ b.2) := by
  unfold leO ahd
  by_cases e : b.2 < a.2
  · rw [if_pos e]
    constructor
    · intro h1; left; simpa using h1
    · rintro (h1 | ⟨h1, h2⟩)
      · simpa using h1
      · omega
  · rw [if_neg e]
    constructor
    · intro h1; exact .inr ⟨h1, by omega⟩
    · rintro (h1 | ⟨h1, h2⟩)
      · exact h.asy _ _ h1
      · exact h1
theorem leO_tot {lt : α → α → Bool} (h : WkO lt) (a b : α × Int) : leO lt a b ∨ leO lt b a := by
  rw [leO_iff h, leO_iff h]
  cases e1 : lt a.1 b.1 with
  | true => exact .inl (.inl rfl)
  | false =>
    cases e2 : lt b.1 a.1 with
    | true => exact .inr (.inl rfl)
    | false =>
      by_cases e : a.2 ≤ b.2
      · exact .inl (.inr ⟨rfl, e⟩)
      · exact .inr (.inr ⟨rfl, by omega⟩)
theorem leO_tra {lt : α → α → Bool} (h : WkO lt) (a b c : α × Int) (h1 : leO lt a b) (h2 : leO lt b c) : leO lt a c := by
  rw [leO_iff h] at *
  rcases h1 with h1 | ⟨h1, t1⟩
  · rcases h2 with h2 | ⟨h2, t2⟩
    · exact .inl (h.tra h1 h2)
    · cases e : lt a.1 c.1 with
      | true => exact .inl rfl
      | false => rw [h.neg _ _ _ e h2] at h1; cases h1
  · rcases h2 with h2 | ⟨h2, t2⟩
    · cases e : lt a.1 c.1 with
      | true => exact .inl rfl
      | false => rw [h.neg _ _ _ h1 e] at h2; cases h2
    · exact .inr ⟨h.neg _ _ _ h2 h1, by omega⟩
theorem leO_turn {lt : α → α → Bool} (h : WkO lt) {a b : α × Int} (h1 : leO lt a b) (h2 : leO lt b a) : a.2 = b.2 := by
  rw [leO_iff h] at *
  rcases h1 with h1 | ⟨h1, t1⟩
  · rcases h2 with h2 | ⟨h2, t2⟩
    · rw [h.asy _ _ h1] at h2; cases h2
    · rw [h1] at h2; cases h2
  · rcases h2 with h2 | ⟨h2, t2⟩
    · rw [h1] at h2; cases h2
    · omega
/-- A tree l that holds just what stands in the list A, the least one first; all turns are unlike, and below n. -/
structure Hol (lt : α → α → Bool) (n : Int) (l A : List (α × Int)) : Prop where
  hp : HpF (leO lt) 0 l
  pm : l.Perm A
  so : A.Pairwise (leO lt)
  un : (A.map Prod.snd).Nodup
  lo : ∀ x ∈ A, x.2 < n
theorem inj_turn {A : List (α × Int)} (h : (A.map Prod.snd).Nodup) {x y : α × Int} (hx : x ∈ A) (hy : y ∈ A) (e : x.2 = y.2) : x = y := by
  induction A with
  | nil => cases hx
  | cons a A ih =>
    rw [List.map_cons, List.nodup_cons] at h
    rcases List.mem_cons.1 hx with hx | hx
    · rcases List.mem_cons.1 hy with hy | hy
      · rw [hx, hy]
      · rw [hx] at e; exact absurd (List.mem_map.2 ⟨y, hy, e.symm⟩) h.1
    · rcases List.mem_cons.1 hy with hy | hy
      · rw [hy] at e; exact absurd (List.mem_map.2 ⟨x, hx, e⟩) h.1
      · exact ih h.2 hx hy
theorem Hol.nil (lt : α → α → Bool) (n : Int) : Hol lt n [] [] := ⟨fun j h => by simp at h, List.Perm.refl _, List.Pairwise.nil, by simp, by simp⟩
theorem Hol.len {lt : α → α → Bool} {n : Int} {l A : List (α × Int)} (h : Hol lt n l A) : l.length = A.length := h.pm.length_eq
theorem Hol.head {lt : α → α → Bool} (ho : WkO lt) {n : Int} {l A : List (α × Int)} {x : α × Int} (h : Hol lt n l (x :: A)) : ∃ h0 : 0 < l.length, l[0] = x := by
  have h0 : 0 < l.length := by rw [h.len]; simp
  refine ⟨h0, ?_⟩
  have hx : x ∈ l := h.pm.mem_iff.2 (by simp)
  obtain ⟨j, hj, hjx⟩ := List.getElem_of_mem hx
  have h1 : leO lt l[0] x := by rw [← hjx]; exact h.hp.first (leO_tot ho) (leO_tra ho) h0 j hj
  have hm : l[0] ∈ x :: A := h.pm.mem_iff.1 (List.getElem_mem h0)
  have h2 : leO lt x l[0] := by
    rcases List.mem_cons.1 hm with e | e
    · rw [e]; exact (leO_tot ho x x).elim id id
    · exact (List.pairwise_cons.1 h.so).1 _ e
  exact inj_turn h.un hm (by simp) (leO_turn ho h1 h2)
/-- Where a new one stands: behind all that it isn't less than. -/
def insL (lt : α → α → Bool) (x : α × Int) : List (α × Int) → List (α × Int)
  | [] => [x]
  | y :: A => if lt x.1 y.1 then x :: y :: A else y :: insL lt x A
theorem insL_perm (lt : α → α → Bool) (x : α × Int) : ∀ A, (insL lt x A).Perm (x :: A)
  | [] => List.Perm.refl _
  | y :: A => by
    unfold insL
    split
    · exact List.Perm.refl _
    · exact ((insL_perm lt x A).cons y).trans (List.Perm.swap x y A)
theorem insL_so {lt : α → α → Bool} (ho : WkO lt) (x : α × Int) : ∀ A : List (α × Int), A.Pairwise (leO lt) → (∀ y ∈ A, y.2 < x.2) → (insL lt x A).Pairwise (leO lt)
  | [], _, _ => List.pairwise_singleton _ _
  | y :: A, h, hl => by
    rw [List.pairwise_cons] at h
    unfold insL
    split
    · rename_i e
      have hxy : leO lt x y := (leO_iff ho _ _).2 (.inl e)
      rw [List.pairwise_cons]
      refine ⟨fun z hz => ?_, List.pairwise_cons.2 h⟩
      rcases List.mem_cons.1 hz with rfl | hz
      · exact hxy
      · exact leO_tra ho _ _ _ hxy (h.1 z hz)
    · rename_i e
      rw [List.pairwise_cons]
      refine ⟨fun z hz => ?_, insL_so ho x A h.2 (fun z hz => hl z (by simp [hz]))⟩
      rcases List.mem_cons.1 ((insL_perm lt x A).mem_iff.1 hz) with rfl | hz
      · refine (leO_iff ho _ _).2 (.inr ⟨by simpa using e, ?_⟩)
        have := hl y (by simp); omega
      · exact h.1 z hz
/-- A new one, of the next turn. -/
theorem Hol.push {lt : α → α → Bool} (ho : WkO lt) {n : Int} {l l' A : List (α × Int)} (h : Hol lt n l A) (x : α) (hl : l'.Perm (l ++ [(x, n)])) (hh : HpF (leO lt) 0 l') : Hol lt (n + 1) l' (insL lt (x, n) A) := by
  have hp := insL_perm lt (x, n) A
  refine ⟨hh, ?_, insL_so ho _ A h.so h.lo, ?_, fun y hy => ?_⟩
  · refine hl.trans (List.perm_append_comm.trans ?_)
    exact ((h.pm.cons (x, n)).trans hp.symm)
  · rw [(hp.map Prod.snd).nodup_iff, List.map_cons, List.nodup_cons]
    refine ⟨fun hm => ?_, h.un⟩
    obtain ⟨y, hy, e⟩ := List.mem_map.1 hm
    have := h.lo y hy
    simp only at e; omega
  · rcases List.mem_cons.1 (hp.mem_iff.1 hy) with rfl | hy
    · show n < n + 1; omega
    · have := h.lo y hy; omega
theorem Hol.pop {lt : α → α → Bool} (ho : WkO lt) {n : Int} {l l' A : List (α × Int)} {x : α × Int} (h : Hol lt n l (x :: A)) (hl : (x :: l').Perm l) (hh : HpF (leO lt) 0 l') : Hol lt n l' A :=
  ⟨hh, (hl.trans h.pm).cons_inv, (List.pairwise_cons.1 h.so).2, (List.nodup_cons.1 h.un).2, fun y hy => h.lo y (by simp [hy])⟩
theorem Hol.keep {lt : α → α → Bool} (ho : WkO lt) {n : Int} {l l' A : List (α × Int)} (h : Hol lt n l A) (p : α × Int → Bool) (hl : l'.Perm (l.filter p)) (hh : HpF (leO lt) 0 l') : Hol lt n l' (A.filter p) :=
  ⟨hh, hl.trans (h.pm.filter p), h.so.filter p, (h.un.sublist (List.filter_sublist.map _)), fun y hy => h.lo y (List.mem_filter.1 hy).1⟩
end
end Go.Proofs.Ytkadcaihihgceaa
