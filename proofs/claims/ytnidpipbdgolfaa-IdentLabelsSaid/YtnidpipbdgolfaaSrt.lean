/- Plain mathematics of sorted labels: for each key the last label, ascending; what both implementations come to; there is one such list. No condition beyond those that each lemma bears. -/
import Derived.Test.YtnidpipbdgolfaaLab
import Derived.Test.YtnidpipbdgolfaaStc
namespace Go.Proofs.Ytnidpipbdgolfaa
open Go.Sort
set_option linter.unusedVariables false
set_option linter.unusedSimpArgs false

/-- This label stands in the list, and no later one has its key. -/
def LastIn (l : List Lb) (x : Lb) : Prop := ∃ p s, l = p ++ x :: s ∧ ∀ y ∈ s, y.1 ≠ x.1
/-- The keys ascend. -/
def Asc (s : List Lb) : Prop := s.Pairwise fun x y => sL x.1 y.1 = true
/-- For each key of l the last label with it, the keys ascending. -/
def IsSorted (l s : List Lb) : Prop := Asc s ∧ ∀ x, x ∈ s ↔ LastIn l x

theorem sL_ne {a b : ByteArray} (h : sL a b = true) : a ≠ b := by rintro rfl; rw [sL_irrefl] at h; cases h
theorem asc_mem_lt {x : Lb} {s : List Lb} (h : Asc (x :: s)) : ∀ y ∈ s, sL x.1 y.1 = true := (List.pairwise_cons.1 h).1
theorem asc_unique : ∀ {s t : List Lb}, Asc s → Asc t → (∀ x, x ∈ s ↔ x ∈ t) → s = t
  | [], [], _, _, _ => rfl
  | [], y :: t, _, _, h => by have := (h y).2 (by simp); simp at this
  | x :: s, [], _, _, h => by have := (h x).1 (by simp); simp at this
  | x :: s, y :: t, hs, ht, h => by
    have hx := asc_mem_lt hs
    have hy := asc_mem_lt ht
    have e : x = y := by
      rcases List.mem_cons.1 ((h x).1 (by simp)) with e | e
      · exact e
      · rcases List.mem_cons.1 ((h y).2 (by simp)) with e' | e'
        · exact e'.symm
        · have := sL_asymm (hx y e'); rw [hy x e] at this; cases this
    subst e
    congr 1
    refine asc_unique (List.pairwise_cons.1 hs).2 (List.pairwise_cons.1 ht).2 fun z => ⟨fun hz => ?_, fun hz => ?_⟩
    · rcases List.mem_cons.1 ((h z).1 (List.mem_cons_of_mem _ hz)) with e | e
      · subst e; exact absurd rfl (sL_ne (hx z hz))
      · exact e
    · rcases List.mem_cons.1 ((h z).2 (List.mem_cons_of_mem _ hz)) with e | e
      · subst e; exact absurd rfl (sL_ne (hy z hz))
      · exact e
theorem sorted_unique {l s t : List Lb} (hs : IsSorted l s) (ht : IsSorted l t) : s = t :=
  asc_unique hs.1 ht.1 fun x => (hs.2 x).trans (ht.2 x).symm

theorem asc_key {s : List Lb} (h : Asc s) : ∀ {x y : Lb}, x ∈ s → y ∈ s → x.1 = y.1 → x = y := by
  induction s with
  | nil => intro x y hx; simp at hx
  | cons a s ih =>
    intro x y hx hy e
    have ha := asc_mem_lt h
    rcases List.mem_cons.1 hx with rfl | hx'
    · rcases List.mem_cons.1 hy with rfl | hy'
      · rfl
      · exact absurd e (sL_ne (ha y hy'))
    · rcases List.mem_cons.1 hy with rfl | hy'
      · exact absurd e.symm (sL_ne (ha x hx'))
      · exact ih (List.pairwise_cons.1 h).2 hx' hy' e
/-- Sorted labels are sorted once more as they are. -/
theorem sorted_again {s : List Lb} (h : Asc s) : IsSorted s s := by
  refine ⟨h, fun x => ⟨fun hx => ?_, fun ⟨p, t, e, _⟩ => by rw [e]; simp⟩⟩
  obtain ⟨p, t, e⟩ := List.append_of_mem hx
  refine ⟨p, t, e, fun y hy hk => ?_⟩
  have h2 : Asc (x :: t) := by
    rw [e] at h; exact (List.pairwise_append.1 h).2.1
  exact sL_ne (asc_mem_lt h2 y hy) hk.symm

theorem lastIn_nil (x : Lb) : ¬ LastIn [] x := by rintro ⟨p, s, e, _⟩; simp at e
theorem lastIn_snoc (l : List Lb) (x y : Lb) : LastIn (l ++ [x]) y ↔ y = x ∨ (LastIn l y ∧ y.1 ≠ x.1) := by
  constructor
  · rintro ⟨p, s, e, h⟩
    rcases List.eq_nil_or_concat s with rfl | ⟨s', z, rfl⟩
    · left
      have := congrArg List.getLast? e
      simpa using this.symm
    · right
      have e' : l ++ [x] = (p ++ y :: s') ++ [z] := by rw [e]; simp
      obtain ⟨e1, e2⟩ := List.append_inj' e' rfl
      have e3 : x = z := by simpa using e2
      subst e3
      exact ⟨⟨p, s', e1, fun w hw => h w (by simp [hw])⟩, fun hk => h x (by simp) hk.symm⟩
  · rintro (rfl | ⟨⟨p, s, rfl, h⟩, hk⟩)
    · exact ⟨l, [], rfl, by simp⟩
    · exact ⟨p, s ++ [x], by simp, fun w hw => by
        rcases List.mem_append.1 hw with g | g
        · exact h w g
        · simp at g; subst g; exact fun e => hk e.symm⟩

/-! ### The document's own way: each label is put into what is sorted already -/
/-- One step: the new label x, what is built so far, and whether x stands in it, against y. -/
def insStep (x : Lb) (st : List Lb × Bool) (y : Lb) : List Lb × Bool :=
  let st1 := if !st.2 && !sL y.1 x.1 then (st.1 ++ [x], true) else st
  if sE y.1 x.1 then st1 else (st1.1 ++ [y], st1.2)
/-- The new label put in. -/
def insR (x : Lb) (out : List Lb) : List Lb :=
  let r := out.foldl (insStep x) ([], false)
  if r.2 then r.1 else r.1 ++ [x]
def rSorted (l : List Lb) : List Lb := l.foldl (fun out x => insR x out) []

theorem insFold (x : Lb) : ∀ (k : Nat) (p : List Lb), p.length = k → Asc p →
    ((∀ y ∈ p, sL y.1 x.1 = true) ∧ p.foldl (insStep x) ([], false) = (p, false)) ∨
    ((∃ y ∈ p, sL y.1 x.1 = false) ∧ p.foldl (insStep x) ([], false) = (p.filter (fun y => sL y.1 x.1) ++ x :: p.filter (fun y => sL x.1 y.1), true)) := by
  intro k
  induction k with
  | zero => intro p hp _; left; rw [List.length_eq_zero_iff] at hp; subst hp; simp
  | succ k ih =>
    intro p hp ha
    rcases List.eq_nil_or_concat p with rfl | ⟨q, y, rfl⟩
    · simp at hp
    · have hq : q.length = k := by simpa using hp
      have ha' := List.pairwise_append.1 (show (q ++ [y]).Pairwise _ from by rw [← List.concat_eq_append]; exact ha)
      have hqy : ∀ z ∈ q, sL z.1 y.1 = true := fun z hz => ha'.2.2 z hz y (by simp)
      rcases ih q hq ha'.1 with ⟨h1, h2⟩ | ⟨⟨z, hz, hzx⟩, h2⟩
      · by_cases c : sL y.1 x.1 = true
        · left
          refine ⟨fun w hw => ?_, ?_⟩
          · rw [List.concat_eq_append] at hw
            rcases List.mem_append.1 hw with g | g
            · exact h1 w g
            · simp at g; subst g; exact c
          · have hne : sE y.1 x.1 = false := by
              rw [Bool.eq_false_iff]; intro he; exact sL_ne c (sE_iff.1 he)
            rw [List.concat_eq_append, List.foldl_append, h2]
            simp [insStep, c, hne]
        · right
          have c' : sL y.1 x.1 = false := by simpa using c
          refine ⟨⟨y, by simp, c'⟩, ?_⟩
          have hf1 : q.filter (fun y => sL y.1 x.1) = q := List.filter_eq_self.2 h1
          have hf2 : q.filter (fun y => sL x.1 y.1) = [] := List.filter_eq_nil_iff.2 fun w hw => by rw [sL_asymm (h1 w hw)]; simp
          rw [List.concat_eq_append, List.foldl_append, h2, List.filter_append, List.filter_append, hf1, hf2]
          rcases sL_total c' with g | g
          · have hne : sE y.1 x.1 = false := by
              rw [Bool.eq_false_iff]; intro he; exact sL_ne g (sE_iff.1 he).symm
            simp [insStep, c', hne, g]
          · have he : sE y.1 x.1 = true := sE_iff.2 g
            simp [insStep, c', he, g, sL_irrefl, sE_refl]
      · right
        have hxy : sL x.1 y.1 = true := by
          rcases sL_total hzx with g | g
          · exact sL_trans g (hqy z hz)
          · rw [← g]; exact hqy z hz
        have c' : sL y.1 x.1 = false := sL_asymm hxy
        have hne : sE y.1 x.1 = false := by
          rw [Bool.eq_false_iff]; intro he; exact sL_ne hxy (sE_iff.1 he).symm
        refine ⟨⟨y, by simp, c'⟩, ?_⟩
        rw [List.concat_eq_append, List.foldl_append, h2, List.filter_append, List.filter_append]
        simp [insStep, c', hne, hxy]
theorem insR_eq (x : Lb) (s : List Lb) (h : Asc s) : insR x s = s.filter (fun y => sL y.1 x.1) ++ x :: s.filter (fun y => sL x.1 y.1) := by
  unfold insR
  rcases insFold x s.length s rfl h with ⟨h1, h2⟩ | ⟨h1, h2⟩
  · rw [h2]
    have hf1 : s.filter (fun y => sL y.1 x.1) = s := List.filter_eq_self.2 h1
    have hf2 : s.filter (fun y => sL x.1 y.1) = [] := List.filter_eq_nil_iff.2 fun w hw => by rw [sL_asymm (h1 w hw)]; simp
    rw [hf1, hf2]; simp
  · rw [h2]; simp
theorem insR_sorted {l s : List Lb} (x : Lb) (h : IsSorted l s) : IsSorted (l ++ [x]) (insR x s) := by
  rw [insR_eq x s h.1]
  refine ⟨?_, fun y => ?_⟩
  · unfold Asc
    rw [List.pairwise_append]
    refine ⟨h.1.filter _, ?_, fun a ha b hb => ?_⟩
    · rw [List.pairwise_cons]
      exact ⟨fun b hb => (List.mem_filter.1 hb).2, h.1.filter _⟩
    · have h1 := (List.mem_filter.1 ha).2
      rcases List.mem_cons.1 hb with rfl | hb
      · exact h1
      · exact sL_trans h1 (List.mem_filter.1 hb).2
  · rw [lastIn_snoc, List.mem_append, List.mem_cons, List.mem_filter, List.mem_filter, ← h.2 y]
    constructor
    · rintro (⟨h1, h2⟩ | rfl | ⟨h1, h2⟩)
      · exact .inr ⟨h1, sL_ne h2⟩
      · exact .inl rfl
      · exact .inr ⟨h1, fun e => sL_ne h2 e.symm⟩
    · rintro (rfl | ⟨h1, h2⟩)
      · exact .inr (.inl rfl)
      · by_cases c : sL y.1 x.1 = true
        · exact .inl ⟨h1, c⟩
        · rcases sL_total (show sL y.1 x.1 = false by simpa using c) with g | g
          · exact .inr (.inr ⟨h1, g⟩)
          · exact absurd g h2
theorem rSorted_take {l : List Lb} {k : Nat} (h : k < l.length) : rSorted (l.take (k + 1)) = insR l[k] (rSorted (l.take k)) := by
  unfold rSorted; rw [List.take_succ_eq_append_getElem h, List.foldl_append]; rfl
theorem rSorted_sorted : ∀ (k : Nat) (l : List Lb), l.length = k → IsSorted l (rSorted l) := by
  intro k
  induction k with
  | zero => intro l hl; rw [List.length_eq_zero_iff] at hl; subst hl; exact ⟨List.Pairwise.nil, fun x => ⟨fun h => by simp [rSorted] at h, fun h => absurd h (lastIn_nil x)⟩⟩
  | succ k ih =>
    intro l hl
    rcases List.eq_nil_or_concat l with rfl | ⟨q, y, rfl⟩
    · simp at hl
    · rw [List.concat_eq_append]
      have : rSorted (q ++ [y]) = insR y (rSorted q) := by unfold rSorted; rw [List.foldl_append]; rfl
      rw [this]
      exact insR_sorted y (ih q (by simpa using hl))

/-! ### The program's way: sorted stably, then the last of each key -/
/-- Labels that bear their places: which stands ahead. -/
def ltT (x y : Lb × Nat) : Bool := sL x.1.1 y.1.1 || (sE x.1.1 y.1.1 && decide (x.2 < y.2))
theorem ltT_iff {x y : Lb × Nat} : ltT x y = true ↔ sL x.1.1 y.1.1 = true ∨ (x.1.1 = y.1.1 ∧ x.2 < y.2) := by
  unfold ltT; rw [Bool.or_eq_true, Bool.and_eq_true, sE_iff, decide_eq_true_eq]
theorem ltT_total (x y : Lb × Nat) : ltT x y = true ∨ ltT y x = true ∨ (x.1.1 = y.1.1 ∧ x.2 = y.2) := by
  by_cases c : sL x.1.1 y.1.1 = true
  · exact .inl (ltT_iff.2 (.inl c))
  · rcases sL_total (show sL x.1.1 y.1.1 = false by simpa using c) with g | g
    · exact .inr (.inl (ltT_iff.2 (.inl g)))
    · rcases Nat.lt_trichotomy x.2 y.2 with h | h | h
      · exact .inl (ltT_iff.2 (.inr ⟨g, h⟩))
      · exact .inr (.inr ⟨g, h⟩)
      · exact .inr (.inl (ltT_iff.2 (.inr ⟨g.symm, h⟩)))
theorem ltT_trans {x y z : Lb × Nat} (h1 : ltT x y = true) (h2 : ltT y z = true) : ltT x z = true := by
  rw [ltT_iff] at *
  rcases h1 with h1 | ⟨e1, h1⟩
  · rcases h2 with h2 | ⟨e2, h2⟩
    · exact .inl (sL_trans h1 h2)
    · rw [← e2]; exact .inl h1
  · rcases h2 with h2 | ⟨e2, h2⟩
    · rw [e1]; exact .inl h2
    · exact .inr ⟨e1.trans e2, by omega⟩
theorem ltT_irrefl (x : Lb × Nat) : ltT x x = false := by
  rw [Bool.eq_false_iff]; intro h; rcases ltT_iff.1 h with g | ⟨_, g⟩
  · rw [sL_irrefl] at g; cases g
  · omega
theorem ltT_of_eq {x y z : Lb × Nat} (h : x.1.1 = y.1.1 ∧ x.2 = y.2) : ltT x z = ltT y z ∧ ltT z x = ltT z y := by
  unfold ltT; rw [h.1, h.2]; exact ⟨rfl, rfl⟩
theorem swoLt : SWO ltT := ⟨ltT_irrefl, fun _ _ _ => ltT_trans, fun x y z h1 h2 => by
  rcases ltT_total x y with g | g | g
  · rw [g] at h1; cases h1
  · rcases ltT_total y z with g' | g' | g'
    · rw [g'] at h2; cases h2
    · rw [Bool.eq_false_iff]; intro h; have := ltT_trans h (ltT_trans g' g); rw [ltT_irrefl] at this; cases this
    · rw [← (ltT_of_eq (z := x) g').2]; exact h1
  · rw [(ltT_of_eq (z := z) g).1]; exact h2⟩

/-- The labels with their places. -/
def tagged (l : List Lb) : Array (Lb × Nat) := l.zipIdx.toArray
theorem tagged_size (l : List Lb) : (tagged l).size = l.length := by simp [tagged]
theorem tagged_get {l : List Lb} {i : Nat} (h : i < l.length) : (tagged l)[i]! = (l[i], i) := by
  rw [getElem!_pos _ i (by rw [tagged_size]; exact h)]
  simp [tagged]
theorem tagged_lt {l : List Lb} {i j : Nat} (h : i < j) (hj : j < l.length) : sL (tagged l)[j]!.1.1 (tagged l)[i]!.1.1 = ltT (tagged l)[j]! (tagged l)[i]! := by
  rw [tagged_get hj, tagged_get (by omega : i < l.length)]
  unfold ltT
  simp only []
  rw [show decide (j < i) = false from decide_eq_false (by omega)]
  simp

/-- Is this the last place of its key? -/
def keepAt (D : Array (Lb × Nat)) (i : Nat) : Bool := decide (i + 1 = D.size) || !sE D[i + 1]!.1.1 D[i]!.1.1
/-- The last label of each key, of the first k places. -/
def lastsK (D : Array (Lb × Nat)) (k : Nat) : List Lb := ((List.range k).filter (keepAt D)).map fun i => D[i]!.1
theorem lastsK_yes {D : Array (Lb × Nat)} {k : Nat} (h : keepAt D k = true) : lastsK D (k + 1) = lastsK D k ++ [D[k]!.1] := by
  unfold lastsK; rw [List.range_succ, List.filter_append, List.map_append]; simp [h]
theorem lastsK_no {D : Array (Lb × Nat)} {k : Nat} (h : keepAt D k = false) : lastsK D (k + 1) = lastsK D k := by
  unfold lastsK; rw [List.range_succ, List.filter_append, List.map_append]; simp [h]
theorem lastsK_len (D : Array (Lb × Nat)) (k : Nat) : (lastsK D k).length ≤ k := by
  unfold lastsK; rw [List.length_map]; exact Nat.le_trans (List.length_filter_le _ _) (by simp)

theorem perm_mem {d d' : Array (Lb × Nat)} (p : PermIn 0 d.size d d') (x : Lb × Nat) : (∃ i, i < d.size ∧ d'[i]! = x) ↔ (∃ i, i < d.size ∧ d[i]! = x) := by
  have hh : ∀ (e : Array (Lb × Nat)), e.size = d.size → ((∃ i, i < d.size ∧ e[i]! = x) ↔ x ∈ (e.extract 0 d.size).toList) := fun e he => by
    have : e.extract 0 d.size = e := by rw [← he]; simp
    rw [this]
    constructor
    · rintro ⟨i, hi, rfl⟩; rw [getElem!_pos e i (by omega)]; simp
    · intro h; obtain ⟨i, hi, e1⟩ := Array.getElem_of_mem (Array.mem_toList_iff.1 h)
      exact ⟨i, by omega, by rw [getElem!_pos e i hi]; exact e1⟩
  rw [hh d' p.1, hh d rfl, p.2.2.mem_iff]

theorem lasts_sorted {l : List Lb} {D : Array (Lb × Nat)} (p : PermIn 0 l.length (tagged l) D) (s : SortedIn ltT 0 l.length D) : IsSorted l (lastsK D l.length) := by
  have hsz : D.size = l.length := by rw [p.1, tagged_size]
  have hm : ∀ x, (∃ i, i < l.length ∧ D[i]! = x) ↔ (∃ i, i < l.length ∧ (tagged l)[i]! = x) := fun x => by
    have := perm_mem (d := tagged l) (by rw [tagged_size]; exact p) x
    rw [tagged_size] at this; exact this
  have htag : ∀ i, i < l.length → ∃ h : D[i]!.2 < l.length, D[i]!.1 = l[D[i]!.2] := fun i hi => by
    obtain ⟨j, hj, e⟩ := (hm D[i]!).1 ⟨i, hi, rfl⟩
    rw [tagged_get hj] at e
    rw [← e]; exact ⟨hj, rfl⟩
  have hmono : ∀ i j, i < j → j < l.length → sL D[j]!.1.1 D[i]!.1.1 = false := fun i j h1 h2 => by
    have := s i j (Nat.zero_le _) h1 h2
    rw [Bool.eq_false_iff]; intro h
    rw [ltT_iff.2 (.inl h)] at this; cases this
  have hstep : ∀ i j, i < j → j < l.length → keepAt D i = true → sL D[i]!.1.1 D[j]!.1.1 = true := fun i j h1 h2 hk => by
    unfold keepAt at hk
    rw [Bool.or_eq_true, decide_eq_true_eq] at hk
    rcases hk with hk | hk
    · omega
    · have hne : ¬ D[i + 1]!.1.1 = D[i]!.1.1 := fun e => by rw [sE_iff.2 e] at hk; simp at hk
      have h3 : sL D[i]!.1.1 D[i + 1]!.1.1 = true := by
        rcases sL_total (hmono i (i + 1) (by omega) (by omega)) with g | g
        · exact g
        · exact absurd g hne
      rcases Nat.eq_or_lt_of_le (show i + 1 ≤ j from h1) with e | e
      · rw [← e]; exact h3
      · rcases sL_total (hmono (i + 1) j e h2) with g | g
        · exact sL_trans h3 g
        · rw [g]; exact h3
  refine ⟨?_, fun x => ?_⟩
  · unfold Asc lastsK
    rw [List.pairwise_map]
    have hp : ((List.range l.length).filter (keepAt D)).Pairwise (· < ·) := List.pairwise_lt_range.filter _
    refine hp.imp_of_mem fun {i j} hi hj h => ?_
    exact hstep i j h (List.mem_range.1 (List.mem_filter.1 hj).1) (List.mem_filter.1 hi).2
  · unfold lastsK
    rw [List.mem_map]
    constructor
    · rintro ⟨i, hi, rfl⟩
      obtain ⟨hi1, hk⟩ := List.mem_filter.1 hi
      have hi2 := List.mem_range.1 hi1
      obtain ⟨ht, e⟩ := htag i hi2
      refine ⟨l.take D[i]!.2, l.drop (D[i]!.2 + 1), ?_, fun y hy hkey => ?_⟩
      · rw [e, ← List.drop_eq_getElem_cons ht, List.take_append_drop]
      · obtain ⟨j, hj, ej⟩ := List.getElem_of_mem hy
        rw [List.getElem_drop] at ej
        rw [List.length_drop] at hj
        obtain ⟨q, hq, eq⟩ := (hm (l[D[i]!.2 + 1 + j], D[i]!.2 + 1 + j)).2 ⟨D[i]!.2 + 1 + j, by omega, tagged_get (by omega)⟩
        have hkq : D[q]!.1.1 = D[i]!.1.1 := by rw [eq]; simp only []; rw [ej]; exact hkey
        rcases Nat.lt_trichotomy q i with g | g | g
        · have := s q i (Nat.zero_le _) g hi2
          rw [ltT_iff.2 (.inr ⟨hkq.symm, by rw [eq]; simp only []; omega⟩)] at this; cases this
        · rw [g] at eq; have := congrArg Prod.snd eq; simp only [] at this; omega
        · have := hstep i q g hq hk; rw [hkq, sL_irrefl] at this; cases this
    · rintro ⟨a, b, e, hb⟩
      have hal : a.length < l.length := by rw [e]; simp
      have hla : l[a.length] = x := by
        have : l[a.length]? = some x := by rw [e]; simp
        rw [List.getElem?_eq_getElem hal] at this; injection this
      obtain ⟨i, hi, ei⟩ := (hm (l[a.length], a.length)).2 ⟨a.length, hal, tagged_get hal⟩
      refine ⟨i, List.mem_filter.2 ⟨List.mem_range.2 hi, ?_⟩, by rw [ei]; exact hla⟩
      unfold keepAt
      rw [Bool.or_eq_true, decide_eq_true_eq]
      by_cases c : i + 1 = D.size
      · exact .inl c
      · right
        have hi1 : i + 1 < l.length := by omega
        obtain ⟨ht, et⟩ := htag (i + 1) hi1
        by_cases he : sE D[i + 1]!.1.1 D[i]!.1.1 = true
        · exfalso
          have hkey := sE_iff.1 he
          have h1 := s i (i + 1) (Nat.zero_le _) (by omega) hi1
          have h2 : ¬ D[i + 1]!.2 < D[i]!.2 := fun hlt => by rw [ltT_iff.2 (.inr ⟨hkey, hlt⟩)] at h1; cases h1
          rw [ei] at h2 hkey
          simp only [] at h2 hkey
          rcases Nat.eq_or_lt_of_le (Nat.le_of_not_lt h2) with g | g
          · -- two places with one tag
            have hnd : (D.toList.map (·.2)).Nodup := by
              have h3 : (D.toList).Perm (tagged l).toList := by
                have := p.2.2
                rwa [show D.extract 0 l.length = D by rw [← hsz]; simp, show (tagged l).extract 0 l.length = tagged l by rw [← tagged_size l]; simp] at this
              refine (h3.map (·.2)).nodup_iff.2 ?_
              unfold tagged
              simp only [List.zipIdx_map_snd]
              exact List.nodup_range'
            have h4 := List.pairwise_iff_getElem.1 hnd i (i + 1) (by simp [hsz]; exact hi) (by simp [hsz]; exact hi1) (by omega)
            simp only [List.getElem_map, Array.getElem_toList] at h4
            rw [← getElem!_pos D i (by omega), ← getElem!_pos D (i + 1) (by omega), ei] at h4
            exact h4 g
          · refine hb l[D[i + 1]!.2] ?_ (by rw [← et, hkey, hla])
            have h5 : l[D[i + 1]!.2]? = b[D[i + 1]!.2 - (a.length + 1)]? := by
              have h6 : ∀ (t : Nat), a.length < t → l[t]? = b[t - (a.length + 1)]? := fun t ht => by
                rw [e, List.getElem?_append_right (by omega), show t - a.length = (t - (a.length + 1)) + 1 by omega, List.getElem?_cons_succ]
              exact h6 _ g
            rw [List.getElem?_eq_getElem ht] at h5
            exact List.mem_of_getElem? h5.symm
        · simp [he]
end Go.Proofs.Ytnidpipbdgolfaa
