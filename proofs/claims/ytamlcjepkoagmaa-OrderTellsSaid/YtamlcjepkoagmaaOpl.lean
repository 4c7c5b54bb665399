/- The units of jobs, plainly: what a unit is, that no place stands twice, in which order they stand, a gang's unit, and that a bound job without a gang plays no part. No condition. -/
import Derived.Test.YtamlcjepkoagmaaUs
import Derived.Test.YtamlcjepkoagmaaSo14
import Derived.Test.YtamlcjepkoagmaaWks
namespace Go.Proofs.Ytamlcjepkoagmaa
open Go.RowKit
set_option linter.unusedSimpArgs false
set_option linter.unusedVariables false

section
variable {a b c : Jb}
theorem tryB_iff : tryB a b = true ↔ b.pr < a.pr ∨ (a.pr = b.pr ∧ a.sq < b.sq) := by unfold tryB; simp
theorem tryB_no : tryB a b = false ↔ ¬ (b.pr < a.pr) ∧ (a.pr = b.pr → ¬ a.sq < b.sq) := by unfold tryB; simp
theorem tryB_irrefl (a : Jb) : tryB a a = false := by rw [tryB_no]; omega
theorem tryB_asymm (h : tryB a b = true) : tryB b a = false := by rw [tryB_iff] at h; rw [tryB_no]; omega
theorem tryB_ntrans (h : tryB a b = false) (k : tryB b c = false) : tryB a c = false := by rw [tryB_no] at *; omega
theorem tryB_trans (h : tryB a b = true) (k : tryB b c = true) : tryB a c = true := by rw [tryB_iff] at *; omega
end

section
variable {l : List Jb} {S T : List Nat} {u v : List Nat} {g : ByteArray} {k p i : Nat}
/-- The places that wait, as they are tried; the units. -/
abbrev srtU (l : List Jb) : List Nat := srt14 l l.length
abbrev unitsU (l : List Jb) : List (List Nat) := unitsK l (srtU l) (srtU l).length
abbrev ahU (l : List Jb) (i y : Nat) : Bool := tryB (jat l i) (jat l y)
theorem srtU_perm (l : List Jb) : (srtU l).Perm ((List.range l.length).filter (waitC l)) := wk_perm l.length
theorem srtU_fore (l : List Jb) : (srtU l).Pairwise (Fore (ahU l)) := wk_fore (ah := ahU l) (fun u v h => tryB_asymm h) (fun u v w h k => tryB_ntrans h k) l.length
theorem srtU_nodup (l : List Jb) : (srtU l).Nodup := wk_nodup l.length
theorem srtU_mem : p ∈ srtU l ↔ p < l.length ∧ waitC l p = true := by rw [(srtU_perm l).mem_iff, List.mem_filter, List.mem_range]
theorem srtU_tried (l : List Jb) : (srtU l).Pairwise (fun a b => tryB (jat l b) (jat l a) = false) := by
  refine (srtU_fore l).imp fun {a b} h => ?_
  rcases h with h | ⟨h, _⟩
  · exact tryB_asymm h
  · exact h
theorem srtU_one {W : List Nat} (h1 : W.Pairwise (Fore (ahU l))) (h2 : W.Perm ((List.range l.length).filter (waitC l))) : W = srtU l :=
  fore_one (ah := ahU l) (fun u v h => tryB_asymm h) h1 (srtU_fore l) (h2.trans (srtU_perm l).symm)

/-! ### What a unit is -/
theorem units_mem (h : u ∈ unitsK l S k) (hk : k ≤ S.length) : ∃ i, ∃ hi : i < S.length, i < k ∧ u ∈ unitAt l S (S.take i) S[i] := by
  induction k with
  | zero => simp [unitsK] at h
  | succ k ih =>
    rw [unitsK_succ (show k < S.length by omega), List.mem_append] at h
    rcases h with h | h
    · obtain ⟨i, hi, h1, h2⟩ := ih h (by omega)
      exact ⟨i, hi, by omega, h2⟩
    · exact ⟨k, by omega, by omega, h⟩
theorem unitAt_is (h : u ∈ unitAt l S T p) : ((jat l p).ga.size = 0 ∧ u = [p]) ∨ ((jat l p).ga.size ≠ 0 ∧ firstK l (jat l p).ga T = true ∧ (jat l p).sz ≤ (manyK l (jat l p).ga l.length : Int) ∧ u = gangOf l (jat l p).ga S) := by
  unfold unitAt at h
  split at h
  · rename_i h0
    simp at h
    exact .inl ⟨h0, h⟩
  · rename_i h0
    split at h
    · rename_i h1
      rw [Bool.and_eq_true, decide_eq_true_eq] at h1
      simp at h
      exact .inr ⟨h0, h1.1, h1.2, h⟩
    · simp at h
theorem gangOf_nil (h : firstK l g T = true) : gangOf l g T = [] := by
  unfold gangOf
  unfold firstK at h
  rw [List.filter_eq_nil_iff]
  intro y hy
  have := List.all_eq_true.1 h y hy
  simpa using this
theorem gangOf_first (hi : i < S.length) (hg : (jat l S[i]).ga = g) (h : firstK l g (S.take i) = true) : gangOf l g S = S[i] :: gangOf l g (S.drop (i + 1)) := by
  have e : S = S.take i ++ (S[i] :: S.drop (i + 1)) := by rw [← List.drop_eq_getElem_cons hi, List.take_append_drop]
  have h1 : gangOf l g S = gangOf l g (S.take i) ++ gangOf l g (S[i] :: S.drop (i + 1)) := by
    have := congrArg (gangOf l g) e
    rw [this]
    unfold gangOf
    rw [List.filter_append]
  rw [h1, gangOf_nil h, List.nil_append]
  unfold gangOf
  rw [List.filter_cons_of_pos (by show sE (jat l S[i]).ga g = true; rw [hg]; exact sE_refl _)]
theorem gangOf_mem {y : Nat} : y ∈ gangOf l g S ↔ y ∈ S ∧ (jat l y).ga = g := by unfold gangOf; rw [List.mem_filter, sE_iff]
/-- A unit's first one is the one at whose place it is made; it is a part of the order; the others are of its gang. -/
theorem unit_head (hi : i < S.length) (h : u ∈ unitAt l S (S.take i) S[i]) : (∃ r, u = S[i] :: r ∧ ∀ q ∈ r, (jat l q).ga.size ≠ 0) ∧ u.Sublist S ∧ ∀ q ∈ u, (jat l q).ga = (jat l S[i]).ga := by
  rcases unitAt_is h with ⟨h0, rfl⟩ | ⟨h0, h1, h2, rfl⟩
  · refine ⟨⟨[], rfl, fun q hq => by cases hq⟩, List.singleton_sublist.2 (List.getElem_mem hi), fun q hq => ?_⟩
    rw [List.mem_singleton] at hq; rw [hq]
  · have e := gangOf_first (g := (jat l S[i]).ga) hi rfl h1
    refine ⟨⟨_, e, fun q hq => ?_⟩, List.filter_sublist, fun q hq => (gangOf_mem.1 hq).2⟩
    rw [(gangOf_mem.1 hq).2]; exact h0
theorem units_in (h : u ∈ unitsU l) : ∃ p r, u = p :: r ∧ (∀ q ∈ u, q < l.length ∧ (jat l q).nd.size = 0 ∧ (jat l q).ga = (jat l p).ga) ∧ ∀ q ∈ r, (jat l q).ga.size ≠ 0 := by
  obtain ⟨i, hi, _, hu⟩ := units_mem h (Nat.le_refl _)
  obtain ⟨⟨r, h1, h2⟩, h3, h4⟩ := unit_head hi hu
  refine ⟨(srtU l)[i], r, h1, fun q hq => ?_, h2⟩
  obtain ⟨k1, k2⟩ := srtU_mem.1 (h3.subset hq)
  unfold waitC at k2
  exact ⟨k1, of_decide_eq_true k2, h4 q hq⟩

/-! ### No place stands twice -/
theorem units_apart (hn : S.Nodup) : ∀ k, k ≤ S.length → (unitsK l S k).Pairwise fun u v => ∀ q ∈ u, ∀ q' ∈ v, q ≠ q'
  | 0, _ => by simp [unitsK]
  | k + 1, hk => by
    have hk' : k < S.length := by omega
    rw [unitsK_succ hk', List.pairwise_append]
    refine ⟨units_apart hn k (by omega), ?_, ?_⟩
    · have := unitAt_len l S (S.take k) S[k]
      match hq : unitAt l S (S.take k) S[k] with
      | [] => exact List.Pairwise.nil
      | [x] => exact List.pairwise_singleton _ _
      | x :: y :: r => rw [hq] at this; simp at this
    · intro u hu v hv
      obtain ⟨i, hi, hik, hu⟩ := units_mem hu (by omega)
      obtain ⟨⟨r, hr, hr2⟩, h3, h4⟩ := unit_head hi hu
      obtain ⟨⟨r', hr', hr2'⟩, h3', h4'⟩ := unit_head hk' hv
      intro q hq q2 hq' eq
      subst eq
      have e1 := h4 q hq
      have e2 := h4' q hq'
      have hne : S[i] ≠ S[k] := List.pairwise_iff_getElem.1 hn i k hi hk' hik
      rcases unitAt_is hv with ⟨h0, rfl⟩ | ⟨h0, h1, _, rfl⟩
      · rcases unitAt_is hu with ⟨h0', rfl⟩ | ⟨h0', _⟩
        · rw [List.mem_singleton] at hq hq'
          exact hne (hq.symm.trans hq')
        · rw [← e1, e2] at h0'; exact h0' h0
      · have hm : S[i] ∈ S.take k := by
          rw [List.mem_take_iff_getElem]
          exact ⟨i, by omega, rfl⟩
        have := List.all_eq_true.1 h1 _ hm
        rw [← e1, e2, sE_refl] at this
        cases this
theorem units_nodup (l : List Jb) : (unitsU l).flatten.Nodup := by
  show (unitsU l).flatten.Pairwise (· ≠ ·)
  rw [List.pairwise_flatten]
  refine ⟨fun u hu => ?_, units_apart (srtU_nodup l) _ (Nat.le_refl _)⟩
  obtain ⟨i, hi, _, hu⟩ := units_mem hu (Nat.le_refl _)
  exact (unit_head hi hu).2.1.nodup (srtU_nodup l)
theorem units_has (hp : p < l.length) (hw : (jat l p).nd.size = 0) (hg : (jat l p).ga.size = 0) : p ∈ (unitsU l).flatten := by
  have hm : p ∈ srtU l := srtU_mem.2 ⟨hp, by unfold waitC; exact decide_eq_true hw⟩
  obtain ⟨i, hi, he⟩ := List.getElem_of_mem hm
  have h1 : [p] ∈ unitsU l := by
    show [p] ∈ unitsK l (srtU l) (srtU l).length
    unfold unitsK
    rw [List.mem_flatten]
    refine ⟨unitAt l (srtU l) ((srtU l).take i) ((srtU l).getD i 0), List.mem_map.2 ⟨i, List.mem_range.2 hi, rfl⟩, ?_⟩
    have : (srtU l).getD i 0 = p := by rw [List.getD, List.getElem?_eq_getElem hi, he]; rfl
    rw [this]
    unfold unitAt
    rw [if_pos hg]; simp
  exact List.mem_flatten.2 ⟨_, h1, by simp⟩

/-! ### Their order -/
theorem heads_sub : ∀ k, k ≤ S.length → ((unitsK l S k).map fun u => u.getD 0 0).Sublist (S.take k)
  | 0, _ => by simp [unitsK]
  | k + 1, hk => by
    have hk' : k < S.length := by omega
    rw [unitsK_succ hk', List.map_append, List.take_succ_eq_append_getElem hk']
    refine List.Sublist.append (heads_sub k (by omega)) ?_
    have hl := unitAt_len l S (S.take k) S[k]
    match hq : unitAt l S (S.take k) S[k] with
    | [] => simp
    | [x] =>
      obtain ⟨⟨r, hr, _⟩, _⟩ := unit_head hk' (by rw [hq]; simp : x ∈ unitAt l S (S.take k) S[k])
      rw [hr]; simp
    | x :: y :: r => rw [hq] at hl; simp at hl
theorem units_heads (l : List Jb) : ((unitsU l).map fun u => u.getD 0 0).Pairwise fun a b => tryB (jat l b) (jat l a) = false := by
  have h := heads_sub (l := l) (S := srtU l) (srtU l).length (Nat.le_refl _)
  rw [List.take_length] at h
  exact (srtU_tried l).sublist h
theorem units_within (h : u ∈ unitsU l) : u.Pairwise fun a b => tryB (jat l b) (jat l a) = false := by
  obtain ⟨i, hi, _, hu⟩ := units_mem h (Nat.le_refl _)
  exact (srtU_tried l).sublist (unit_head hi hu).2.1

/-! ### A gang's unit -/
theorem units_gang (hg : g.size ≠ 0) : ∀ k, k ≤ S.length → ((unitsK l S k).filter fun u => sE (jat l (u.getD 0 0)).ga g) = if firstK l g (S.take k) then [] else if (jat l ((gangOf l g S).getD 0 0)).sz ≤ (manyK l g l.length : Int) then [gangOf l g S] else []
  | 0, _ => by simp [unitsK, firstK]
  | k + 1, hk => by
    have hk' : k < S.length := by omega
    rw [unitsK_succ hk', List.filter_append, units_gang hg k (by omega)]
    have hf : firstK l g (S.take (k + 1)) = (firstK l g (S.take k) && !sE (jat l S[k]).ga g) := by
      unfold firstK; rw [List.take_succ_eq_append_getElem hk', List.all_append]; simp
    rw [hf]
    by_cases hp : (jat l S[k]).ga = g
    · rw [show sE (jat l S[k]).ga g = true by rw [hp]; exact sE_refl _]
      simp only [Bool.not_true, Bool.and_false, Bool.false_eq_true, if_false]
      cases h1 : firstK l g (S.take k)
      · simp only [Bool.false_eq_true, if_false]
        have : unitAt l S (S.take k) S[k] = [] := by
          unfold unitAt
          rw [hp, if_neg hg, h1]; rfl
        rw [this]; simp
      · simp only [if_true, List.nil_append]
        have e := gangOf_first hk' hp h1
        have e0 : (gangOf l g S).getD 0 0 = S[k] := by rw [e]; rfl
        rw [e0]
        have hu : unitAt l S (S.take k) S[k] = if (jat l S[k]).sz ≤ (manyK l g l.length : Int) then [gangOf l g S] else [] := by
          unfold unitAt
          rw [hp, if_neg hg, h1]
          simp
        rw [hu]
        split
        · rw [List.filter_cons_of_pos]
          · rfl
          · show sE (jat l ((gangOf l g S).getD 0 0)).ga g = true
            rw [e0, hp]; exact sE_refl _
        · rfl
    · have hs : sE (jat l S[k]).ga g = false := by
        cases h : sE (jat l S[k]).ga g
        · rfl
        · exact absurd (sE_iff.1 h) hp
      rw [hs]
      simp only [Bool.not_false, Bool.and_true]
      have : ((unitAt l S (S.take k) S[k]).filter fun u => sE (jat l (u.getD 0 0)).ga g) = [] := by
        rw [List.filter_eq_nil_iff]
        intro u hu
        obtain ⟨⟨r, hr, _⟩, _⟩ := unit_head hk' hu
        rw [hr]
        show ¬ sE (jat l S[k]).ga g = true
        rw [hs]; exact Bool.false_ne_true
      rw [this, List.append_nil]
/-- The waiting ones of a gang, as they are tried. -/
abbrev gangU (l : List Jb) (g : ByteArray) : List Nat := gangOf l g (srtU l)
theorem first_nil : firstK l g S = true ↔ gangOf l g S = [] := by
  constructor
  · exact gangOf_nil
  · intro h
    unfold firstK
    rw [List.all_eq_true]
    intro y hy
    cases hs : sE (jat l y).ga g
    · rfl
    · have : y ∈ gangOf l g S := gangOf_mem.2 ⟨hy, sE_iff.1 hs⟩
      rw [h] at this; cases this
theorem units_of (hg : g.size ≠ 0) : ((unitsU l).filter fun u => sE (jat l (u.getD 0 0)).ga g) = if gangU l g = [] then [] else if (jat l ((gangU l g).getD 0 0)).sz ≤ (manyK l g l.length : Int) then [gangU l g] else [] := by
  have h := units_gang (l := l) (S := srtU l) hg (srtU l).length (Nat.le_refl _)
  rw [List.take_length] at h
  show (List.filter _ (unitsK l (srtU l) (srtU l).length)) = _
  rw [h]
  by_cases hn : gangU l g = []
  · rw [if_pos hn, if_pos (first_nil.2 hn)]
  · rw [if_neg hn, if_neg (fun e => hn (first_nil.1 e))]
/-- Is this one a waiting one of the gang? -/
def gwB (l : List Jb) (g : ByteArray) (i : Nat) : Bool := sE (jat l i).ga g && waitC l i
theorem gangU_perm (l : List Jb) (g : ByteArray) : (gangU l g).Perm ((List.range l.length).filter (gwB l g)) := by
  refine ((srtU_perm l).filter _).trans ?_
  rw [List.filter_filter]
  exact List.Perm.refl _
theorem gangU_len (l : List Jb) (g : ByteArray) : (gangU l g).length = ((List.range l.length).filter (gwB l g)).length := (gangU_perm l g).length_eq
/-- The one that is tried first among the first k, of those that are wanted. -/
def fstK (l : List Jb) (c : Nat → Bool) : Nat → Option Nat
  | 0 => none
  | k + 1 => if c k then (match fstK l c k with | none => some k | some f => if tryB (jat l k) (jat l f) then some k else some f) else fstK l c k
theorem fstK_none {c : Nat → Bool} : ∀ {k}, fstK l c k = none → ∀ i, i < k → c i = false
  | 0, _, i, hi => by omega
  | k + 1, h, i, hi => by
    rw [fstK] at h
    split at h
    · split at h
      · cases h
      · split at h <;> cases h
    · rename_i hc
      by_cases e : i = k
      · subst e; simpa using hc
      · exact fstK_none h i (by omega)
theorem fstK_some {c : Nat → Bool} : ∀ {k f}, fstK l c k = some f → f < k ∧ c f = true ∧ ∀ q, q < k → c q = true → q ≠ f → Fore (ahU l) f q
  | 0, f, h => by simp [fstK] at h
  | k + 1, f, h => by
    rw [fstK] at h
    split at h
    · rename_i hc
      split at h
      · rename_i hn
        injection h with h; subst h
        refine ⟨by omega, hc, fun q hq hcq hne => ?_⟩
        have := fstK_none hn q (by omega)
        rw [hcq] at this; cases this
      · rename_i f' hf
        obtain ⟨h1, h2, h3⟩ := fstK_some hf
        split at h
        · rename_i ht
          injection h with h; subst h
          refine ⟨by omega, hc, fun q hq hcq hne => ?_⟩
          by_cases e : q = f'
          · subst e; exact .inl ht
          · have hF := h3 q (by omega) hcq e
            have hqf : tryB (jat l q) (jat l f') = false := by
              rcases hF with hF | ⟨hF, _⟩
              · exact tryB_asymm hF
              · exact hF
            left
            show tryB (jat l k) (jat l q) = true
            cases hkq : tryB (jat l k) (jat l q)
            · have := tryB_ntrans hkq hqf
              rw [ht] at this; cases this
            · rfl
        · rename_i ht
          injection h with h; subst h
          refine ⟨by omega, h2, fun q hq hcq hne => ?_⟩
          by_cases e : q = k
          · subst e
            exact .inr ⟨Bool.eq_false_iff.2 ht, h1⟩
          · exact h3 q (by omega) hcq hne
    · rename_i hc
      obtain ⟨h1, h2, h3⟩ := fstK_some h
      refine ⟨by omega, h2, fun q hq hcq hne => ?_⟩
      by_cases e : q = k
      · subst e; exact absurd hcq hc
      · exact h3 q (by omega) hcq hne
theorem gangU_mem {q : Nat} : q ∈ gangU l g ↔ q < l.length ∧ gwB l g q = true := by rw [(gangU_perm l g).mem_iff, List.mem_filter, List.mem_range]
theorem fst_is (l : List Jb) (g : ByteArray) : fstK l (gwB l g) l.length = (gangU l g).head? := by
  cases h : fstK l (gwB l g) l.length with
  | none =>
    have hn := fstK_none h
    cases hG : gangU l g with
    | nil => rfl
    | cons x r =>
      obtain ⟨h1, h2⟩ := gangU_mem.1 (show x ∈ gangU l g by rw [hG]; simp)
      rw [hn x h1] at h2; cases h2
  | some f =>
    obtain ⟨h1, h2, h3⟩ := fstK_some h
    have hf : f ∈ gangU l g := gangU_mem.2 ⟨h1, h2⟩
    cases hG : gangU l g with
    | nil => rw [hG] at hf; cases hf
    | cons x r =>
      show some f = some x
      by_cases e : x = f
      · rw [e]
      · exfalso
        obtain ⟨k1, k2⟩ := gangU_mem.1 (show x ∈ gangU l g by rw [hG]; simp)
        have hP : (gangU l g).Pairwise (Fore (ahU l)) := (srtU_fore l).sublist List.filter_sublist
        rw [hG, List.pairwise_cons] at hP
        rw [hG] at hf
        have hx : Fore (ahU l) x f := hP.1 f (by
          rcases List.mem_cons.1 hf with hf | hf
          · exact absurd hf.symm e
          · exact hf)
        have hy := h3 x k1 k2 e
        rcases hx with hx | ⟨hx, hx2⟩ <;> rcases hy with hy | ⟨hy, hy2⟩
        · have h9 := tryB_asymm hx; rw [show tryB (jat l f) (jat l x) = true from hy] at h9; cases h9
        · rw [hx] at hy; cases hy
        · rw [hy] at hx; cases hx
        · omega
end
end Go.Proofs.Ytamlcjepkoagmaa
