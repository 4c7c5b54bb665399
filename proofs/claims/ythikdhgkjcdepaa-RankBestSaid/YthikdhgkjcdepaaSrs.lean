/- The order of names with their scores is total; the list that is made by putting one after the other into its place is the sorted one. No condition. -/
import Derived.Test.YthikdhgkjcdepaaCmq
import Derived.Test.YthikdhgkjcdepaaEnt
import Derived.Shelf.SlSortCmp.Insertion
import Derived.Sort.LotA
namespace Go.Proofs.Ythikdhgkjcdepaa
open Go.RowKit Go.Sort
set_option linter.unusedSimpArgs false
set_option linter.unusedVariables false

section
variable {x y z : En}
theorem bef_iff : bef x y = true ↔ y.2 < x.2 ∨ (y.2 = x.2 ∧ sL y.1 x.1 = true) := by unfold bef; simp
theorem bef_false : bef x y = false ↔ ¬ (y.2 < x.2) ∧ (y.2 = x.2 → sL y.1 x.1 = false) := by unfold bef; simp
theorem bef_irrefl (x : En) : bef x x = false := by rw [bef_false]; exact ⟨by omega, fun _ => sL_irrefl _⟩
theorem bef_trans (h1 : bef x y = true) (h2 : bef y z = true) : bef x z = true := by
  rw [bef_iff] at *
  rcases h1 with h1 | ⟨h1, k1⟩ <;> rcases h2 with h2 | ⟨h2, k2⟩
  · exact .inl (by omega)
  · exact .inl (by omega)
  · exact .inl (by omega)
  · exact .inr ⟨by omega, sL_trans k2 k1⟩
theorem bef_asymm (h : bef x y = true) : bef y x = false := by
  cases h' : bef y x
  · rfl
  · have := bef_trans h h'
    rw [bef_irrefl] at this; cases this
theorem bef_eq (h1 : bef x y = false) (h2 : bef y x = false) : x = y := by
  rw [bef_false] at h1 h2
  have e : x.2 = y.2 := by omega
  rcases sL_total (h1.2 e.symm) with h | h
  · rw [h2.2 e] at h; cases h
  · exact Prod.ext h.symm e
theorem bef_ntrans (h1 : bef x y = false) (h2 : bef y z = false) : bef x z = false := by
  cases h : bef x z
  · rfl
  · cases h3 : bef y x
    · have e := bef_eq h1 h3
      subst e
      rw [h2] at h; cases h
    · rw [bef_trans h3 h] at h2; cases h2
theorem bef_total (x y : En) : bef x y = true ∨ bef y x = true ∨ x = y := by
  cases h1 : bef x y
  · cases h2 : bef y x
    · exact .inr (.inr (bef_eq h1 h2))
    · exact .inr (.inl rfl)
  · exact .inl rfl
theorem ltOf_cfE : ltOf cfE x y = bef y x := by
  unfold ltOf cfE or2
  rw [Bool.eq_iff_iff, decide_eq_true_eq, bef_iff]
  by_cases h : cI x.2 y.2 = 0
  · rw [if_pos h, compareBytes_neg, sL_iff]
    rw [cI_zero] at h
    constructor
    · exact fun k => .inr ⟨h, k⟩
    · rintro (k | ⟨_, k⟩)
      · omega
      · exact k
  · rw [if_neg h, cI_neg]
    rw [cI_zero] at h
    constructor
    · exact fun k => .inl k
    · rintro (k | ⟨k, _⟩)
      · exact k
      · exact absurd k h
end
theorem swoE : SWO (ltOf cfE) := ⟨fun x => by rw [ltOf_cfE]; exact bef_irrefl x, fun x y z h1 h2 => by rw [ltOf_cfE] at *; exact bef_trans h2 h1, fun x y z h1 h2 => by rw [ltOf_cfE] at *; exact bef_ntrans h2 h1⟩

/-- None stands ahead of an earlier one. -/
def Asc (E : List En) : Prop := E.Pairwise fun x y => bef x y = false
theorem insE_perm (x : En) (E : List En) : (insE x E).Perm (x :: E) := by
  unfold insE
  have := List.perm_middle (a := x) (l₁ := E.takeWhile (bef x)) (l₂ := E.dropWhile (bef x))
  rwa [List.takeWhile_append_dropWhile] at this
theorem insE_asc {x : En} {E : List En} (h : Asc E) : Asc (insE x E) := by
  unfold insE Asc
  have h' : Asc (E.takeWhile (bef x) ++ E.dropWhile (bef x)) := by rwa [List.takeWhile_append_dropWhile]
  unfold Asc at h'
  rw [List.pairwise_append] at h' ⊢
  obtain ⟨h1, h2, h3⟩ := h'
  have ht : ∀ y ∈ E.takeWhile (bef x), bef x y = true := by
    intro y hy
    have := List.all_takeWhile (p := bef x) (l := E)
    rw [List.all_eq_true] at this
    exact this y hy
  have hd : ∀ y ∈ E.dropWhile (bef x), bef x y = false := by
    cases hq : E.dropWhile (bef x) with
    | nil => intro y hy; cases hy
    | cons z r =>
      have hz : bef x z = false := by
        have := List.head_dropWhile_not (bef x) (l := E) (by rw [hq]; simp)
        simpa [hq] using this
      intro y hy
      rw [hq, List.pairwise_cons] at h2
      rcases List.mem_cons.1 hy with rfl | hy
      · exact hz
      · exact bef_ntrans hz (h2.1 y hy)
  refine ⟨h1, List.pairwise_cons.2 ⟨hd, h2⟩, ?_⟩
  intro a ha b hb
  rcases List.mem_cons.1 hb with rfl | hb
  · exact bef_asymm (ht a ha)
  · exact h3 a ha b hb
theorem srt_fold (t : Kt) (tl : List Lb) (l : List Jb) : ∀ (L : List Ml) (E : List En), Asc E → Asc (L.foldl (fun E m => match entry t tl l m with | some x => insE x E | none => E) E) ∧ (L.foldl (fun E m => match entry t tl l m with | some x => insE x E | none => E) E).Perm (L.filterMap (entry t tl l) ++ E)
  | [], E, h => ⟨h, by simp⟩
  | m :: L, E, h => by
    rw [List.foldl_cons]
    cases he : entry t tl l m with
    | none =>
      rw [List.filterMap_cons_none he]
      exact srt_fold t tl l L E h
    | some x =>
      rw [List.filterMap_cons_some he]
      obtain ⟨h1, h2⟩ := srt_fold t tl l L (insE x E) (insE_asc h)
      refine ⟨h1, h2.trans ?_⟩
      refine ((insE_perm x E).append_left _).trans ?_
      rw [List.cons_append]
      exact List.perm_middle
section
variable {t : Kt} {tl : List Lb} {l : List Jb} {L : List Ml}
theorem srt_asc : Asc (srt t tl l L) := (srt_fold t tl l L [] List.Pairwise.nil).1
theorem srt_perm : (srt t tl l L).Perm (able t tl l L) := by
  have := (srt_fold t tl l L [] List.Pairwise.nil).2
  rwa [List.append_nil] at this
/-- There is one such order only. -/
theorem asc_one : ∀ {E F : List En}, Asc E → Asc F → E.Perm F → E = F
  | [], F, _, _, h => (List.Perm.nil_eq h)
  | x :: E, [], _, _, h => by have := h.length_eq; simp at this
  | x :: E, y :: F, h1, h2, h => by
    unfold Asc at h1 h2
    rw [List.pairwise_cons] at h1 h2
    have hx : x ∈ y :: F := h.subset (by simp)
    have hy : y ∈ x :: E := h.symm.subset (by simp)
    have e : x = y := by
      rcases List.mem_cons.1 hx with hx | hx
      · exact hx
      · rcases List.mem_cons.1 hy with hy | hy
        · exact hy.symm
        · exact bef_eq (h1.1 y hy) (h2.1 x hx)
    subst e
    rw [asc_one h1.2 h2.2 ((List.perm_cons x).1 h)]
/-- What the sort leaves. -/
theorem sorted_srt {D : Array En} (hp : PermIn 0 (able t tl l L).length (able t tl l L).toArray D) (hs : SortedIn (ltOf cfE) 0 (able t tl l L).length D) : D.toList = srt t tl l L := by
  obtain ⟨h1, _, h3⟩ := hp
  simp only [List.size_toArray] at h1
  have h4 : D.toList.Perm (able t tl l L) := by
    have e : D.extract 0 (able t tl l L).length = D := by rw [← h1]; simp
    rw [e] at h3
    simpa using h3
  refine asc_one ?_ srt_asc (h4.trans srt_perm.symm)
  unfold Asc
  rw [List.pairwise_iff_getElem]
  intro i j hi hj hij
  have := hs i j (Nat.zero_le _) hij (by rw [← h1]; simpa using hj)
  rw [ltOf_cfE] at this
  rw [getElem!_pos D i (by simpa using hi), getElem!_pos D j (by simpa using hj)] at this
  simpa using this
end
end Go.Proofs.Ythikdhgkjcdepaa
