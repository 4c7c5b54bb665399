/- The lowest score of those of one name, and the best one. No condition. -/
import Derived.Test.YthikdhgkjcdepaaSrs
import Derived.Test.YthikdhgkjcdepaaRbe
namespace Go.Proofs.Ythikdhgkjcdepaa
open Go.RowKit
set_option linter.unusedSimpArgs false
set_option linter.unusedVariables false

/-- The lowest score so far of those of this name, and is there one. -/
def lowS (nm : ByteArray) (p : Int × Bool) (e : Option En) : Int × Bool := match e with
  | some x => if sE x.1 nm && (!p.2 || decide (x.2 < p.1)) then (x.2, true) else p
  | none => p
def lows (nm : ByteArray) (t : Kt) (tl : List Lb) (l : List Jb) (L : List Ml) : Int × Bool := L.foldl (fun p m => lowS nm p (entry t tl l m)) (0, false)
section
variable {nm : ByteArray} {t : Kt} {tl : List Lb} {l : List Jb} {L : List Ml} {k : Nat}
theorem lows_take (h : k < L.length) : lows nm t tl l (L.take (k + 1)) = lowS nm (lows nm t tl l (L.take k)) (entry t tl l L[k]) := by
  unfold lows
  rw [List.take_succ_eq_append_getElem h, List.foldl_append]; rfl
theorem lows_no (h : k < L.length) (he : sco L[k].1 L[k].2 t tl l = none) : lows nm t tl l (L.take (k + 1)) = lows nm t tl l (L.take k) := by
  rw [lows_take h]; unfold entry; rw [he]; rfl
theorem lows_yes (h : k < L.length) {s lo : Int} {fo : Bool} (he : sco L[k].1 L[k].2 t tl l = some s) (hp : lows nm t tl l (L.take k) = (lo, fo)) : lows nm t tl l (L.take (k + 1)) = if sE L[k].1.nm nm && (!fo || decide (s < lo)) then (s, true) else (lo, fo) := by
  rw [lows_take h, hp]; unfold entry; rw [he]; rfl
theorem lows_inv (nm : ByteArray) (t : Kt) (tl : List Lb) (l : List Jb) (L : List Ml) : ∀ k, k ≤ L.length →
    ((lows nm t tl l (L.take k)).2 = true → ∃ x ∈ able t tl l (L.take k), x.1 = nm ∧ x.2 = (lows nm t tl l (L.take k)).1) ∧
    (∀ x ∈ able t tl l (L.take k), x.1 = nm → (lows nm t tl l (L.take k)).2 = true ∧ (lows nm t tl l (L.take k)).1 ≤ x.2) := by
  intro k
  induction k with
  | zero => intro _; simp [lows, able]
  | succ k ih =>
    intro hk
    have hk' : k < L.length := by omega
    obtain ⟨i1, i2⟩ := ih (by omega)
    cases he : sco L[k].1 L[k].2 t tl l with
    | none => rw [lows_no hk' he, able_no hk' he]; exact ⟨i1, i2⟩
    | some s =>
      obtain ⟨p, hp⟩ : ∃ p, lows nm t tl l (L.take k) = p := ⟨_, rfl⟩
      obtain ⟨lo, fo⟩ := p
      rw [lows_yes hk' he hp, able_yes hk' he]
      rw [hp] at i1 i2
      simp only at i1 i2
      cases hE : sE L[k].1.nm nm
      · simp only [Bool.false_and, Bool.false_eq_true, if_false]
        refine ⟨fun h => ?_, fun x hx hn => ?_⟩
        · obtain ⟨x, hx, e⟩ := i1 h
          exact ⟨x, List.mem_append.2 (.inl hx), e⟩
        · rcases List.mem_append.1 hx with hx | hx
          · exact i2 x hx hn
          · simp at hx; subst hx
            simp only at hn
            rw [sE_iff.2 hn] at hE; cases hE
      · have hn := sE_iff.1 hE
        cases fo
        · simp only [Bool.not_false, Bool.true_or, Bool.and_self, if_true]
          refine ⟨fun _ => ⟨(L[k].1.nm, s), List.mem_append.2 (.inr (by simp)), hn, rfl⟩, fun x hx hn' => ?_⟩
          rcases List.mem_append.1 hx with hx | hx
          · have := (i2 x hx hn').1; cases this
          · simp at hx; subst hx
            exact ⟨by trivial, Int.le_refl _⟩
        · by_cases hs : s < lo
          · simp only [decide_eq_true hs, Bool.or_true, Bool.and_self, if_true]
            refine ⟨fun _ => ⟨(L[k].1.nm, s), List.mem_append.2 (.inr (by simp)), hn, rfl⟩, fun x hx hn' => ?_⟩
            rcases List.mem_append.1 hx with hx | hx
            · have := (i2 x hx hn').2
              exact ⟨by trivial, by omega⟩
            · simp at hx; subst hx
              exact ⟨by trivial, Int.le_refl _⟩
          · rw [decide_eq_false hs, if_neg (by simp)]
            refine ⟨fun h => ?_, fun x hx hn' => ?_⟩
            · obtain ⟨x, hx, e⟩ := i1 h
              exact ⟨x, List.mem_append.2 (.inl hx), e⟩
            · rcases List.mem_append.1 hx with hx | hx
              · exact i2 x hx hn'
              · simp at hx; subst hx
                exact ⟨by trivial, by simp only; omega⟩
theorem able_mem (h : k < L.length) {s : Int} (he : sco L[k].1 L[k].2 t tl l = some s) : (L[k].1.nm, s) ∈ able t tl l L := by
  unfold able
  refine List.mem_filterMap.2 ⟨L[k], List.getElem_mem h, ?_⟩
  simp [entry, he]
theorem srt_nil (h : srt t tl l L = []) (hk : k < L.length) : sco L[k].1 L[k].2 t tl l = none := by
  cases he : sco L[k].1 L[k].2 t tl l with
  | none => rfl
  | some s =>
    have h1 := able_mem hk he
    have h2 := srt_perm (t := t) (tl := tl) (l := l) (L := L)
    rw [h] at h2
    rw [← h2.nil_eq] at h1
    cases h1
theorem best_low {lo : Int} {fo ok : Bool} (h : bestP (srt t tl l L) = (nm, ok)) (hl : lows nm t tl l L = (lo, fo)) : fo = ok ∧ ∀ x ∈ able t tl l L, ¬ x.2 < lo ∧ (x.2 = lo → sL x.1 nm = false) := by
  obtain ⟨i1, i2⟩ := lows_inv nm t tl l L L.length (Nat.le_refl _)
  rw [List.take_length, hl] at i1 i2
  simp only at i1 i2
  have hp := srt_perm (t := t) (tl := tl) (l := l) (L := L)
  have ha := srt_asc (t := t) (tl := tl) (l := l) (L := L)
  cases hE : srt t tl l L with
  | nil =>
    rw [hE] at h hp
    injection h with e1 e2
    have e := hp.nil_eq
    rw [← e] at i1 i2 ⊢
    refine ⟨?_, fun x hx => by cases hx⟩
    rw [← e2]
    cases fo
    · rfl
    · obtain ⟨x, hx, _⟩ := i1 rfl
      cases hx
  | cons y r =>
    rw [hE] at h hp ha
    injection h with e1 e2
    have hy : y ∈ able t tl l L := hp.subset (by simp)
    obtain ⟨f1, f2⟩ := i2 y hy e1
    obtain ⟨z, hz, z1, z2⟩ := i1 f1
    have hall : ∀ x ∈ able t tl l L, bef y x = false := by
      intro x hx
      rcases List.mem_cons.1 (hp.symm.subset hx) with rfl | hx
      · exact bef_irrefl _
      · exact (List.pairwise_cons.1 ha).1 x hx
    have hlo : lo = y.2 := by
      have := bef_false.1 (hall z hz)
      omega
    refine ⟨by rw [f1, ← e2], fun x hx => ?_⟩
    have := bef_false.1 (hall x hx)
    rw [hlo, ← e1]
    exact this
end
end Go.Proofs.Ythikdhgkjcdepaa
