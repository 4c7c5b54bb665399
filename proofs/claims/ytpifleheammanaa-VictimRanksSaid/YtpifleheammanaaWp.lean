/- Plain mathematics of what a machine can run: what the statements of layer 11 say of the reason. No condition. -/
import Derived.Test.YtpifleheammanaaWy
namespace Go.Proofs.Ytpifleheammanaa
open Go.RowKit
set_option linter.unusedSimpArgs false
set_option linter.unusedVariables false

section
variable {m : Mc} {ml : List Lb} {t : Kt} {tl : List Lb} {l : List Jb} {p q s e : Int}
theorem why_5 (h : freM m l = (p, q, s, e)) (he : e ≠ 0) : why m ml t tl l = 5 := by unfold why whyT; rw [h, if_neg he]
/-- This machine, down. -/
abbrev Mc.off (m : Mc) : Mc := ⟨m.nm, m.a, m.b, m.c, m.A, m.n, m.cp, false, m.un⟩
/-- This machine, up, without labels. -/
abbrev Mc.bare (m : Mc) : Mc := ⟨m.nm, m.a, m.b, m.c, none, 0, 0, true, m.un⟩
theorem freM_off (m : Mc) (l : List Jb) : freM m.off l = freM m l := rfl
theorem freM_bare (m : Mc) (l : List Jb) : freM m.bare l = freM m l := rfl
theorem okOff {w : World} (h : McOk w m ml) : McOk w m.off ml := ⟨h.nm, h.lb⟩
theorem okBare {w : World} (h : McOk w m ml) : McOk w m.bare [] := ⟨h.nm, LbOk.nil w⟩
theorem bare_ok (h : m.ok ml = true) : m.bare.ok [] = true := by
  unfold Mc.ok nodeB at h ⊢
  rw [Bool.and_eq_true] at h ⊢
  exact ⟨h.1, rfl⟩
theorem why_1 (h : freM m l = (p, q, s, 0)) (hm : m.ok ml = true) (ht : t.ok tl = true) : why m.off ml t tl l = 1 := by
  unfold why whyT
  rw [freM_off, h, if_pos rfl, show m.off.ok ml = true from hm, ht]; rfl
theorem hasB_nil {tl : List Lb} (h : tl ≠ []) : hasB [] tl = false := by
  cases tl with
  | nil => exact absurd rfl h
  | cons x r => rfl
theorem why_2 (h : freM m l = (p, q, s, 0)) (hm : m.ok ml = true) (ht : t.ok tl = true) (hl : tl ≠ []) : why m.bare [] t tl l = 2 := by
  unfold why whyT
  rw [freM_bare, h, if_pos rfl, bare_ok hm, ht, hasB_nil hl]; rfl
theorem rep_own (s ap nm : ByteArray) (j : Jb) (h : j.nm = nm) : rep s ap nm [j] = false := by
  unfold rep
  rw [List.any_cons, List.any_nil]
  unfold both
  rw [h, sE_refl]; simp
theorem why_own (hm : m.ok ml = true) (ht : t.ok [] = true) : why m.bare [] t [] [t.job m.nm] = 0 ∨ why m.bare [] t [] [t.job m.nm] = 4 ∨ why m.bare [] t [] [t.job m.nm] = 5 := by
  unfold why whyT
  rw [bare_ok hm, ht, show rep m.bare.nm t.ap t.nm [t.job m.nm] = false from rep_own _ _ _ _ rfl]
  split
  · rw [show hasB [] [] = true from rfl]
    cases fB t.a t.b t.c (freM m.bare [t.job m.nm]).1 (freM m.bare [t.job m.nm]).2.1 (freM m.bare [t.job m.nm]).2.2.1
    · exact .inr (.inl rfl)
    · exact .inl rfl
  · exact .inr (.inr rfl)
/-- What a machine that can says. -/
theorem why_0 (h : why m ml t tl l = 0) : ∃ p q s, freM m l = (p, q, s, 0) ∧ m.ok ml = true ∧ t.ok tl = true ∧ m.up = true ∧ hasB ml tl = true ∧ rep m.nm t.ap t.nm l = false ∧ fB t.a t.b t.c p q s = true := by
  obtain ⟨f, hf⟩ : ∃ f, freM m l = f := ⟨_, rfl⟩
  obtain ⟨p, q, s, e⟩ := f
  unfold why whyT at h
  rw [hf] at h
  by_cases he : e = 0
  case neg => rw [if_neg he] at h; cases h
  subst he
  rw [if_pos rfl] at h
  refine ⟨p, q, s, hf, ?_⟩
  cases c1 : m.ok ml
  · rw [c1] at h; simp at h
  cases c2 : t.ok tl
  · rw [c1, c2] at h; simp at h
  cases c3 : m.up
  · rw [c1, c2, c3] at h; simp at h
  cases c4 : hasB ml tl
  · rw [c1, c2, c3, c4] at h; simp at h
  cases c5 : rep m.nm t.ap t.nm l
  case true => rw [c1, c2, c3, c4, c5] at h; simp at h
  cases c6 : fB t.a t.b t.c p q s
  · rw [c1, c2, c3, c4, c5] at h; simp [c6] at h
  exact ⟨rfl, rfl, rfl, rfl, rfl, rfl⟩
theorem why_mk (h1 : freM m l = (p, q, s, 0)) (h2 : m.ok ml = true) (h3 : t.ok tl = true) (h4 : m.up = true) (h5 : hasB ml tl = true) (h6 : rep m.nm t.ap t.nm l = false) (h7 : fB t.a t.b t.c p q s = true) : why m ml t tl l = 0 := by
  unfold why whyT
  rw [h1, h2, h3, h4, h5, h6, if_pos rfl]
  simp [h7]

/-- What is free, if that has no error. -/
theorem freM_0 (h : freM m l = (p, q, s, 0)) : allR (onM m.nm l) ∧ p = m.a - s1 (onM m.nm l) ∧ q = m.b - s2 (onM m.nm l) ∧ s = m.c - s3 (onM m.nm l) ∧ rB m.a m.b m.c = true ∧ rB p q s = true := by
  obtain ⟨u, hu⟩ : ∃ u, sm 0 0 0 (onM m.nm l) = u := ⟨_, rfl⟩
  obtain ⟨x, y, z, v⟩ := u
  unfold freM at h
  rw [hu] at h
  by_cases hv : v = 0
  case neg => rw [fre_v hv] at h; simp only [Prod.mk.injEq] at h; exact absurd h.2.2.2 hv
  subst hv
  obtain ⟨k1, k2, k3, k4⟩ := sm_zero hu
  rw [fre_0] at h
  simp only [Prod.mk.injEq] at h
  obtain ⟨h1, h2, h3, h4⟩ := h
  have hs : sbB m.a m.b m.c x y z = true := by
    unfold sbE at h4
    unfold sbB
    cases c1 : (rB m.a m.b m.c && rB x y z)
    · rw [c1] at h4; simp at h4
    · rw [c1] at h4
      cases c2 : rB (m.a - x) (m.b - y) (m.c - z)
      · rw [c2] at h4; simp at h4
      · rfl
  rw [hs] at h1 h2 h3
  rw [kp_t] at h1 h2 h3
  unfold sbB at hs
  rw [Bool.and_eq_true, Bool.and_eq_true] at hs
  rw [h1, h2, h3] at hs
  refine ⟨k1, by omega, by omega, by omega, hs.1.1, hs.2⟩
theorem freM_mk (h0 : allR (onM m.nm l)) (h1 : rB m.a m.b m.c = true) (h2 : rB (m.a - s1 (onM m.nm l)) (m.b - s2 (onM m.nm l)) (m.c - s3 (onM m.nm l)) = true) : freM m l = (m.a - s1 (onM m.nm l), m.b - s2 (onM m.nm l), m.c - s3 (onM m.nm l), 0) := by
  have g := allR_ge h0
  have b1 := rB_bd h1
  have b2 := rB_bd h2
  have hx : rB (0 + s1 (onM m.nm l)) (0 + s2 (onM m.nm l)) (0 + s3 (onM m.nm l)) = true := rB_mk (by omega)
  have hu := sm_mk (by decide) h0 hx
  rw [Int.zero_add, Int.zero_add, Int.zero_add] at hu hx
  unfold freM
  rw [hu]
  simp only
  rw [fre_0]
  have hs : sbB m.a m.b m.c (s1 (onM m.nm l)) (s2 (onM m.nm l)) (s3 (onM m.nm l)) = true := by unfold sbB; rw [h1, hx, h2]; rfl
  have he : sbE m.a m.b m.c (s1 (onM m.nm l)) (s2 (onM m.nm l)) (s3 (onM m.nm l)) = 0 := by unfold sbE; rw [h1, hx, h2]; rfl
  rw [hs, he]; rfl
theorem taskB_r {t : Kt} {tl : List Lb} (h : t.ok tl = true) : rB t.a t.b t.c = true := by
  unfold Kt.ok taskB at h
  simp only [Bool.and_eq_true] at h
  exact h.1.1.1.2
theorem fB_bd {a b c d e f : Int} (h : fB a b c d e f = true) : a ≤ d ∧ b ≤ e ∧ c ≤ f := of_decide_eq_true h
theorem onM_job (t : Kt) (s : ByteArray) : onM s [t.job s] = [(t.a, t.b, t.c)] := by unfold onM; simp [sE_refl]
/-- A machine that can has room behind. -/
theorem room (h : why m ml t tl l = 0) : ∃ p q s, freM m l = (p, q, s, 0) ∧ freM m (l ++ [t.job m.nm]) = (p - t.a, q - t.b, s - t.c, 0) ∧ sbB p q s t.a t.b t.c = true ∧ sbE p q s t.a t.b t.c = 0 ∧ m.up = true := by
  obtain ⟨p, q, s, hf, h1, h2, h3, h4, h5, h6⟩ := why_0 h
  obtain ⟨k0, k1, k2, k3, k4, k5⟩ := freM_0 hf
  have ht := taskB_r h2
  have b6 := fB_bd h6
  have b5 := rB_bd k5
  have bt := rB_bd ht
  have b4 := rB_bd k4
  have hr : rB (p - t.a) (q - t.b) (s - t.c) = true := rB_mk (by omega)
  have e1 : s1 (onM m.nm (l ++ [t.job m.nm])) = s1 (onM m.nm l) + t.a := by rw [onM_append, onM_job, s1_append]; simp [s1]
  have e2 : s2 (onM m.nm (l ++ [t.job m.nm])) = s2 (onM m.nm l) + t.b := by rw [onM_append, onM_job, s2_append]; simp [s2]
  have e3 : s3 (onM m.nm (l ++ [t.job m.nm])) = s3 (onM m.nm l) + t.c := by rw [onM_append, onM_job, s3_append]; simp [s3]
  refine ⟨p, q, s, hf, ?_, by unfold sbB; rw [k5, ht, hr]; rfl, by unfold sbE; rw [k5, ht, hr]; rfl, h3⟩
  have ha : allR (onM m.nm (l ++ [t.job m.nm])) := fun u hu => by
    rw [onM_append, onM_job] at hu
    rcases List.mem_append.1 hu with hu | hu
    · exact k0 u hu
    · simp at hu; subst hu; exact ht
  rw [freM_mk ha k4 (by rw [e1, e2, e3]; exact rB_mk (by omega))]
  simp only [Prod.mk.injEq]
  rw [e1, e2, e3]
  refine ⟨?_, ?_, ?_, trivial⟩ <;> omega
/-- With fewer jobs what is free is as much, or more. -/
theorem freM_less {l' : List Jb} (h : freM m l = (p, q, s, 0)) (hs : l'.Sublist l) : ∃ p' q' s', freM m l' = (p', q', s', 0) ∧ p ≤ p' ∧ q ≤ q' ∧ s ≤ s' := by
  obtain ⟨k0, k1, k2, k3, k4, k5⟩ := freM_0 h
  have hsub : (onM m.nm l').Sublist (onM m.nm l) := (hs.filter _).map _
  have key : ∀ {a b : List V3}, a.Sublist b → allR b → allR a ∧ s1 a ≤ s1 b ∧ s2 a ≤ s2 b ∧ s3 a ≤ s3 b := by
    intro a b hab
    induction hab with
    | slnil => exact fun h => ⟨h, Int.le_refl _, Int.le_refl _, Int.le_refl _⟩
    | cons x _ ih =>
      intro h
      have hx := rB_bd (h x (by simp))
      obtain ⟨i1, i2, i3, i4⟩ := ih fun u hu => h u (by simp [hu])
      rw [s1_cons, s2_cons, s3_cons]
      exact ⟨i1, by omega, by omega, by omega⟩
    | cons_cons x _ ih =>
      intro h
      obtain ⟨i1, i2, i3, i4⟩ := ih fun u hu => h u (by simp [hu])
      rw [s1_cons, s2_cons, s3_cons, s1_cons, s2_cons, s3_cons]
      refine ⟨fun u hu => ?_, by omega, by omega, by omega⟩
      rcases List.mem_cons.1 hu with rfl | hu
      · exact h u (by simp)
      · exact i1 u hu
  obtain ⟨i1, i2, i3, i4⟩ := key hsub k0
  have g := allR_ge i1
  have b4 := rB_bd k4
  have b5 := rB_bd k5
  exact ⟨_, _, _, freM_mk i1 k4 (rB_mk (by omega)), by omega, by omega, by omega⟩
theorem fB_mk {a b c d e f : Int} (h : a ≤ d ∧ b ≤ e ∧ c ≤ f) : fB a b c d e f = true := decide_eq_true h
/-- A job fewer. -/
theorem why_less {l' : List Jb} (h : why m ml t tl l = 0) (hs : l'.Sublist l) : why m ml t tl l' = 0 := by
  obtain ⟨p, q, s, hf, h1, h2, h3, h4, h5, h6⟩ := why_0 h
  obtain ⟨p', q', s', hf', g1, g2, g3⟩ := freM_less hf hs
  refine why_mk hf' h1 h2 h3 h4 ?_ ?_
  · cases hr : rep m.nm t.ap t.nm l'
    · rfl
    · unfold rep at hr h5
      rw [Bool.and_eq_true, List.any_eq_true] at hr
      obtain ⟨hr1, j, hj, hb⟩ := hr
      rw [hr1, Bool.true_and, List.any_eq_false] at h5
      exact absurd hb (h5 j (hs.subset hj))
  · have := fB_bd h6
    exact fB_mk (by omega)
/-- This task, wanting nothing, with nothing to be apart from, that needs this. -/
abbrev Kt.plain (t : Kt) (d e f : Int) : Kt := ⟨t.nm, t.qu, t.pr, d, e, f, none, 0, 0, ⟨#[]⟩, t.ga, t.sz⟩
theorem okPlain {w : World} {d e f : Int} (h : KtOk w t tl) : KtOk w (t.plain d e f) [] := ⟨h.nm, h.qu, by show (0 : Nat) ≤ _; omega, h.ga, LbOk.nil w⟩
theorem plain_ok {d e f : Int} (h : t.ok tl = true) (hr : rB d e f = true) : (t.plain d e f).ok [] = true := by
  unfold Kt.ok taskB at h ⊢
  simp only [Bool.and_eq_true] at h ⊢
  exact ⟨⟨⟨⟨h.1.1.1.1, hr⟩, rfl⟩, rfl⟩, h.2⟩
theorem why_plain {d e f : Int} (h : why m ml t tl l = 0) (hr : rB d e f = true) (hf' : fB d e f t.a t.b t.c = true) : why m ml (t.plain d e f) [] l = 0 := by
  obtain ⟨p, q, s, hf, h1, h2, h3, h4, h5, h6⟩ := why_0 h
  have b6 := fB_bd h6
  have b7 := fB_bd hf'
  exact why_mk hf h1 (plain_ok h2 hr) h3 rfl (rep_empty _ _ _) (fB_mk (show d ≤ p ∧ e ≤ q ∧ f ≤ s by omega))
end
end Go.Proofs.Ytpifleheammanaa
