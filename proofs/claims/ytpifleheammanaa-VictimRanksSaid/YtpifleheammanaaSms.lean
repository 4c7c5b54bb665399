/- Plain mathematics of sums of vectors: when a sum has no error, and what it is then; that the order plays no part. No condition. -/
import Derived.Test.YtpifleheammanaaSm
namespace Go.Proofs.Ytpifleheammanaa
open Go.RowKit
set_option linter.unusedSimpArgs false
set_option linter.unusedVariables false

/-- What a sum is: within the bounds, or an error. -/
theorem sm_is : ∀ {l : List (Int × Int × Int)} {p q r x y z v : Int}, rB p q r = true → sm p q r l = (x, y, z, v) → (v = 0 ∧ rB x y z = true) ∨ ((v = 1 ∨ v = 6) ∧ x = 0 ∧ y = 0 ∧ z = 0)
  | [], p, q, r, x, y, z, v, h, hs => by
    rw [sm_nil] at hs; simp only [Prod.mk.injEq] at hs
    obtain ⟨rfl, rfl, rfl, rfl⟩ := hs
    exact .inl ⟨rfl, h⟩
  | t :: l, p, q, r, x, y, z, v, h, hs => by
    cases ha : adB p q r t.1 t.2.1 t.2.2
    · rw [sm_no ha] at hs; simp only [Prod.mk.injEq] at hs
      obtain ⟨rfl, rfl, rfl, hv⟩ := hs
      exact .inr ⟨hv ▸ adE_no ha, rfl, rfl, rfl⟩
    · rw [sm_ok ha] at hs
      have h' : rB (p + t.1) (q + t.2.1) (r + t.2.2) = true := by simp only [adB, Bool.and_eq_true] at ha; exact ha.2
      exact sm_is h' hs
theorem adE_over {a b c d e f : Int} (h1 : rB a b c = true) (h2 : rB d e f = true) (h : adB a b c d e f = false) : adE a b c d e f = 6 := by
  have h3 : rB (a + d) (b + e) (c + f) = false := by unfold adB at h; rw [h1, h2] at h; simpa using h
  unfold adE; rw [h1, h2, h3]; rfl
abbrev V3 := Int × Int × Int
def s1 (l : List V3) : Int := (l.map fun t => t.1).sum
def s2 (l : List V3) : Int := (l.map fun t => t.2.1).sum
def s3 (l : List V3) : Int := (l.map fun t => t.2.2).sum
theorem s1_cons (t : V3) (l : List V3) : s1 (t :: l) = t.1 + s1 l := by simp [s1]
theorem s2_cons (t : V3) (l : List V3) : s2 (t :: l) = t.2.1 + s2 l := by simp [s2]
theorem s3_cons (t : V3) (l : List V3) : s3 (t :: l) = t.2.2 + s3 l := by simp [s3]
theorem s1_append (l m : List V3) : s1 (l ++ m) = s1 l + s1 m := by induction l with
  | nil => simp [s1]
  | cons t l ih => rw [List.cons_append, s1_cons, s1_cons, ih]; omega
theorem s2_append (l m : List V3) : s2 (l ++ m) = s2 l + s2 m := by induction l with
  | nil => simp [s2]
  | cons t l ih => rw [List.cons_append, s2_cons, s2_cons, ih]; omega
theorem s3_append (l m : List V3) : s3 (l ++ m) = s3 l + s3 m := by induction l with
  | nil => simp [s3]
  | cons t l ih => rw [List.cons_append, s3_cons, s3_cons, ih]; omega
theorem s1_reverse (l : List V3) : s1 l.reverse = s1 l := by induction l with
  | nil => rfl
  | cons t l ih => rw [List.reverse_cons, s1_append, ih, s1_cons, s1_cons]; simp [s1]; omega
theorem s2_reverse (l : List V3) : s2 l.reverse = s2 l := by induction l with
  | nil => rfl
  | cons t l ih => rw [List.reverse_cons, s2_append, ih, s2_cons, s2_cons]; simp [s2]; omega
theorem s3_reverse (l : List V3) : s3 l.reverse = s3 l := by induction l with
  | nil => rfl
  | cons t l ih => rw [List.reverse_cons, s3_append, ih, s3_cons, s3_cons]; simp [s3]; omega
/-- Are all of these within the bounds? -/
def allR (l : List V3) : Prop := ∀ t ∈ l, rB t.1 t.2.1 t.2.2 = true
theorem allR_ge : ∀ {l : List V3}, allR l → 0 ≤ s1 l ∧ 0 ≤ s2 l ∧ 0 ≤ s3 l
  | [], _ => by simp [s1, s2, s3]
  | t :: l, h => by
    have := allR_ge (l := l) fun u hu => h u (by simp [hu])
    have := rB_bd (h t (by simp))
    rw [s1_cons, s2_cons, s3_cons]; omega
theorem sm_zero : ∀ {l : List V3} {p q r x y z : Int}, sm p q r l = (x, y, z, 0) → allR l ∧ x = p + s1 l ∧ y = q + s2 l ∧ z = r + s3 l
  | [], p, q, r, x, y, z, h => by
    rw [sm_nil] at h; simp only [Prod.mk.injEq] at h
    exact ⟨fun t ht => by simp at ht, by simp [s1]; omega, by simp [s2]; omega, by simp [s3]; omega⟩
  | t :: l, p, q, r, x, y, z, h => by
    cases ha : adB p q r t.1 t.2.1 t.2.2
    · rw [sm_no ha] at h; simp only [Prod.mk.injEq] at h
      have := adE_no ha
      omega
    · rw [sm_ok ha] at h
      obtain ⟨h1, h2, h3, h4⟩ := sm_zero h
      have hr : rB t.1 t.2.1 t.2.2 = true := by simp only [adB, Bool.and_eq_true] at ha; exact ha.1.2
      refine ⟨fun u hu => (List.mem_cons.1 hu).elim (fun e => e ▸ hr) (h1 u), ?_, ?_, ?_⟩
      · rw [s1_cons]; omega
      · rw [s2_cons]; omega
      · rw [s3_cons]; omega
theorem sm_mk : ∀ {l : List V3} {p q r : Int}, rB p q r = true → allR l → rB (p + s1 l) (q + s2 l) (r + s3 l) = true → sm p q r l = (p + s1 l, q + s2 l, r + s3 l, 0)
  | [], p, q, r, _, _, _ => by rw [sm_nil]; simp [s1, s2, s3]
  | t :: l, p, q, r, h0, h1, h2 => by
    have hl : allR l := fun u hu => h1 u (by simp [hu])
    have ht := h1 t (by simp)
    have g := allR_ge hl
    have k0 := rB_bd h0
    have k1 := rB_bd ht
    have k2 := rB_bd h2
    rw [s1_cons, s2_cons, s3_cons] at k2 h2 ⊢
    have ha : rB (p + t.1) (q + t.2.1) (r + t.2.2) = true := rB_mk (by omega)
    have hb : adB p q r t.1 t.2.1 t.2.2 = true := by unfold adB; rw [h0, ht, ha]; rfl
    rw [sm_ok hb, sm_mk ha hl (by rw [Int.add_assoc, Int.add_assoc, Int.add_assoc]; exact h2)]
    rw [Int.add_assoc, Int.add_assoc, Int.add_assoc]
/-- A list and its reverse: sums alike, or an error in both. -/
theorem sm_reverse {l : List V3} {x y z v x' y' z' v' : Int} (h : sm 0 0 0 l = (x, y, z, v)) (h' : sm 0 0 0 l.reverse = (x', y', z', v')) : (v = 0 ∧ v' = 0 ∧ x' = x ∧ y' = y ∧ z' = z) ∨ ((v = 1 ∨ v = 6) ∧ (v' = 1 ∨ v' = 6)) := by
  have key : ∀ {l m : List V3} {x y z x' y' z' v' : Int}, (∀ t, t ∈ m → t ∈ l) → s1 m = s1 l → s2 m = s2 l → s3 m = s3 l → sm 0 0 0 l = (x, y, z, 0) → sm 0 0 0 m = (x', y', z', v') → v' = 0 ∧ x' = x ∧ y' = y ∧ z' = z := by
    intro l m x y z x' y' z' v' hm e1 e2 e3 h h'
    obtain ⟨k1, k2, k3, k4⟩ := sm_zero h
    have hr : rB x y z = true := by
      rcases sm_is (by decide) h with ⟨_, hr⟩ | ⟨h0, _⟩
      · exact hr
      · omega
    rw [sm_mk (by decide) (fun t ht => k1 t (hm t ht)) (by rw [e1, e2, e3, ← k2, ← k3, ← k4]; exact hr), e1, e2, e3, ← k2, ← k3, ← k4] at h'
    simp only [Prod.mk.injEq] at h'
    omega
  rcases sm_is (by decide) h with ⟨rfl, _⟩ | ⟨hv, _⟩
  · obtain ⟨a, b, c, d⟩ := key (fun t ht => by simpa using ht) (s1_reverse l) (s2_reverse l) (s3_reverse l) h h'
    exact .inl ⟨rfl, a, b, c, d⟩
  · rcases sm_is (by decide) h' with ⟨rfl, _⟩ | ⟨hv', _⟩
    · obtain ⟨a, b, c, d⟩ := key (l := l.reverse) (m := l) (fun t ht => by simpa using ht) (s1_reverse l).symm (s2_reverse l).symm (s3_reverse l).symm h' h
      omega
    · exact .inr ⟨hv, hv'⟩
theorem sm_append : ∀ {l m : List V3} {p q r x y z : Int}, sm p q r l = (x, y, z, 0) → sm p q r (l ++ m) = sm x y z m
  | [], m, p, q, r, x, y, z, h => by
    rw [sm_nil] at h; simp only [Prod.mk.injEq] at h
    obtain ⟨rfl, rfl, rfl, _⟩ := h
    rfl
  | t :: l, m, p, q, r, x, y, z, h => by
    cases ha : adB p q r t.1 t.2.1 t.2.2
    · rw [sm_no ha] at h; simp only [Prod.mk.injEq] at h
      have := adE_no ha
      omega
    · rw [sm_ok ha] at h
      rw [List.cons_append, sm_ok ha, sm_append h]
end Go.Proofs.Ytpifleheammanaa
