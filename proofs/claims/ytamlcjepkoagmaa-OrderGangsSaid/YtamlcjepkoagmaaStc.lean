/- Plain mathematics of the stable sort: what the cut and the rotation leave in the two halves. No condition beyond those that each lemma bears. -/
import Derived.Test.YtamlcjepkoagmaaStb
namespace Go.Proofs.Ytamlcjepkoagmaa
open Go.Sort
set_option linter.unusedVariables false
variable {α : Type} [Inhabited α] {lt' : α → α → Bool}

/-- A predicate holds of each element of the second part with each of the first. -/
def CrossQ (Q : α → α → Prop) (d : Array α) (a m b : Nat) : Prop := ∀ i j, a ≤ i → i < m → m ≤ j → j < b → Q d[j]! d[i]!

theorem BndC.ends {a m b mid s0 r0 s : Nat} (B : BndC a m b mid s0 r0) (h1 : s0 ≤ s) (h2 : s ≤ r0) : mid + m - s ≤ b ∧ s ≤ m ∧ s ≤ mid ∧ a ≤ s ∧ a < mid ∧ mid < b ∧ m ≤ mid + m - s ∧ s0 ≤ r0 := by
  obtain ⟨h3, h4, h5, h6, h7⟩ := B
  by_cases c1 : mid < m
  · rw [if_pos c1] at h6 h7; omega
  · rw [if_neg c1] at h6 h7; omega

theorem cut_low {d d1 : Array α} {Q : α → α → Prop} {a m b mid s : Nat} (hs : s ≤ m) (hs2 : s ≤ mid) (has : a ≤ s) (hme : m ≤ mid + m - s) (heb : mid + m - s ≤ b) (R : Rot d d1 s m (mid + m - s))
    (hS1 : SortedIn lt' a m d) (hS2 : SortedIn lt' m b d) (hX : CrossQ Q d a m b) : SortedIn lt' a s d1 ∧ SortedIn lt' s mid d1 ∧ CrossQ Q d1 a s mid := by
  have e1 : ∀ t, t < s → d1[t]! = d[t]! := fun t h => R.perm.2.1 t (.inl h)
  have e2 : ∀ t, s ≤ t → t < mid → d1[t]! = d[t + (m - s)]! := fun t h h' => by rw [R.get t h (by omega)]; unfold rotF; rw [if_pos (by omega)]
  refine ⟨fun i j g1 g2 g3 => ?_, fun i j g1 g2 g3 => ?_, fun i j g1 g2 g3 g4 => ?_⟩
  · rw [e1 i (by omega), e1 j g3]; exact hS1 i j g1 g2 (by omega)
  · rw [e2 i g1 (by omega), e2 j (by omega) g3]; exact hS2 _ _ (by omega) (by omega) (by omega)
  · rw [e1 i g2, e2 j g3 g4]; exact hX i _ g1 (by omega) (by omega) (by omega)
theorem cut_high {d d1 d2 : Array α} {Q : α → α → Prop} {a m b mid s : Nat} (hs : s ≤ m) (hs2 : s ≤ mid) (has : a ≤ s) (hme : m ≤ mid + m - s) (heb : mid + m - s ≤ b) (R : Rot d d1 s m (mid + m - s))
    (hS1 : SortedIn lt' a m d) (hS2 : SortedIn lt' m b d) (hX : CrossQ Q d a m b) (p : PermIn a mid d1 d2) : SortedIn lt' mid (mid + m - s) d2 ∧ SortedIn lt' (mid + m - s) b d2 ∧ CrossQ Q d2 mid (mid + m - s) b := by
  have e0 : ∀ t, mid ≤ t → d2[t]! = d1[t]! := fun t h => p.2.1 t (.inr h)
  have e1 : ∀ t, mid ≤ t → t < mid + m - s → d2[t]! = d[t - (mid + m - s - m)]! := fun t h h' => by rw [e0 t h, R.get t (by omega) h']; unfold rotF; rw [if_neg (by omega)]
  have e2 : ∀ t, mid + m - s ≤ t → d2[t]! = d[t]! := fun t h => by rw [e0 t (by omega)]; exact R.perm.2.1 t (.inr h)
  refine ⟨fun i j g1 g2 g3 => ?_, fun i j g1 g2 g3 => ?_, fun i j g1 g2 g3 g4 => ?_⟩
  · rw [e1 i g1 (by omega), e1 j (by omega) g3]; exact hS1 _ _ (by omega) (by omega) (by omega)
  · rw [e2 i g1, e2 j (by omega)]; exact hS2 i j (by omega) g2 g3
  · rw [e1 i g1 g2, e2 j g3]; exact hX _ j (by omega) (by omega) (by omega) g4
theorem sorted_glue0 {d : Array α} {a s : Nat} {b : Nat} (h : SortedIn lt' s b d) (e : s = a) : SortedIn lt' a b d := by rw [← e]; exact h
theorem sorted_glue1 {d : Array α} {a s : Nat} {b : Nat} (h : SortedIn lt' a s d) (e : s = b) : SortedIn lt' a b d := by rw [← e]; exact h

/-- All is done: the halves are sorted, and so is the whole. -/
theorem cut_done (hO : SWO lt') {d d1 d2 d3 : Array α} {a m b mid s0 r0 s : Nat} (B : BndC a m b mid s0 r0) (F : FindC lt' d s0 r0 (mid + m) s s) (hS1 : SortedIn lt' a m d) (hS2 : SortedIn lt' m b d)
    (h1 : s0 ≤ s) (h2 : s ≤ r0) (hb : b ≤ d.size) (R : Rot d d1 s m (mid + m - s)) (p2 : PermIn a mid d1 d2) (s2 : SortedIn lt' a mid d2) (p3 : PermIn mid b d2 d3) (s3 : SortedIn lt' mid b d3) :
    PermIn a b d d3 ∧ SortedIn lt' a b d3 := by
  obtain ⟨x1, x2, x3, x4, x5, x6, x7, x8⟩ := B.ends h1 h2
  have h := halves_sorted (by omega) (by omega) (by rw [R.size]; exact hb) (cut_cross hO B F hS1 hS2 h1 h2 R) p2 s2 p3 s3
  exact ⟨permIn_trans _ _ _ _ _ (permIn_mono _ _ _ _ _ _ x4 x1 hb R.perm) h.1, h.2⟩
theorem FindC.start (d : Array α) (s0 r0 n : Nat) : FindC lt' d s0 r0 n s0 r0 := ⟨fun c h1 h2 => by omega, fun c h1 h2 => by omega⟩
end Go.Proofs.Ytamlcjepkoagmaa
