/- Plain mathematics of the stable sort: blocks sorted one by one, then merged two by two. No condition beyond those that each lemma bears. -/
import Derived.Test.YtamlcjepkoagmaaStc
namespace Go.Proofs.Ytamlcjepkoagmaa
open Go.Sort
set_option linter.unusedVariables false
variable {α : Type} [Inhabited α] {lt' : α → α → Bool} {Q : α → α → Prop}

/-- Across each place that 'ok' allows, the predicate holds of each later element with each earlier one. -/
def XC (Q : α → α → Prop) (n : Nat) (ok : Nat → Prop) (d : Array α) : Prop := ∀ c i j, ok c → i < c → c ≤ j → j < n → Q d[j]! d[i]!
theorem XC.perm {n : Nat} {ok : Nat → Prop} {d d' : Array α} {a b : Nat} (h : XC Q n ok d) (p : PermIn a b d d') (hok : ∀ c, ok c → c ≤ a ∨ b ≤ c) (hb : b ≤ n) (hn : n ≤ d.size) : XC Q n ok d' := by
  intro c i j hc hi hj hjn
  rcases hok c hc with g | g
  · rw [p.2.1 i (.inl (by omega))]
    by_cases gj : a ≤ j ∧ j < b
    · exact permIn_all d d' a b (fun y => Q y d[i]!) (by omega) p (fun t h1 h2 => h c i t hc hi (by omega) (by omega)) j gj.1 gj.2
    · rw [p.2.1 j (by omega)]; exact h c i j hc hi hj hjn
  · rw [p.2.1 j (.inr (by omega))]
    by_cases gi : a ≤ i ∧ i < b
    · exact permIn_all d d' a b (fun y => Q d[j]! y) (by omega) p (fun t h1 h2 => h c t j hc (by omega) hj hjn) i gi.1 gi.2
    · rw [p.2.1 i (by omega)]; exact h c i j hc hi hj hjn
theorem XC.mono {n : Nat} {ok ok' : Nat → Prop} {d : Array α} (h : XC Q n ok d) (hh : ∀ c, ok' c → ok c) : XC Q n ok' d := fun c i j hc => h c i j (hh c hc)

theorem mul_gap {q p M : Nat} : q * M ≤ p * M ∨ p * M + M ≤ q * M := by
  rcases Nat.lt_or_ge p q with h | h
  · right; have := Nat.mul_le_mul_right M (show p + 1 ≤ q from h); rwa [Nat.add_mul, Nat.one_mul] at this
  · left; exact Nat.mul_le_mul_right M h
theorem mul_gap' {q p M : Nat} (h : q * M < p * M) : q * M + M ≤ p * M := by
  rcases @mul_gap p q M with h' | h'
  · omega
  · exact h'

/-- The blocks of length L from lo to hi are sorted. -/
def SB (lt' : α → α → Bool) (n L lo hi : Nat) (d : Array α) : Prop := ∀ q, lo ≤ q * L → q * L < hi → SortedIn lt' (q * L) (min (q * L + L) n) d
theorem SB.keep {n L lo hi : Nat} {d d' : Array α} {a b : Nat} (h : SB lt' n L lo hi d) (p : PermIn a b d d') (hd : ∀ q, lo ≤ q * L → q * L < hi → min (q * L + L) n ≤ a ∨ b ≤ q * L) : SB lt' n L lo hi d' := by
  intro q h1 h2 i j g1 g2 g3
  rcases hd q h1 h2 with g | g
  · rw [p.2.1 i (.inl (by omega)), p.2.1 j (.inl (by omega))]; exact h q h1 h2 i j g1 g2 g3
  · rw [p.2.1 i (.inr (by omega)), p.2.1 j (.inr (by omega))]; exact h q h1 h2 i j g1 g2 g3

/-- The insertion sort has come to a. -/
structure InsInv (Q : α → α → Prop) (lt' : α → α → Bool) (d dk : Array α) (n L a : Nat) : Prop where
  size : dk.size = d.size
  perm : PermIn 0 n d dk
  x : XC Q n (fun c => ∃ q, c = q * L) dk
  done_ : SB lt' n L 0 a dk
  rest : ∀ t, a ≤ t → dk[t]! = d[t]!
theorem InsInv.start {d : Array α} {n L : Nat} (hQ : ∀ i j, i < j → j < n → Q d[j]! d[i]!) : InsInv Q lt' d d n L 0 :=
  ⟨rfl, permIn_refl _ _ _, fun c i j _ h1 h2 h3 => hQ i j (by omega) h3, fun q h1 h2 => by omega, fun _ _ => rfl⟩
theorem InsInv.step {d dk dk' : Array α} {n L p b : Nat} (h : InsInv Q lt' d dk n L (p * L)) (hn : n ≤ d.size) (hpn : p * L ≤ n) (hb : b = min (p * L + L) n) (hp : PermIn (p * L) b dk dk') (hs : SortedIn lt' (p * L) b dk') :
    InsInv Q lt' d dk' n L b where
  size := hp.1.trans h.size
  perm := permIn_trans _ _ _ _ _ h.perm (permIn_mono _ _ _ _ _ _ (Nat.zero_le _) (by omega) (by rw [h.size]; exact hn) hp)
  x := h.x.perm hp (fun c hc => by obtain ⟨q, rfl⟩ := hc; rcases @mul_gap q p L with g | g <;> omega) (by omega) (by rw [h.size]; exact hn)
  done_ := by
    intro q h1 h2
    rcases @mul_gap q p L with g | g
    · rcases Nat.eq_or_lt_of_le g with e | e
      · rw [e, ← hb]; exact hs
      · have := mul_gap' e
        exact SB.keep (hi := p * L) h.done_ hp (fun q' u1 u2 => by have := mul_gap' u2; omega) q h1 e
    · omega
  rest t g := by rw [hp.2.1 t (.inr g)]; exact h.rest t (by omega)

/-- A pass of merges has come to a: ahead of it blocks of 2L are sorted, from it on blocks of L. -/
structure PassInv (Q : α → α → Prop) (lt' : α → α → Bool) (d dk : Array α) (n L a : Nat) : Prop where
  size : dk.size = d.size
  perm : PermIn 0 n d dk
  x : XC Q n (fun c => (∃ q, c = q * (2 * L)) ∨ (a ≤ c ∧ ∃ q, c = q * L)) dk
  done_ : SB lt' n (2 * L) 0 a dk
  todo : SB lt' n L a n dk
theorem PassInv.start {d dk : Array α} {n L : Nat} (h1 : dk.size = d.size) (h2 : PermIn 0 n d dk) (h3 : XC Q n (fun c => ∃ q, c = q * L) dk) (h4 : SB lt' n L 0 n dk) : PassInv Q lt' d dk n L 0 where
  size := h1
  perm := h2
  x := h3.mono fun c hc => by
    rcases hc with ⟨q, rfl⟩ | ⟨_, hc⟩
    · exact ⟨q * 2, by rw [Nat.mul_assoc]⟩
    · exact hc
  done_ := fun q _ h => by omega
  todo := h4
/-- What the next merge may lean on. -/
theorem PassInv.ready {d dk : Array α} {n L p e : Nat} (h : PassInv Q lt' d dk n L (p * (2 * L))) (hL : 0 < L) (h1 : p * (2 * L) + L < e) (he : e = min (p * (2 * L) + 2 * L) n) :
    SortedIn lt' (p * (2 * L)) (p * (2 * L) + L) dk ∧ SortedIn lt' (p * (2 * L) + L) e dk ∧ CrossQ Q dk (p * (2 * L)) (p * (2 * L) + L) e := by
  have e1 : (p * 2) * L = p * (2 * L) := by rw [Nat.mul_assoc]
  have e2 : (p * 2 + 1) * L = p * (2 * L) + L := by rw [Nat.add_mul, e1, Nat.one_mul]
  have s1 := h.todo (p * 2) (by omega) (by omega)
  have s2 := h.todo (p * 2 + 1) (by omega) (by omega)
  rw [e1] at s1
  rw [e2] at s2
  rw [show min (p * (2 * L) + L) n = p * (2 * L) + L by omega] at s1
  rw [show min (p * (2 * L) + L + L) n = e by omega] at s2
  refine ⟨s1, s2, fun i j g1 g2 g3 g4 => h.x (p * (2 * L) + L) i j (.inr ⟨by omega, p * 2 + 1, e2.symm⟩) g2 g3 (by omega)⟩
theorem PassInv.step {d dk dk' : Array α} {n L p e : Nat} (h : PassInv Q lt' d dk n L (p * (2 * L))) (hL : 0 < L) (hn : n ≤ d.size) (he : e = min (p * (2 * L) + 2 * L) n)
    (hp : PermIn (p * (2 * L)) e dk dk') (hs : SortedIn lt' (p * (2 * L)) e dk') : PassInv Q lt' d dk' n L e where
  size := hp.1.trans h.size
  perm := permIn_trans _ _ _ _ _ h.perm (permIn_mono _ _ _ _ _ _ (Nat.zero_le _) (by omega) (by rw [h.size]; exact hn) hp)
  x := by
    by_cases hen : e = p * (2 * L) + 2 * L
    · exact (h.x.mono (fun c hc => by
        rcases hc with hc | ⟨hc1, hc2⟩
        · exact .inl hc
        · exact .inr ⟨by omega, hc2⟩)).perm hp (fun c hc => by
          rcases hc with ⟨q, rfl⟩ | ⟨hc1, _⟩
          · rcases @mul_gap q p (2 * L) with g | g <;> omega
          · right; exact hc1) (by omega) (by rw [h.size]; exact hn)
    · have hen' : e = n := by omega
      have h' : XC Q n (fun c => (∃ q, c = q * (2 * L))) dk' := (h.x.mono (fun c hc => .inl hc)).perm hp (fun c hc => by
        obtain ⟨q, rfl⟩ := hc
        rcases @mul_gap q p (2 * L) with g | g <;> omega) (by omega) (by rw [h.size]; exact hn)
      intro c i j hc u1 u2 u3
      rcases hc with hc | ⟨hc1, _⟩
      · exact h' c i j hc u1 u2 u3
      · omega
  done_ := by
    intro q h1 h2
    rcases @mul_gap q p (2 * L) with g | g
    · rcases Nat.eq_or_lt_of_le g with u | u
      · rw [u, ← he]; exact hs
      · exact SB.keep (hi := p * (2 * L)) h.done_ hp (fun q' u1 u2 => by have := mul_gap' u2; omega) q h1 u
    · omega
  todo := by
    intro q h1 h2 i j g1 g2 g3
    rw [hp.2.1 i (.inr (by omega)), hp.2.1 j (.inr (by omega))]
    exact h.todo q (by omega) h2 i j g1 g2 g3
/-- A pass that has come to the end. -/
theorem PassInv.next {d dk : Array α} {n L e : Nat} (h : PassInv Q lt' d dk n L e) (he : n ≤ e) : PassInv Q lt' d dk n (2 * L) 0 :=
  PassInv.start h.size h.perm (h.x.mono fun c hc => .inl hc) (fun q h1 h2 => h.done_ q h1 (by omega))
theorem PassInv.whole {d dk : Array α} {n L : Nat} (h : PassInv Q lt' d dk n L 0) (hL : n ≤ L) : PermIn 0 n d dk ∧ SortedIn lt' 0 n dk := by
  refine ⟨h.perm, ?_⟩
  rcases Nat.eq_zero_or_pos n with g | g
  · intro i j h1 h2 h3; omega
  · have := h.todo 0 (by omega) (by omega)
    rw [Nat.zero_mul, show min (0 + L) n = n by omega] at this
    exact this
theorem InsInv.pass {d dk : Array α} {n L e : Nat} (h : InsInv Q lt' d dk n L e) (he : n ≤ e) : PassInv Q lt' d dk n L 0 :=
  PassInv.start h.size h.perm h.x (fun q h1 h2 => h.done_ q h1 (by omega))
/-- A tail that is one block alone is sorted as it is. -/
theorem PassInv.tail {d dk : Array α} {n L p : Nat} (h : PassInv Q lt' d dk n L (p * (2 * L))) (hL : 0 < L) (h1 : n ≤ p * (2 * L) + L) : PassInv Q lt' d dk n L n where
  size := h.size
  perm := h.perm
  x := fun c i j hc u1 u2 u3 => by
    rcases hc with hc | ⟨hc, _⟩
    · exact h.x c i j (.inl hc) u1 u2 u3
    · omega
  done_ := by
    intro q g1 g2
    rcases @mul_gap q p (2 * L) with g | g
    · rcases Nat.eq_or_lt_of_le g with u | u
      · have e1 : (p * 2) * L = p * (2 * L) := by rw [Nat.mul_assoc]
        have s1 := h.todo (p * 2) (by omega) (by omega)
        rw [e1] at s1
        rw [u, show min (p * (2 * L) + 2 * L) n = min (p * (2 * L) + L) n by omega]; exact s1
      · exact h.done_ q g1 u
    · omega
  todo := fun q g1 g2 => by omega
end Go.Proofs.Ytamlcjepkoagmaa
