/- What is put into place one by one is the sorted list of those that are wanted; there is one such list only. No condition. -/
import Derived.Test.YtamlcjepkoagmaaIns
import Derived.Test.YtamlcjepkoagmaaFo
namespace Go.Proofs.Ytamlcjepkoagmaa
open Go.RowKit
set_option linter.unusedSimpArgs false
set_option linter.unusedVariables false

/-! ### Put into place one by one -/
section
variable {c : Nat → Bool} {ah : Nat → Nat → Bool}
theorem insB_perm (p : Nat → Bool) (x : Nat) (l : List Nat) : (insB p x l).Perm (x :: l) := by
  unfold insB
  refine List.perm_middle.trans (List.Perm.cons x ?_)
  rw [← List.reverse_append, List.takeWhile_append_dropWhile, List.reverse_reverse]
theorem wk_perm : ∀ k, (wk c ah k).Perm ((List.range k).filter c)
  | 0 => by simp [wk_zero]
  | k + 1 => by
    rw [List.range_succ, List.filter_append, wk_succ]
    have ih := wk_perm k
    cases hc : c k
    · simp [hc]; exact ih
    · simp only [hc, if_true, List.filter_cons_of_pos, List.filter_nil]
      refine (insB_perm _ _ _).trans ((List.Perm.cons k ih).trans ?_)
      exact (List.perm_append_singleton k _).symm
theorem insB_fore (has : ∀ u v, ah u v = true → ah v u = false) (hnt : ∀ u v w, ah u v = false → ah v w = false → ah u w = false) {x : Nat} {l : List Nat} (h : l.Pairwise (Fore ah)) (hx : ∀ y ∈ l, y < x) : (insB (ah x) x l).Pairwise (Fore ah) := by
  unfold insB
  have hl : l = (l.reverse.dropWhile (ah x)).reverse ++ (l.reverse.takeWhile (ah x)).reverse := by
    rw [← List.reverse_append, List.takeWhile_append_dropWhile, List.reverse_reverse]
  have h' := h
  rw [hl, List.pairwise_append] at h'
  obtain ⟨h1, h2, h3⟩ := h'
  have hr : ∀ v ∈ (l.reverse.takeWhile (ah x)).reverse, ah x v = true := by
    intro v hv
    rw [List.mem_reverse] at hv
    have := List.all_takeWhile (p := ah x) (l := l.reverse)
    rw [List.all_eq_true] at this
    exact this v hv
  have hlft : ∀ u ∈ (l.reverse.dropWhile (ah x)).reverse, ah x u = false := by
    cases hq : l.reverse.dropWhile (ah x) with
    | nil => intro u hu; simp at hu
    | cons z r =>
      have hz : ah x z = false := by
        have := List.head_dropWhile_not (ah x) (l := l.reverse) (by rw [hq]; simp)
        simpa [hq] using this
      rw [hq, List.reverse_cons, List.pairwise_append] at h1
      intro u hu
      rw [List.reverse_cons] at hu
      rcases List.mem_append.1 hu with hu | hu
      · have := h1.2.2 u hu z (by simp)
        rcases this with h | ⟨h, _⟩
        · exact hnt x z u hz (has u z h)
        · exact hnt x z u hz h
      · simp at hu; subst hu; exact hz
  have hxl : ∀ u ∈ (l.reverse.dropWhile (ah x)).reverse, u < x := fun u hu => hx u (by rw [hl]; exact List.mem_append.2 (.inl hu))
  rw [List.pairwise_append]
  refine ⟨h1, List.pairwise_cons.2 ⟨fun v hv => .inl (hr v hv), h2⟩, ?_⟩
  intro u hu v hv
  rcases List.mem_cons.1 hv with rfl | hv
  · exact .inr ⟨hlft u hu, hxl u hu⟩
  · exact h3 u hu v hv
theorem wk_fore (has : ∀ u v, ah u v = true → ah v u = false) (hnt : ∀ u v w, ah u v = false → ah v w = false → ah u w = false) : ∀ k, (wk c ah k).Pairwise (Fore ah)
  | 0 => by simp [wk_zero]
  | k + 1 => by
    rw [wk_succ]
    split
    · exact insB_fore has hnt (wk_fore has hnt k) (wk_lt k)
    · exact wk_fore has hnt k
theorem wk_nodup (k : Nat) : (wk c ah k).Nodup := (wk_perm k).nodup_iff.2 (List.Nodup.sublist List.filter_sublist List.nodup_range)
end

end Go.Proofs.Ytamlcjepkoagmaa
