/- Machines in another order, and those of them that can run a task: their order by score and name is the same. No condition. -/
import Derived.Test.YthikdhgkjcdepaaSrs
namespace Go.Proofs.Ythikdhgkjcdepaa
open Go.RowKit
set_option linter.unusedSimpArgs false
set_option linter.unusedVariables false

/-- The machines, begun at the k-th. -/
def rot (L : List Ml) (k : Nat) : List Ml := L.drop k ++ L.take k
/-- The statement's list behind the rounds down to the j-th. -/
def tur (L : List Ml) (k j : Nat) : List Ml := ((rot L k).drop j).reverse
/-- Those that can run the task. -/
def cand (t : Kt) (tl : List Lb) (l : List Jb) (T : List Ml) : List Ml := T.filter fun x => decide (why x.1 x.2 t tl l = 0)
section
variable {t : Kt} {tl : List Lb} {l : List Jb} {L T : List Ml} {k i : Nat}
theorem rot_len (L : List Ml) (k : Nat) : (rot L k).length = L.length := by
  unfold rot
  rw [List.length_append, List.length_drop, List.length_take]; omega
theorem rot_perm (L : List Ml) (k : Nat) : (rot L k).Perm L := by
  unfold rot
  refine List.perm_append_comm.trans ?_
  rw [List.take_append_drop]
theorem rot_at (hk : k < L.length) (hi : i < L.length) : (rot L k)[i]'(by rw [rot_len]; exact hi) = L[(i + k) % L.length]'(Nat.mod_lt _ (by omega)) := by
  unfold rot
  rw [List.getElem_append]
  split
  · rename_i h
    rw [List.length_drop] at h
    rw [List.getElem_drop]
    congr 1
    rw [Nat.mod_eq_of_lt (by omega)]; omega
  · rename_i h
    rw [List.length_drop] at h
    rw [List.getElem_take]
    congr 1
    rw [List.length_drop]
    have e : i + k = L.length + (i - (L.length - k)) := by omega
    rw [e, Nat.add_mod_left, Nat.mod_eq_of_lt (by omega)]
theorem tur_step (hi : i < L.length) : tur L k i = tur L k (i + 1) ++ [(rot L k)[i]'(by rw [rot_len]; exact hi)] := by
  unfold tur
  rw [List.drop_eq_getElem_cons (by rw [rot_len]; exact hi), List.reverse_cons]
theorem tur_end (L : List Ml) (k : Nat) : tur L k L.length = [] := by
  unfold tur
  rw [List.drop_eq_nil_of_le (by rw [rot_len]; omega)]; rfl
theorem tur_perm (L : List Ml) (k : Nat) : (tur L k 0).Perm L := by
  unfold tur
  rw [List.drop_zero]
  exact (List.reverse_perm _).trans (rot_perm L k)
theorem tur_len (L : List Ml) (k j : Nat) : (tur L k j).length = L.length - j := by
  unfold tur
  rw [List.length_reverse, List.length_drop, rot_len]
theorem tur_sub (L : List Ml) (k j : Nat) : ∀ x ∈ tur L k j, x ∈ L := by
  intro x hx
  unfold tur at hx
  rw [List.mem_reverse] at hx
  exact (rot_perm L k).subset (List.mem_of_mem_drop hx)
theorem cand_no (T : List Ml) {x : Ml} (h : why x.1 x.2 t tl l ≠ 0) : cand t tl l (T ++ [x]) = cand t tl l T := by
  unfold cand
  rw [List.filter_append]; simp [h]
theorem cand_yes (T : List Ml) {x : Ml} (h : why x.1 x.2 t tl l = 0) : cand t tl l (T ++ [x]) = cand t tl l T ++ [x] := by
  unfold cand
  rw [List.filter_append]; simp [h]
theorem cand_len (T : List Ml) : (cand t tl l T).length ≤ T.length := List.length_filter_le _ _
theorem cand_sub (T : List Ml) : ∀ x ∈ cand t tl l T, x ∈ T := fun x hx => (List.mem_filter.1 hx).1
theorem able_cand (T : List Ml) : able t tl l (cand t tl l T) = able t tl l T := by
  unfold able cand
  induction T with
  | nil => rfl
  | cons x T ih =>
    by_cases h : why x.1 x.2 t tl l = 0
    · rw [List.filter_cons_of_pos (by simp [h]), List.filterMap_cons, List.filterMap_cons, ih]
    · rw [List.filter_cons_of_neg (by simp [h]), List.filterMap_cons_none (by unfold entry; rw [sco_no h]; rfl), ih]
theorem able_cand_len (T : List Ml) : (able t tl l (cand t tl l T)).length = (cand t tl l T).length := by
  unfold able cand
  induction T with
  | nil => rfl
  | cons x T ih =>
    by_cases h : why x.1 x.2 t tl l = 0
    · rw [List.filter_cons_of_pos (by simp [h])]
      obtain ⟨p, q, s, _, h1, _⟩ := sco_yes h
      rw [List.filterMap_cons_some (show entry t tl l x = some (x.1.nm, _) by unfold entry; rw [h1]; rfl), List.length_cons, List.length_cons, ih]
    · rw [List.filter_cons_of_neg (by simp [h]), ih]
theorem srt_of_perm {L1 L2 : List Ml} (h : (able t tl l L1).Perm (able t tl l L2)) : srt t tl l L1 = srt t tl l L2 := asc_one srt_asc srt_asc (srt_perm.trans (h.trans srt_perm.symm))
theorem srt_tur (L : List Ml) (k : Nat) : srt t tl l (tur L k 0) = srt t tl l L := srt_of_perm ((tur_perm L k).filterMap _)
theorem srt_cand (T : List Ml) : srt t tl l (cand t tl l T) = srt t tl l T := srt_of_perm (by rw [able_cand])
theorem srt_cand_len (T : List Ml) : (srt t tl l (cand t tl l T)).length = (cand t tl l T).length := by
  rw [srt_perm.length_eq, able_cand_len]
end
end Go.Proofs.Ythikdhgkjcdepaa
