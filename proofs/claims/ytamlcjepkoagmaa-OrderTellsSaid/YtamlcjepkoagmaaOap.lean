/- A bound job without a gang plays no part, plainly: with it taken out the units are the same, but for the places behind it. No condition. -/
import Derived.Test.YtamlcjepkoagmaaOpl
namespace Go.Proofs.Ytamlcjepkoagmaa
open Go.RowKit
set_option linter.unusedSimpArgs false
set_option linter.unusedVariables false

/-- Where a place stood ahead of one's being taken out. -/
def sh (k p : Nat) : Nat := if k ≤ p then p + 1 else p
section
variable {l : List Jb} {S T : List Nat} {g : ByteArray} {k p q n : Nat}
theorem sh_ne (k p : Nat) : sh k p ≠ k := by unfold sh; split <;> omega
theorem sh_lt (hk : k < n) (hp : p < n - 1) : sh k p < n := by unfold sh; split <;> omega
theorem sh_mono : p < q → sh k p < sh k q := by unfold sh; intro h; split <;> split <;> omega
theorem sh_inj (h : sh k p = sh k q) : p = q := by unfold sh at h; split at h <;> split at h <;> omega
theorem sh_onto (hk : k < n) (hq : q < n) (hne : q ≠ k) : ∃ p, p < n - 1 ∧ sh k p = q := by
  by_cases h : q < k
  · exact ⟨q, by omega, by unfold sh; rw [if_neg (by omega)]⟩
  · exact ⟨q - 1, by omega, by unfold sh; rw [if_pos (by omega)]; omega⟩
/-- Jobs but the one at place k. -/
abbrev outK (l : List Jb) (k : Nat) : List Jb := l.eraseIdx k
theorem outK_is (l : List Jb) (k : Nat) : l.take k ++ l.drop (k + 1) = outK l k := (List.eraseIdx_eq_take_drop_succ ..).symm
theorem outK_len (hk : k < l.length) : (outK l k).length = l.length - 1 := List.length_eraseIdx_of_lt hk
theorem jat_out (hp : p < l.length - 1) : jat (outK l k) p = jat l (sh k p) := by
  unfold jat outK sh
  rw [List.getD, List.getD, List.getElem?_eraseIdx]
  split
  · rw [if_neg (by omega)]
  · rw [if_pos (by omega)]
theorem srt_out (hk : k < l.length) (hw : waitC l k = false) : (srtU (outK l k)).map (sh k) = srtU l := by
  have hl := outK_len hk
  refine srtU_one ?_ ?_
  · rw [List.pairwise_map]
    refine List.Pairwise.imp_of_mem (fun {x y} hx hy h => ?_) (srtU_fore (outK l k))
    have hx' := (srtU_mem.1 hx).1
    have hy' := (srtU_mem.1 hy).1
    rw [hl] at hx' hy'
    unfold Fore ahU at h ⊢
    rw [jat_out hx', jat_out hy'] at h
    rcases h with h | ⟨h, h2⟩
    · exact .inl h
    · exact .inr ⟨h, sh_mono h2⟩
  · rw [List.perm_ext_iff_of_nodup]
    · intro a
      rw [List.mem_map, List.mem_filter, List.mem_range]
      constructor
      · rintro ⟨x, hx, rfl⟩
        obtain ⟨h1, h2⟩ := srtU_mem.1 hx
        rw [hl] at h1
        unfold waitC at h2 ⊢
        rw [jat_out h1] at h2
        exact ⟨sh_lt hk h1, h2⟩
      · rintro ⟨h1, h2⟩
        obtain ⟨x, hx, rfl⟩ := sh_onto hk h1 (fun e => by rw [e, hw] at h2; cases h2)
        refine ⟨x, srtU_mem.2 ⟨by rw [hl]; exact hx, ?_⟩, rfl⟩
        unfold waitC at h2 ⊢
        rw [jat_out hx]; exact h2
    · show List.Pairwise (· ≠ ·) _
      rw [List.pairwise_map]
      exact (srtU_nodup (outK l k)).imp fun h e => h (sh_inj e)
    · exact List.Nodup.sublist List.filter_sublist List.nodup_range
theorem many_all (l : List Jb) (g : ByteArray) : manyK l g l.length = (l.filter fun j => sE j.ga g).length := by unfold manyK; rw [List.take_length]
theorem many_out (hk : k < l.length) (hg : g.size ≠ 0) (h0 : (jat l k).ga.size = 0) : manyK (outK l k) g (outK l k).length = manyK l g l.length := by
  rw [many_all, many_all, ← outK_is]
  have e : l = l.take k ++ (l[k] :: l.drop (k + 1)) := by rw [← List.drop_eq_getElem_cons hk, List.take_append_drop]
  have hs : sE l[k].ga g = false := by
    cases h : sE l[k].ga g
    · rfl
    · rw [jat_at hk, sE_iff.1 h] at h0; exact absurd h0 hg
  have h1 : (l.filter fun j => sE j.ga g) = (l.take k).filter (fun j => sE j.ga g) ++ (l.drop (k + 1)).filter fun j => sE j.ga g := by
    have := congrArg (List.filter fun j => sE j.ga g) e
    rw [this, List.filter_append, List.filter_cons_of_neg (by rw [hs]; exact Bool.false_ne_true)]
  rw [h1, List.filter_append]
theorem gang_out (hS : ∀ y ∈ S, y < l.length - 1) : gangOf l g (S.map (sh k)) = (gangOf (outK l k) g S).map (sh k) := by
  unfold gangOf
  rw [List.filter_map]
  congr 1
  refine List.filter_congr fun y hy => ?_
  show sE (jat l (sh k y)).ga g = _
  rw [jat_out (hS y hy)]
theorem first_out (hS : ∀ y ∈ S, y < l.length - 1) : firstK l g (S.map (sh k)) = firstK (outK l k) g S := by
  unfold firstK
  rw [List.all_map]
  rw [Bool.eq_iff_iff, List.all_eq_true, List.all_eq_true]
  constructor
  · intro h y hy
    have := h y hy
    simp only [Function.comp] at this
    rw [jat_out (hS y hy)]; exact this
  · intro h y hy
    have := h y hy
    simp only [Function.comp]
    rw [jat_out (hS y hy)] at this; exact this
theorem unit_out (hk : k < l.length) (h0 : (jat l k).ga.size = 0) (hS : ∀ y ∈ S, y < l.length - 1) (hT : ∀ y ∈ T, y < l.length - 1) (hp : p < l.length - 1) :
    (unitAt (outK l k) S T p).map (fun u => u.map (sh k)) = unitAt l (S.map (sh k)) (T.map (sh k)) (sh k p) := by
  unfold unitAt
  rw [jat_out hp]
  split
  · rfl
  · rename_i hg
    rw [many_out hk hg h0, first_out hT, gang_out hS]
    split <;> rfl
theorem units_out (hk : k < l.length) (h0 : (jat l k).ga.size = 0) (hS : ∀ y ∈ S, y < l.length - 1) : ∀ j, j ≤ S.length → (unitsK (outK l k) S j).map (fun u => u.map (sh k)) = unitsK l (S.map (sh k)) j
  | 0, _ => by simp [unitsK]
  | j + 1, hj => by
    have hj' : j < S.length := by omega
    have hj2 : j < (S.map (sh k)).length := by rw [List.length_map]; exact hj'
    rw [unitsK_succ hj', unitsK_succ hj2, List.map_append, units_out hk h0 hS j (by omega), unit_out hk h0 hS (fun y hy => hS y (List.mem_of_mem_take hy)) (hS _ (List.getElem_mem hj'))]
    simp only [List.getElem_map, List.map_take]
/-- The units with that job taken out, at the places that their jobs had. -/
theorem apart_is (hk : k < l.length) (hw : (jat l k).nd.size ≠ 0) (h0 : (jat l k).ga.size = 0) : (unitsU (outK l k)).map (fun u => u.map (sh k)) = unitsU l := by
  have hs := srt_out hk (show waitC l k = false from decide_eq_false hw)
  have h := units_out (S := srtU (outK l k)) hk h0 (fun y hy => by have := (srtU_mem.1 hy).1; rwa [outK_len hk] at this) (srtU (outK l k)).length (Nat.le_refl _)
  show (unitsK (outK l k) (srtU (outK l k)) (srtU (outK l k)).length).map _ = unitsK l (srtU l) (srtU l).length
  rw [h, ← hs, List.length_map]
end
end Go.Proofs.Ytamlcjepkoagmaa
