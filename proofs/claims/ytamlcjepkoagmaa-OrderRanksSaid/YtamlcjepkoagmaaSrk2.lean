/- A row of elements of k cells that the call owns, as the sort of the standard library speaks of it; and what it reads as behind the sort. No condition; it serves any seat. -/
import Derived.Test.YtamlcjepkoagmaaRk
import Derived.Shelf.SlSortCmp.KitK
import Derived.Lib.OwnBridge
namespace Go.Proofs.Ytamlcjepkoagmaa
open Go.Shelf Go.RowKit Go.Lib Go.Sort Go.Proofs
set_option linter.unusedSimpArgs false
set_option linter.unusedVariables false

section
variable {α : Type} [Inhabited α] {enc : α → List Value} {k : Nat}
theorem own_holds (hk : ∀ x, (enc x).length = k) (h0 : 0 < k) {w : World} {base g cap : Nat} {e : TypeId} {l : List α} (h : OwnK w base e k (.slice (some ⟨g, 0, none⟩) l.length cap) (l.map enc)) : HoldsK enc k w g 0 l.toArray := by
  intro t ht
  rw [size_flatK, List.size_toArray] at ht
  have hi : t / k < l.length := (Nat.div_lt_iff_lt_mul h0).2 ht
  have hj : t % k < k := Nat.mod_lt _ h0
  rw [get_flatK _ _ _ _ (by rw [List.size_toArray]; exact ht), getElem!_pos l.toArray (t / k) (by simpa using hi)]
  have hx : (l.map enc)[t / k]? = some (enc l[t / k]) := by rw [List.getElem?_map, List.getElem?_eq_getElem hi]; rfl
  have hv : (enc l[t / k])[t % k]? = some ((enc l[t / k])[t % k]'(by rw [hk]; exact hj)) := List.getElem?_eq_getElem _
  have hf := flat_get h.1 hx hv
  rw [Nat.div_add_mod' t k] at hf
  have c := World.ownsRow.cells h.2 (g := g) rfl _ _ hf
  rw [Addr.add_lit] at c
  refine ⟨?_, ?_⟩
  · rw [c]
    have e1 : (enc l[t / k])[t % k]! = (enc l[t / k])[t % k]'(by rw [hk]; exact hj) := getElem!_pos _ _ _
    simp only [List.getElem_toArray]
    rw [e1]; rfl
  · have h2 := h.2
    rw [List.length_map] at h2
    have f := World.ownsRow.frozenAt h2 t
    rwa [Nat.zero_add]
theorem own_row (hk : ∀ x, (enc x).length = k) (h0 : 0 < k) (h1 : ∀ x, ∀ v ∈ enc x, v.oneCell' = true) {w : World} {base g cap : Nat} {e : TypeId} {l : List α} (h : OwnK w base e k (.slice (some ⟨g, 0, none⟩) l.length cap) (l.map enc)) : RowK enc k w g 0 l.toArray :=
  ⟨hk, h1, own_holds hk h0 h, (World.ownsRow.lt h.2 g rfl).2⟩
theorem holds_rdk (hk : ∀ x, (enc x).length = k) {w : World} {g : Nat} {D : Array α} (h : HoldsK enc k w g 0 D) : RdK w k (some ⟨g, 0, none⟩) (D.toList.map enc) := by
  intro i x hx
  rw [List.getElem?_map] at hx
  have hi : i < D.size := by
    rcases Nat.lt_or_ge i D.size with h | h
    · exact h
    · rw [List.getElem?_eq_none (by simpa using h)] at hx; cases hx
  have e : enc D[i]! = x := by
    rw [List.getElem?_eq_getElem (by simpa using hi)] at hx
    simp at hx
    rw [getElem!_pos D i hi]; exact hx
  subst e
  refine ⟨g, 0, rfl, fun j v hv => ?_⟩
  obtain ⟨hj, e⟩ := List.getElem?_eq_some_iff.1 hv
  have c := (h.cell (i := i) (c := j) hi (by rw [← hk D[i]!]; exact hj)).1
  rw [getElem!_pos (enc D[i]!) j hj, e] at c
  exact c
theorem sw_below {w W : World} {g B : Nat} {D : Array α} (h : SWK enc k w g 0 D W) (hB : B ≤ g) (hB2 : B ≤ w.heap.size) : Below B w W := by
  obtain ⟨n, os, rfl⟩ := h
  unfold sortWorldK putRowK
  have h1 : Below B w (putRow id (Sort.ahead w n) g 0 (flatK enc k D)) := Lib.below_putRow (Below.refl _ _) hB
  exact ⟨h1.os, h1.tape, h1.output, by rw [size_grow]; exact Nat.le_trans h1.size (Nat.le_add_right _ _), fun k hk => by
    rw [← h1.block k hk]
    unfold grow
    simp only []
    rw [Array.getElem?_append_left (Nat.lt_of_lt_of_le hk (Nat.le_trans hB2 h1.size))]⟩
end
end Go.Proofs.Ytamlcjepkoagmaa
