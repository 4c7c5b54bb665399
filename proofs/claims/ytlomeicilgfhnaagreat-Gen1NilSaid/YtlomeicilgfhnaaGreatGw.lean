/- A world behind some draws, with blocks laid behind it. No condition; it serves any seat. -/
import Derived.Test.YtlomeicilgfhnaaGreatChecked
import Derived.WalkKit
import Derived.Shelf.SlSortCmp.QuietGrown
namespace Go.Proofs.YtlomeicilgfhnaaGreat
open Go.RowKit Go.Sort
set_option linter.unusedSimpArgs false
set_option linter.unusedVariables false

/-- A world behind some draws, with blocks laid behind it. -/
def Gw (w W : World) : Prop := ∃ q os, W = grow (w.drewN q) os
section
variable {w w1 w2 : World}
theorem Gw.refl (w : World) : Gw w w := ⟨0, #[], by rw [grow_empty]; rfl⟩
theorem Gw.drew (h : Gw w w1) : Gw w w1.drew := by
  obtain ⟨q, os, rfl⟩ := h
  exact ⟨q + 1, os, rfl⟩
theorem Gw.alloc (h : Gw w w1) (o : Obj) : Gw w (w1.alloc o) := by
  obtain ⟨q, os, rfl⟩ := h
  exact ⟨q, os ++ #[o], by rw [alloc_eq_grow, grow_grow]⟩
theorem Gw.trans (h : Gw w w1) (k : Gw w1 w2) : Gw w w2 := by
  obtain ⟨q, os, rfl⟩ := h
  obtain ⟨q', os', rfl⟩ := k
  exact ⟨q + q', os ++ os', by show grow (grow ((w.drewN q).drewN q') os) os' = _; rw [grow_grow, World.drewN_drewN]⟩
theorem Gw.cell (h : Gw w w1) {b o : Nat} (hb : b < w.heap.size) : w1.cell? ⟨b, o, none⟩ = w.cell? ⟨b, o, none⟩ := by
  obtain ⟨q, os, rfl⟩ := h
  rw [cell?_grow _ _ _ (by exact hb)]; rfl
end
end Go.Proofs.YtlomeicilgfhnaaGreat
