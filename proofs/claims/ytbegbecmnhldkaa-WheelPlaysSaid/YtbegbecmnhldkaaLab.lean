/- Labels: a slice that reads as a list of labels, what a reading of it says, and the plain functions on such lists. No condition beyond those that each lemma bears. -/
import Derived.Test.YtbegbecmnhldkaaChecked
import Derived.WalkKit
import Derived.WalkSpells
import Derived.Lib.Hide
import Derived.Deep.Slices
import Derived.Deep.Fields
import Derived.ChangeSame
import Derived.Below
import Derived.WideShapes
import Derived.Deep.Draws
import Derived.Laws.StructEq
import Derived.SizedLaws
import Derived.Sort.Walk0
namespace Go.Proofs.Ytbegbecmnhldkaa
open Go.RowKit
set_option linter.unusedSimpArgs false
set_option linter.unusedVariables false

theorem bdrewN {B : Nat} {a w : World} (h : Below B a w) (n : Nat) : Below B a (w.drewN n) := ⟨h.os, h.tape, h.output, h.size, h.block⟩
theorem sz_drewN (w : World) (n : Nat) : (w.drewN n).heap.size = w.heap.size := rfl

/-- A label: its key and its value. -/
abbrev Lb := ByteArray × ByteArray

/-- A slice at this address reads as these labels. -/
def RdL (w : World) (A : Option Addr) (l : List Lb) : Prop :=
  ∀ i x, l[i]? = some x → ∃ g o, A = some ⟨g, o, none⟩ ∧ w.cell? ⟨g, o + i * 2, none⟩ = some (.string x.1) ∧ w.cell? ⟨g, o + i * 2 + 1, none⟩ = some (.string x.2)

/-- No text among these is longer than Go can have. -/
def Sz (l : List Lb) : Prop := ∀ x ∈ l, x.1.size ≤ 140737488351232 ∧ x.2.size ≤ 140737488351232

section
variable {w w' : World} {A : Option Addr} {l : List Lb}
theorem RdL.nil (w : World) (A : Option Addr) : RdL w A [] := by intro i b h; simp at h
theorem RdL.keep (h : RdL w A l) (hk : ∀ (p : Addr) v, w.cell? p = some v → w'.cell? p = some v) : RdL w' A l := fun i b hb => by
  obtain ⟨g, o, ha, h1, h2⟩ := h i b hb
  exact ⟨g, o, ha, hk _ _ h1, hk _ _ h2⟩
theorem RdL.below (h : RdL w A l) {B : Nat} (hb : Below B w w') (hA : ∀ g o, A = some ⟨g, o, none⟩ → g < B) : RdL w' A l := fun i b hb' => by
  obtain ⟨g, o, ha, h1, h2⟩ := h i b hb'
  have := hA g o ha
  exact ⟨g, o, ha, (hb.cell (p := ⟨g, _, none⟩) this).trans h1, (hb.cell (p := ⟨g, _, none⟩) this).trans h2⟩
theorem RdL.later (h : RdL w A l) (hb : Below w.heap.size w w') : RdL w' A l := h.keep fun p _ hc => (hb.cell (World.block_lt_of_cell? w p hc)).trans hc
/-- The two cells of a label, and where the slice lies. -/
theorem RdL.at (h : RdL w A l) {i : Nat} (hi : i < l.length) : ∃ g o, A = some ⟨g, o, none⟩ ∧ g < w.heap.size ∧ w.cell? ⟨g, o + i * 2, none⟩ = some (.string l[i].1) ∧ w.cell? ⟨g, o + i * 2 + 1, none⟩ = some (.string l[i].2) := by
  obtain ⟨g, o, ha, h1, h2⟩ := h i l[i] (List.getElem?_eq_getElem hi)
  exact ⟨g, o, ha, World.block_lt_of_cell? w _ h1, h1, h2⟩
theorem RdL.take (h : RdL w A l) (k : Nat) : RdL w A (l.take k) := fun i b hb => by
  rw [List.getElem?_take] at hb
  split at hb
  · exact h i b hb
  · cases hb
end
theorem Sz.at {l : List Lb} (h : Sz l) {i : Nat} (hi : i < l.length) : l[i].1.size ≤ 140737488351232 ∧ l[i].2.size ≤ 140737488351232 := h _ (List.getElem_mem hi)

/-! ### Two texts: are they one, which stands ahead -/
/-- Are two texts one, as the model says it? -/
def sE (a b : ByteArray) : Bool := a.toList == b.toList
/-- Does the one stand ahead of the other, as the model says it? -/
def sL (a b : ByteArray) : Bool := Op.bytesLess a.toList b.toList
theorem sE_iff {a b : ByteArray} : sE a b = true ↔ a = b := by
  unfold sE
  rw [ByteArray.toList_eq, ByteArray.toList_eq]
  constructor
  · intro h; have h' : a.data.toList = b.data.toList := by simpa using h
    exact Go.WideShapes.bytes_inj h'
  · rintro rfl; simp
theorem sE_refl (a : ByteArray) : sE a a = true := sE_iff.2 rfl
theorem sE_comm (a b : ByteArray) : sE a b = sE b a := by rw [Bool.eq_iff_iff, sE_iff, sE_iff]; exact eq_comm
theorem sL_iff {a b : ByteArray} : sL a b = true ↔ a.data.toList < b.data.toList := by
  unfold sL; rw [bytesLess_eq, ByteArray.toList_eq, ByteArray.toList_eq]; simp
theorem sL_irrefl (a : ByteArray) : sL a a = false := by
  rw [Bool.eq_false_iff]; intro h; exact List.lt_irrefl _ (sL_iff.1 h)
theorem sL_trans {a b c : ByteArray} (h1 : sL a b = true) (h2 : sL b c = true) : sL a c = true := sL_iff.2 (List.lt_trans (sL_iff.1 h1) (sL_iff.1 h2))
theorem sL_asymm {a b : ByteArray} (h1 : sL a b = true) : sL b a = false := by
  rw [Bool.eq_false_iff]; intro h; have := sL_trans h1 h; rw [sL_irrefl] at this; cases this
theorem sL_total {a b : ByteArray} (h : sL a b = false) : sL b a = true ∨ a = b := by
  have h1 : ¬ a.data.toList < b.data.toList := fun hc => by rw [sL_iff.2 hc] at h; cases h
  rw [List.not_lt] at h1
  rcases List.le_iff_lt_or_eq.1 h1 with h2 | h2
  · exact .inl (sL_iff.2 h2)
  · exact .inr (Go.WideShapes.bytes_inj h2.symm)
/-- Are two labels one? -/
def lE (x y : Lb) : Bool := sE x.1 y.1 && sE x.2 y.2
theorem lE_iff {x y : Lb} : lE x y = true ↔ x = y := by
  unfold lE; rw [Bool.and_eq_true, sE_iff, sE_iff]; exact ⟨fun h => Prod.ext h.1 h.2, fun h => by rw [h]; exact ⟨rfl, rfl⟩⟩
end Go.Proofs.Ytbegbecmnhldkaa
