/- Sums of lists of vectors: the plain function, and the contracts of Sum, the program's and the document's own. No condition beyond those that each contract bears. -/
import Derived.Test.YtiklogoookngaaaVec2
import Derived.Test.YtiklogoookngaaaLat
namespace Go.Proofs.Ytiklogoookngaaa
open Go.RowKit
set_option linter.unusedSimpArgs false
set_option linter.unusedVariables false

/-- The vectors behind 'x, y, z' added to it, one after the other; what comes out, and the error's number. -/
def sm : Int → Int → Int → List (Int × Int × Int) → Int × Int × Int × Int
  | x, y, z, [] => (x, y, z, 0)
  | x, y, z, t :: l => if adB x y z t.1 t.2.1 t.2.2 then sm (x + t.1) (y + t.2.1) (z + t.2.2) l else (0, 0, 0, adE x y z t.1 t.2.1 t.2.2)
theorem sm_nil (x y z : Int) : sm x y z [] = (x, y, z, 0) := rfl
theorem sm_ok {x y z : Int} {t : Int × Int × Int} {l : List (Int × Int × Int)} (h : adB x y z t.1 t.2.1 t.2.2 = true) : sm x y z (t :: l) = sm (x + t.1) (y + t.2.1) (z + t.2.2) l := by simp [sm, h]
theorem sm_no {x y z : Int} {t : Int × Int × Int} {l : List (Int × Int × Int)} (h : adB x y z t.1 t.2.1 t.2.2 = false) : sm x y z (t :: l) = (0, 0, 0, adE x y z t.1 t.2.1 t.2.2) := by simp [sm, h]

theorem adE_ok {a b c d e f : Int} (h : adB a b c d e f = true) : adE a b c d e f = 0 := by
  simp only [adB, Bool.and_eq_true] at h
  simp [adE, h]
theorem adE_no {a b c d e f : Int} (h : adB a b c d e f = false) : adE a b c d e f = 1 ∨ adE a b c d e f = 6 := by
  unfold adE
  unfold adB at h
  cases h1 : rB a b c && rB d e f
  · exact .inl (by simp)
  · rw [h1, Bool.true_and] at h
    exact .inr (by simp [h])
/-- A slice at this address reads as these vectors. -/
def RdV (w : World) (A : Option Addr) (l : List (Int × Int × Int)) : Prop := ∀ i t, l[i]? = some t → ∃ g o, A = some ⟨g, o, none⟩ ∧ w.cell? ⟨g, o + i * 3, none⟩ = some (.int .i64 t.1) ∧ w.cell? ⟨g, o + i * 3 + 1, none⟩ = some (.int .i64 t.2.1) ∧ w.cell? ⟨g, o + i * 3 + 2, none⟩ = some (.int .i64 t.2.2)
theorem RdV.below {w w' : World} {A : Option Addr} {l : List (Int × Int × Int)} (h : RdV w A l) (hb : Below w.heap.size w w') : RdV w' A l := fun i t ht => by
  obtain ⟨g, o, ha, h0, h1, h2⟩ := h i t ht
  have hl := World.block_lt_of_cell? w _ h0
  exact ⟨g, o, ha, (hb.cell (p := ⟨g, o + i * 3, none⟩) hl).trans h0, (hb.cell (p := ⟨g, o + i * 3 + 1, none⟩) hl).trans h1, (hb.cell (p := ⟨g, o + i * 3 + 2, none⟩) hl).trans h2⟩

end Go.Proofs.Ytiklogoookngaaa
