/- Lists of vectors as elements of three cells; a new cell of three numbers. No condition. -/
import Derived.Test.YtiklogoookngaaaRko
import Derived.Test.YtiklogoookngaaaSm
namespace Go.Proofs.Ytiklogoookngaaa
open Go.RowKit
set_option linter.unusedSimpArgs false
set_option linter.unusedVariables false

/-- The cells of vectors. -/
def cellsV (l : List (Int × Int × Int)) : List (List Value) := l.map fun t => [.int .i64 t.1, .int .i64 t.2.1, .int .i64 t.2.2]
theorem cellsV_append (l m : List (Int × Int × Int)) : cellsV (l ++ m) = cellsV l ++ cellsV m := by simp [cellsV]
theorem cellsV_length (l : List (Int × Int × Int)) : (cellsV l).length = l.length := by simp [cellsV]
theorem RdV.of {w : World} {A : Option Addr} {l : List (Int × Int × Int)} (h : RdK w 3 A (cellsV l)) : RdV w A l := fun i t ht => by
  obtain ⟨g, o, ha, hr⟩ := h i [.int .i64 t.1, .int .i64 t.2.1, .int .i64 t.2.2] (by simp [cellsV, ht])
  exact ⟨g, o, ha, hr 0 _ rfl, hr 1 _ rfl, hr 2 _ rfl⟩
theorem infoV : (Try.prog.info? 37).map (fun i => (i.zero, i.size, i.bytes)) = some (some (.agg #[.int .i64 0, .int .i64 0, .int .i64 0]), 3, 24) := by kernel_rfl

section
variable {o : Oper} {a : Act} {w : World} {K : Act → World → Prop} {Q : Exit → Act → World → Prop}
/-- A new cell of three numbers. -/
theorem cell_op (ho : o.op = .alloc 37) (h : ∀ g w', g = w.heap.size → Bk w' g 37 #[.int .i64 0, .int .i64 0, .int .i64 0] → Below w.heap.size w w' → K (a.put o.dst (.pointer (some ⟨g, 0, none⟩))) w') : o.wp Try.prog a w K Q := by
  unfold Oper.wp execOp
  simp only [ho]
  go_simp
  exact h _ _ rfl (Bk.fresh w _ _) ((Below.refl _ _).alloc (Nat.le_refl _) _)
end
end Go.Proofs.Ytiklogoookngaaa
