/- Jobs that the call owns; slices of no job and of one job; a new cell of a job. No condition. -/
import Derived.Test.YtlomeicilgfhnaaGreatJb
import Derived.Test.YtlomeicilgfhnaaGreatRko
namespace Go.Proofs.YtlomeicilgfhnaaGreat
open Go.RowKit
set_option linter.unusedSimpArgs false
set_option linter.unusedVariables false

/-- What a job needs. -/
abbrev Jb.need (j : Jb) : Int × Int × Int := (j.a, j.b, j.c)
theorem infoJ : (Tryz.prog.info? 66).map (fun i => (i.zero, i.size, i.bytes)) = some (some (.agg #[.string ⟨#[]⟩, .string ⟨#[]⟩, .int .i64 0, .int .i64 0, .int .i64 0, .int .i64 0, .slice none 0 0, .string ⟨#[]⟩, .string ⟨#[]⟩, .int .i64 0, .int .i64 0, .string ⟨#[]⟩, .int .i64 0]), 13, 160) := by kernel_rfl
theorem OwnK.rdj {w : World} {base : Nat} {e : TypeId} {v : Value} {l : List Jb} (h : OwnK w base e 13 v (cellsJ l)) : ∃ A c, v = .slice A l.length c ∧ RdJ w A l ∧ l.length ≤ c ∧ c ≤ 9223372036854775807 := by
  obtain ⟨A, c, hv, hr, h1, h2, _⟩ := h.sl
  rw [cellsJ_length] at hv h1
  refine ⟨A, c, hv, hr, h1, ?_⟩
  unfold maxLen at h2; omega

section
variable {o : Oper} {a : Act} {w : World} {K : Act → World → Prop} {Q : Exit → Act → World → Prop}
/-- A slice of no job. -/
theorem none_op (ho : o.op = .buildSlice 29 0 #[]) (h : ∀ g w', g = w.heap.size → Bk w' g 66 #[] → Below w.heap.size w w' → K (a.put o.dst (.slice (some ⟨g, 0, none⟩) 0 0)) w') : o.wp Tryz.prog a w K Q := by
  unfold Oper.wp execOp
  simp only [ho]
  go_simp
  exact h _ _ rfl (Bk.fresh w _ _) ((Below.refl _ _).alloc (Nat.le_refl _) _)
/-- A slice of one job. -/
theorem one_op (t : Tmp) (j : Array Value) (ho : o.op = .buildSlice 29 1 #[(0, .tmp t)]) (hx : a.tmps[t]?.getD undef = .agg j) (hj : j.size = 13) (h : ∀ g w', g = w.heap.size → Bk w' g 66 j → Below w.heap.size w w' → K (a.put o.dst (.slice (some ⟨g, 0, none⟩) 1 1)) w') : o.wp Tryz.prog a w K Q := by
  obtain ⟨j⟩ := j
  obtain ⟨c0, c1, c2, c3, c4, c5, c6, c7, c8, c9, k0, k1, k2, rfl⟩ := list13 j hj
  unfold Oper.wp execOp
  simp only [ho]
  go_simp
  exact h _ _ rfl (Bk.fresh w _ _) ((Below.refl _ _).alloc (Nat.le_refl _) _)
/-- A new cell of one job. -/
theorem jcell_op (ho : o.op = .alloc 66) (h : ∀ g w', g = w.heap.size → Bk w' g 66 #[.string ⟨#[]⟩, .string ⟨#[]⟩, .int .i64 0, .int .i64 0, .int .i64 0, .int .i64 0, .slice none 0 0, .string ⟨#[]⟩, .string ⟨#[]⟩, .int .i64 0, .int .i64 0, .string ⟨#[]⟩, .int .i64 0] → Below w.heap.size w w' → K (a.put o.dst (.pointer (some ⟨g, 0, none⟩))) w') : o.wp Tryz.prog a w K Q := by
  unfold Oper.wp execOp
  simp only [ho]
  go_simp
  exact h _ _ rfl (Bk.fresh w _ _) ((Below.refl _ _).alloc (Nat.le_refl _) _)
end
end Go.Proofs.YtlomeicilgfhnaaGreat
