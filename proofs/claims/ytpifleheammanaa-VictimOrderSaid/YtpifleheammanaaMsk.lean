/- Machines as elements: a slice of none, of one, in new memory. No condition. -/
import Derived.Test.YtpifleheammanaaMs
import Derived.Test.YtpifleheammanaaRko
namespace Go.Proofs.Ytpifleheammanaa
open Go.RowKit
set_option linter.unusedSimpArgs false
set_option linter.unusedVariables false

theorem infoM : (Try.prog.info? 37).map (fun i => (i.zero, i.size, i.bytes)) = some (some (.agg #[.string ⟨#[]⟩, .int .i64 0, .int .i64 0, .int .i64 0, .slice none 0 0, .bool false, .int .i64 0]), 7, 80) := by kernel_rfl
theorem cellsM_one (l : List Mc) : ∀ y ∈ cellsM l, ∀ u ∈ y, u.oneCell' = true := by
  intro x hx u hu
  simp only [cellsM, List.mem_map] at hx
  obtain ⟨j, _, rfl⟩ := hx
  exact j.cells_one u hu
section
variable {o : Oper} {a : Act} {w : World} {K : Act → World → Prop} {Q : Exit → Act → World → Prop}
theorem mnone_op (ho : o.op = .buildSlice 22 0 #[]) (h : ∀ g w', g = w.heap.size → Bk w' g 37 #[] → Below w.heap.size w w' → K (a.put o.dst (.slice (some ⟨g, 0, none⟩) 0 0)) w') : o.wp Try.prog a w K Q := by
  unfold Oper.wp execOp
  simp only [ho]
  go_simp
  exact h _ _ rfl (Bk.fresh w _ _) ((Below.refl _ _).alloc (Nat.le_refl _) _)
theorem mone_op (t : Tmp) (m : Mc) (ho : o.op = .buildSlice 22 1 #[(0, .tmp t)]) (hx : a.tmps[t]?.getD undef = .agg m.arr) (h : ∀ g w', g = w.heap.size → Bk w' g 37 m.arr → Below w.heap.size w w' → K (a.put o.dst (.slice (some ⟨g, 0, none⟩) 1 1)) w') : o.wp Try.prog a w K Q := by
  unfold Oper.wp execOp
  simp only [ho]
  go_simp
  exact h _ _ rfl (Bk.fresh w _ _) ((Below.refl _ _).alloc (Nat.le_refl _) _)
end
/-- What a row of machines that the call owns reads as. -/
theorem OwnK.rdm {w : World} {base : Nat} {e : TypeId} {v : Value} {l : List Mc} (h : OwnK w base e 7 v (cellsM l)) : ∃ A c, v = .slice A l.length c ∧ RdM w A l ∧ l.length ≤ c ∧ c ≤ 9223372036854775807 := by
  obtain ⟨A, c, hv, hr, h1, h2, _⟩ := h.sl
  rw [cellsM_length] at hv h1
  refine ⟨A, c, hv, hr, h1, ?_⟩
  unfold maxLen at h2; omega
theorem mcs_append (L : List Ml) (x : Ml) : mcs (L ++ [x]) = mcs L ++ [x.1] := by simp [mcs]
theorem MsOk.append {w : World} {L : List Ml} {x : Ml} (h : MsOk w L) (hx : McOk w x.1 x.2) : MsOk w (L ++ [x]) := fun y hy => by
  rcases List.mem_append.1 hy with hy | hy
  · exact h y hy
  · simp at hy; subst hy; exact hx
end Go.Proofs.Ytpifleheammanaa
