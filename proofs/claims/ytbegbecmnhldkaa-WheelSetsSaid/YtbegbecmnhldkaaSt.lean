/- Slices of texts and of integers, as elements of one cell: what they read as, rows that the call owns, pieces of them, slices of one element. No condition. -/
import Derived.Test.YtbegbecmnhldkaaRko
import Derived.Test.YtbegbecmnhldkaaLab
namespace Go.Proofs.Ytbegbecmnhldkaa
open Go.RowKit
set_option linter.unusedSimpArgs false
set_option linter.unusedVariables false

/-- A piece at the end. -/
theorem RdK.drop {w : World} {k : Nat} {A : Option Addr} {l : List (List Value)} (h : RdK w k A l) {j cap : Nat} (hl : l.length ≤ cap) : RdK w k (if cap = j then A else Option.map (fun x => x.add (j * k)) A) (l.drop j) := by
  intro i x hx
  rw [List.getElem?_drop] at hx
  have hlt := (List.getElem?_eq_some_iff.1 hx).1
  obtain ⟨g, o, rfl, hr⟩ := h _ _ hx
  rw [if_neg (by omega)]
  exact ⟨g, o + j * k, by simp [Addr.add_lit], by rw [Nat.add_assoc, ← Nat.add_mul]; exact hr⟩

/-- The cells of texts. -/
def cellsS (l : List ByteArray) : List (List Value) := l.map fun s => [.string s]
theorem cellsS_length (l : List ByteArray) : (cellsS l).length = l.length := by simp [cellsS]
theorem cellsS_append (l m : List ByteArray) : cellsS (l ++ m) = cellsS l ++ cellsS m := by simp [cellsS]
theorem cellsS_take (l : List ByteArray) (k : Nat) : cellsS (l.take k) = (cellsS l).take k := by unfold cellsS; rw [List.map_take]
theorem cellsS_drop (l : List ByteArray) (k : Nat) : cellsS (l.drop k) = (cellsS l).drop k := by unfold cellsS; rw [List.map_drop]
theorem cellsS_k (l : List ByteArray) : ∀ x ∈ cellsS l, x.length = 1 := by
  intro x hx
  simp only [cellsS, List.mem_map] at hx
  obtain ⟨j, _, rfl⟩ := hx
  rfl
theorem cellsS_one (l : List ByteArray) : ∀ y ∈ cellsS l, ∀ u ∈ y, u.oneCell' = true := by
  intro x hx u hu
  simp only [cellsS, List.mem_map] at hx
  obtain ⟨j, _, rfl⟩ := hx
  simp at hu; subst hu; rfl
/-- A slice at this address reads as these texts. -/
def RdS (w : World) (A : Option Addr) (l : List ByteArray) : Prop := RdK w 1 A (cellsS l)
theorem RdS.later {w w' : World} {A : Option Addr} {l : List ByteArray} (h : RdS w A l) (hb : Below w.heap.size w w') : RdS w' A l := RdK.later h hb
theorem RdS.at {w : World} {A : Option Addr} {l : List ByteArray} (h : RdS w A l) {i : Nat} (hi : i < l.length) : ∃ g o, A = some ⟨g, o, none⟩ ∧ g < w.heap.size ∧ w.cell? ⟨g, o + i, none⟩ = some (.string l[i]) := by
  obtain ⟨g, o, ha, hr⟩ := RdK.at h (i := i) (by rw [cellsS_length]; exact hi)
  have hc := hr 0 (.string l[i]) (by simp [cellsS])
  rw [Nat.mul_one, Nat.add_zero] at hc
  exact ⟨g, o, ha, World.block_lt_of_cell? w _ hc, hc⟩
theorem RdS.take {w : World} {A : Option Addr} {l : List ByteArray} (h : RdS w A l) (k : Nat) : RdS w A (l.take k) := by
  have := RdK.take h k
  unfold RdS
  rw [cellsS_take]; exact this
theorem RdS.drop {w : World} {A : Option Addr} {l : List ByteArray} (h : RdS w A l) {j cap : Nat} (hl : l.length ≤ cap) : RdS w (if cap = j then A else Option.map (fun x => x.add j) A) (l.drop j) := by
  have := RdK.drop h (j := j) (cap := cap) (by rw [cellsS_length]; exact hl)
  unfold RdS
  rw [cellsS_drop]
  simpa using this
theorem OwnK.rds {w : World} {base : Nat} {e : TypeId} {v : Value} {l : List ByteArray} (h : OwnK w base e 1 v (cellsS l)) : ∃ A c, v = .slice A l.length c ∧ RdS w A l ∧ l.length ≤ c ∧ c ≤ 9223372036854775807 := by
  obtain ⟨A, c, hv, hr, h1, h2, _⟩ := h.sl
  rw [cellsS_length] at hv h1
  refine ⟨A, c, hv, hr, h1, ?_⟩
  unfold maxLen at h2; omega

/-- The cells of integers. -/
def cellsI (l : List Int) : List (List Value) := l.map fun s => [.int .i64 s]
theorem cellsI_length (l : List Int) : (cellsI l).length = l.length := by simp [cellsI]
theorem cellsI_append (l m : List Int) : cellsI (l ++ m) = cellsI l ++ cellsI m := by simp [cellsI]
theorem cellsI_take (l : List Int) (k : Nat) : cellsI (l.take k) = (cellsI l).take k := by unfold cellsI; rw [List.map_take]
theorem cellsI_drop (l : List Int) (k : Nat) : cellsI (l.drop k) = (cellsI l).drop k := by unfold cellsI; rw [List.map_drop]
theorem cellsI_k (l : List Int) : ∀ x ∈ cellsI l, x.length = 1 := by
  intro x hx
  simp only [cellsI, List.mem_map] at hx
  obtain ⟨j, _, rfl⟩ := hx
  rfl
theorem cellsI_one (l : List Int) : ∀ y ∈ cellsI l, ∀ u ∈ y, u.oneCell' = true := by
  intro x hx u hu
  simp only [cellsI, List.mem_map] at hx
  obtain ⟨j, _, rfl⟩ := hx
  simp at hu; subst hu; rfl
/-- A slice at this address reads as these integers. -/
def RdI (w : World) (A : Option Addr) (l : List Int) : Prop := RdK w 1 A (cellsI l)
theorem RdI.later {w w' : World} {A : Option Addr} {l : List Int} (h : RdI w A l) (hb : Below w.heap.size w w') : RdI w' A l := RdK.later h hb
theorem RdI.at {w : World} {A : Option Addr} {l : List Int} (h : RdI w A l) {i : Nat} (hi : i < l.length) : ∃ g o, A = some ⟨g, o, none⟩ ∧ g < w.heap.size ∧ w.cell? ⟨g, o + i, none⟩ = some (.int .i64 l[i]) := by
  obtain ⟨g, o, ha, hr⟩ := RdK.at h (i := i) (by rw [cellsI_length]; exact hi)
  have hc := hr 0 (.int .i64 l[i]) (by simp [cellsI])
  rw [Nat.mul_one, Nat.add_zero] at hc
  exact ⟨g, o, ha, World.block_lt_of_cell? w _ hc, hc⟩
theorem RdI.take {w : World} {A : Option Addr} {l : List Int} (h : RdI w A l) (k : Nat) : RdI w A (l.take k) := by
  have := RdK.take h k
  unfold RdI
  rw [cellsI_take]; exact this
theorem RdI.drop {w : World} {A : Option Addr} {l : List Int} (h : RdI w A l) {j cap : Nat} (hl : l.length ≤ cap) : RdI w (if cap = j then A else Option.map (fun x => x.add j) A) (l.drop j) := by
  have := RdK.drop h (j := j) (cap := cap) (by rw [cellsI_length]; exact hl)
  unfold RdI
  rw [cellsI_drop]
  simpa using this
theorem OwnK.rdi {w : World} {base : Nat} {e : TypeId} {v : Value} {l : List Int} (h : OwnK w base e 1 v (cellsI l)) : ∃ A c, v = .slice A l.length c ∧ RdI w A l ∧ l.length ≤ c ∧ c ≤ 9223372036854775807 := by
  obtain ⟨A, c, hv, hr, h1, h2, _⟩ := h.sl
  rw [cellsI_length] at hv h1
  refine ⟨A, c, hv, hr, h1, ?_⟩
  unfold maxLen at h2; omega
theorem infoS : (Try.prog.info? 9).map (fun i => (i.zero, i.size, i.bytes)) = some (some (.string ⟨#[]⟩), 1, 16) := by kernel_rfl
theorem infoI : (Try.prog.info? 3).map (fun i => (i.zero, i.size, i.bytes)) = some (some (.int .i64 0), 1, 8) := by kernel_rfl
/-- A call has returned these texts, in memory of its own. -/
def RetS (b : Nat) (w : World) (e : Ending) (l : List ByteArray) : Prop := ∃ v, e = .returned v ∧ OwnK w b 9 1 v (cellsS l)
section
variable {o : Oper} {a : Act} {w : World} {K : Act → World → Prop} {Q : Exit → Act → World → Prop}
/-- A slice of one text. -/
theorem sone_op (t : Tmp) (s : ByteArray) (ho : o.op = .buildSlice 28 1 #[(0, .tmp t)]) (hx : a.tmps[t]?.getD undef = .string s) (h : ∀ g w', g = w.heap.size → Bk w' g 9 #[.string s] → Below w.heap.size w w' → K (a.put o.dst (.slice (some ⟨g, 0, none⟩) 1 1)) w') : o.wp Try.prog a w K Q := by
  unfold Oper.wp execOp
  simp only [ho]
  go_simp
  exact h _ _ rfl (Bk.fresh w _ _) ((Below.refl _ _).alloc (Nat.le_refl _) _)
/-- A slice of one integer. -/
theorem ione_op (t : Tmp) (s : Int) (ho : o.op = .buildSlice 29 1 #[(0, .tmp t)]) (hx : a.tmps[t]?.getD undef = .int .i64 s) (h : ∀ g w', g = w.heap.size → Bk w' g 3 #[.int .i64 s] → Below w.heap.size w w' → K (a.put o.dst (.slice (some ⟨g, 0, none⟩) 1 1)) w') : o.wp Try.prog a w K Q := by
  unfold Oper.wp execOp
  simp only [ho]
  go_simp
  exact h _ _ rfl (Bk.fresh w _ _) ((Below.refl _ _).alloc (Nat.le_refl _) _)
end
end Go.Proofs.Ytbegbecmnhldkaa
