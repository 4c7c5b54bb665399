/- A block that is known whole (Bk): what stays of it and what turns; whole structs out of it and into it, at any offset, whatever the number of cells: loads, stores, what may be taken first, results that are handed back out of a cell. No condition; it serves any seat. -/
import Derived.Test.YtjgojgmgicpgaaaGreatChecked
import Derived.WalkKit
import Derived.WalkSpells
import Derived.Handy
import Derived.Below
import Derived.Laws.Rows
import Derived.Laws.CopyRow
import Derived.Deep.MidRow
import Derived.Deep.RegionHeld3
import Derived.Deep.DrawnRows
import Derived.BigFrame
namespace Go.Proofs.YtjgojgmgicpgaaaGreat
open Go.RowKit
set_option linter.unusedSimpArgs false
set_option linter.unusedVariables false

/-- The block g is just these cells. -/
def Bk (w : World) (g : Nat) (t : TypeId) (cs : Array Value) : Prop := w.heap[g]? = some (.cells cs t (0, 0))
section
variable {w w' : World} {g : Nat} {t : TypeId} {cs : Array Value}
theorem Bk.here (h : Bk w g t cs) : g < w.heap.size := by
  by_cases hg : g < w.heap.size
  · exact hg
  · have e : w.heap[g]? = none := by rw [Array.getElem?_eq_none_iff]; omega
    unfold Bk at h; rw [e] at h; cases h
theorem Bk.cellAt (h : Bk w g t cs) (i : Nat) : w.cell? ⟨g, i, none⟩ = cs[i]? := cell_of_row w g i cs t (0, 0) h
theorem Bk.free (h : Bk w g t cs) (i : Nat) : w.frozen? ⟨g, i, none⟩ = false := by
  unfold Bk at h; simp [World.frozen?, h]
theorem Bk.put (h : Bk w g t cs) (i : Nat) (u : Value) : Bk (w.setCell ⟨g, i, none⟩ u) g t (cs.setIfInBounds i u) := heap_setCell_same w g i cs t u h
theorem Bk.later (h : Bk w g t cs) (hb : Below w.heap.size w w') : Bk w' g t cs := (hb.block g h.here).trans h
theorem Bk.stays (h : Bk w g t cs) {row : Option Nat} (hb : w.grownBy w' row) (hg : some g ≠ row) : Bk w' g t cs := (hb.block g h.here hg).trans h
theorem Bk.fresh (w : World) (t : TypeId) (cs : Array Value) : Bk (w.alloc (.cells cs t)) w.heap.size t cs := heap_alloc_new w _
theorem Bk.other (h : Bk w g t cs) {p : Addr} (hp : g ≠ p.block) (u : Value) : Bk (w.setCell p u) g t cs := (Below.heap_setCell w p u g hp).trans h
end
theorem grown_set {a w : World} {g i : Nat} (h : a.grownBy w (some g)) (u : Value) : a.grownBy (w.setCell ⟨g, i, none⟩ u) (some g) :=
  ⟨h.os, h.tape, h.output, by simpa using h.size, fun k hk hne => (Below.heap_setCell w ⟨g, i, none⟩ u k (fun e => hne (by rw [e]))).trans (h.block k hk hne)⟩

theorem grown_alloc {a w : World} {row : Option Nat} (h : a.grownBy w row) (o : Obj) : a.grownBy (w.alloc o) row :=
  ⟨h.os, h.tape, h.output, Nat.le_trans h.size (by simp), fun k hk hne => (Below.heap_alloc w o k (Nat.lt_of_lt_of_le hk h.size)).trans (h.block k hk hne)⟩
theorem grown_above {a w : World} {row : Option Nat} (h : a.grownBy w row) {p : Addr} (hp : a.heap.size ≤ p.block) (u : Value) : a.grownBy (w.setCell p u) row :=
  ⟨h.os, h.tape, h.output, by simpa using h.size, fun k hk hne => (Below.heap_setCell w p u k (by omega)).trans (h.block k hk hne)⟩
theorem grown_row {a w w' : World} {R : Option Nat} {row : Option Nat} (h : a.grownBy w R) (hg : w.grownBy w' row) (hrow : ∀ k, row = some k → a.heap.size ≤ k) : a.grownBy w' R :=
  ⟨hg.os.trans h.os, hg.tape.trans h.tape, hg.output.trans h.output, Nat.le_trans h.size hg.size, fun k hk hne =>
    (hg.block k (Nat.lt_of_lt_of_le hk h.size) (fun e => by have := hrow k e.symm; omega)).trans (h.block k hk hne)⟩
theorem Bk.freshAt (w : World) {g : Nat} (t : TypeId) (cs : Array Value) (h : g = w.heap.size) : Bk (w.alloc (.cells cs t)) g t cs := h ▸ Bk.fresh w t cs
theorem Bk.drewB {w : World} {g : Nat} {t : TypeId} {cs : Array Value} (h : Bk w g t cs) : Bk w.drew g t cs := h

section
variable {P : Program}
/-- A part of a block's cells. -/
def Part (cs : Array Value) (o : Nat) (ps : Array Value) : Prop := ∀ j v, ps[j]? = some v → cs[o + j]? = some v
theorem Part.whole (cs : Array Value) : Part cs 0 cs := fun j v h => by rw [Nat.zero_add]; exact h
theorem Part.of {cs : Array Value} {o : Nat} {ps : Array Value} (h : (cs.toList.drop o).take ps.size = ps.toList) : Part cs o ps := fun j v hv => by
  have h1 : ps.toList[j]? = some v := by simpa using hv
  rw [← h, List.getElem?_take] at h1
  split at h1
  · rw [List.getElem?_drop] at h1; simpa using h1
  · cases h1
theorem Bk.range {w : World} {g o : Nat} {t : TypeId} {cs ps : Array Value} (h : Bk w g t cs) (hp : Part cs o ps) : w.rangeAt g o ps.toList := fun j v hv => by
  rw [h.cellAt]; exact hp j v (by simpa using hv)
theorem load_bk {ops : Array Oper} {rest : List Oper} {o : Oper} {a : Act} {w : World} {Q : Exit → Act → World → Prop} (hw : Region.wanted o (yielded ops a.tmps) = true) (ty : TypeId) (x : Operand) (ho : o.op = .load ty x)
    (g off : Nat) (hx : a.eval x = .pointer (some ⟨g, off, none⟩)) (t : TypeId) (cs ps : Array Value) (d : TypeDesc) (hg : Bk w g t cs) (hp : Part cs off ps)
    (hu : P.underlying ty = some d) (hd : d.isRow = true) (hi : (P.info? ty).map (·.size) = some ps.size)
    (h : wpList P ops Q rest (a.put o.dst (.agg ps)) w) : wpList P ops Q (o :: rest) a w :=
  BigFrame.wpList_want hw fun _ hK => wp_load_mid ty x ho g off hx ps.toList d (hg.range hp) hu hd (by simpa using hi) (hK _ _ (by simpa using h))

theorem yields_bk {ops : Array Oper} {S : World → Prop} {op : Oper} {a : Act} (hw : Region.wanted op (yielded ops a.tmps) = true) (ty : TypeId) (x : Operand) (ho : op.op = .load ty x)
    (g off : Nat) (hx : a.eval x = .pointer (some ⟨g, off, none⟩)) (t : TypeId) (cs ps : Array Value) (d : TypeDesc) (hS : ∀ w, S w → Bk w g t cs) (hp : Part cs off ps)
    (hu : P.underlying ty = some d) (hd : d.isRow = true) (hi : (P.info? ty).map (·.size) = some ps.size) : YieldsIf P ops S op (.agg ps) a := by
  have := yieldsIf_load_mid (P := P) (ops := ops) (S := S) (op := op) (a := a) hw ty x ho g off hx ps.toList d (fun w hw' => (hS w hw').range hp) hu hd (by simpa using hi)
  simpa using this

/-- What stands in a block behind a store of a part. -/
def putPart (cs : Array Value) (o : Nat) (v : Array Value) : Array Value := (cs.toList.take o ++ v.toList ++ cs.toList.drop (o + v.size)).toArray
theorem store_bk_op {o : Oper} {a : Act} {w : World} {K : Act → World → Prop} {Q : Exit → Act → World → Prop} (ty : TypeId) (x y : Operand) (ho : o.op = .store ty x y)
    (g off : Nat) (v : Array Value) (hx : a.eval x = .pointer (some ⟨g, off, none⟩)) (hy : a.eval y = .agg v) (t : TypeId) (cs cs' : Array Value) (hg : Bk w g t cs)
    (hi : (P.info? ty).map (·.size) = some v.size) (hl : off + v.size ≤ cs.size) (h1 : v.all (·.oneCell') = true) (hc : cs' = putPart cs off v)
    (h : ∀ w', Bk w' g t cs' → w.grownBy w' (some g) → w'.heap.size = w.heap.size → K (a.put o.dst undef) w') : o.wp P a w K Q := by
  have hst := run_storeCells_at P g off t v.toList 0 cs w hg (by simpa using hl) (fun u hu => (Array.all_eq_true_iff_forall_mem.1 h1) u (by simpa using hu))
  have hsv : (storeVar ty ⟨g, off, none⟩ (.agg v)).run P w = .ok () (w.setRow g (putPart cs off v)) := by
    cases hq : P.info? ty with
    | none => simp [hq] at hi
    | some i =>
      have hs : v.size = i.size := by simp [hq] at hi; omega
      simp only [Nat.add_zero, Array.length_toList] at hst
      simp [storeVar, sizeOf, typeInfo, hq, Value.cells, hs]
      rw [hst]; simp [putPart, hs]
  unfold Oper.wp execOp
  simp only [ho, hx, hy, Instr.storeAt, Instr.sureAddr, Sem.run_bind, Sem.run_pure, Result.andThen_ok, hsv]
  refine h _ ?_ ⟨rfl, rfl, rfl, by simp, fun i hi hne => ?_⟩ (by simp)
  · rw [hc]; exact setRow_heap w g cs _ t _ hg
  · exact setRow_other w g i _ (fun e => hne (by rw [e]))
theorem store_bk {ops : Array Oper} {rest : List Oper} {o : Oper} {a : Act} {w : World} {Q : Exit → Act → World → Prop} (hw : Region.wanted o (yielded ops a.tmps) = true) (ty : TypeId) (x y : Operand) (ho : o.op = .store ty x y)
    (g off : Nat) (v : Array Value) (hx : a.eval x = .pointer (some ⟨g, off, none⟩)) (hy : a.eval y = .agg v) (t : TypeId) (cs cs' : Array Value) (hg : Bk w g t cs)
    (hi : (P.info? ty).map (·.size) = some v.size) (hl : off + v.size ≤ cs.size) (h1 : v.all (·.oneCell') = true) (hc : cs' = putPart cs off v)
    (h : ∀ w', Bk w' g t cs' → w.grownBy w' (some g) → w'.heap.size = w.heap.size → wpList P ops Q rest (a.put o.dst undef) w') : wpList P ops Q (o :: rest) a w :=
  BigFrame.wpList_want hw fun _ hK => store_bk_op ty x y ho g off v hx hy t cs cs' hg hi hl h1 hc (fun w' h1 h2 h3 => hK _ _ (h w' h1 h2 h3))

/-- Results that are handed back out of a cell: the struct, and one or two slots beside it. -/
theorem loadVar_bk {w : World} {g : Nat} {t ty : TypeId} {cs : Array Value} {d : TypeDesc} (hg : Bk w g t cs) (hu : P.underlying ty = some d) (hd : d.isRow = true) (hi : (P.info? ty).map (·.size) = some cs.size) :
    (loadVar ty ⟨g, 0, none⟩).run P w = .ok (.agg cs) w := by
  have := run_loadVar_mid (P := P) w g 0 ty cs.toList d (hg.range (Part.whole cs)) hu hd (by simpa using hi)
  simpa using this
theorem results_bk2 {fn : Func} {p q : Tmp} {ty : TypeId} (h : fn.results = #[.cell p ty, .tmp q]) (tmps : Array Value) (w : World) (g : Nat) (t : TypeId) (cs : Array Value) (d : TypeDesc) (v : Value)
    (hp : tmps.getD p undef = .pointer (some ⟨g, 0, none⟩)) (hq : tmps.getD q undef = v) (hg : Bk w g t cs) (hu : P.underlying ty = some d) (hd : d.isRow = true) (hi : (P.info? ty).map (·.size) = some cs.size) :
    (results fn tmps).run P w = .ok (.tuple #[.agg cs, v]) w := by
  have hp' : tmps[p]?.getD undef = .pointer (some ⟨g, 0, none⟩) := by simpa using hp
  have hq' : tmps[q]?.getD undef = v := by simpa using hq
  simp [results, h, hp', hq', asAddr, loadVar_bk hg hu hd hi]
theorem results_bk3 {fn : Func} {p q r : Tmp} {ty : TypeId} (h : fn.results = #[.cell p ty, .tmp q, .tmp r]) (tmps : Array Value) (w : World) (g : Nat) (t : TypeId) (cs : Array Value) (d : TypeDesc) (v u : Value)
    (hp : tmps.getD p undef = .pointer (some ⟨g, 0, none⟩)) (hq : tmps.getD q undef = v) (hr : tmps.getD r undef = u) (hg : Bk w g t cs) (hu : P.underlying ty = some d) (hd : d.isRow = true) (hi : (P.info? ty).map (·.size) = some cs.size) :
    (results fn tmps).run P w = .ok (.tuple #[.agg cs, v, u]) w := by
  have hp' : tmps[p]?.getD undef = .pointer (some ⟨g, 0, none⟩) := by simpa using hp
  have hq' : tmps[q]?.getD undef = v := by simpa using hq
  have hr' : tmps[r]?.getD undef = u := by simpa using hr
  simp [results, h, hp', hq', hr', asAddr, loadVar_bk hg hu hd hi]
end
/-- What holds of a world that grew but for one newer block. -/
theorem grown_base {w w' : World} {row : Option Nat} {B : Nat} (hg : w.grownBy w' row) (hB : B ≤ w.heap.size) (hr : ∀ k, row = some k → B ≤ k) : Below B w w' := (Below.refl _ _).grown hg hB hr
theorem grown_below {w w1 w2 : World} {g : Nat} (h : Below w.heap.size w w1) (hg : w1.grownBy w2 (some g)) (hB : w.heap.size ≤ g) : Below w.heap.size w w2 := h.trans (grown_base hg h.size (by intro k e; cases e; exact hB))
end Go.Proofs.YtjgojgmgicpgaaaGreat
