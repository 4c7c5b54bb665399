/- Whole structs out of and into a block that is known whole (Bk), at any offset, whatever the number of cells: loads, stores, what may be taken first, results that are handed back out of a cell. No condition. -/
import Derived.Test.YtehkdaknhgmdkaaRdr
import Derived.Test.YtehkdaknhgmdkaaRvl
import Derived.Laws.Rows
import Derived.Laws.CopyRow
import Derived.Deep.MidRow
import Derived.Deep.RegionHeld3
import Derived.Deep.DrawnRows
import Derived.BigFrame
namespace Go.Proofs.Ytehkdaknhgmdkaa
open Go.RowKit
set_option linter.unusedSimpArgs false
set_option linter.unusedVariables false

section
variable {P : Program}
/-- A part of a block's cells. -/
def Part (cs : Array Value) (o : Nat) (ps : Array Value) : Prop := ∀ j v, ps[j]? = some v → cs[o + j]? = some v
theorem Part.whole (cs : Array Value) : Part cs 0 cs := fun j v h => by rw [Nat.zero_add]; exact h
theorem Part.of {cs : Array Value} {o : Nat} {ps : Array Value} (h : (cs.toList.drop o).take ps.size = ps.toList) : Part cs o ps := fun j v hv => by
  have h1 : ps.toList[j]? = some v := by simpa using hv
  rw [← h, List.getElem?_take] at h1
  split at h1
  · rw [List.getElem?_drop] at h1; simpa using h1
  · cases h1
theorem Bk.range {w : World} {g o : Nat} {t : TypeId} {cs ps : Array Value} (h : Bk w g t cs) (hp : Part cs o ps) : w.rangeAt g o ps.toList := fun j v hv => by
  rw [h.cellAt]; exact hp j v (by simpa using hv)
theorem load_bk {ops : Array Oper} {rest : List Oper} {o : Oper} {a : Act} {w : World} {Q : Exit → Act → World → Prop} (hw : Region.wanted o (yielded ops a.tmps) = true) (ty : TypeId) (x : Operand) (ho : o.op = .load ty x)
    (g off : Nat) (hx : a.eval x = .pointer (some ⟨g, off, none⟩)) (t : TypeId) (cs ps : Array Value) (d : TypeDesc) (hg : Bk w g t cs) (hp : Part cs off ps)
    (hu : P.underlying ty = some d) (hd : d.isRow = true) (hi : (P.info? ty).map (·.size) = some ps.size)
    (h : wpList P ops Q rest (a.put o.dst (.agg ps)) w) : wpList P ops Q (o :: rest) a w :=
  BigFrame.wpList_want hw fun _ hK => wp_load_mid ty x ho g off hx ps.toList d (hg.range hp) hu hd (by simpa using hi) (hK _ _ (by simpa using h))

theorem yields_bk {ops : Array Oper} {S : World → Prop} {op : Oper} {a : Act} (hw : Region.wanted op (yielded ops a.tmps) = true) (ty : TypeId) (x : Operand) (ho : op.op = .load ty x)
    (g off : Nat) (hx : a.eval x = .pointer (some ⟨g, off, none⟩)) (t : TypeId) (cs ps : Array Value) (d : TypeDesc) (hS : ∀ w, S w → Bk w g t cs) (hp : Part cs off ps)
    (hu : P.underlying ty = some d) (hd : d.isRow = true) (hi : (P.info? ty).map (·.size) = some ps.size) : YieldsIf P ops S op (.agg ps) a := by
  have := yieldsIf_load_mid (P := P) (ops := ops) (S := S) (op := op) (a := a) hw ty x ho g off hx ps.toList d (fun w hw' => (hS w hw').range hp) hu hd (by simpa using hi)
  simpa using this

/-- What stands in a block behind a store of a part. -/
def putPart (cs : Array Value) (o : Nat) (v : Array Value) : Array Value := (cs.toList.take o ++ v.toList ++ cs.toList.drop (o + v.size)).toArray
theorem store_bk_op {o : Oper} {a : Act} {w : World} {K : Act → World → Prop} {Q : Exit → Act → World → Prop} (ty : TypeId) (x y : Operand) (ho : o.op = .store ty x y)
    (g off : Nat) (v : Array Value) (hx : a.eval x = .pointer (some ⟨g, off, none⟩)) (hy : a.eval y = .agg v) (t : TypeId) (cs cs' : Array Value) (hg : Bk w g t cs)
    (hi : (P.info? ty).map (·.size) = some v.size) (hl : off + v.size ≤ cs.size) (h1 : v.all (·.oneCell') = true) (hc : cs' = putPart cs off v)
    (h : ∀ w', Bk w' g t cs' → w.grownBy w' (some g) → w'.heap.size = w.heap.size → K (a.put o.dst undef) w') : o.wp P a w K Q := by
  have hst := run_storeCells_at P g off t v.toList 0 cs w hg (by simpa using hl) (fun u hu => (Array.all_eq_true_iff_forall_mem.1 h1) u (by simpa using hu))
  have hsv : (storeVar ty ⟨g, off, none⟩ (.agg v)).run P w = .ok () (w.setRow g (putPart cs off v)) := by
    cases hq : P.info? ty with
    | none => simp [hq] at hi
    | some i =>
      have hs : v.size = i.size := by simp [hq] at hi; omega
      simp only [Nat.add_zero, Array.length_toList] at hst
      simp [storeVar, sizeOf, typeInfo, hq, Value.cells, hs]
      rw [hst]; simp [putPart, hs]
  unfold Oper.wp execOp
  simp only [ho, hx, hy, Instr.storeAt, Instr.sureAddr, Sem.run_bind, Sem.run_pure, Result.andThen_ok, hsv]
  refine h _ ?_ ⟨rfl, rfl, rfl, by simp, fun i hi hne => ?_⟩ (by simp)
  · rw [hc]; exact setRow_heap w g cs _ t _ hg
  · exact setRow_other w g i _ (fun e => hne (by rw [e]))
theorem store_bk {ops : Array Oper} {rest : List Oper} {o : Oper} {a : Act} {w : World} {Q : Exit → Act → World → Prop} (hw : Region.wanted o (yielded ops a.tmps) = true) (ty : TypeId) (x y : Operand) (ho : o.op = .store ty x y)
    (g off : Nat) (v : Array Value) (hx : a.eval x = .pointer (some ⟨g, off, none⟩)) (hy : a.eval y = .agg v) (t : TypeId) (cs cs' : Array Value) (hg : Bk w g t cs)
    (hi : (P.info? ty).map (·.size) = some v.size) (hl : off + v.size ≤ cs.size) (h1 : v.all (·.oneCell') = true) (hc : cs' = putPart cs off v)
    (h : ∀ w', Bk w' g t cs' → w.grownBy w' (some g) → w'.heap.size = w.heap.size → wpList P ops Q rest (a.put o.dst undef) w') : wpList P ops Q (o :: rest) a w :=
  BigFrame.wpList_want hw fun _ hK => store_bk_op ty x y ho g off v hx hy t cs cs' hg hi hl h1 hc (fun w' h1 h2 h3 => hK _ _ (h w' h1 h2 h3))

/-- Results that are handed back out of a cell: the struct, and one or two slots beside it. -/
theorem loadVar_bk {w : World} {g : Nat} {t ty : TypeId} {cs : Array Value} {d : TypeDesc} (hg : Bk w g t cs) (hu : P.underlying ty = some d) (hd : d.isRow = true) (hi : (P.info? ty).map (·.size) = some cs.size) :
    (loadVar ty ⟨g, 0, none⟩).run P w = .ok (.agg cs) w := by
  have := run_loadVar_mid (P := P) w g 0 ty cs.toList d (hg.range (Part.whole cs)) hu hd (by simpa using hi)
  simpa using this
theorem results_bk2 {fn : Func} {p q : Tmp} {ty : TypeId} (h : fn.results = #[.cell p ty, .tmp q]) (tmps : Array Value) (w : World) (g : Nat) (t : TypeId) (cs : Array Value) (d : TypeDesc) (v : Value)
    (hp : tmps.getD p undef = .pointer (some ⟨g, 0, none⟩)) (hq : tmps.getD q undef = v) (hg : Bk w g t cs) (hu : P.underlying ty = some d) (hd : d.isRow = true) (hi : (P.info? ty).map (·.size) = some cs.size) :
    (results fn tmps).run P w = .ok (.tuple #[.agg cs, v]) w := by
  have hp' : tmps[p]?.getD undef = .pointer (some ⟨g, 0, none⟩) := by simpa using hp
  have hq' : tmps[q]?.getD undef = v := by simpa using hq
  simp [results, h, hp', hq', asAddr, loadVar_bk hg hu hd hi]
theorem results_bk3 {fn : Func} {p q r : Tmp} {ty : TypeId} (h : fn.results = #[.cell p ty, .tmp q, .tmp r]) (tmps : Array Value) (w : World) (g : Nat) (t : TypeId) (cs : Array Value) (d : TypeDesc) (v u : Value)
    (hp : tmps.getD p undef = .pointer (some ⟨g, 0, none⟩)) (hq : tmps.getD q undef = v) (hr : tmps.getD r undef = u) (hg : Bk w g t cs) (hu : P.underlying ty = some d) (hd : d.isRow = true) (hi : (P.info? ty).map (·.size) = some cs.size) :
    (results fn tmps).run P w = .ok (.tuple #[.agg cs, v, u]) w := by
  have hp' : tmps[p]?.getD undef = .pointer (some ⟨g, 0, none⟩) := by simpa using hp
  have hq' : tmps[q]?.getD undef = v := by simpa using hq
  have hr' : tmps[r]?.getD undef = u := by simpa using hr
  simp [results, h, hp', hq', hr', asAddr, loadVar_bk hg hu hd hi]
end
theorem Bk.drewB {w : World} {g : Nat} {t : TypeId} {cs : Array Value} (h : Bk w g t cs) : Bk w.drew g t cs := h
/-- What holds of a world that grew but for one newer block. -/
theorem grown_below {w w1 w2 : World} {g : Nat} (h : Below w.heap.size w w1) (hg : w1.grownBy w2 (some g)) (hB : w.heap.size ≤ g) : Below w.heap.size w w2 := h.trans (grownBy_below hg h.size (by intro k e; cases e; exact hB))
end Go.Proofs.Ytehkdaknhgmdkaa
