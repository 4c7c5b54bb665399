/- A block that is known whole (Bk): what stays of it and what turns; whole structs out of it and into it, at any offset, whatever the number of cells: loads, stores, what may be taken first, results that are handed back out of a cell. No condition; it serves any seat. · Slices whose elements are of k cells each, whatever they hold: a slice that reads as such elements, a row of such elements that the call owns, append, and loads of whole structs out of a range. No condition; it serves any seat. -/
import Derived.Test.YtjgojgmgicpgaaaGreatChecked
import Derived.WalkKit
import Derived.WalkSpells
import Derived.Handy
import Derived.Below
import Derived.Laws.Rows
import Derived.Laws.CopyRow
import Derived.Deep.MidRow
import Derived.Deep.RegionHeld3
import Derived.Deep.DrawnRows
import Derived.BigFrame
import Derived.Lib.Hide
import Derived.Laws.OwnMore
import Derived.Laws.AppendOwn
import Derived.OwnWalk
namespace Go.Proofs.YtjgojgmgicpgaaaGreat
open Go.RowKit
set_option linter.unusedSimpArgs false
set_option linter.unusedVariables false

/-- The block g is just these cells. -/
def Bk (w : World) (g : Nat) (t : TypeId) (cs : Array Value) : Prop := w.heap[g]? = some (.cells cs t (0, 0))
section
variable {w w' : World} {g : Nat} {t : TypeId} {cs : Array Value}
theorem Bk.here (h : Bk w g t cs) : g < w.heap.size := by
  by_cases hg : g < w.heap.size
  · exact hg
  · have e : w.heap[g]? = none := by rw [Array.getElem?_eq_none_iff]; omega
    unfold Bk at h; rw [e] at h; cases h
theorem Bk.cellAt (h : Bk w g t cs) (i : Nat) : w.cell? ⟨g, i, none⟩ = cs[i]? := cell_of_row w g i cs t (0, 0) h
theorem Bk.free (h : Bk w g t cs) (i : Nat) : w.frozen? ⟨g, i, none⟩ = false := by
  unfold Bk at h; simp [World.frozen?, h]
theorem Bk.put (h : Bk w g t cs) (i : Nat) (u : Value) : Bk (w.setCell ⟨g, i, none⟩ u) g t (cs.setIfInBounds i u) := heap_setCell_same w g i cs t u h
theorem Bk.later (h : Bk w g t cs) (hb : Below w.heap.size w w') : Bk w' g t cs := (hb.block g h.here).trans h
theorem Bk.stays (h : Bk w g t cs) {row : Option Nat} (hb : w.grownBy w' row) (hg : some g ≠ row) : Bk w' g t cs := (hb.block g h.here hg).trans h
theorem Bk.fresh (w : World) (t : TypeId) (cs : Array Value) : Bk (w.alloc (.cells cs t)) w.heap.size t cs := heap_alloc_new w _
theorem Bk.other (h : Bk w g t cs) {p : Addr} (hp : g ≠ p.block) (u : Value) : Bk (w.setCell p u) g t cs := (Below.heap_setCell w p u g hp).trans h
end
theorem grown_set {a w : World} {g i : Nat} (h : a.grownBy w (some g)) (u : Value) : a.grownBy (w.setCell ⟨g, i, none⟩ u) (some g) :=
  ⟨h.os, h.tape, h.output, by simpa using h.size, fun k hk hne => (Below.heap_setCell w ⟨g, i, none⟩ u k (fun e => hne (by rw [e]))).trans (h.block k hk hne)⟩

theorem grown_alloc {a w : World} {row : Option Nat} (h : a.grownBy w row) (o : Obj) : a.grownBy (w.alloc o) row :=
  ⟨h.os, h.tape, h.output, Nat.le_trans h.size (by simp), fun k hk hne => (Below.heap_alloc w o k (Nat.lt_of_lt_of_le hk h.size)).trans (h.block k hk hne)⟩
theorem grown_above {a w : World} {row : Option Nat} (h : a.grownBy w row) {p : Addr} (hp : a.heap.size ≤ p.block) (u : Value) : a.grownBy (w.setCell p u) row :=
  ⟨h.os, h.tape, h.output, by simpa using h.size, fun k hk hne => (Below.heap_setCell w p u k (by omega)).trans (h.block k hk hne)⟩
theorem grown_row {a w w' : World} {R : Option Nat} {row : Option Nat} (h : a.grownBy w R) (hg : w.grownBy w' row) (hrow : ∀ k, row = some k → a.heap.size ≤ k) : a.grownBy w' R :=
  ⟨hg.os.trans h.os, hg.tape.trans h.tape, hg.output.trans h.output, Nat.le_trans h.size hg.size, fun k hk hne =>
    (hg.block k (Nat.lt_of_lt_of_le hk h.size) (fun e => by have := hrow k e.symm; omega)).trans (h.block k hk hne)⟩
theorem Bk.freshAt (w : World) {g : Nat} (t : TypeId) (cs : Array Value) (h : g = w.heap.size) : Bk (w.alloc (.cells cs t)) g t cs := h ▸ Bk.fresh w t cs
theorem Bk.drewB {w : World} {g : Nat} {t : TypeId} {cs : Array Value} (h : Bk w g t cs) : Bk w.drew g t cs := h

section
variable {P : Program}
/-- A part of a block's cells. -/
def Part (cs : Array Value) (o : Nat) (ps : Array Value) : Prop := ∀ j v, ps[j]? = some v → cs[o + j]? = some v
theorem Part.whole (cs : Array Value) : Part cs 0 cs := fun j v h => by rw [Nat.zero_add]; exact h
theorem Part.of {cs : Array Value} {o : Nat} {ps : Array Value} (h : (cs.toList.drop o).take ps.size = ps.toList) : Part cs o ps := fun j v hv => by
  have h1 : ps.toList[j]? = some v := by simpa using hv
  rw [← h, List.getElem?_take] at h1
  split at h1
  · rw [List.getElem?_drop] at h1; simpa using h1
  · cases h1
theorem Bk.range {w : World} {g o : Nat} {t : TypeId} {cs ps : Array Value} (h : Bk w g t cs) (hp : Part cs o ps) : w.rangeAt g o ps.toList := fun j v hv => by
  rw [h.cellAt]; exact hp j v (by simpa using hv)
theorem load_bk {ops : Array Oper} {rest : List Oper} {o : Oper} {a : Act} {w : World} {Q : Exit → Act → World → Prop} (hw : Region.wanted o (yielded ops a.tmps) = true) (ty : TypeId) (x : Operand) (ho : o.op = .load ty x)
    (g off : Nat) (hx : a.eval x = .pointer (some ⟨g, off, none⟩)) (t : TypeId) (cs ps : Array Value) (d : TypeDesc) (hg : Bk w g t cs) (hp : Part cs off ps)
    (hu : P.underlying ty = some d) (hd : d.isRow = true) (hi : (P.info? ty).map (·.size) = some ps.size)
    (h : wpList P ops Q rest (a.put o.dst (.agg ps)) w) : wpList P ops Q (o :: rest) a w :=
  BigFrame.wpList_want hw fun _ hK => wp_load_mid ty x ho g off hx ps.toList d (hg.range hp) hu hd (by simpa using hi) (hK _ _ (by simpa using h))

theorem yields_bk {ops : Array Oper} {S : World → Prop} {op : Oper} {a : Act} (hw : Region.wanted op (yielded ops a.tmps) = true) (ty : TypeId) (x : Operand) (ho : op.op = .load ty x)
    (g off : Nat) (hx : a.eval x = .pointer (some ⟨g, off, none⟩)) (t : TypeId) (cs ps : Array Value) (d : TypeDesc) (hS : ∀ w, S w → Bk w g t cs) (hp : Part cs off ps)
    (hu : P.underlying ty = some d) (hd : d.isRow = true) (hi : (P.info? ty).map (·.size) = some ps.size) : YieldsIf P ops S op (.agg ps) a := by
  have := yieldsIf_load_mid (P := P) (ops := ops) (S := S) (op := op) (a := a) hw ty x ho g off hx ps.toList d (fun w hw' => (hS w hw').range hp) hu hd (by simpa using hi)
  simpa using this

/-- What stands in a block behind a store of a part. -/
def putPart (cs : Array Value) (o : Nat) (v : Array Value) : Array Value := (cs.toList.take o ++ v.toList ++ cs.toList.drop (o + v.size)).toArray
theorem store_bk_op {o : Oper} {a : Act} {w : World} {K : Act → World → Prop} {Q : Exit → Act → World → Prop} (ty : TypeId) (x y : Operand) (ho : o.op = .store ty x y)
    (g off : Nat) (v : Array Value) (hx : a.eval x = .pointer (some ⟨g, off, none⟩)) (hy : a.eval y = .agg v) (t : TypeId) (cs cs' : Array Value) (hg : Bk w g t cs)
    (hi : (P.info? ty).map (·.size) = some v.size) (hl : off + v.size ≤ cs.size) (h1 : v.all (·.oneCell') = true) (hc : cs' = putPart cs off v)
    (h : ∀ w', Bk w' g t cs' → w.grownBy w' (some g) → w'.heap.size = w.heap.size → K (a.put o.dst undef) w') : o.wp P a w K Q := by
  have hst := run_storeCells_at P g off t v.toList 0 cs w hg (by simpa using hl) (fun u hu => (Array.all_eq_true_iff_forall_mem.1 h1) u (by simpa using hu))
  have hsv : (storeVar ty ⟨g, off, none⟩ (.agg v)).run P w = .ok () (w.setRow g (putPart cs off v)) := by
    cases hq : P.info? ty with
    | none => simp [hq] at hi
    | some i =>
      have hs : v.size = i.size := by simp [hq] at hi; omega
      simp only [Nat.add_zero, Array.length_toList] at hst
      simp [storeVar, sizeOf, typeInfo, hq, Value.cells, hs]
      rw [hst]; simp [putPart, hs]
  unfold Oper.wp execOp
  simp only [ho, hx, hy, Instr.storeAt, Instr.sureAddr, Sem.run_bind, Sem.run_pure, Result.andThen_ok, hsv]
  refine h _ ?_ ⟨rfl, rfl, rfl, by simp, fun i hi hne => ?_⟩ (by simp)
  · rw [hc]; exact setRow_heap w g cs _ t _ hg
  · exact setRow_other w g i _ (fun e => hne (by rw [e]))
theorem store_bk {ops : Array Oper} {rest : List Oper} {o : Oper} {a : Act} {w : World} {Q : Exit → Act → World → Prop} (hw : Region.wanted o (yielded ops a.tmps) = true) (ty : TypeId) (x y : Operand) (ho : o.op = .store ty x y)
    (g off : Nat) (v : Array Value) (hx : a.eval x = .pointer (some ⟨g, off, none⟩)) (hy : a.eval y = .agg v) (t : TypeId) (cs cs' : Array Value) (hg : Bk w g t cs)
    (hi : (P.info? ty).map (·.size) = some v.size) (hl : off + v.size ≤ cs.size) (h1 : v.all (·.oneCell') = true) (hc : cs' = putPart cs off v)
    (h : ∀ w', Bk w' g t cs' → w.grownBy w' (some g) → w'.heap.size = w.heap.size → wpList P ops Q rest (a.put o.dst undef) w') : wpList P ops Q (o :: rest) a w :=
  BigFrame.wpList_want hw fun _ hK => store_bk_op ty x y ho g off v hx hy t cs cs' hg hi hl h1 hc (fun w' h1 h2 h3 => hK _ _ (h w' h1 h2 h3))

/-- Results that are handed back out of a cell: the struct, and one or two slots beside it. -/
theorem loadVar_bk {w : World} {g : Nat} {t ty : TypeId} {cs : Array Value} {d : TypeDesc} (hg : Bk w g t cs) (hu : P.underlying ty = some d) (hd : d.isRow = true) (hi : (P.info? ty).map (·.size) = some cs.size) :
    (loadVar ty ⟨g, 0, none⟩).run P w = .ok (.agg cs) w := by
  have := run_loadVar_mid (P := P) w g 0 ty cs.toList d (hg.range (Part.whole cs)) hu hd (by simpa using hi)
  simpa using this
theorem results_bk2 {fn : Func} {p q : Tmp} {ty : TypeId} (h : fn.results = #[.cell p ty, .tmp q]) (tmps : Array Value) (w : World) (g : Nat) (t : TypeId) (cs : Array Value) (d : TypeDesc) (v : Value)
    (hp : tmps.getD p undef = .pointer (some ⟨g, 0, none⟩)) (hq : tmps.getD q undef = v) (hg : Bk w g t cs) (hu : P.underlying ty = some d) (hd : d.isRow = true) (hi : (P.info? ty).map (·.size) = some cs.size) :
    (results fn tmps).run P w = .ok (.tuple #[.agg cs, v]) w := by
  have hp' : tmps[p]?.getD undef = .pointer (some ⟨g, 0, none⟩) := by simpa using hp
  have hq' : tmps[q]?.getD undef = v := by simpa using hq
  simp [results, h, hp', hq', asAddr, loadVar_bk hg hu hd hi]
theorem results_bk3 {fn : Func} {p q r : Tmp} {ty : TypeId} (h : fn.results = #[.cell p ty, .tmp q, .tmp r]) (tmps : Array Value) (w : World) (g : Nat) (t : TypeId) (cs : Array Value) (d : TypeDesc) (v u : Value)
    (hp : tmps.getD p undef = .pointer (some ⟨g, 0, none⟩)) (hq : tmps.getD q undef = v) (hr : tmps.getD r undef = u) (hg : Bk w g t cs) (hu : P.underlying ty = some d) (hd : d.isRow = true) (hi : (P.info? ty).map (·.size) = some cs.size) :
    (results fn tmps).run P w = .ok (.tuple #[.agg cs, v, u]) w := by
  have hp' : tmps[p]?.getD undef = .pointer (some ⟨g, 0, none⟩) := by simpa using hp
  have hq' : tmps[q]?.getD undef = v := by simpa using hq
  have hr' : tmps[r]?.getD undef = u := by simpa using hr
  simp [results, h, hp', hq', hr', asAddr, loadVar_bk hg hu hd hi]
end
/-- What holds of a world that grew but for one newer block. -/
theorem grown_base {w w' : World} {row : Option Nat} {B : Nat} (hg : w.grownBy w' row) (hB : B ≤ w.heap.size) (hr : ∀ k, row = some k → B ≤ k) : Below B w w' := (Below.refl _ _).grown hg hB hr
theorem grown_below {w w1 w2 : World} {g : Nat} (h : Below w.heap.size w w1) (hg : w1.grownBy w2 (some g)) (hB : w.heap.size ≤ g) : Below w.heap.size w w2 := h.trans (grown_base hg h.size (by intro k e; cases e; exact hB))
end Go.Proofs.YtjgojgmgicpgaaaGreat

namespace Go.Proofs.YtjgojgmgicpgaaaGreat
open Go.RowKit
set_option linter.unusedSimpArgs false
set_option linter.unusedVariables false

theorem range_keep {w w' : World} {g o : Nat} {cs : List Value} (h : w.rangeAt g o cs) (hb : Below w.heap.size w w') : w'.rangeAt g o cs := fun j v hv =>
  (hb.cell (p := ⟨g, o + j, none⟩) (World.block_lt_of_cell? w _ (h j v hv))).trans (h j v hv)
theorem range_lt {w : World} {g o : Nat} {cs : List Value} (h : w.rangeAt g o cs) (hn : 0 < cs.length) : g < w.heap.size := World.block_lt_of_cell? w _ (h 0 cs[0] (List.getElem?_eq_getElem hn))
theorem range_part {w : World} {g o : Nat} {cs : List Value} (h : w.rangeAt g o cs) (a b : Nat) : w.rangeAt g (o + a) ((cs.drop a).take b) := fun j v hv => by
  rw [List.getElem?_take] at hv
  split at hv
  · rw [List.getElem?_drop] at hv
    rw [Nat.add_assoc]; exact h _ _ hv
  · cases hv
theorem range_at {w : World} {g o : Nat} {cs : List Value} (h : w.rangeAt g o cs) (i : Nat) (v : Value) (hv : cs[i]? = some v) : w.cell? ⟨g, o + i, none⟩ = some v := h i v hv

section
variable {P : Program}
/-- A whole struct out of a range. -/
theorem load_rg {ops : Array Oper} {rest : List Oper} {o : Oper} {a : Act} {w : World} {Q : Exit → Act → World → Prop} (hw : Region.wanted o (yielded ops a.tmps) = true) (ty : TypeId) (x : Operand) (ho : o.op = .load ty x)
    (g off : Nat) (hx : a.eval x = .pointer (some ⟨g, off, none⟩)) (ps : Array Value) (d : TypeDesc) (hr : w.rangeAt g off ps.toList)
    (hu : P.underlying ty = some d) (hd : d.isRow = true) (hi : (P.info? ty).map (·.size) = some ps.size)
    (h : wpList P ops Q rest (a.put o.dst (.agg ps)) w) : wpList P ops Q (o :: rest) a w :=
  BigFrame.wpList_want hw fun _ hK => wp_load_mid ty x ho g off hx ps.toList d hr hu hd (by simpa using hi) (hK _ _ (by simpa using h))
theorem yields_rg {ops : Array Oper} {S : World → Prop} {op : Oper} {a : Act} (hw : Region.wanted op (yielded ops a.tmps) = true) (ty : TypeId) (x : Operand) (ho : op.op = .load ty x)
    (g off : Nat) (hx : a.eval x = .pointer (some ⟨g, off, none⟩)) (ps : Array Value) (d : TypeDesc) (hS : ∀ w, S w → w.rangeAt g off ps.toList)
    (hu : P.underlying ty = some d) (hd : d.isRow = true) (hi : (P.info? ty).map (·.size) = some ps.size) : YieldsIf P ops S op (.agg ps) a := by
  have := yieldsIf_load_mid (P := P) (ops := ops) (S := S) (op := op) (a := a) hw ty x ho g off hx ps.toList d hS hu hd (by simpa using hi)
  simpa using this
theorem load_rg_op {o : Oper} {a : Act} {w : World} {K : Act → World → Prop} {Q : Exit → Act → World → Prop} (ty : TypeId) (x : Operand) (ho : o.op = .load ty x)
    (g off : Nat) (hx : a.eval x = .pointer (some ⟨g, off, none⟩)) (ps : Array Value) (d : TypeDesc) (hr : w.rangeAt g off ps.toList)
    (hu : P.underlying ty = some d) (hd : d.isRow = true) (hi : (P.info? ty).map (·.size) = some ps.size)
    (h : K (a.put o.dst (.agg ps)) w) : o.wp P a w K Q :=
  wp_load_mid ty x ho g off hx ps.toList d hr hu hd (by simpa using hi) (by simpa using h)
end

/-- A slice at this address reads as these elements, of k cells each. -/
def RdK (w : World) (k : Nat) (A : Option Addr) (l : List (List Value)) : Prop :=
  ∀ i x, l[i]? = some x → ∃ g o, A = some ⟨g, o, none⟩ ∧ w.rangeAt g (o + i * k) x
section
variable {w w' : World} {k : Nat} {A : Option Addr} {l : List (List Value)}
theorem RdK.nil (w : World) (k : Nat) (A : Option Addr) : RdK w k A [] := by intro i b h; simp at h
theorem RdK.later (h : RdK w k A l) (hb : Below w.heap.size w w') : RdK w' k A l := fun i x hx => by
  obtain ⟨g, o, ha, hr⟩ := h i x hx
  exact ⟨g, o, ha, range_keep hr hb⟩
theorem RdK.at (h : RdK w k A l) {i : Nat} (hi : i < l.length) : ∃ g o, A = some ⟨g, o, none⟩ ∧ w.rangeAt g (o + i * k) l[i] := h i l[i] (List.getElem?_eq_getElem hi)
theorem RdK.take (h : RdK w k A l) (n : Nat) : RdK w k A (l.take n) := fun i x hx => by
  rw [List.getElem?_take] at hx
  split at hx
  · exact h i x hx
  · cases hx
end

/-! ### The cells of such elements, one behind the other -/
theorem flat_length {k : Nat} : ∀ {l : List (List Value)}, (∀ x ∈ l, x.length = k) → l.flatten.length = l.length * k
  | [], _ => by simp
  | x :: l, h => by
    rw [List.flatten_cons, List.length_append, flat_length (fun y hy => h y (by simp [hy])), h x (by simp), List.length_cons, Nat.add_mul]; omega
theorem flat_get {k : Nat} : ∀ {l : List (List Value)}, (∀ x ∈ l, x.length = k) → ∀ {i : Nat} {x : List Value}, l[i]? = some x → ∀ {j : Nat} {v : Value}, x[j]? = some v → l.flatten[i * k + j]? = some v
  | [], _, i, x, h, j, v, hv => by simp at h
  | y :: l, hk, 0, x, h, j, v, hv => by
    simp at h; subst h
    rw [List.flatten_cons, Nat.zero_mul, Nat.zero_add, List.getElem?_append_left (List.getElem?_eq_some_iff.1 hv).1]; exact hv
  | y :: l, hk, i + 1, x, h, j, v, hv => by
    rw [List.getElem?_cons_succ] at h
    have hy : y.length = k := hk y (by simp)
    have := flat_get (fun z hz => hk z (by simp [hz])) h hv
    rw [List.flatten_cons, List.getElem?_append_right (by rw [hy, Nat.add_mul]; omega), hy, show (i + 1) * k + j - k = i * k + j by rw [Nat.add_mul]; omega]
    exact this
theorem flat_inv {k : Nat} : ∀ {l : List (List Value)}, (∀ x ∈ l, x.length = k) → ∀ {m : Nat} {u : Value}, l.flatten[m]? = some u → ∃ i x j, l[i]? = some x ∧ x[j]? = some u ∧ m = i * k + j
  | [], _, m, u, h => by simp at h
  | y :: l, hk, m, u, h => by
    have hy : y.length = k := hk y (by simp)
    rw [List.flatten_cons] at h
    by_cases hm : m < y.length
    · rw [List.getElem?_append_left hm] at h
      exact ⟨0, y, m, rfl, h, by omega⟩
    · rw [List.getElem?_append_right (by omega)] at h
      obtain ⟨i, x, j, h1, h2, h3⟩ := flat_inv (fun z hz => hk z (by simp [hz])) h
      refine ⟨i + 1, x, j, by rw [List.getElem?_cons_succ]; exact h1, h2, ?_⟩
      rw [Nat.add_mul]; omega
theorem RdK.cells {w : World} {k : Nat} {a : Addr} {l : List (List Value)} (h : RdK w k (some a) l) (hk : ∀ x ∈ l, x.length = k) : ∀ j u, l.flatten[j]? = some u → w.cell? (a.add j) = some u := by
  intro m u hu
  obtain ⟨i, x, j, h1, h2, h3⟩ := flat_inv hk hu
  obtain ⟨g, o, ha, hr⟩ := h i x h1
  injection ha with ha; subst ha
  rw [Addr.add_lit, h3, ← Nat.add_assoc]
  exact hr j u h2

/-- A row of such elements that the call owns. -/
def OwnK (w : World) (base : Nat) (e : TypeId) (k : Nat) (v : Value) (l : List (List Value)) : Prop := (∀ x ∈ l, x.length = k) ∧ w.ownsRow base e k v l.length l.flatten
/-- What a slice that the call owns reads as. -/
structure SlK (w : World) (base k : Nat) (v : Value) (l : List (List Value)) (A : Option Addr) (c : Nat) : Prop where
  val : v = .slice A l.length c
  rd : RdK w k A l
  cap : l.length ≤ c
  cap2 : c ≤ maxLen
  new : ∀ g o p, A = some ⟨g, o, p⟩ → base ≤ g ∧ g < w.heap.size
section
variable {w w' : World} {b0 b' k : Nat} {e : TypeId} {v : Value} {l : List (List Value)}
theorem OwnK.sl (h : OwnK w b0 e k v l) : ∃ A c, SlK w b0 k v l A c := by
  obtain ⟨hk, h⟩ := h
  have h' := h
  rcases h.2 with ⟨hv, h0⟩ | ⟨g, cap, cur, hv, hb, hg, hn, hm, _, _⟩
  · rw [List.length_eq_zero_iff] at h0
    subst h0
    exact ⟨none, 0, hv, RdK.nil _ _ _, Nat.le_refl _, by simp [maxLen], fun g o p e => by cases e⟩
  · refine ⟨some ⟨g, 0, none⟩, cap, hv, fun i x hx => ⟨g, 0, rfl, fun j u hu => ?_⟩, hn, hm, fun g' o p e => ?_⟩
    · have := World.ownsRow.cells h' (g := g) (by rw [hv]; rfl) _ _ (flat_get hk hx hu)
      rw [Addr.add_lit] at this
      rw [Nat.zero_add] at this ⊢
      exact this
    · injection e with e; injection e with e1 e2; subst e1
      exact World.ownsRow.lt h' g (by rw [hv]; rfl)
theorem OwnK.below (h : OwnK w b0 e k v l) (hb : Below w.heap.size w w') : OwnK w' b0 e k v l :=
  ⟨h.1, World.ownsRow.kept (row := none) h.2 ⟨hb.os, hb.tape, hb.output, hb.size, fun k hk _ => hb.block k hk⟩ (by
    rcases h.2.2 with ⟨hv, _⟩ | ⟨g, cap, cur, hv, _⟩ <;> rw [hv] <;> simp [Value.ownBlock])⟩
theorem OwnK.base (h : OwnK w b0 e k v l) (hb : b' ≤ b0) : OwnK w b' e k v l :=
  ⟨h.1, h.2.1, h.2.2.imp id fun ⟨g, cap, cur, a, hg, c⟩ => ⟨g, cap, cur, a, Nat.le_trans hb hg, c⟩⟩
theorem OwnK.nil (w : World) (base : Nat) (e : TypeId) (k : Nat) : OwnK w base e k (.slice none 0 0) [] := ⟨by simp, by simp [World.ownsRow]⟩
theorem OwnK.block (h : OwnK w b0 e k v l) : ∀ g, v.ownBlock = some g → b0 ≤ g := fun g hg => (World.ownsRow.lt h.2 g hg).1
theorem OwnK.alloc (h : OwnK w b0 e k v l) (o : Obj) : OwnK (w.alloc o) b0 e k v l := ⟨h.1, World.ownsRow.alloc h.2 o⟩
end
theorem info_partsK {P : Program} {e : TypeId} {z : Value} {s b : Nat} (h : (P.info? e).map (fun i => (i.zero, i.size, i.bytes)) = some (some z, s, b)) : ∃ i, P.info? e = some i ∧ i.zero = some z ∧ i.size = s ∧ i.bytes = b := by
  cases hi : P.info? e with
  | none => rw [hi] at h; cases h
  | some i =>
    rw [hi] at h
    simp at h
    exact ⟨i, rfl, h.1, h.2.1, h.2.2⟩
/-- One element in a new block. -/
theorem fresh_k (w : World) (k : Nat) (cs : List Value) (t : TypeId) {g : Nat} (hg : g = w.heap.size) : RdK (w.alloc (.cells cs.toArray t)) k (some ⟨g, 0, none⟩) [cs] := by
  subst hg
  intro i x hx
  match i, hx with
  | 0, hx =>
    simp at hx; subst hx
    refine ⟨_, _, rfl, fun j v hv => ?_⟩
    have h := (Bk.fresh w t cs.toArray).cellAt j
    simp only [List.getElem?_toArray] at h
    simp only [Nat.zero_mul, Nat.zero_add]
    exact h.trans hv
  | i + 1, hx => simp at hx

section
variable {P : Program}
/-- Elements that read anywhere are put behind a row that the call owns. -/
theorem append_k_op (w : World) {o : Oper} {a : Act} {K : Act → World → Prop} {Q : Exit → Act → World → Prop}
    (s x : Operand) (t : TypeId) (hop : o.op = Op.call { callee := Callee.builtin Builtin.append, args := #[s, x], argTypes := #[t, t] })
    (base : Nat) (e : TypeId) (z : Value) (k b : Nat) (h1 : P.underlying t = some (.slice e)) (h2 : (P.info? e).map (fun i => (i.zero, i.size, i.bytes)) = some (some z, k, b)) (hz : z.cells.size = k) (hk : 0 < k)
    (v : Value) (l : List (List Value)) (hs : a.eval s = v) (hown : OwnK w base e k v l) (ad : Addr) (c m : Nat) (news : List (List Value))
    (hx : a.eval x = .slice (some ad) m c) (hr : RdK w k (some ad) news) (hn : ∀ y ∈ news, y.length = k) (hone : ∀ y ∈ news, ∀ u ∈ y, u.oneCell' = true) (hm : m = news.length)
    (b0 : l.length + news.length ≤ maxLen) (b1 : (l.length + news.length) * b ≤ 140737488355328) (hbase : base ≤ w.heap.size)
    (hK : ∀ v' w', OwnK w' base e k v' (l ++ news) → w.grownBy w' v.ownBlock → K (a.put o.dst v') w') : o.wp P a w K Q := by
  subst hm
  obtain ⟨i, hi, hiz, his, hib⟩ := info_partsK h2
  obtain ⟨v', w', hrun, r1, r2, r3⟩ := run_append_own (P := P) w base t o.type e i z k b h1 hi hiz his hib hz hk v l.length l.flatten hown.2 ad news.length c news.flatten (flat_length hn) (hr.cells hn)
    (fun u hu => by obtain ⟨y, hy, hu'⟩ := List.mem_flatten.1 hu; exact hone y hy u hu') b0 b1 hbase
  unfold Oper.wp
  simp [execOp, hop, resolve, invoke, builtin, hs, hx, hrun, Result.andThen]
  exact hK v' w' ⟨fun y hy => (List.mem_append.1 hy).elim (hown.1 y) (hn y), by rw [List.length_append, List.flatten_append]; exact r1⟩ r2
theorem append_k {ops : Array Oper} {rest : List Oper} (w : World) {o : Oper} {a : Act} {Q : Exit → Act → World → Prop} (hw : Region.wanted o (yielded ops a.tmps) = true)
    (s x : Operand) (t : TypeId) (hop : o.op = Op.call { callee := Callee.builtin Builtin.append, args := #[s, x], argTypes := #[t, t] })
    (base : Nat) (e : TypeId) (z : Value) (k b : Nat) (h1 : P.underlying t = some (.slice e)) (h2 : (P.info? e).map (fun i => (i.zero, i.size, i.bytes)) = some (some z, k, b)) (hz : z.cells.size = k) (hk : 0 < k)
    (v : Value) (l : List (List Value)) (hs : a.eval s = v) (hown : OwnK w base e k v l) (ad : Addr) (c m : Nat) (news : List (List Value))
    (hx : a.eval x = .slice (some ad) m c) (hr : RdK w k (some ad) news) (hn : ∀ y ∈ news, y.length = k) (hone : ∀ y ∈ news, ∀ u ∈ y, u.oneCell' = true) (hm : m = news.length)
    (b0 : l.length + news.length ≤ maxLen) (b1 : (l.length + news.length) * b ≤ 140737488355328) (hbase : base ≤ w.heap.size)
    (hK : ∀ v' w', OwnK w' base e k v' (l ++ news) → w.grownBy w' v.ownBlock → wpList P ops Q rest (a.put o.dst v') w') : wpList P ops Q (o :: rest) a w :=
  BigFrame.wpList_want hw fun K hKK => append_k_op w s x t hop base e z k b h1 h2 hz hk v l hs hown ad c m news hx hr hn hone hm b0 b1 hbase (fun v' w' h1 h2 => hKK _ _ (hK v' w' h1 h2))
/-- Nothing is put behind a row, whatever the capacity of the nothing. -/
theorem run_void_k (w : World) (base : Nat) (t ty e : TypeId) (i : TypeInfo) (k : Nat) (ht : P.underlying t = some (.slice e)) (hi : P.info? e = some i)
    (v : Value) (l : List (List Value)) (hown : OwnK w base e k v l) (c : Nat) : (Builtin.append_ #[t, t] ty #[v, .slice none 0 c]).run P w = .ok v w := by
  rcases hown.2.2 with ⟨rfl, _⟩ | ⟨g, cap, cur, rfl, _, _, hnc, _⟩
  · simp [Builtin.append_, run_underlying ht, sizeOf, typeInfo, hi, Builtin.lenOf, Builtin.firstCells]
  · simp [Builtin.append_, run_underlying ht, sizeOf, typeInfo, hi, Builtin.lenOf, Builtin.firstCells, hnc, storeCells]
/-- The same where what is put may be nothing at all, nil among it. -/
theorem append_kn_op (w : World) {o : Oper} {a : Act} {K : Act → World → Prop} {Q : Exit → Act → World → Prop}
    (s x : Operand) (t : TypeId) (hop : o.op = Op.call { callee := Callee.builtin Builtin.append, args := #[s, x], argTypes := #[t, t] })
    (base : Nat) (e : TypeId) (z : Value) (k b : Nat) (h1 : P.underlying t = some (.slice e)) (h2 : (P.info? e).map (fun i => (i.zero, i.size, i.bytes)) = some (some z, k, b)) (hz : z.cells.size = k) (hk : 0 < k)
    (v : Value) (l : List (List Value)) (hs : a.eval s = v) (hown : OwnK w base e k v l) (A : Option Addr) (c m : Nat) (news : List (List Value))
    (hx : a.eval x = .slice A m c) (hr : RdK w k A news) (hn : ∀ y ∈ news, y.length = k) (hone : ∀ y ∈ news, ∀ u ∈ y, u.oneCell' = true) (hm : m = news.length)
    (b0 : l.length + news.length ≤ maxLen) (b1 : (l.length + news.length) * b ≤ 140737488355328) (hbase : base ≤ w.heap.size)
    (hK : ∀ v' w', OwnK w' base e k v' (l ++ news) → w.grownBy w' v.ownBlock → K (a.put o.dst v') w') : o.wp P a w K Q := by
  cases A with
  | some ad => exact append_k_op w s x t hop base e z k b h1 h2 hz hk v l hs hown ad c m news hx hr hn hone hm b0 b1 hbase hK
  | none =>
    have h0 : news = [] := by
      cases news with
      | nil => rfl
      | cons b r => obtain ⟨_, _, ha, _⟩ := hr 0 b rfl; cases ha
    subst h0
    simp at hm
    subst hm
    obtain ⟨i, hi, hiz, his, hib⟩ := info_partsK h2
    have hrun := run_void_k (P := P) w base t o.type e i k h1 hi v l hown c
    unfold Oper.wp
    simp [execOp, hop, resolve, invoke, builtin, hs, hx, hrun, Result.andThen]
    exact hK v w (by simpa using hown) ⟨rfl, rfl, rfl, Nat.le_refl _, fun _ _ _ => rfl⟩
/-- An empty row in a new block. -/
theorem OwnK.empty (w : World) (base : Nat) (e : TypeId) (k : Nat) (hb : base ≤ w.heap.size) {g : Nat} (hg : g = w.heap.size) : OwnK (w.alloc (.cells #[] e)) base e k (.slice (some ⟨g, 0, none⟩) 0 0) [] := by
  subst hg
  exact ⟨by simp, by simp, .inr ⟨w.heap.size, 0, #[], rfl, hb, Bk.fresh w e #[], Nat.le_refl _, by simp [maxLen], by simp, by simp⟩⟩
end
end Go.Proofs.YtjgojgmgicpgaaaGreat
