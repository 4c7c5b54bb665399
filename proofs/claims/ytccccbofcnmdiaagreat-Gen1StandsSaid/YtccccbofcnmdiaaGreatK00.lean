/- Lemmas that the law stands on. No condition. -/
import Derived.ArgAppend
import Derived.Below
import Derived.BigFrame
import Derived.BigQuiet
import Derived.BigRegion
import Derived.Carry
import Derived.ChangeArms
import Derived.ChangeOld
import Derived.ChangeSame
import Derived.Deep.CutBlock
import Derived.Deep.CutRange
import Derived.Deep.DeepCutAuto
import Derived.Deep.DrawnRows
import Derived.Deep.Draws
import Derived.Deep.Fields
import Derived.Deep.LoopGhost
import Derived.Deep.MidRow
import Derived.Deep.QuietTactic
import Derived.Deep.RegionHeld3
import Derived.Deep.RegionLaw
import Derived.Deep.RegionWith
import Derived.Deep.Slices
import Derived.Handy
import Derived.Laws.AppendOwn
import Derived.Laws.CopyRow
import Derived.Laws.Cover1
import Derived.Laws.IdiomArrays
import Derived.Laws.OwnMore
import Derived.Laws.Rows
import Derived.Laws.StructEq
import Derived.Lib.AppendZerosOnto
import Derived.Lib.Bytealg
import Derived.Lib.Hide
import Derived.Lib.MinMax
import Derived.Lib.Overlaps
import Derived.Lib.OwnBridge
import Derived.MapViews
import Derived.Maps.AppendAt
import Derived.Maps.Own
import Derived.OpenShut
import Derived.OwnWalk
import Derived.ProofKit
import Derived.RegionTactic
import Derived.Shelf.SlLaysF0
import Derived.Shelf.SlSortCmp.Insertion
import Derived.Shelf.SlSortCmp.Insertion1
import Derived.Shelf.SlSortCmp.KitK
import Derived.Shelf.SlSortCmp.QuietGrown
import Derived.Shelf.SlSortCmp.WholeK
import Derived.ShutString
import Derived.SizedLaws
import Derived.Sort.LotA
import Derived.Sort.Walk0
import Derived.Sort.WalkB12
import Derived.Sort.WalkB2
import Derived.Test.YtccccbofcnmdiaaGreatChecked
import Derived.Test.YtccccbofcnmdiaaGreatRows
import Derived.WalkKit
import Derived.WalkSpells
import Derived.WideShapes
namespace Go.Proofs.YtccccbofcnmdiaaGreat
set_option linter.unusedSimpArgs false
set_option linter.unusedVariables false
set_option maxRecDepth 100000
set_option maxHeartbeats 51200000
theorem tA {α : Type} (l : List α) (i : Nat) (a : α) : l.toArray.setIfInBounds i a = (l.set i a).toArray := List.setIfInBounds_toArray l i a
theorem tB {α : Type} (a : α) (l : List α) (h : 0 < (a :: l).length) : (a :: l)[0] = a := List.getElem_cons_zero a l h
theorem tC {α : Type} (a : α) (l : List α) (i : Nat) (h : i + 1 < (a :: l).length) : (a :: l)[i + 1] = l[i]'(Nat.lt_of_succ_lt_succ h) := List.getElem_cons_succ a l i h
theorem tD {α : Type} (xs : List α) (i : Nat) (h : i < xs.toArray.size) : xs.toArray[i] = xs[i] := List.getElem_toArray h
theorem tE {α : Type} (x : α) (xs : List α) (a : α) : (x :: xs).set 0 a = a :: xs := List.set_cons_zero
theorem tF {α : Type} (x : α) (xs : List α) (i : Nat) (a : α) : (x :: xs).set (i + 1) a = x :: xs.set i a := List.set_cons_succ
theorem tZ : (∀ (l : List Value) (i : Nat) (a : Value), l.toArray.setIfInBounds i a = (l.set i a).toArray) ∧ (∀ (a : Value) (l : List Value) (h : 0 < (a :: l).length), (a :: l)[0] = a) ∧ (∀ (a : Value) (l : List Value) (i : Nat) (h : i + 1 < (a :: l).length), (a :: l)[i + 1] = l[i]'(Nat.lt_of_succ_lt_succ h)) ∧ (∀ (xs : List Value) (i : Nat) (h : i < xs.toArray.size), xs.toArray[i] = xs[i]) ∧ (∀ (x : Value) (xs : List Value) (a : Value), (x :: xs).set 0 a = a :: xs) ∧ (∀ (x : Value) (xs : List Value) (i : Nat) (a : Value), (x :: xs).set (i + 1) a = x :: xs.set i a) ∧ (∀ (a : Oper) (l : List Oper) (h : 0 < (a :: l).length), (a :: l)[0] = a) ∧ (∀ (a : Oper) (l : List Oper) (i : Nat) (h : i + 1 < (a :: l).length), (a :: l)[i + 1] = l[i]'(Nat.lt_of_succ_lt_succ h)) ∧ (∀ (xs : List Oper) (i : Nat) (h : i < xs.toArray.size), xs.toArray[i] = xs[i]) ∧ (∀ (l : List Bool) (i : Nat) (a : Bool), l.toArray.setIfInBounds i a = (l.set i a).toArray) ∧ (∀ (a : Bool) (l : List Bool) (h : 0 < (a :: l).length), (a :: l)[0] = a) ∧ (∀ (a : Bool) (l : List Bool) (i : Nat) (h : i + 1 < (a :: l).length), (a :: l)[i + 1] = l[i]'(Nat.lt_of_succ_lt_succ h)) ∧ (∀ (xs : List Bool) (i : Nat) (h : i < xs.toArray.size), xs.toArray[i] = xs[i]) ∧ (∀ (x : Bool) (xs : List Bool) (a : Bool), (x :: xs).set 0 a = a :: xs) ∧ (∀ (x : Bool) (xs : List Bool) (i : Nat) (a : Bool), (x :: xs).set (i + 1) a = x :: xs.set i a) := ⟨tA, tB, tC, tD, tE, tF, tB, tC, tD, tA, tB, tC, tD, tE, tF⟩
section
open Go.RowKit
theorem bdN {B : Nat} {a w : World} (h : Below B a w) (n : Nat) : Below B a (w.drewN n) := ⟨h.os, h.tape, h.output, h.size, h.block⟩
theorem szN (w : World) (n : Nat) : (w.drewN n).heap.size = w.heap.size := rfl
theorem bel {b : Nat} {w w' : World} (h : Below b w w' := by first | ((repeat' (first | (with_reducible exact Below.refl _ _) | (with_reducible refine bdN ?_ _) | (with_reducible refine Below.drew ?_) | (with_reducible refine Below.setCell ?_ ?_ _) | (with_reducible refine Below.alloc ?_ ?_ _) | (with_reducible refine Below.trans ?_ (Below.mono hb2 ?_)) | (with_reducible refine Below.trans ?_ (Below.mono hb1 ?_)) | (with_reducible refine Below.trans ?_ (Below.mono hb ?_)) | (with_reducible refine Below.trans ?_ (Below.mono hb0 ?_)) | (with_reducible exact Nat.le_refl _) | (with_reducible assumption) | omega | (simp only [World.size_alloc, World.size_setCell, World.size_drew, szN];omega))); done) | ((repeat' (first | (with_reducible exact Below.refl _ _) | (with_reducible refine bdN ?_ _) | (with_reducible refine Below.drew ?_) | (with_reducible refine Below.setCell ?_ ?_ _) | (with_reducible refine Below.alloc ?_ ?_ _) | (with_reducible refine Below.trans ?_ (Below.mono hb ?_)) | (with_reducible exact Nat.le_refl _) | (with_reducible assumption) | omega | (simp only [World.size_alloc, World.size_setCell, World.size_drew, szN];omega))); done) | ((repeat' (first | (with_reducible exact Below.refl _ _) | (with_reducible refine bdN ?_ _) | (with_reducible refine Below.drew ?_) | (with_reducible refine Below.setCell ?_ ?_ _) | (with_reducible refine Below.alloc ?_ ?_ _) | (with_reducible exact Nat.le_refl _) | (with_reducible assumption) | omega | (simp only [World.size_alloc, World.size_setCell, World.size_drew, szN];omega))); done) | ((repeat' (first | (with_reducible exact Below.refl _ _) | (with_reducible refine bdN ?_ _) | (with_reducible refine Below.drew ?_) | (with_reducible refine Below.setCell ?_ ?_ _) | (with_reducible refine Below.alloc ?_ ?_ _) | (with_reducible refine Below.trans ?_ (Below.mono hb0 ?_)) | (with_reducible refine Below.trans ?_ (Below.mono hb1 ?_)) | (with_reducible exact Nat.le_refl _) | (with_reducible assumption) | omega | (simp only [World.size_alloc, World.size_setCell, World.size_drew, szN];omega))); done)) : Below b w w' := h
theorem wT {P : Program} {md : Region.Mode} {ops : Array Oper} {Q : Exit → Act → World → Prop} {S : World → Prop} {i : Nat} {oi : Oper} {v : Value} {fuel : Nat} {listed : Array Bool} {a : Act} {w : World} (hi : ops[i]? = some oi) (hy : YieldsIf P ops S oi v a) (hS : S w) (h : wpAnyH P md ops Q S fuel (listed.setIfInBounds i true) (a.put oi.dst v) w) (hs : Region.noSelect ops = true := by kernel_rfl) (hf : Region.free md ops listed i = true := by kernel_rfl) (hr : (Region.ready md ops listed).contains i = true := by kernel_rfl) (hQ : ∀ c a w, Q (.panic c) (a.put oi.dst v) w → Q (.panic c) a w := by exact fun _ _ _ h => h) : wpAnyH P md ops Q S (fuel + 1) listed a w := wpAnyH_take hi hs hf hr hQ hy hS h
theorem wU {P : Program} {md : Region.Mode} {ops : Array Oper} {Q : Exit → Act → World → Prop} {S : World → Prop} {i : Nat} {oi : Oper} {v : Value} {fuel : Nat} {listed : Array Bool} {a : Act} {w : World} (hi : ops[i]? = some oi) (hy : ∀ w, S w → (execOp a.eval oi).run P w = .ok (.value v) w) (hS : S w) (h : wpAnyH P md ops Q S fuel (listed.setIfInBounds i true) (a.put oi.dst v) w) (hw : Region.wanted oi (yielded ops a.tmps) = true := by rfl) (hs : Region.noSelect ops = true := by kernel_rfl) (hf : Region.free md ops listed i = true := by kernel_rfl) (hr : (Region.ready md ops listed).contains i = true := by kernel_rfl) (hQ : ∀ c a w, Q (.panic c) (a.put oi.dst v) w → Q (.panic c) a w := by exact fun _ _ _ h => h) : wpAnyH P md ops Q S (fuel + 1) listed a w := wpAnyH_take hi hs hf hr hQ (.inl ⟨hw, hy⟩) hS h
theorem cT {b : Nat} {w w' : World} {p : Addr} {v : Option Value} (hb : Below b w w') (h : w.cell? p = v := by go_cell) (h0 : p.block < b := by go_size) : w'.cell? p = v := (hb.cell h0).trans h
theorem fT {b : Nat} {w w' : World} {p : Addr} {v : Bool} (hb : Below b w w') (h : w.frozen? p = v := by first | assumption | (go_simp; done)) (h0 : p.block < b := by go_size) : w'.frozen? p = v := (hb.frozen h0).trans h
theorem sT {b n : Nat} {w w' : World} (hb : Below b w w') (h : w.heap.size ≤ w'.heap.size → n < w'.heap.size := by intro h; (try simp only [World.size_alloc, World.size_setCell, World.size_drew] at h); omega) : n < w'.heap.size := h hb.size
end
section
open Go.RowKit
def Bk (w:World) (g:Nat)(t:TypeId)(cs:Array Value):Prop:=w.heap[g]? = some (.cells cs t (0,0))
section
variable {w w':World}{g:Nat}{t:TypeId}{cs:Array Value}
theorem Bk.here (h:Bk w g t cs):g<w.heap.size:=by
 by_cases hg:g<w.heap.size
 ·exact hg
 ·have e:w.heap[g]? = none:=by rw [Array.getElem?_eq_none_iff];omega
  unfold Bk at h;rw [e] at h;cases h
theorem Bk.cellAt (h:Bk w g t cs) (i:Nat):w.cell? ⟨g,i,none⟩=cs[i]?:=cell_of_row w g i cs t (0,0) h
theorem Bk.free (h:Bk w g t cs) (i:Nat):w.frozen? ⟨g,i,none⟩=false:=by
 unfold Bk at h;simp [World.frozen?,h]
theorem Bk.put (h:Bk w g t cs) (i:Nat)(u:Value):Bk (w.setCell ⟨g,i,none⟩ u) g t (cs.setIfInBounds i u):=heap_setCell_same w g i cs t u h
theorem Bk.later (h:Bk w g t cs)(hb:Below w.heap.size w w'):Bk w' g t cs:=(hb.block g h.here).trans h
theorem Bk.stays (h:Bk w g t cs){row:Option Nat}(hb:w.grownBy w' row)(hg:some g ≠ row):Bk w' g t cs:=(hb.block g h.here hg).trans h
theorem Bk.fresh (w:World)(t:TypeId)(cs:Array Value):Bk (w.alloc (.cells cs t)) w.heap.size t cs:=heap_alloc_new w _
theorem Bk.other (h:Bk w g t cs){p:Addr}(hp:g ≠ p.block)(u:Value):Bk (w.setCell p u) g t cs:=(Below.heap_setCell w p u g hp).trans h
end
theorem Bk.freshAt (w:World){g:Nat}(t:TypeId)(cs:Array Value)(h:g=w.heap.size):Bk (w.alloc (.cells cs t)) g t cs:=h ▸ Bk.fresh w t cs
theorem Bk.drewB {w:World}{g:Nat}{t:TypeId}{cs:Array Value}(h:Bk w g t cs):Bk w.drew g t cs:=h
section
variable {P:Program}
def Part (cs:Array Value) (o:Nat)(ps:Array Value):Prop:=∀ j v,ps[j]? = some v->cs[o+j]? = some v
theorem Part.whole (cs:Array Value):Part cs 0 cs:=fun j v h=>by rw [Nat.zero_add];exact h
theorem Part.of {cs:Array Value}{o:Nat}{ps:Array Value}(h:(cs.toList.drop o).take ps.size=ps.toList):Part cs o ps:=fun j v hv=>by
 have h1:ps.toList[j]? = some v:=by simpa using hv
 rw [<- h,List.getElem?_take] at h1
 split at h1
 ·rw [List.getElem?_drop] at h1;simpa using h1
 ·cases h1
theorem Bk.range {w:World}{g o:Nat}{t:TypeId}{cs ps:Array Value}(h:Bk w g t cs)(hp:Part cs o ps):w.rangeAt g o ps.toList:=fun j v hv=>by
 rw [h.cellAt];exact hp j v (by simpa using hv)
theorem load_bk {ops:Array Oper}{rest:List Oper}{o:Oper}{a:Act}{w:World}{Q:Exit->Act->World->Prop}(hw:Region.wanted o (yielded ops a.tmps)=true)(ty:TypeId)(x:Operand)(ho:o.op = .load ty x)
  (g off:Nat)(hx:a.eval x = .pointer (some ⟨g,off,none⟩))(t:TypeId)(cs ps:Array Value)(d:TypeDesc)(hg:Bk w g t cs)(hp:Part cs off ps)
  (hu:P.underlying ty=some d)(hd:d.isRow=true)(hi:(P.info? ty).map (·.size)=some ps.size)
  (h:wpList P ops Q rest (a.put o.dst (.agg ps)) w):wpList P ops Q (o :: rest) a w:=
 BigFrame.wpList_want hw fun _ hK=>wp_load_mid ty x ho g off hx ps.toList d (hg.range hp) hu hd (by simpa using hi) (hK _ _ (by simpa using h))
theorem yields_bk {ops:Array Oper}{S:World->Prop}{op:Oper}{a:Act}(hw:Region.wanted op (yielded ops a.tmps)=true)(ty:TypeId)(x:Operand)(ho:op.op = .load ty x)
  (g off:Nat)(hx:a.eval x = .pointer (some ⟨g,off,none⟩))(t:TypeId)(cs ps:Array Value)(d:TypeDesc)(hS:∀ w,S w->Bk w g t cs)(hp:Part cs off ps)
  (hu:P.underlying ty=some d)(hd:d.isRow=true)(hi:(P.info? ty).map (·.size)=some ps.size):YieldsIf P ops S op (.agg ps) a:=by
 have:=yieldsIf_load_mid (P:=P) (ops:=ops) (S:=S) (op:=op) (a:=a) hw ty x ho g off hx ps.toList d (fun w hw'=>(hS w hw').range hp) hu hd (by simpa using hi)
 simpa using this
def putPart (cs:Array Value) (o:Nat)(v:Array Value):Array Value:=(cs.toList.take o ++ v.toList ++ cs.toList.drop (o+v.size)).toArray
theorem store_bk_op {o:Oper}{a:Act}{w:World}{K:Act->World->Prop}{Q:Exit->Act->World->Prop}(ty:TypeId)(x y:Operand)(ho:o.op = .store ty x y)
  (g off:Nat)(v:Array Value)(hx:a.eval x = .pointer (some ⟨g,off,none⟩))(hy:a.eval y = .agg v)(t:TypeId) (cs cs':Array Value)(hg:Bk w g t cs)
  (hi:(P.info? ty).map (·.size)=some v.size)(hl:off+v.size<=cs.size)(h1:v.all (·.oneCell')=true)(hc:cs' = putPart cs off v)
  (h:∀ w',Bk w' g t cs' -> w.grownBy w' (some g)->w'.heap.size=w.heap.size->K (a.put o.dst undef) w'):o.wp P a w K Q:=by
 have hst:=run_storeCells_at P g off t v.toList 0 cs w hg (by simpa using hl) (fun u hu=>(Array.all_eq_true_iff_forall_mem.1 h1) u (by simpa using hu))
 have hsv:(storeVar ty ⟨g,off,none⟩ (.agg v)).run P w = .ok () (w.setRow g (putPart cs off v)):=by
  cases hq:P.info? ty with
  | none=>simp [hq] at hi
  | some i=>
   have hs:v.size=i.size:=by simp [hq] at hi;omega
   simp only [Nat.add_zero,Array.length_toList] at hst
   simp [storeVar,sizeOf,typeInfo,hq,Value.cells,hs]
   rw [hst];simp [putPart,hs]
 unfold Oper.wp execOp
 simp only [ho,hx,hy,Instr.storeAt,Instr.sureAddr,Sem.run_bind,Sem.run_pure,Result.andThen_ok,hsv]
 refine h _ ?_ ⟨rfl,rfl,rfl,by simp,fun i hi hne=>?_⟩ (by simp)
 ·rw [hc];exact setRow_heap w g cs _ t _ hg
 ·exact setRow_other w g i _ (fun e=>hne (by rw [e]))
theorem store_bk {ops:Array Oper}{rest:List Oper}{o:Oper}{a:Act}{w:World}{Q:Exit->Act->World->Prop}(hw:Region.wanted o (yielded ops a.tmps)=true)(ty:TypeId)(x y:Operand)(ho:o.op = .store ty x y)
  (g off:Nat)(v:Array Value)(hx:a.eval x = .pointer (some ⟨g,off,none⟩))(hy:a.eval y = .agg v)(t:TypeId) (cs cs':Array Value)(hg:Bk w g t cs)
  (hi:(P.info? ty).map (·.size)=some v.size)(hl:off+v.size<=cs.size)(h1:v.all (·.oneCell')=true)(hc:cs' = putPart cs off v)
  (h:∀ w',Bk w' g t cs' -> w.grownBy w' (some g)->w'.heap.size=w.heap.size->wpList P ops Q rest (a.put o.dst undef) w'):wpList P ops Q (o :: rest) a w:=
 BigFrame.wpList_want hw fun _ hK=>store_bk_op ty x y ho g off v hx hy t cs cs' hg hi hl h1 hc (fun w' h1 h2 h3=>hK _ _ (h w' h1 h2 h3))
theorem loadVar_bk {w:World}{g:Nat}{t ty:TypeId}{cs:Array Value}{d:TypeDesc}(hg:Bk w g t cs)(hu:P.underlying ty=some d)(hd:d.isRow=true)(hi:(P.info? ty).map (·.size)=some cs.size) :
  (loadVar ty ⟨g,0,none⟩).run P w = .ok (.agg cs) w:=by
 have:=run_loadVar_mid (P:=P) w g 0 ty cs.toList d (hg.range (Part.whole cs)) hu hd (by simpa using hi)
 simpa using this
theorem results_bk2 {fn:Func}{p q:Tmp}{ty:TypeId}(h:fn.results = #[.cell p ty,.tmp q])(tmps:Array Value)(w:World) (g:Nat)(t:TypeId)(cs:Array Value)(d:TypeDesc)(v:Value)
  (hp:tmps.getD p undef = .pointer (some ⟨g,0,none⟩))(hq:tmps.getD q undef=v)(hg:Bk w g t cs)(hu:P.underlying ty=some d)(hd:d.isRow=true)(hi:(P.info? ty).map (·.size)=some cs.size) :
  (results fn tmps).run P w = .ok (.tuple #[.agg cs,v]) w:=by
 have hp':tmps[p]?.getD undef = .pointer (some ⟨g,0,none⟩):=by simpa using hp
 have hq':tmps[q]?.getD undef=v:=by simpa using hq
 simp [results,h,hp',hq',asAddr,loadVar_bk hg hu hd hi]
end
theorem grown_base {w w':World}{row:Option Nat}{B:Nat}(hg:w.grownBy w' row)(hB:B<=w.heap.size)(hr:∀ k,row=some k->B<=k):Below B w w':=(Below.refl _ _).grown hg hB hr
theorem grown_below {w w1 w2:World}{g:Nat}(h:Below w.heap.size w w1)(hg:w1.grownBy w2 (some g))(hB:w.heap.size<=g):Below w.heap.size w w2:=h.trans (grown_base hg h.size (by intro k e;cases e;exact hB))
end
section
open Go.RowKit
theorem range_keep {w w':World}{g o:Nat}{cs:List Value}(h:w.rangeAt g o cs)(hb:Below w.heap.size w w'):w'.rangeAt g o cs:=fun j v hv=>
 (hb.cell (p:=⟨g,o+j,none⟩) (World.block_lt_of_cell? w _ (h j v hv))).trans (h j v hv)
theorem range_lt {w:World}{g o:Nat}{cs:List Value}(h:w.rangeAt g o cs)(hn:0<cs.length):g<w.heap.size:=World.block_lt_of_cell? w _ (h 0 cs[0] (List.getElem?_eq_getElem hn))
theorem range_part {w:World}{g o:Nat}{cs:List Value}(h:w.rangeAt g o cs) (a b:Nat):w.rangeAt g (o+a) ((cs.drop a).take b):=fun j v hv=>by
 rw [List.getElem?_take] at hv
 split at hv
 ·rw [List.getElem?_drop] at hv
  rw [Nat.add_assoc];exact h _ _ hv
 ·cases hv
section
variable {P:Program}
theorem load_rg {ops:Array Oper}{rest:List Oper}{o:Oper}{a:Act}{w:World}{Q:Exit->Act->World->Prop}(hw:Region.wanted o (yielded ops a.tmps)=true)(ty:TypeId)(x:Operand)(ho:o.op = .load ty x)
  (g off:Nat)(hx:a.eval x = .pointer (some ⟨g,off,none⟩))(ps:Array Value)(d:TypeDesc)(hr:w.rangeAt g off ps.toList)
  (hu:P.underlying ty=some d)(hd:d.isRow=true)(hi:(P.info? ty).map (·.size)=some ps.size)
  (h:wpList P ops Q rest (a.put o.dst (.agg ps)) w):wpList P ops Q (o :: rest) a w:=
 BigFrame.wpList_want hw fun _ hK=>wp_load_mid ty x ho g off hx ps.toList d hr hu hd (by simpa using hi) (hK _ _ (by simpa using h))
theorem yields_rg {ops:Array Oper}{S:World->Prop}{op:Oper}{a:Act}(hw:Region.wanted op (yielded ops a.tmps)=true)(ty:TypeId)(x:Operand)(ho:op.op = .load ty x)
  (g off:Nat)(hx:a.eval x = .pointer (some ⟨g,off,none⟩))(ps:Array Value)(d:TypeDesc)(hS:∀ w,S w->w.rangeAt g off ps.toList)
  (hu:P.underlying ty=some d)(hd:d.isRow=true)(hi:(P.info? ty).map (·.size)=some ps.size):YieldsIf P ops S op (.agg ps) a:=by
 have:=yieldsIf_load_mid (P:=P) (ops:=ops) (S:=S) (op:=op) (a:=a) hw ty x ho g off hx ps.toList d hS hu hd (by simpa using hi)
 simpa using this
end
def RdK (w:World) (k:Nat)(A:Option Addr)(l:List (List Value)):Prop:=
 ∀ i x,l[i]? = some x -> ∃ g o,A=some ⟨g,o,none⟩/\w.rangeAt g (o+i * k) x
section
variable {w w':World}{k:Nat}{A:Option Addr}{l:List (List Value)}
theorem RdK.nil (w:World) (k:Nat)(A:Option Addr):RdK w k A []:=by intro i b h;simp at h
theorem RdK.later (h:RdK w k A l)(hb:Below w.heap.size w w'):RdK w' k A l:=fun i x hx=>by
 obtain ⟨g,o,ha,hr⟩:=h i x hx
 exact ⟨g,o,ha,range_keep hr hb⟩
theorem RdK.at (h:RdK w k A l){i:Nat}(hi:i<l.length):∃ g o,A=some ⟨g,o,none⟩/\w.rangeAt g (o+i * k) l[i]:=h i l[i] (List.getElem?_eq_getElem hi)
theorem RdK.take (h:RdK w k A l) (n:Nat):RdK w k A (l.take n):=fun i x hx=>by
 rw [List.getElem?_take] at hx
 split at hx
 ·exact h i x hx
 ·cases hx
end
theorem flat_length {k:Nat}:∀ {l:List (List Value)},(∀ x ∈ l,x.length=k)->l.flatten.length=l.length * k
 | [],_=>by simp
 | x :: l,h=>by
  rw [List.flatten_cons,List.length_append,flat_length (fun y hy=>h y (by simp [hy])),h x (by simp),List.length_cons,Nat.add_mul];omega
theorem flat_get {k:Nat}:∀ {l:List (List Value)},(∀ x ∈ l,x.length=k) -> ∀ {i:Nat}{x:List Value},l[i]? = some x -> ∀ {j:Nat}{v:Value},x[j]? = some v->l.flatten[i * k+j]? = some v
 | [],_,i,x,h,j,v,hv=>by simp at h
 | y :: l,hk,0,x,h,j,v,hv=>by
  simp at h;subst h
  rw [List.flatten_cons,Nat.zero_mul,Nat.zero_add,List.getElem?_append_left (List.getElem?_eq_some_iff.1 hv).1];exact hv
 | y :: l,hk,i+1,x,h,j,v,hv=>by
  rw [List.getElem?_cons_succ] at h
  have hy:y.length=k:=hk y (by simp)
  have:=flat_get (fun z hz=>hk z (by simp [hz])) h hv
  rw [List.flatten_cons,List.getElem?_append_right (by rw [hy,Nat.add_mul];omega),hy,show (i+1) * k+j - k=i * k+j by rw [Nat.add_mul];omega]
  exact this
theorem flat_inv {k:Nat}:∀ {l:List (List Value)},(∀ x ∈ l,x.length=k) -> ∀ {m:Nat}{u:Value},l.flatten[m]? = some u -> ∃ i x j,l[i]? = some x/\x[j]? = some u/\m=i * k+j
 | [],_,m,u,h=>by simp at h
 | y :: l,hk,m,u,h=>by
  have hy:y.length=k:=hk y (by simp)
  rw [List.flatten_cons] at h
  by_cases hm:m<y.length
  ·rw [List.getElem?_append_left hm] at h
   exact ⟨0,y,m,rfl,h,by omega⟩
  ·rw [List.getElem?_append_right (by omega)] at h
   obtain ⟨i,x,j,h1,h2,h3⟩:=flat_inv (fun z hz=>hk z (by simp [hz])) h
   refine ⟨i+1,x,j,by rw [List.getElem?_cons_succ];exact h1,h2,?_⟩
   rw [Nat.add_mul];omega
theorem RdK.cells {w:World}{k:Nat}{a:Addr}{l:List (List Value)}(h:RdK w k (some a) l)(hk:∀ x ∈ l,x.length=k):∀ j u,l.flatten[j]? = some u->w.cell? (a.add j)=some u:=by
 intro m u hu
 obtain ⟨i,x,j,h1,h2,h3⟩:=flat_inv hk hu
 obtain ⟨g,o,ha,hr⟩:=h i x h1
 injection ha with ha;subst ha
 rw [Addr.add_lit,h3,<- Nat.add_assoc]
 exact hr j u h2
def OwnK (w:World) (base:Nat)(e:TypeId) (k:Nat)(v:Value)(l:List (List Value)):Prop:=(∀ x ∈ l,x.length=k)/\w.ownsRow base e k v l.length l.flatten
structure SlK (w:World) (base k:Nat)(v:Value)(l:List (List Value))(A:Option Addr) (c:Nat):Prop where
 val:v = .slice A l.length c
 rd:RdK w k A l
 cap:l.length<=c
 cap2:c<=maxLen
 new:∀ g o p,A=some ⟨g,o,p⟩->base<=g/\g<w.heap.size
section
variable {w w':World} {b0 b' k:Nat}{e:TypeId}{v:Value}{l:List (List Value)}
theorem OwnK.sl (h:OwnK w b0 e k v l):∃ A c,SlK w b0 k v l A c:=by
 obtain ⟨hk,h⟩:=h
 have h':=h
 rcases h.2 with ⟨hv,h0⟩ | ⟨g,cap,cur,hv,hb,hg,hn,hm,_,_⟩
 ·rw [List.length_eq_zero_iff] at h0
  subst h0
  exact ⟨none,0,hv,RdK.nil _ _ _,Nat.le_refl _,by simp [maxLen],fun g o p e=>by cases e⟩
 ·refine ⟨some ⟨g,0,none⟩,cap,hv,fun i x hx=>⟨g,0,rfl,fun j u hu=>?_⟩,hn,hm,fun g' o p e=>?_⟩
  ·have:=World.ownsRow.cells h' (g:=g) (by rw [hv];rfl) _ _ (flat_get hk hx hu)
   rw [Addr.add_lit] at this
   rw [Nat.zero_add] at this ⊢
   exact this
  ·injection e with e;injection e with e1 e2;subst e1
   exact World.ownsRow.lt h' g (by rw [hv];rfl)
theorem OwnK.below (h:OwnK w b0 e k v l)(hb:Below w.heap.size w w'):OwnK w' b0 e k v l:=
 ⟨h.1,World.ownsRow.kept (row:=none) h.2 ⟨hb.os,hb.tape,hb.output,hb.size,fun k hk _=>hb.block k hk⟩ (by
  rcases h.2.2 with ⟨hv,_⟩ | ⟨g,cap,cur,hv,_⟩ <;> rw [hv] <;> simp [Value.ownBlock])⟩
theorem OwnK.base (h:OwnK w b0 e k v l)(hb:b' <= b0):OwnK w b' e k v l:=
 ⟨h.1,h.2.1,h.2.2.imp id fun ⟨g,cap,cur,a,hg,c⟩=>⟨g,cap,cur,a,Nat.le_trans hb hg,c⟩⟩
theorem OwnK.nil (w:World) (base:Nat)(e:TypeId) (k:Nat):OwnK w base e k (.slice none 0 0) []:=⟨by simp,by simp [World.ownsRow]⟩
theorem OwnK.block (h:OwnK w b0 e k v l):∀ g,v.ownBlock=some g->b0<=g:=fun g hg=>(World.ownsRow.lt h.2 g hg).1
theorem OwnK.alloc (h:OwnK w b0 e k v l)(o:Obj):OwnK (w.alloc o) b0 e k v l:=⟨h.1,World.ownsRow.alloc h.2 o⟩
end
theorem info_partsK {P:Program}{e:TypeId}{z:Value}{s b:Nat}(h:(P.info? e).map (fun i=>(i.zero,i.size,i.bytes))=some (some z,s,b)):∃ i,P.info? e=some i/\i.zero=some z/\i.size=s/\i.bytes=b:=by
 cases hi:P.info? e with
 | none=>rw [hi] at h;cases h
 | some i=>
  rw [hi] at h
  simp at h
  exact ⟨i,rfl,h.1,h.2.1,h.2.2⟩
theorem fresh_k (w:World) (k:Nat)(cs:List Value)(t:TypeId){g:Nat}(hg:g=w.heap.size):RdK (w.alloc (.cells cs.toArray t)) k (some ⟨g,0,none⟩) [cs]:=by
 subst hg
 intro i x hx
 match i,hx with
 | 0,hx=>
  simp at hx;subst hx
  refine ⟨_,_,rfl,fun j v hv=>?_⟩
  have h:=(Bk.fresh w t cs.toArray).cellAt j
  simp only [List.getElem?_toArray] at h
  simp only [Nat.zero_mul,Nat.zero_add]
  exact h.trans hv
 | i+1,hx=>simp at hx
section
variable {P:Program}
theorem append_k_op (w:World){o:Oper}{a:Act}{K:Act->World->Prop}{Q:Exit->Act->World->Prop}
  (s x:Operand)(t:TypeId)(hop:o.op=Op.call { callee:=Callee.builtin Builtin.append,args:=#[s,x],argTypes:=#[t,t] })
  (base:Nat)(e:TypeId)(z:Value) (k b:Nat)(h1:P.underlying t=some (.slice e))(h2:(P.info? e).map (fun i=>(i.zero,i.size,i.bytes))=some (some z,k,b))(hz:z.cells.size=k)(hk:0<k)
  (v:Value)(l:List (List Value))(hs:a.eval s=v)(hown:OwnK w base e k v l)(ad:Addr) (c m:Nat)(news:List (List Value))
  (hx:a.eval x = .slice (some ad) m c)(hr:RdK w k (some ad) news)(hn:∀ y ∈ news,y.length=k)(hone:∀ y ∈ news,∀ u ∈ y,u.oneCell' = true)(hm:m=news.length)
  (b0:l.length+news.length<=maxLen)(b1:(l.length+news.length) * b<=140737488355328)(hbase:base<=w.heap.size)
  (hK:∀ v' w',OwnK w' base e k v' (l ++ news)->w.grownBy w' v.ownBlock->K (a.put o.dst v') w'):o.wp P a w K Q:=by
 subst hm
 obtain ⟨i,hi,hiz,his,hib⟩:=info_partsK h2
 obtain ⟨v',w',hrun,r1,r2,r3⟩:=run_append_own (P:=P) w base t o.type e i z k b h1 hi hiz his hib hz hk v l.length l.flatten hown.2 ad news.length c news.flatten (flat_length hn) (hr.cells hn)
  (fun u hu=>by obtain ⟨y,hy,hu'⟩:=List.mem_flatten.1 hu;exact hone y hy u hu') b0 b1 hbase
 unfold Oper.wp
 simp [execOp,hop,resolve,invoke,builtin,hs,hx,hrun,Result.andThen]
 exact hK v' w' ⟨fun y hy=>(List.mem_append.1 hy).elim (hown.1 y) (hn y),by rw [List.length_append,List.flatten_append];exact r1⟩ r2
theorem append_k {ops:Array Oper}{rest:List Oper}(w:World){o:Oper}{a:Act}{Q:Exit->Act->World->Prop}(hw:Region.wanted o (yielded ops a.tmps)=true)
  (s x:Operand)(t:TypeId)(hop:o.op=Op.call { callee:=Callee.builtin Builtin.append,args:=#[s,x],argTypes:=#[t,t] })
  (base:Nat)(e:TypeId)(z:Value) (k b:Nat)(h1:P.underlying t=some (.slice e))(h2:(P.info? e).map (fun i=>(i.zero,i.size,i.bytes))=some (some z,k,b))(hz:z.cells.size=k)(hk:0<k)
  (v:Value)(l:List (List Value))(hs:a.eval s=v)(hown:OwnK w base e k v l)(ad:Addr) (c m:Nat)(news:List (List Value))
  (hx:a.eval x = .slice (some ad) m c)(hr:RdK w k (some ad) news)(hn:∀ y ∈ news,y.length=k)(hone:∀ y ∈ news,∀ u ∈ y,u.oneCell' = true)(hm:m=news.length)
  (b0:l.length+news.length<=maxLen)(b1:(l.length+news.length) * b<=140737488355328)(hbase:base<=w.heap.size)
  (hK:∀ v' w',OwnK w' base e k v' (l ++ news)->w.grownBy w' v.ownBlock->wpList P ops Q rest (a.put o.dst v') w'):wpList P ops Q (o :: rest) a w:=
 BigFrame.wpList_want hw fun K hKK=>append_k_op w s x t hop base e z k b h1 h2 hz hk v l hs hown ad c m news hx hr hn hone hm b0 b1 hbase (fun v' w' h1 h2=>hKK _ _ (hK v' w' h1 h2))
theorem run_void_k (w:World) (base:Nat)(t ty e:TypeId)(i:TypeInfo) (k:Nat)(ht:P.underlying t=some (.slice e))(hi:P.info? e=some i)
  (v:Value)(l:List (List Value))(hown:OwnK w base e k v l) (c:Nat):(Builtin.append_ #[t,t] ty #[v,.slice none 0 c]).run P w = .ok v w:=by
 rcases hown.2.2 with ⟨rfl,_⟩ | ⟨g,cap,cur,rfl,_,_,hnc,_⟩
 ·simp [Builtin.append_,run_underlying ht,sizeOf,typeInfo,hi,Builtin.lenOf,Builtin.firstCells]
 ·simp [Builtin.append_,run_underlying ht,sizeOf,typeInfo,hi,Builtin.lenOf,Builtin.firstCells,hnc,storeCells]
theorem append_kn_op (w:World){o:Oper}{a:Act}{K:Act->World->Prop}{Q:Exit->Act->World->Prop}
  (s x:Operand)(t:TypeId)(hop:o.op=Op.call { callee:=Callee.builtin Builtin.append,args:=#[s,x],argTypes:=#[t,t] })
  (base:Nat)(e:TypeId)(z:Value) (k b:Nat)(h1:P.underlying t=some (.slice e))(h2:(P.info? e).map (fun i=>(i.zero,i.size,i.bytes))=some (some z,k,b))(hz:z.cells.size=k)(hk:0<k)
  (v:Value)(l:List (List Value))(hs:a.eval s=v)(hown:OwnK w base e k v l)(A:Option Addr) (c m:Nat)(news:List (List Value))
  (hx:a.eval x = .slice A m c)(hr:RdK w k A news)(hn:∀ y ∈ news,y.length=k)(hone:∀ y ∈ news,∀ u ∈ y,u.oneCell' = true)(hm:m=news.length)
  (b0:l.length+news.length<=maxLen)(b1:(l.length+news.length) * b<=140737488355328)(hbase:base<=w.heap.size)
  (hK:∀ v' w',OwnK w' base e k v' (l ++ news)->w.grownBy w' v.ownBlock->K (a.put o.dst v') w'):o.wp P a w K Q:=by
 cases A with
 | some ad=>exact append_k_op w s x t hop base e z k b h1 h2 hz hk v l hs hown ad c m news hx hr hn hone hm b0 b1 hbase hK
 | none=>
  have h0:news=[]:=by
   cases news with
   | nil=>rfl
   | cons b r=>obtain ⟨_,_,ha,_⟩:=hr 0 b rfl;cases ha
  subst h0
  simp at hm
  subst hm
  obtain ⟨i,hi,hiz,his,hib⟩:=info_partsK h2
  have hrun:=run_void_k (P:=P) w base t o.type e i k h1 hi v l hown c
  unfold Oper.wp
  simp [execOp,hop,resolve,invoke,builtin,hs,hx,hrun,Result.andThen]
  exact hK v w (by simpa using hown) ⟨rfl,rfl,rfl,Nat.le_refl _,fun _ _ _=>rfl⟩
theorem OwnK.empty (w:World) (base:Nat)(e:TypeId) (k:Nat)(hb:base<=w.heap.size){g:Nat}(hg:g=w.heap.size):OwnK (w.alloc (.cells #[] e)) base e k (.slice (some ⟨g,0,none⟩) 0 0) []:=by
 subst hg
 exact ⟨by simp,by simp,.inr ⟨w.heap.size,0,#[],rfl,hb,Bk.fresh w e #[],Nat.le_refl _,by simp [maxLen],by simp,by simp⟩⟩
end
end
section
open Go.RowKit
theorem bdrewN {B:Nat}{a w:World}(h:Below B a w) (n:Nat):Below B a (w.drewN n):=⟨h.os,h.tape,h.output,h.size,h.block⟩
theorem sz_drewN (w:World) (n:Nat):(w.drewN n).heap.size=w.heap.size:=rfl
abbrev Lb:=ByteArray × ByteArray
def RdL (w:World)(A:Option Addr)(l:List Lb):Prop:=
 ∀ i x,l[i]? = some x -> ∃ g o,A=some ⟨g,o,none⟩/\w.cell? ⟨g,o+i * 2,none⟩=some (.string x.1)/\w.cell? ⟨g,o+i * 2+1,none⟩=some (.string x.2)
def Sz (l:List Lb):Prop:=∀ x ∈ l,x.1.size<=140737488351232/\x.2.size<=140737488351232
section
variable {w w':World}{A:Option Addr}{l:List Lb}
theorem RdL.nil (w:World)(A:Option Addr):RdL w A []:=by intro i b h;simp at h
theorem RdL.keep (h:RdL w A l)(hk:∀ (p:Addr) v,w.cell? p=some v->w'.cell? p=some v):RdL w' A l:=fun i b hb=>by
 obtain ⟨g,o,ha,h1,h2⟩:=h i b hb
 exact ⟨g,o,ha,hk _ _ h1,hk _ _ h2⟩
theorem RdL.later (h:RdL w A l)(hb:Below w.heap.size w w'):RdL w' A l:=h.keep fun p _ hc=>(hb.cell (World.block_lt_of_cell? w p hc)).trans hc
theorem RdL.at (h:RdL w A l){i:Nat}(hi:i<l.length):∃ g o,A=some ⟨g,o,none⟩/\g<w.heap.size/\w.cell? ⟨g,o+i * 2,none⟩=some (.string l[i].1)/\w.cell? ⟨g,o+i * 2+1,none⟩=some (.string l[i].2):=by
 obtain ⟨g,o,ha,h1,h2⟩:=h i l[i] (List.getElem?_eq_getElem hi)
 exact ⟨g,o,ha,World.block_lt_of_cell? w _ h1,h1,h2⟩
end
theorem Sz.at {l:List Lb}(h:Sz l){i:Nat}(hi:i<l.length):l[i].1.size<=140737488351232/\l[i].2.size<=140737488351232:=h _ (List.getElem_mem hi)
def sE (a b:ByteArray):Bool:=a.toList == b.toList
def sL (a b:ByteArray):Bool:=Op.bytesLess a.toList b.toList
theorem sE_iff {a b:ByteArray}:sE a b=true ↔ a=b:=by
 unfold sE
 rw [ByteArray.toList_eq,ByteArray.toList_eq]
 constructor
 ·intro h;have h':a.data.toList=b.data.toList:=by simpa using h
  exact Go.WideShapes.bytes_inj h'
 ·rintro rfl;simp
theorem sE_refl (a:ByteArray):sE a a=true:=sE_iff.2 rfl
theorem sL_iff {a b:ByteArray}:sL a b=true ↔ a.data.toList<b.data.toList:=by
 unfold sL;rw [bytesLess_eq,ByteArray.toList_eq,ByteArray.toList_eq];simp
theorem sL_irrefl (a:ByteArray):sL a a=false:=by
 rw [Bool.eq_false_iff];intro h;exact List.lt_irrefl _ (sL_iff.1 h)
theorem sL_trans {a b c:ByteArray}(h1:sL a b=true)(h2:sL b c=true):sL a c=true:=sL_iff.2 (List.lt_trans (sL_iff.1 h1) (sL_iff.1 h2))
theorem sL_total {a b:ByteArray}(h:sL a b=false):sL b a=true ∨ a=b:=by
 have h1:¬ a.data.toList<b.data.toList:=fun hc=>by rw [sL_iff.2 hc] at h;cases h
 rw [List.not_lt] at h1
 rcases List.le_iff_lt_or_eq.1 h1 with h2 | h2
 ·exact .inl (sL_iff.2 h2)
 ·exact .inr (Go.WideShapes.bytes_inj h2.symm)
def lE (x y:Lb):Bool:=sE x.1 y.1 && sE x.2 y.2
theorem lE_iff {x y:Lb}:lE x y=true ↔ x=y:=by
 unfold lE;rw [Bool.and_eq_true,sE_iff,sE_iff];exact ⟨fun h=>Prod.ext h.1 h.2,fun h=>by rw [h];exact ⟨rfl,rfl⟩⟩
end
section
open Go.ChangeShapes Go.WideShapes Go.RowKit Go.Deep
theorem cells33:Tryz.prog.cellsOf 70=2:=by kernel_rfl
theorem cells9:Tryz.prog.cellsOf 9=1:=by kernel_rfl
theorem list2 {α:Type}(l:List α)(h:l.length=2):∃ a b,l=[a,b]:=by
 match l,h with
 | [a,b],_=>exact ⟨a,b,rfl⟩
def datL {H:Type}(x:Lb):DataW H:=.agg [.lit (.string x.1.data.toList),.lit (.string x.2.data.toList)]
theorem trod_label {H:Type}{enc:TypeId × Value->H}{W:World}{base:Nat}{sp:Nat->Bool}{held:Bool}{fuel:Nat}{cs:List Value}{x:DataW H × List MemPlace}
  (h:DataW.trod enc Tryz.prog W base sp held fuel 70 cs=some x):∃ k:Lb,cs=[.string k.1,.string k.2]/\x.1=datL k:=by
 obtain ⟨ys,n,_,hx,hlen,hyl,hf⟩:=DataW.trod_struct Tryz.underlying70 h
 rw [cells33] at hlen
 obtain ⟨c0,c1,rfl⟩:=list2 cs hlen
 obtain ⟨y0,y1,rfl⟩:=list2 ys (by simpa using hyl)
 have h0:DataW.trod enc Tryz.prog W base sp held n 9 (List.take (Tryz.prog.cellsOf 9) [c0,c1])=some y0:=hf 0 _ rfl
 have h1:DataW.trod enc Tryz.prog W base sp held n 9 (List.take (Tryz.prog.cellsOf 9) [c1])=some y1:=hf 1 _ rfl
 rw [cells9] at h0 h1
 obtain ⟨s,e0,r0,_⟩:=DataW.trod_string Tryz.underlying9 h0
 obtain ⟨t,e1,r1,_⟩:=DataW.trod_string Tryz.underlying9 h1
 simp at e0 e1
 subst e0 e1 r0 r1
 exact ⟨(s,t),rfl,by rw [hx];rfl⟩
theorem weightsAll_mem' {H:Type}{P:Program}{e:TypeId}:∀ {l:List (DataW H)}{d:DataW H},d ∈ l -> ∀ n ∈ d.weights P e,n ∈ DataW.weightsAll P e l
 | d' :: r,d,hd,n,hn=>by
  simp only [DataW.weightsAll,List.mem_append]
  rcases List.mem_cons.1 hd with rfl | h
  ·exact .inl hn
  ·exact .inr (weightsAll_mem' h n hn)
theorem sized_labs {H:Type}{ts:List TypeId}{ds:List (DataW H)}(h:(DataW.weightsEach Tryz.prog ts ds).all (· <= reachBytes)=true){j:Nat}{elems spare:List (DataW H)}{x:Lb}
  (ht:ts[j]? = some 41)(hd:ds[j]? = some (.slice elems spare))(hx:datL x ∈ elems):x.1.size<=140737488351232/\x.2.size<=140737488351232:=by
 have key:∀ n,n ∈ (datL (H:=H) x).weights Tryz.prog 70->n<=140737488351232:=fun n hn=>by
  have:=of_decide_eq_true (List.all_eq_true.1 h n (DataW.weights_mem_each ht hd n (by
   simp only [DataW.weights,Tryz.underlying41,List.mem_cons,List.mem_append]
   exact .inr (.inl (weightsAll_mem' hx n hn)))))
  exact this
 have e1:x.1.data.toList.length=x.1.size:=by simp
 have e2:x.2.data.toList.length=x.2.size:=by simp
 refine ⟨?_,?_⟩
 ·rw [<- e1];exact key _ (by simp [datL,DataW.weights,Tryz.underlying70,DataW.weightsEach])
 ·rw [<- e2];exact key _ (by simp [datL,DataW.weights,Tryz.underlying70,DataW.weightsEach])
theorem open_labs {H:Type}{enc:TypeId × Value->H}{W:World}{base:Nat}{sp:Nat->Bool}{held:Bool}{a:Option Addr}{len cap:Nat}{d:DataW H}{p:List MemPlace}
  (h:DataW.Trod enc Tryz.prog W base sp held 41 (.slice a len cap) d p) :
  ∃ l:List Lb,len=l.length/\RdL W a l/\len<=cap/\cap<=9223372036854775807 /\ ∀ x ∈ l,∃ elems spare,d = .slice elems spare/\datL x ∈ elems:=by
 obtain ⟨fuel,hf⟩:=h
 rcases open_slice Tryz.underlying41 hf with ⟨hcs,_⟩ | ⟨x,n',c,m,n,D,Pl,hcs,_,hl,hm,hmm,hx,hi⟩
 ·simp [Value.cells] at hcs
  obtain ⟨rfl,rfl,rfl⟩:=hcs
  exact ⟨[],rfl,RdL.nil _ _,Nat.le_refl _,by omega,fun x hx=>by simp at hx⟩
 ·simp [Value.cells] at hcs
  obtain ⟨rfl,rfl,rfl⟩:=hcs
  rw [cells33] at hi
  have hlm:len<=m:=by rw [hmm];split <;> omega
  have hm':cap<=9223372036854775807:=by unfold maxLen at hm;omega
  have hdat:d = .slice ((List.range len).map D) ((List.range (m - len)).map fun j=>D (len+j)):=congrArg Prod.fst hx
  have hspot:0<len->x.spot=none:=fun h=>by
   obtain ⟨cs',hc,ht⟩:=hi 0 (by omega)
   obtain ⟨_,hcl,hat⟩:=World.cells?_some hc
   have h0:=hat 0 (by omega)
   rw [List.getElem?_eq_getElem (by omega)] at h0
   simpa [Addr.add] using World.cell?_spot h0
  have key:∀ i,i<len -> ∃ k:Lb,∃ g o,x=⟨g,o,none⟩/\W.cell? ⟨g,o+i * 2,none⟩=some (.string k.1)/\W.cell? ⟨g,o+i * 2+1,none⟩=some (.string k.2)/\D i=datL k:=fun i hlt=>by
   obtain ⟨cs',hc,ht⟩:=hi i (by omega)
   obtain ⟨_,hcl,hat⟩:=World.cells?_some hc
   obtain ⟨k,rfl,hk⟩:=trod_label ht
   have h0:=hat 0 (by omega)
   have h1:=hat 1 (by omega)
   simp at h0 h1
   obtain ⟨g,o,spot⟩:=x
   have hs:spot=none:=hspot (by omega)
   subst hs
   rw [Addr.add_lit] at h0 h1
   rw [Addr.add_lit] at h1
   exact ⟨k,g,o,rfl,by simpa [Addr.add] using h0,h1,hk⟩
  have pick:∀ n,n<=len -> ∃ l:List Lb,l.length=n/\RdL W (some x) l /\ ∀ i k,l[i]? = some k->D i=datL k:=by
   intro n
   induction n with
   | zero=>exact fun _=>⟨[],rfl,RdL.nil _ _,fun i k hk=>by simp at hk⟩
   | succ n ih=>
    intro hn
    obtain ⟨l,hll,hr,hD⟩:=ih (by omega)
    obtain ⟨k,g,o,hxx,h0,h1,hk⟩:=key n (by omega)
    refine ⟨l ++ [k],by simp [hll],fun i y hy=>?_,fun i y hy=>?_⟩
    ·by_cases hi':i<l.length
     ·rw [List.getElem?_append_left hi'] at hy;exact hr i y hy
     ·rw [List.getElem?_append_right (by omega)] at hy
      have e:i=n:=by
       have:=(List.getElem?_eq_some_iff.1 hy).1
       simp at this;omega
      subst e
      rw [show i - l.length=0 by omega] at hy
      simp at hy;subst hy
      exact ⟨g,o,by rw [hxx],h0,h1⟩
    ·by_cases hi':i<l.length
     ·rw [List.getElem?_append_left hi'] at hy;exact hD i y hy
     ·rw [List.getElem?_append_right (by omega)] at hy
      have e:i=n:=by
       have:=(List.getElem?_eq_some_iff.1 hy).1
       simp at this;omega
      subst e
      rw [show i - l.length=0 by omega] at hy
      simp at hy;subst hy
      exact hk
  obtain ⟨l,hll,hr,hD⟩:=pick len (Nat.le_refl _)
  refine ⟨l,hll.symm,hr,hl,hm',fun y hy=>⟨_,_,hdat,?_⟩⟩
  obtain ⟨i,hi',e⟩:=List.getElem_of_mem hy
  rw [List.mem_map]
  exact ⟨i,List.mem_range.2 (by omega),hD i y (by rw [List.getElem?_eq_getElem hi',e])⟩
end
section
open Go.ChangeShapes Go.WideShapes Go.RowKit Go.Deep
theorem cellsInt:Tryz.prog.cellsOf 3=1:=by kernel_rfl
theorem cellsRes:Tryz.prog.cellsOf 40=3:=by kernel_rfl
theorem cellsLabs:Tryz.prog.cellsOf 41=1:=by kernel_rfl
theorem cellsNode:Tryz.prog.cellsOf 43=5:=by kernel_rfl
theorem cellsQueue:Tryz.prog.cellsOf 45=4:=by kernel_rfl
theorem cellsTask:Tryz.prog.cellsOf 47=10:=by kernel_rfl
theorem list5 {α:Type}(l:List α)(h:l.length=5):∃ a b c d e,l=[a,b,c,d,e]:=by
 match l,h with
 | [a,b,c,d,e],_=>exact ⟨a,b,c,d,e,rfl⟩
theorem list3' {α:Type}(l:List α)(h:l.length=3):∃ a b c,l=[a,b,c]:=by
 match l,h with
 | [a,b,c],_=>exact ⟨a,b,c,rfl⟩
theorem list8 {α:Type}(l:List α)(h:l.length=8):∃ a b c d e f g i,l=[a,b,c,d,e,f,g,i]:=by
 match l,h with
 | [a,b,c,d,e,f,g,i],_=>exact ⟨a,b,c,d,e,f,g,i,rfl⟩
section
variable {H:Type}{enc:TypeId × Value->H}{W:World}{base:Nat}{sp:Nat->Bool}{held:Bool}
structure LabsIn (W:World)(d:DataW H)(A:Option Addr) (n c:Nat)(l:List Lb):Prop where
 len:n=l.length
 rd:RdL W A l
 cap:n<=c
 cap2:c<=9223372036854775807
 dat:∀ x ∈ l,∃ elems spare,d = .slice elems spare/\datL x ∈ elems
theorem open_field_labs {fuel:Nat}{c:Value}{y:DataW H × List MemPlace}(h:DataW.trod enc Tryz.prog W base sp held fuel 41 [c]=some y) :
  ∃ A n cp l,c = .slice A n cp/\LabsIn W y.1 A n cp l:=by
 have key:∀ A n cp,c = .slice A n cp -> ∃ A n cp l,c = .slice A n cp/\LabsIn W y.1 A n cp l:=fun A n cp hc=>by
  subst hc
  obtain ⟨l,h1,h2,h3,h4,h5⟩:=open_labs (enc:=enc) (base:=base) (sp:=sp) (held:=held) (p:=y.2) (d:=y.1) ⟨fuel,by simpa [Value.cells] using h⟩
  exact ⟨A,n,cp,l,rfl,h1,h2,h3,h4,h5⟩
 rcases open_slice Tryz.underlying41 h with ⟨hcs,_⟩ | ⟨a,len,cap,_,_,_,_,hcs,_⟩
 ·simp at hcs;exact key _ _ _ hcs
 ·simp at hcs;exact key _ _ _ hcs
theorem open_field_res {fuel:Nat}{c0 c1 c2:Value}{y:DataW H × List MemPlace}(h:DataW.trod enc Tryz.prog W base sp held fuel 40 [c0,c1,c2]=some y) :
  ∃ a b c:Int,c0 = .int .i64 a/\c1 = .int .i64 b/\c2 = .int .i64 c:=by
 obtain ⟨y0,y1,y2,m,_,hy0,hy1,hy2⟩:=trod_array3 Tryz.underlying40 cellsInt h
 obtain ⟨x0,e0,_,_⟩:=DataW.trod_int Tryz.underlying3 hy0
 obtain ⟨x1,e1,_,_⟩:=DataW.trod_int Tryz.underlying3 hy1
 obtain ⟨x2,e2,_,_⟩:=DataW.trod_int Tryz.underlying3 hy2
 simp at e0 e1 e2
 exact ⟨x0,x1,x2,e0,e1,e2⟩
theorem open_field_string {fuel:Nat}{c:Value}{y:DataW H × List MemPlace}(h:DataW.trod enc Tryz.prog W base sp held fuel 9 [c]=some y) :
  ∃ s:ByteArray,c = .string s/\y.1 = .lit (.string s.data.toList):=by
 obtain ⟨s,e,r,_⟩:=DataW.trod_string Tryz.underlying9 h
 simp at e
 exact ⟨s,e,by rw [r]⟩
theorem open_field_int {fuel:Nat}{c:Value}{y:DataW H × List MemPlace}(h:DataW.trod enc Tryz.prog W base sp held fuel 3 [c]=some y):∃ a:Int,c = .int .i64 a:=by
 obtain ⟨x,e,_,_⟩:=DataW.trod_int Tryz.underlying3 h
 simp at e
 exact ⟨x,e⟩
theorem sized_inner {ts:List TypeId}{ds:List (DataW H)}(h:(DataW.weightsEach Tryz.prog ts ds).all (· <= reachBytes)=true){j:Nat}{t:TypeId}{fs:Array Field}{parts:List (DataW H)}(hu:Tryz.prog.underlying t=some (.struct fs))
  (ht:ts[j]? = some t)(hd:ds[j]? = some (.agg parts)):(DataW.weightsEach Tryz.prog (fs.toList.map (·.type)) parts).all (· <= reachBytes)=true:=by
 rw [List.all_eq_true]
 intro n hn
 refine List.all_eq_true.1 h n (DataW.weights_mem_each ht hd n ?_)
 simp only [DataW.weights,hu]
 exact hn
theorem sized_str {ts:List TypeId}{ds:List (DataW H)}(h:(DataW.weightsEach Tryz.prog ts ds).all (· <= reachBytes)=true){j:Nat}{t:TypeId}{s:ByteArray}(ht:ts[j]? = some t)(hd:ds[j]? = some (.lit (.string s.data.toList))):s.size<=140737488351232:=by
 have:=sized_string h ht hd
 have e:s.data.toList.length=s.size:=by simp
 simp only [reachBytes] at this
 omega
theorem sized_node {ts:List TypeId}{ds:List (DataW H)}(h:(DataW.weightsEach Tryz.prog ts ds).all (· <= reachBytes)=true){j:Nat}{nm:ByteArray}{da dl:DataW H}(ht:ts[j]? = some 43)(hd:ds[j]? = some (.agg [.lit (.string nm.data.toList),da,dl])){W:World}{A:Option Addr}{n c:Nat}{l:List Lb}(hl:LabsIn W dl A n c l) :
  nm.size<=140737488351232/\Sz l:=by
 have hi:=sized_inner h Tryz.underlying43 ht hd
 refine ⟨sized_str hi (j:=0) rfl rfl,fun x hx=>?_⟩
 obtain ⟨el,sp,rfl,hm⟩:=hl.dat x hx
 exact sized_labs hi (j:=2) rfl rfl hm
theorem sized_queue {ts:List TypeId}{ds:List (DataW H)}(h:(DataW.weightsEach Tryz.prog ts ds).all (· <= reachBytes)=true){j:Nat}{nm:ByteArray}{da:DataW H}(ht:ts[j]? = some 45)(hd:ds[j]? = some (.agg [.lit (.string nm.data.toList),da])) :
  nm.size<=140737488351232:=sized_str (sized_inner h Tryz.underlying45 ht hd) (j:=0) rfl rfl
theorem sized_task {ts:List TypeId}{ds:List (DataW H)}(h:(DataW.weightsEach Tryz.prog ts ds).all (· <= reachBytes)=true){j:Nat}{nm qu ap ga:ByteArray}{d2 d3 d4 d7:DataW H}(ht:ts[j]? = some 47)
  (hd:ds[j]? = some (.agg [.lit (.string nm.data.toList),.lit (.string qu.data.toList),d2,d3,d4,.lit (.string ap.data.toList),.lit (.string ga.data.toList),d7])){W:World}{A:Option Addr}{n c:Nat}{l:List Lb}(hl:LabsIn W d4 A n c l) :
  nm.size<=140737488351232/\qu.size<=140737488351232/\ap.size<=140737488351232/\ga.size<=140737488351232/\Sz l:=by
 have hi:=sized_inner h Tryz.underlying47 ht hd
 refine ⟨sized_str hi (j:=0) rfl rfl,sized_str hi (j:=1) rfl rfl,sized_str hi (j:=5) rfl rfl,sized_str hi (j:=6) rfl rfl,fun x hx=>?_⟩
 obtain ⟨el,sp,rfl,hm⟩:=hl.dat x hx
 exact sized_labs hi (j:=4) rfl rfl hm
end
end
section
open Go.ChangeShapes Go.WideShapes Go.RowKit Go.Deep
structure Jb where
 nm:ByteArray
 qu:ByteArray
 pr:Int
 a:Int
 b:Int
 c:Int
 A:Option Addr
 n:Nat
 cp:Nat
 ap:ByteArray
 ga:ByteArray
 sz:Int
 sq:Int
 nd:ByteArray
 bo:Int
abbrev Jb.task (j:Jb):Array Value:=#[.string j.nm,.string j.qu,.int .i64 j.pr,.int .i64 j.a,.int .i64 j.b,.int .i64 j.c,.slice j.A j.n j.cp,.string j.ap,.string j.ga,.int .i64 j.sz]
abbrev Jb.arr (j:Jb):Array Value:=#[.string j.nm,.string j.qu,.int .i64 j.pr,.int .i64 j.a,.int .i64 j.b,.int .i64 j.c,.slice j.A j.n j.cp,.string j.ap,.string j.ga,.int .i64 j.sz,.int .i64 j.sq,.string j.nd,.int .i64 j.bo]
def Jb.cells (j:Jb):List Value:=j.arr.toList
theorem Jb.cells_length (j:Jb):j.cells.length=13:=rfl
theorem Jb.cells_one (j:Jb):∀ u ∈ j.cells,u.oneCell' = true:=by
 intro u hu
 simp only [Jb.cells,Jb.arr,List.mem_cons,List.not_mem_nil,or_false] at hu
 rcases hu with rfl | rfl | rfl | rfl | rfl | rfl | rfl | rfl | rfl | rfl | rfl | rfl | rfl <;> rfl
def cellsJ (l:List Jb):List (List Value):=l.map Jb.cells
theorem cellsJ_length (l:List Jb):(cellsJ l).length=l.length:=by simp [cellsJ]
theorem cellsJ_append (l m:List Jb):cellsJ (l ++ m)=cellsJ l ++ cellsJ m:=by simp [cellsJ]
theorem cellsJ_k (l:List Jb):∀ x ∈ cellsJ l,x.length=13:=by
 intro x hx
 simp only [cellsJ,List.mem_map] at hx
 obtain ⟨j,_,rfl⟩:=hx
 rfl
theorem cellsJ_one (l:List Jb):∀ y ∈ cellsJ l,∀ u ∈ y,u.oneCell' = true:=by
 intro x hx
 simp only [cellsJ,List.mem_map] at hx
 obtain ⟨j,_,rfl⟩:=hx
 exact j.cells_one
def RdJ (w:World)(A:Option Addr)(l:List Jb):Prop:=RdK w 13 A (cellsJ l)
structure JAt (w:World) (g o:Nat)(j:Jb):Prop where
 rg:w.rangeAt g o j.arr.toList
section
variable {w w':World}{g o:Nat}{j:Jb}
theorem JAt.later (h:JAt w g o j)(hb:Below w.heap.size w w'):JAt w' g o j:=⟨range_keep h.rg hb⟩
theorem JAt.pr (h:JAt w g o j):w.cell? ⟨g,o+2,none⟩=some (.int .i64 j.pr):=h.rg 2 _ rfl
end
section
variable {w w':World}{A:Option Addr}{l:List Jb}
theorem RdJ.nil (w:World)(A:Option Addr):RdJ w A []:=RdK.nil _ _ _
theorem RdJ.later (h:RdJ w A l)(hb:Below w.heap.size w w'):RdJ w' A l:=RdK.later h hb
theorem RdJ.at (h:RdJ w A l){i:Nat}(hi:i<l.length):∃ g o,A=some ⟨g,o,none⟩/\g<w.heap.size/\JAt w g (o+i * 13) l[i]:=by
 obtain ⟨g,o,ha,hr⟩:=RdK.at h (i:=i) (by rw [cellsJ_length];exact hi)
 have hr':w.rangeAt g (o+i * 13) l[i].arr.toList:=by have h2:=hr;simp only [cellsJ,List.getElem_map] at h2;exact h2
 exact ⟨g,o,ha,range_lt hr' (by show 0<13;omega),⟨hr'⟩⟩
end
section
variable {H:Type}{enc:TypeId × Value->H}{W:World}{base:Nat}{sp:Nat->Bool}{held:Bool}
end
end
section
open Go.RowKit
abbrev Jb.need (j:Jb):Int × Int × Int:=(j.a,j.b,j.c)
theorem infoJ:(Tryz.prog.info? 66).map (fun i=>(i.zero,i.size,i.bytes))=some (some (.agg #[.string ⟨#[]⟩,.string ⟨#[]⟩,.int .i64 0,.int .i64 0,.int .i64 0,.int .i64 0,.slice none 0 0,.string ⟨#[]⟩,.string ⟨#[]⟩,.int .i64 0,.int .i64 0,.string ⟨#[]⟩,.int .i64 0]),13,160):=by kernel_rfl
theorem OwnK.rdj {w:World}{base:Nat}{e:TypeId}{v:Value}{l:List Jb}(h:OwnK w base e 13 v (cellsJ l)):∃ A c,v = .slice A l.length c/\RdJ w A l/\l.length<=c/\c<=9223372036854775807:=by
 obtain ⟨A,c,hv,hr,h1,h2,_⟩:=h.sl
 rw [cellsJ_length] at hv h1
 refine ⟨A,c,hv,hr,h1,?_⟩
 unfold maxLen at h2;omega
section
variable {o:Oper}{a:Act}{w:World}{K:Act->World->Prop}{Q:Exit->Act->World->Prop}
end
end
section
open Go.ChangeShapes Go.WideShapes Go.RowKit Go.Deep
structure Mc where
 nm:ByteArray
 a:Int
 b:Int
 c:Int
 A:Option Addr
 n:Nat
 cp:Nat
 up:Bool
 un:Int
abbrev Mc.node (m:Mc):Array Value:=#[.string m.nm,.int .i64 m.a,.int .i64 m.b,.int .i64 m.c,.slice m.A m.n m.cp]
abbrev Mc.arr (m:Mc):Array Value:=#[.string m.nm,.int .i64 m.a,.int .i64 m.b,.int .i64 m.c,.slice m.A m.n m.cp,.bool m.up,.int .i64 m.un]
def Mc.cells (m:Mc):List Value:=m.arr.toList
theorem Mc.cells_one (m:Mc):∀ u ∈ m.cells,u.oneCell' = true:=by
 intro u hu
 simp only [Mc.cells,Mc.arr,List.mem_cons,List.not_mem_nil,or_false] at hu
 rcases hu with rfl | rfl | rfl | rfl | rfl | rfl | rfl <;> rfl
def cellsM (l:List Mc):List (List Value):=l.map Mc.cells
theorem cellsM_length (l:List Mc):(cellsM l).length=l.length:=by simp [cellsM]
theorem cellsM_append (l m:List Mc):cellsM (l ++ m)=cellsM l ++ cellsM m:=by simp [cellsM]
theorem cellsM_k (l:List Mc):∀ x ∈ cellsM l,x.length=7:=by
 intro x hx
 simp only [cellsM,List.mem_map] at hx
 obtain ⟨j,_,rfl⟩:=hx
 rfl
def RdM (w:World)(A:Option Addr)(l:List Mc):Prop:=RdK w 7 A (cellsM l)
structure MAt (w:World) (g o:Nat)(m:Mc):Prop where
 rg:w.rangeAt g o m.arr.toList
section
variable {w w':World}{g o:Nat}{m:Mc}
end
section
variable {w w':World}{A:Option Addr}{l:List Mc}
theorem RdM.later (h:RdM w A l)(hb:Below w.heap.size w w'):RdM w' A l:=RdK.later h hb
theorem RdM.at (h:RdM w A l){i:Nat}(hi:i<l.length):∃ g o,A=some ⟨g,o,none⟩/\g<w.heap.size/\MAt w g (o+i * 7) l[i]:=by
 obtain ⟨g,o,ha,hr⟩:=RdK.at h (i:=i) (by rw [cellsM_length];exact hi)
 have hr':w.rangeAt g (o+i * 7) l[i].arr.toList:=by have h2:=hr;simp only [cellsM,List.getElem_map] at h2;exact h2
 exact ⟨g,o,ha,range_lt hr' (by show 0<7;omega),⟨hr'⟩⟩
end
structure Kt where
 nm:ByteArray
 qu:ByteArray
 pr:Int
 a:Int
 b:Int
 c:Int
 A:Option Addr
 n:Nat
 cp:Nat
 ap:ByteArray
 ga:ByteArray
 sz:Int
abbrev Kt.arr (t:Kt):Array Value:=#[.string t.nm,.string t.qu,.int .i64 t.pr,.int .i64 t.a,.int .i64 t.b,.int .i64 t.c,.slice t.A t.n t.cp,.string t.ap,.string t.ga,.int .i64 t.sz]
abbrev Jb.tk (j:Jb):Kt:=⟨j.nm,j.qu,j.pr,j.a,j.b,j.c,j.A,j.n,j.cp,j.ap,j.ga,j.sz⟩
abbrev Kt.job (t:Kt)(s:ByteArray):Jb:=⟨t.nm,t.qu,t.pr,t.a,t.b,t.c,t.A,t.n,t.cp,t.ap,t.ga,t.sz,0,s,0⟩
structure LbOk (w:World)(A:Option Addr) (n cp:Nat)(l:List Lb):Prop where
 len:n=l.length
 rd:RdL w A l
 cap:n<=cp
 cap2:cp<=9223372036854775807
 sz:Sz l
theorem LbOk.later {w w':World}{A:Option Addr}{n cp:Nat}{l:List Lb}(h:LbOk w A n cp l)(hb:Below w.heap.size w w'):LbOk w' A n cp l:=⟨h.len,h.rd.later hb,h.cap,h.cap2,h.sz⟩
theorem LbOk.nil (w:World):LbOk w none 0 0 []:=⟨rfl,RdL.nil _ _,Nat.le_refl _,by omega,fun x hx=>by simp at hx⟩
structure McOk (w:World)(m:Mc)(l:List Lb):Prop where
 nm:m.nm.size<=140737488351232
 lb:LbOk w m.A m.n m.cp l
theorem McOk.later {w w':World}{m:Mc}{l:List Lb}(h:McOk w m l)(hb:Below w.heap.size w w'):McOk w' m l:=⟨h.nm,h.lb.later hb⟩
structure KtOk (w:World)(t:Kt)(l:List Lb):Prop where
 nm:t.nm.size<=140737488351232
 qu:t.qu.size<=140737488351232
 ap:t.ap.size<=140737488351232
 ga:t.ga.size<=140737488351232
 lb:LbOk w t.A t.n t.cp l
theorem KtOk.later {w w':World}{t:Kt}{l:List Lb}(h:KtOk w t l)(hb:Below w.heap.size w w'):KtOk w' t l:=⟨h.nm,h.qu,h.ap,h.ga,h.lb.later hb⟩
section
variable {H:Type}{enc:TypeId × Value->H}{W:World}{base:Nat}{sp:Nat->Bool}{held:Bool}
end
end
section
open Go.ChangeShapes Go.WideShapes Go.RowKit Go.Deep
abbrev Ml:=Mc × List Lb
abbrev mcs (L:List Ml):List Mc:=L.map Prod.fst
def MsOk (w:World)(L:List Ml):Prop:=∀ x ∈ L,McOk w x.1 x.2
theorem MsOk.later {w w':World}{L:List Ml}(h:MsOk w L)(hb:Below w.heap.size w w'):MsOk w' L:=fun x hx=>(h x hx).later hb
theorem MsOk.at {w:World}{L:List Ml}(h:MsOk w L){i:Nat}(hi:i<L.length):McOk w L[i].1 L[i].2:=h _ (List.getElem_mem hi)
theorem mcs_at {L:List Ml}{i:Nat}(hi:i<L.length):(mcs L)[i]'(by simpa using hi)=L[i].1:=by simp [mcs]
section
variable {H:Type}{enc:TypeId × Value->H}{W:World}{base:Nat}{sp:Nat->Bool}{held:Bool}
end
end
section
open Go.RowKit
theorem ret_bool' {a b:Bool}(h:a=b):Ending.returned (.bool a) = .returned (.bool b):=by rw [h]
theorem all_takeL {l:List Lb}{p:Lb->Bool}{k:Nat}(h:k<l.length):(l.take (k+1)).all p=((l.take k).all p && p l[k]):=by
 rw [List.take_succ_eq_append_getElem h,List.all_append];simp
theorem all_take_falseL {l:List Lb}{p:Lb->Bool}{k:Nat}(h:k<l.length)(hp:p l[k]=false):l.all p=false:=by
 rw [List.all_eq_false]
 exact ⟨l[k],List.getElem_mem h,by simp [hp]⟩
theorem lE_yes {x y:Lb}(h:lE x y=true):x.1.toList=y.1.toList/\x.2.toList=y.2.toList:=by rw [lE_iff.1 h];exact ⟨rfl,rfl⟩
theorem lE_no {x y:Lb}(h:lE x y=false):(x.1.toList ≠ y.1.toList) ∨ (x.1.toList=y.1.toList/\x.2.toList ≠ y.2.toList):=by
 by_cases h1:x.1.toList=y.1.toList
 ·refine .inr ⟨h1,fun h2=>?_⟩
  unfold lE sE at h
  simp [h1,h2] at h
 ·exact .inl h1
def sameB (l m:List Lb):Bool:=decide (l=m)
theorem same_len {l m:List Lb}(h:l.length ≠ m.length):sameB l m=false:=decide_eq_false fun hc=>h (by rw [hc])
theorem same_at {l m:List Lb}{k:Nat}(h1:k<l.length)(h2:k<m.length)(h:lE l[k] m[k]=false):sameB l m=false:=decide_eq_false fun hc=>by
 subst hc
 rw [lE_iff.2 rfl] at h;cases h

theorem same_any (A B:Option Addr) (n c m d:Nat)(l r:List Lb)(w:World)(hn:Hid (n=l.length))(hm:Hid (m=r.length))(hr:Hid (RdL w A l))(hq:Hid (RdL w B r))(hc:n<=c)(hc2:c<=9223372036854775807)(hd:m<=d)(hd2:d<=9223372036854775807) :
  Calls Tryz.prog 92 #[.slice A n c,.slice B m d] w fun e w'=>e = .returned (.bool (sameB l r))/\Below w.heap.size w w':=by
 by_cases hnm:n=m
 ·obtain rfl:n=m:=hnm
  go_enter Tryz.func92,Tryz.ntmps92
  go_wp2
  go_loopw [5,13] (fun _ i wr=>∃ k:Nat,k<=n/\i = .int .i64 k/\Hid (l.take k=r.take k)/\Below w.heap.size w wr) (fun _ i wr=>n - (intOf i).toNat)
  case atStart=>exact ⟨0,Nat.zero_le _,rfl,(show l.take 0=r.take 0 by simp),Below.refl _ _⟩
  case round=>
   obtain ⟨k,hk,rfl,HA,hb⟩:=hrel
   by_cases hlt:k<n
   ·have hl:k<l.length:=by have:=hn.out;omega
    have hl2:k<r.length:=by have:=hm.out;omega
    obtain ⟨g,o,rfl,hg,h1,h2⟩:=(hr.out.later hb).at hl
    obtain ⟨g',o',rfl,hg',h1',h2'⟩:=(hq.out.later hb).at hl2
    by_cases hE:lE l[k] r[k]=true
    ·have HS:Hid (l.take (k+1)=r.take (k+1)):=by
      show _=_
      rw [List.take_succ_eq_append_getElem hl,List.take_succ_eq_append_getElem hl2,HA.out,lE_iff.1 hE]
     obtain ⟨e1,e2⟩:=lE_yes hE
     clear hE
     go_wp2_with fail
     go_quiet (fail)
     go_wp2
     go_round
     case rel=>exact ⟨k+1,by omega,by go_num,HS,bel⟩
     case measure=>simp [intOf];omega
    ·have HK:Hid (sameB l r=false):=same_at hl hl2 (by simpa using hE)
     have hE':=lE_no (by simpa using hE)
     clear hE
     rcases hE' with e1 | ⟨e1,e2⟩
     all_goals
      go_wp2_with fail
      go_quiet (fail)
      go_wp2
      go_ret
      exact ⟨ret_bool' HK.out.symm,bel⟩
   ·have HK:Hid (sameB l r=true):=decide_eq_true (by
     have:=HA.out
     rwa [List.take_of_length_le (by have:=hn.out;omega),List.take_of_length_le (by have:=hm.out;omega)] at this)
    go_wp2
    go_ret
    exact ⟨ret_bool' HK.out.symm,bel⟩
 ·have hr:sameB l r=false:=same_len (by have:=hn.out;have:=hm.out;omega)
  rw [hr]
  go_enter Tryz.func92,Tryz.ntmps92
  go_wp2
  go_ret
  exact ⟨rfl,Below.refl _ _⟩
end
section
open Go.RowKit
abbrev Ac:=Int × ByteArray × ByteArray
def RdA (w:World)(A:Option Addr)(l:List Ac):Prop:=
 ∀ i x,l[i]? = some x -> ∃ g o,A=some ⟨g,o,none⟩/\w.cell? ⟨g,o+i * 3,none⟩=some (.int .i64 x.1)/\w.cell? ⟨g,o+i * 3+1,none⟩=some (.string x.2.1)/\w.cell? ⟨g,o+i * 3+2,none⟩=some (.string x.2.2)
section
variable {w w':World}{A:Option Addr}{l:List Ac}
end
end
end Go.Proofs.YtccccbofcnmdiaaGreat
