/- The library's iterators over gen2's maps (maps.Keys, maps.Values), what slices.Collect makes of them. Condition: at most 1000000 entries. -/
import Derived.Test.YtjgojgmgicpgaaaGreatTMgl
import Derived.RangeFuncBox
import Derived.RangeFuncNested
import Derived.RangeFuncBound
import Derived.RangeFuncCalls
import Derived.RangeFuncLeaves
import Derived.Shelf.Abstract
import Derived.WalkKit
import Derived.OwnWalkIn
import Derived.TacticsInMore
import Derived.LoopNIn
import Derived.LoopIn
import Derived.Maps.AppendAt
import Derived.Sort.MapsRangeIn
namespace Go.Proofs.YtjgojgmgicpgaaaGreat
open Go.RowKit Go.Shelf
set_option linter.unusedSimpArgs false
set_option linter.unusedVariables false
set_option linter.unusedSectionVars false
attribute [local go_sem] Oper.semAt_some

section
variable {κ : Type} [DecidableEq κ] {enc : κ → Value} {F : Fence} {n : Nat} {P : Program} {w : World} {ops : Array Oper} {rest : List Oper} {o : Oper} {a : Act} {Q : Exit → Act → World → Prop} {L T : EntG κ}
theorem range_in_g (hg : o.guard = none) (m : Operand) (t : TypeId) (hop : o.op = Op.range t m) (k e : TypeId) (ht : P.underlying t = some (.map k e)) (mv : Value) (hm : a.eval m = mv) (h : MapH enc w mv L)
    (hK : ∀ w', RngG enc w' mv w.heap.size L L → w.grownBy w' none → wpListIn F n P ops Q rest (a.put o.dst (.pointer (some ⟨w.heap.size, 0, none⟩))) w') : wpListIn F n P ops Q (o :: rest) a w := by
  refine wpListIn_plain hg fun K' hK' => ?_
  obtain ⟨w', hrun, r1, r2, r3, r4⟩ := h.range ht
  unfold Oper.wpIn
  refine ⟨?_, ?_⟩
  · simp [Oper.about, hop]
  · rw [Oper.semAt_plain F _ _ (by rw [hop]; intro c hc'; cases hc')]
    simp [execOp, hop, hm, hrun, Result.andThen]
    exact hK' _ _ (hK w' r1 ⟨r2.os, r2.tape, r2.output, r2.size, fun i hi _ => r2.block i hi⟩)
theorem next_in_g {mv : Value} (hi : ∀ a b, enc a = enc b → a = b) (hg : o.guard = none) (it : Operand) (hop : o.op = Op.next it false) (r : Nat) (hit : a.eval it = .pointer (some ⟨r, 0, none⟩)) (h : RngG enc w mv r L T)
    (hDone : T = [] → wpListIn F n P ops Q rest (a.put o.dst (.tuple #[.bool false])) w)
    (hMore : ∀ s v T' w', T.Perm ((s, v) :: T') → RngG enc w' mv r L T' → w.grownBy w' (some r) → (Instr.entry (.pointer (some ⟨r, 0, none⟩))).run P w' = .ok (.tuple #[enc s, v]) w' → wpListIn F n P ops Q rest (a.put o.dst (.tuple #[.bool true, enc s, v])) w') : wpListIn F n P ops Q (o :: rest) a w := by
  refine wpListIn_plain hg fun K' hK' => ?_
  unfold Oper.wpIn
  refine ⟨by simp [Oper.about, hop], ?_⟩
  rw [Oper.semAt_plain F _ _ (by rw [hop]; intro c hc'; cases hc')]
  rcases h.next (P := P) hi o.type with ⟨h0, hrun⟩ | ⟨p, T', w', hp, hrun, hr, hgr, hs, hen⟩
  · simp [execOp, hop, hit, hrun, Result.andThen]
    exact hK' _ _ (hDone h0)
  · simp [execOp, hop, hit, hrun, Result.andThen]
    exact hK' _ _ (hMore p.1 p.2 T' w' hp hr hgr hen)
end
/-- The cells of texts, of pointers. -/
def cellsX (l : List ByteArray) : List (List Value) := l.map fun o => [.string o]
theorem cellsX_length (l : List ByteArray) : (cellsX l).length = l.length := by simp [cellsX]
theorem cellsX_k (l : List ByteArray) : ∀ x ∈ cellsX l, x.length = 1 := by
  intro x hx
  obtain ⟨y, _, rfl⟩ := List.mem_map.1 hx
  rfl
def cellsP (l : List (Option Addr)) : List (List Value) := l.map fun o => [.pointer o]
theorem cellsP_length (l : List (Option Addr)) : (cellsP l).length = l.length := by simp [cellsP]
theorem cellsP_k (l : List (Option Addr)) : ∀ x ∈ cellsP l, x.length = 1 := by
  intro x hx
  obtain ⟨y, _, rfl⟩ := List.mem_map.1 hx
  rfl
theorem flat_one {α : Type} (f : α → Value) (l : List α) : (l.map fun x => [f x]).flatten = l.map f := by
  induction l with
  | nil => rfl
  | cons x l ih => simp [ih]
theorem infoPJ : (Tryz.prog.info? 146).map (fun i => (i.zero, i.size, i.bytes)) = some (some (.pointer none), 1, 8) := by kernel_rfl
theorem infoST : (Tryz.prog.info? 9).map (fun i => (i.zero, i.size, i.bytes)) = some (some (.string ⟨#[]⟩), 1, 16) := by kernel_rfl
set_option maxRecDepth 100000 in
set_option maxHeartbeats 2000000 in
theorem keysM1_in (F : Fence) (n : Nat) (hF : F.fn 177) (hro : F.round = none) (hn : 1 ≤ n) (l Bm : Nat) (o : Option Nat) (L : EntG ByteArray) (hval : True) (J Jx : List ByteArray → World → Prop)
    (hY : ∀ pre x W, J pre W → pre.length < L.length → YieldAt F (n - 1) Tryz.prog l #[.string x] W fun e W' => (e = .returned (.bool true) ∧ J (pre ++ [x]) W' ∧ KeepsWalks W W') ∨ (e = .returned (.bool false) ∧ Jx (pre ++ [x]) W'))
    (W : World) (hJ : AbidesFrom W.heap.size J) (hm : W.cell? ⟨Bm, 0, none⟩ = some (.map o)) (hown : MapH Value.string W (.map o) L) (h0 : J [] W) :
    CallsIn F n Tryz.prog 177 #[.func (.yield l) #[] #[], .pointer (some ⟨Bm, 0, none⟩)] W fun e W' => (∃ v, e = .returned v) ∧ ((∃ xs, (∃ ps : EntG ByteArray, ps.Perm L ∧ xs = ps.map Prod.fst) ∧ J xs W') ∨ (∃ pre, True ∧ Jx pre W')) := by
  refine callsIn_of_wp Tryz.func177 rfl hF ?_ hro
  simp only [Tryz.ntmps177, List.size_toArray, List.length_cons, List.length_nil, Nat.reduceAdd, Nat.reduceSub, Array.replicate_succ, Array.replicate_zero, List.push_toArray, List.append_toArray, List.nil_append, List.cons_append]
  gi_wp2_with (first
    | (gi_at_range; refine range_in_g rfl _ 117 rfl 9 136 Tryz.underlying117 (.map o) rfl hown ?_; intro w0 hrg0 hg0)
    | gi_in)
  go_frame
  gi_loopw [3] (fun _ wr => ∃ (dn tn : EntG ByteArray) (xs : List ByteArray), (dn ++ tn).Perm L ∧ xs = dn.map Prod.fst ∧ RngG Value.string wr (.map o) W.heap.size L tn ∧ J xs wr)
    (fun _ wr => rngLeft wr W.heap.size)
  case atStart =>
    exact ⟨[], L, [], List.Perm.refl _, rfl, hrg0, hJ [] W w0 none h0 hg0 (fun r e => by cases e)⟩
  case round =>
    obtain ⟨dn, tn, xs, hp, hxs, hrg, hJs⟩ := hrel
    have hlen : xs.length = dn.length := by have := congrArg List.length hxs; simpa using this
    gi_wp2_with (first
      | (gi_at_next; refine next_in_g (fun a b h => by injection h) rfl _ rfl W.heap.size rfl hrg ?_ ?_)
      | gi_in)
    · intro htn
      subst htn
      gi_wp2
      go_end0
      exact ⟨⟨_, rfl⟩, .inl ⟨xs, ⟨dn, by simpa using hp, hxs⟩, hJs⟩⟩
    · intro s v tn' w2 hp2 hrg2 hg2 hen
      have hpl : ((dn ++ [(s, v)]) ++ tn').Perm L := by
        refine List.Perm.trans ?_ hp
        rw [List.append_assoc]
        exact List.Perm.append_left dn hp2.symm
      have hdl : dn.length < L.length := by
        have := hpl.length_eq
        simp at this
        omega
      have hJ2 : J xs w2 := hJ xs wr w2 (some W.heap.size) hJs hg2 (fun r e => by cases e; exact ⟨Nat.le_refl _, hrg.iter⟩)
      obtain ⟨fn, tmps, assign, body, hy, hR⟩ := hY xs s w2 hJ2 (by omega)
      have hxs2 : xs ++ [s] = (dn ++ [(s, v)]).map Prod.fst := by rw [List.map_append, ← hxs]; rfl
      gi_wp2
      refine hR.mono ?_
      rintro e W3 (⟨rfl, hJ3, hk3⟩ | ⟨rfl, hJx3⟩)
      · gi_wp2
        have hrg3 := hrg2.walks hk3
        go_roundw
        case rel => exact ⟨_, tn', _, hpl, hxs2, hrg3, hJ3⟩
        case measure => rw [hrg3.left_eq, hrg.left_eq, hp2.length_eq]; simp
      · gi_wp2
        refine bodyPost_ret (results_none rfl _ _ _) rfl ?_
        exact ⟨⟨_, rfl⟩, .inr ⟨_, trivial, hJx3⟩⟩
theorem keysM_stops (F : Fence) (n : Nat) (hF : F.fn 177) (hro : F.round = none) (hn : 1 ≤ n) (Bm : Nat) (o : Option Nat) (L : EntG ByteArray) (hval : True) (w : World) (hm : w.cell? ⟨Bm, 0, none⟩ = some (.map o)) (hown : MapH Value.string w (.map o) L) :
    SeqStopsK F n Tryz.prog 177 #[.pointer (some ⟨Bm, 0, none⟩)] (fun x : ByteArray => #[.string x]) KeepsWalks (fun xs => ∃ ps : EntG ByteArray, ps.Perm L ∧ xs = ps.map Prod.fst) (fun _ => True) L.length w := fun l J Jx W hW hJ _ hY h0 =>
  keysM1_in F n hF hro hn l Bm o L hval J Jx hY W hJ ((hW.cell (p := ⟨Bm, 0, none⟩) (World.block_lt_of_cell? w _ hm)).trans hm) (hown.later hW) h0
theorem keysM_any (o : Option Nat) (w : World) : Calls Tryz.prog 74 #[.map o] w fun e w' => e = .returned (.func (.func 177) #[] #[.pointer (some ⟨w.heap.size, 0, none⟩)]) ∧ w' = w.alloc (.cells #[.map o] 117) := by
  go_enter Tryz.func74, Tryz.ntmps74
  go_wp2
  go_ret
  exact ⟨rfl, rfl⟩

set_option maxRecDepth 100000 in
set_option maxHeartbeats 2000000 in
theorem keysQ1_in (F : Fence) (n : Nat) (hF : F.fn 178) (hro : F.round = none) (hn : 1 ≤ n) (l Bm : Nat) (o : Option Nat) (L : EntG ByteArray) (hval : True) (J Jx : List ByteArray → World → Prop)
    (hY : ∀ pre x W, J pre W → pre.length < L.length → YieldAt F (n - 1) Tryz.prog l #[.string x] W fun e W' => (e = .returned (.bool true) ∧ J (pre ++ [x]) W' ∧ KeepsWalks W W') ∨ (e = .returned (.bool false) ∧ Jx (pre ++ [x]) W'))
    (W : World) (hJ : AbidesFrom W.heap.size J) (hm : W.cell? ⟨Bm, 0, none⟩ = some (.map o)) (hown : MapH Value.string W (.map o) L) (h0 : J [] W) :
    CallsIn F n Tryz.prog 178 #[.func (.yield l) #[] #[], .pointer (some ⟨Bm, 0, none⟩)] W fun e W' => (∃ v, e = .returned v) ∧ ((∃ xs, (∃ ps : EntG ByteArray, ps.Perm L ∧ xs = ps.map Prod.fst) ∧ J xs W') ∨ (∃ pre, True ∧ Jx pre W')) := by
  refine callsIn_of_wp Tryz.func178 rfl hF ?_ hro
  simp only [Tryz.ntmps178, List.size_toArray, List.length_cons, List.length_nil, Nat.reduceAdd, Nat.reduceSub, Array.replicate_succ, Array.replicate_zero, List.push_toArray, List.append_toArray, List.nil_append, List.cons_append]
  gi_wp2_with (first
    | (gi_at_range; refine range_in_g rfl _ 118 rfl 9 140 Tryz.underlying118 (.map o) rfl hown ?_; intro w0 hrg0 hg0)
    | gi_in)
  go_frame
  gi_loopw [3] (fun _ wr => ∃ (dn tn : EntG ByteArray) (xs : List ByteArray), (dn ++ tn).Perm L ∧ xs = dn.map Prod.fst ∧ RngG Value.string wr (.map o) W.heap.size L tn ∧ J xs wr)
    (fun _ wr => rngLeft wr W.heap.size)
  case atStart =>
    exact ⟨[], L, [], List.Perm.refl _, rfl, hrg0, hJ [] W w0 none h0 hg0 (fun r e => by cases e)⟩
  case round =>
    obtain ⟨dn, tn, xs, hp, hxs, hrg, hJs⟩ := hrel
    have hlen : xs.length = dn.length := by have := congrArg List.length hxs; simpa using this
    gi_wp2_with (first
      | (gi_at_next; refine next_in_g (fun a b h => by injection h) rfl _ rfl W.heap.size rfl hrg ?_ ?_)
      | gi_in)
    · intro htn
      subst htn
      gi_wp2
      go_end0
      exact ⟨⟨_, rfl⟩, .inl ⟨xs, ⟨dn, by simpa using hp, hxs⟩, hJs⟩⟩
    · intro s v tn' w2 hp2 hrg2 hg2 hen
      have hpl : ((dn ++ [(s, v)]) ++ tn').Perm L := by
        refine List.Perm.trans ?_ hp
        rw [List.append_assoc]
        exact List.Perm.append_left dn hp2.symm
      have hdl : dn.length < L.length := by
        have := hpl.length_eq
        simp at this
        omega
      have hJ2 : J xs w2 := hJ xs wr w2 (some W.heap.size) hJs hg2 (fun r e => by cases e; exact ⟨Nat.le_refl _, hrg.iter⟩)
      obtain ⟨fn, tmps, assign, body, hy, hR⟩ := hY xs s w2 hJ2 (by omega)
      have hxs2 : xs ++ [s] = (dn ++ [(s, v)]).map Prod.fst := by rw [List.map_append, ← hxs]; rfl
      gi_wp2
      refine hR.mono ?_
      rintro e W3 (⟨rfl, hJ3, hk3⟩ | ⟨rfl, hJx3⟩)
      · gi_wp2
        have hrg3 := hrg2.walks hk3
        go_roundw
        case rel => exact ⟨_, tn', _, hpl, hxs2, hrg3, hJ3⟩
        case measure => rw [hrg3.left_eq, hrg.left_eq, hp2.length_eq]; simp
      · gi_wp2
        refine bodyPost_ret (results_none rfl _ _ _) rfl ?_
        exact ⟨⟨_, rfl⟩, .inr ⟨_, trivial, hJx3⟩⟩
theorem keysQ_stops (F : Fence) (n : Nat) (hF : F.fn 178) (hro : F.round = none) (hn : 1 ≤ n) (Bm : Nat) (o : Option Nat) (L : EntG ByteArray) (hval : True) (w : World) (hm : w.cell? ⟨Bm, 0, none⟩ = some (.map o)) (hown : MapH Value.string w (.map o) L) :
    SeqStopsK F n Tryz.prog 178 #[.pointer (some ⟨Bm, 0, none⟩)] (fun x : ByteArray => #[.string x]) KeepsWalks (fun xs => ∃ ps : EntG ByteArray, ps.Perm L ∧ xs = ps.map Prod.fst) (fun _ => True) L.length w := fun l J Jx W hW hJ _ hY h0 =>
  keysQ1_in F n hF hro hn l Bm o L hval J Jx hY W hJ ((hW.cell (p := ⟨Bm, 0, none⟩) (World.block_lt_of_cell? w _ hm)).trans hm) (hown.later hW) h0
theorem keysQ_any (o : Option Nat) (w : World) : Calls Tryz.prog 75 #[.map o] w fun e w' => e = .returned (.func (.func 178) #[] #[.pointer (some ⟨w.heap.size, 0, none⟩)]) ∧ w' = w.alloc (.cells #[.map o] 118) := by
  go_enter Tryz.func75, Tryz.ntmps75
  go_wp2
  go_ret
  exact ⟨rfl, rfl⟩

set_option maxRecDepth 100000 in
set_option maxHeartbeats 2000000 in
theorem values1_in (F : Fence) (n : Nat) (hF : F.fn 273) (hro : F.round = none) (hn : 1 ≤ n) (l Bm : Nat) (o : Option Nat) (L : EntG ByteArray) (hval : ∀ p ∈ L, ∃ x, p.2 = .pointer x) (J Jx : List (Option Addr) → World → Prop)
    (hY : ∀ pre x W, J pre W → pre.length < L.length → YieldAt F (n - 1) Tryz.prog l #[.pointer x] W fun e W' => (e = .returned (.bool true) ∧ J (pre ++ [x]) W' ∧ KeepsWalks W W') ∨ (e = .returned (.bool false) ∧ Jx (pre ++ [x]) W'))
    (W : World) (hJ : AbidesFrom W.heap.size J) (hm : W.cell? ⟨Bm, 0, none⟩ = some (.map o)) (hown : MapH Value.string W (.map o) L) (h0 : J [] W) :
    CallsIn F n Tryz.prog 273 #[.func (.yield l) #[] #[], .pointer (some ⟨Bm, 0, none⟩)] W fun e W' => (∃ v, e = .returned v) ∧ ((∃ xs, (∃ ps : EntG ByteArray, ps.Perm L ∧ ps.map Prod.snd = xs.map Value.pointer) ∧ J xs W') ∨ (∃ pre, True ∧ Jx pre W')) := by
  refine callsIn_of_wp Tryz.func273 rfl hF ?_ hro
  simp only [Tryz.ntmps273, List.size_toArray, List.length_cons, List.length_nil, Nat.reduceAdd, Nat.reduceSub, Array.replicate_succ, Array.replicate_zero, List.push_toArray, List.append_toArray, List.nil_append, List.cons_append]
  gi_wp2_with (first
    | (gi_at_range; refine range_in_g rfl _ 120 rfl 9 146 Tryz.underlying120 (.map o) rfl hown ?_; intro w0 hrg0 hg0)
    | gi_in)
  go_frame
  gi_loopw [4] (fun _ wr => ∃ (dn tn : EntG ByteArray) (xs : List (Option Addr)), (dn ++ tn).Perm L ∧ dn.map Prod.snd = xs.map Value.pointer ∧ RngG Value.string wr (.map o) W.heap.size L tn ∧ J xs wr)
    (fun _ wr => rngLeft wr W.heap.size)
  case atStart =>
    exact ⟨[], L, [], List.Perm.refl _, rfl, hrg0, hJ [] W w0 none h0 hg0 (fun r e => by cases e)⟩
  case round =>
    obtain ⟨dn, tn, xs, hp, hxs, hrg, hJs⟩ := hrel
    have hlen : xs.length = dn.length := by have := congrArg List.length hxs; simpa using this.symm
    gi_wp2_with (first
      | (gi_at_next; refine next_in_g (fun a b h => by injection h) rfl _ rfl W.heap.size rfl hrg ?_ ?_)
      | gi_in)
    · intro htn
      subst htn
      gi_wp2
      go_end0
      exact ⟨⟨_, rfl⟩, .inl ⟨xs, ⟨dn, by simpa using hp, hxs⟩, hJs⟩⟩
    · intro s v tn' w2 hp2 hrg2 hg2 hen
      have hpl : ((dn ++ [(s, v)]) ++ tn').Perm L := by
        refine List.Perm.trans ?_ hp
        rw [List.append_assoc]
        exact List.Perm.append_left dn hp2.symm
      have hdl : dn.length < L.length := by
        have := hpl.length_eq
        simp at this
        omega
      have hJ2 : J xs w2 := hJ xs wr w2 (some W.heap.size) hJs hg2 (fun r e => by cases e; exact ⟨Nat.le_refl _, hrg.iter⟩)
      obtain ⟨x, hx⟩ : ∃ x, v = .pointer x := hval (s, v) (hpl.mem_iff.1 (by simp))
      subst hx
      obtain ⟨fn, tmps, assign, body, hy, hR⟩ := hY xs x w2 hJ2 (by omega)
      have hxs2 : (dn ++ [(s, Value.pointer x)]).map Prod.snd = (xs ++ [x]).map Value.pointer := by rw [List.map_append, List.map_append, hxs]; rfl
      gi_wp2
      refine hR.mono ?_
      rintro e W3 (⟨rfl, hJ3, hk3⟩ | ⟨rfl, hJx3⟩)
      · gi_wp2
        have hrg3 := hrg2.walks hk3
        go_roundw
        case rel => exact ⟨_, tn', _, hpl, hxs2, hrg3, hJ3⟩
        case measure => rw [hrg3.left_eq, hrg.left_eq, hp2.length_eq]; simp
      · gi_wp2
        refine bodyPost_ret (results_none rfl _ _ _) rfl ?_
        exact ⟨⟨_, rfl⟩, .inr ⟨_, trivial, hJx3⟩⟩
theorem values_stops (F : Fence) (n : Nat) (hF : F.fn 273) (hro : F.round = none) (hn : 1 ≤ n) (Bm : Nat) (o : Option Nat) (L : EntG ByteArray) (hval : ∀ p ∈ L, ∃ x, p.2 = .pointer x) (w : World) (hm : w.cell? ⟨Bm, 0, none⟩ = some (.map o)) (hown : MapH Value.string w (.map o) L) :
    SeqStopsK F n Tryz.prog 273 #[.pointer (some ⟨Bm, 0, none⟩)] (fun x : (Option Addr) => #[.pointer x]) KeepsWalks (fun xs => ∃ ps : EntG ByteArray, ps.Perm L ∧ ps.map Prod.snd = xs.map Value.pointer) (fun _ => True) L.length w := fun l J Jx W hW hJ _ hY h0 =>
  values1_in F n hF hro hn l Bm o L hval J Jx hY W hJ ((hW.cell (p := ⟨Bm, 0, none⟩) (World.block_lt_of_cell? w _ hm)).trans hm) (hown.later hW) h0
theorem values_any (o : Option Nat) (w : World) : Calls Tryz.prog 180 #[.map o] w fun e w' => e = .returned (.func (.func 273) #[] #[.pointer (some ⟨w.heap.size, 0, none⟩)]) ∧ w' = w.alloc (.cells #[.map o] 120) := by
  go_enter Tryz.func180, Tryz.ntmps180
  go_wp2
  go_ret
  exact ⟨rfl, rfl⟩

set_option maxRecDepth 100000 in
set_option maxHeartbeats 4000000 in
theorem appendS_in (F : Fence) (n : Nat) (hF : F.fn 268) (hro : F.round = none) (hn : 2 ≤ n) (gf : Nat) (lb : Array Value) (hFg : F.fn gf) (eg : ∀ args w, (callFunc gf args).run Tryz.prog w = .ok (.enter gf args) w) (S Sp : List ByteArray → Prop) (N : Nat) (hN : N ≤ 1000000) (w : World)
    (hseq : ∀ w', Below w.heap.size w w' → SeqStopsK F (n - 1) Tryz.prog gf lb (fun x : ByteArray => #[Value.string x]) KeepsWalks S Sp N w') :
    CallsIn F n Tryz.prog 268 #[.slice none 0 0, .func (.func gf) #[] lb] w fun e W' => ∃ v xs, e = .returned v ∧ S xs ∧ W'.ownsRow w.heap.size 9 1 v xs.length (xs.map Value.string) ∧ Below w.heap.size w W' := by
  have h1 : 1 ≤ n := by omega
  have hNl : N ≤ maxLen := by unfold maxLen; omega
  obtain ⟨i0, hi, hz0, hz1, hz2⟩ := info_parts infoST
  refine callsIn_of_wp_marks Tryz.func268 rfl hF ?_ hro
  simp only [Tryz.ntmps268, List.size_toArray, List.length_cons, List.length_nil, Nat.reduceAdd, Nat.reduceSub, Array.replicate_succ, Array.replicate_zero, List.push_toArray, List.append_toArray, List.nil_append, List.cons_append]
  gi_wp2
  have bO := Boxed.new w 131 (.slice none 0 0)
  have hB0 : Below w.heap.size w (w.alloc (.cells #[.slice none 0 0] 131)) := (Below.refl _ w).alloc (Nat.le_refl _) _
  refine wpIn_rangeFunc_ownG hro h1 (gf := gf) (lb := lb) rfl hFg eg (hseq _ hB0) walksK_t walksK_b (Below.refl _ _) (fun _ => rfl)
    (fun pre W => (∃ v, Boxed W w.heap.size 131 v ∧ W.ownsRow w.heap.size 9 1 v pre.length (pre.map Value.string) ∧ (v = .slice none 0 0 ↔ pre = [])) ∧ Below w.heap.size w W)
    (fun _ _ _ => False)
    (OwnFrom.and (Own.from (holdsRow_own w.heap.size w.heap.size 131 9 1 (fun pre => pre.length) (fun pre => pre.map Value.string) (fun pre v => v = .slice none 0 0 ↔ pre = [])) _) (ownFrom_below (Nat.le_refl _) (by simp)))
    (fun _ _ _ _ _ hs _ _ => hs)
    ⟨⟨_, bO, World.ownsRow_nil _ _ _ _, by simp⟩, hB0⟩
    (fun x => { tmps := #[.slice none 0 0, .func (.func gf) #[] lb, .pointer (some ⟨w.heap.size, 0, none⟩), undef, .slice none 0 0, Value.string x, .func (.func gf) #[] lb, Value.string x, undef, undef, undef, undef, undef], defers := [] }) ?assign ?body ?done ?stop
  case assign =>
    intro l x W K hK
    gi_wp2
    exact hK
  case body =>
    rintro l pre x W ⟨⟨v, hv, hrow, hnil⟩, hB⟩ hlt
    have hc := hv.cell
    gi_wp2_with (gi_at_builtin; refine wpListIn_append_own _ rfl _ _ 131 rfl w.heap.size 9 i0 (.string ⟨#[]⟩) 1 16 Tryz.underlying131 hi hz0 hz1 hz2 rfl (by decide) _ _ _ rfl (hrow.alloc _) ⟨W.heap.size, 0, none⟩ 1 1 [Value.string x] rfl rfl (cell_one_new _ _ _) (by simp [Value.oneCell']) (by omega) (by omega) (by have := hB.size; simp; omega) ?_; intro v' w1 hown' hgrow _; obtain ⟨g', cap', rfl⟩ := ownsRow_succ hown'; obtain ⟨hv1, hv2, hr2, hk2, hb2⟩ := hv.appended (by decide) hrow hB.size (Nat.le_refl _) hown' hgrow; have hc1 := hv1.cell; have hf1 := hv1.frozen)
    exact ⟨hk2.from _, hk2.walks, ⟨_, hv2, by simpa using hr2, by simp⟩, hB.trans hb2⟩
  case done =>
    rintro D ys W hD hS ⟨⟨v, hv, hrow, hnil⟩, hB⟩ hK
    have hc := hv.cell
    gi_wp2
    refine ⟨by simp, .inl ⟨_, _, rfl, run_takeDeferred hK, ?_⟩⟩
    exact ⟨_, results_tmp rfl _ _ _, v, ys, rfl, hS, ownsRow_putObj hrow _ hK rfl, hB.trans (belowK_b (w := w) (Nat.le_refl _) W D _ _ (by simp at hD; omega) hK rfl rfl)⟩
  case stop =>
    rintro D c pre W _ _ h _
    exact h.elim
set_option maxHeartbeats 1000000 in
theorem collectS_any (gf : Nat) (lb : Array Value) (eg : ∀ args w, (callFunc gf args).run Tryz.prog w = .ok (.enter gf args) w) (S Sp : List ByteArray → Prop) (N : Nat) (hN : N ≤ 1000000) (w : World)
    (hseq : ∀ n w', 1 ≤ n → Below w.heap.size w w' → SeqStopsK Fence.wide n Tryz.prog gf lb (fun x : ByteArray => #[Value.string x]) KeepsWalks S Sp N w') :
    Calls Tryz.prog 175 #[.func (.func gf) #[] lb] w fun e w' => ∃ v xs, e = .returned v ∧ S xs ∧ OwnK w' w.heap.size 9 1 v (cellsX xs) ∧ Below w.heap.size w w' := by
  have KA := Lib.hid (callsIn_wide.1 (appendS_in Fence.wide 3 trivial rfl (by omega) gf lb trivial eg S Sp N hN w (fun w' hb => hseq _ w' (by omega) hb)))
  clear hseq
  go_enter Tryz.func175, Tryz.ntmps175
  go_wp2_with fail
  refine KA.out.mono ?_
  rintro e w1 ⟨v, xs, rfl, hS, hrow, hb⟩
  have HR := Lib.hid hrow
  have HB := Lib.hid hb
  clear hrow hb KA
  go_wp2_with fail
  go_ret
  refine ⟨v, xs, rfl, hS, ⟨cellsX_k xs, ?_⟩, HB.out⟩
  rw [cellsX_length, show (cellsX xs).flatten = xs.map Value.string from flat_one Value.string xs]
  exact HR.out

set_option maxRecDepth 100000 in
set_option maxHeartbeats 4000000 in
theorem appendP_in (F : Fence) (n : Nat) (hF : F.fn 345) (hro : F.round = none) (hn : 2 ≤ n) (gf : Nat) (lb : Array Value) (hFg : F.fn gf) (eg : ∀ args w, (callFunc gf args).run Tryz.prog w = .ok (.enter gf args) w) (S Sp : List (Option Addr) → Prop) (N : Nat) (hN : N ≤ 1000000) (w : World)
    (hseq : ∀ w', Below w.heap.size w w' → SeqStopsK F (n - 1) Tryz.prog gf lb (fun x : (Option Addr) => #[Value.pointer x]) KeepsWalks S Sp N w') :
    CallsIn F n Tryz.prog 345 #[.slice none 0 0, .func (.func gf) #[] lb] w fun e W' => ∃ v xs, e = .returned v ∧ S xs ∧ W'.ownsRow w.heap.size 146 1 v xs.length (xs.map Value.pointer) ∧ Below w.heap.size w W' := by
  have h1 : 1 ≤ n := by omega
  have hNl : N ≤ maxLen := by unfold maxLen; omega
  obtain ⟨i0, hi, hz0, hz1, hz2⟩ := info_parts infoPJ
  refine callsIn_of_wp_marks Tryz.func345 rfl hF ?_ hro
  simp only [Tryz.ntmps345, List.size_toArray, List.length_cons, List.length_nil, Nat.reduceAdd, Nat.reduceSub, Array.replicate_succ, Array.replicate_zero, List.push_toArray, List.append_toArray, List.nil_append, List.cons_append]
  gi_wp2
  have bO := Boxed.new w 144 (.slice none 0 0)
  have hB0 : Below w.heap.size w (w.alloc (.cells #[.slice none 0 0] 144)) := (Below.refl _ w).alloc (Nat.le_refl _) _
  refine wpIn_rangeFunc_ownG hro h1 (gf := gf) (lb := lb) rfl hFg eg (hseq _ hB0) walksK_t walksK_b (Below.refl _ _) (fun _ => rfl)
    (fun pre W => (∃ v, Boxed W w.heap.size 144 v ∧ W.ownsRow w.heap.size 146 1 v pre.length (pre.map Value.pointer) ∧ (v = .slice none 0 0 ↔ pre = [])) ∧ Below w.heap.size w W)
    (fun _ _ _ => False)
    (OwnFrom.and (Own.from (holdsRow_own w.heap.size w.heap.size 144 146 1 (fun pre => pre.length) (fun pre => pre.map Value.pointer) (fun pre v => v = .slice none 0 0 ↔ pre = [])) _) (ownFrom_below (Nat.le_refl _) (by simp)))
    (fun _ _ _ _ _ hs _ _ => hs)
    ⟨⟨_, bO, World.ownsRow_nil _ _ _ _, by simp⟩, hB0⟩
    (fun x => { tmps := #[.slice none 0 0, .func (.func gf) #[] lb, .pointer (some ⟨w.heap.size, 0, none⟩), undef, .slice none 0 0, Value.pointer x, .func (.func gf) #[] lb, Value.pointer x, undef, undef, undef, undef, undef], defers := [] }) ?assign ?body ?done ?stop
  case assign =>
    intro l x W K hK
    gi_wp2
    exact hK
  case body =>
    rintro l pre x W ⟨⟨v, hv, hrow, hnil⟩, hB⟩ hlt
    have hc := hv.cell
    gi_wp2_with (gi_at_builtin; refine wpListIn_append_own _ rfl _ _ 144 rfl w.heap.size 146 i0 (.pointer none) 1 8 Tryz.underlying144 hi hz0 hz1 hz2 rfl (by decide) _ _ _ rfl (hrow.alloc _) ⟨W.heap.size, 0, none⟩ 1 1 [Value.pointer x] rfl rfl (cell_one_new _ _ _) (by simp [Value.oneCell']) (by omega) (by omega) (by have := hB.size; simp; omega) ?_; intro v' w1 hown' hgrow _; obtain ⟨g', cap', rfl⟩ := ownsRow_succ hown'; obtain ⟨hv1, hv2, hr2, hk2, hb2⟩ := hv.appended (by decide) hrow hB.size (Nat.le_refl _) hown' hgrow; have hc1 := hv1.cell; have hf1 := hv1.frozen)
    exact ⟨hk2.from _, hk2.walks, ⟨_, hv2, by simpa using hr2, by simp⟩, hB.trans hb2⟩
  case done =>
    rintro D ys W hD hS ⟨⟨v, hv, hrow, hnil⟩, hB⟩ hK
    have hc := hv.cell
    gi_wp2
    refine ⟨by simp, .inl ⟨_, _, rfl, run_takeDeferred hK, ?_⟩⟩
    exact ⟨_, results_tmp rfl _ _ _, v, ys, rfl, hS, ownsRow_putObj hrow _ hK rfl, hB.trans (belowK_b (w := w) (Nat.le_refl _) W D _ _ (by simp at hD; omega) hK rfl rfl)⟩
  case stop =>
    rintro D c pre W _ _ h _
    exact h.elim
set_option maxHeartbeats 1000000 in
theorem collectP_any (gf : Nat) (lb : Array Value) (eg : ∀ args w, (callFunc gf args).run Tryz.prog w = .ok (.enter gf args) w) (S Sp : List (Option Addr) → Prop) (N : Nat) (hN : N ≤ 1000000) (w : World)
    (hseq : ∀ n w', 1 ≤ n → Below w.heap.size w w' → SeqStopsK Fence.wide n Tryz.prog gf lb (fun x : (Option Addr) => #[Value.pointer x]) KeepsWalks S Sp N w') :
    Calls Tryz.prog 271 #[.func (.func gf) #[] lb] w fun e w' => ∃ v xs, e = .returned v ∧ S xs ∧ OwnK w' w.heap.size 146 1 v (cellsP xs) ∧ Below w.heap.size w w' := by
  have KA := Lib.hid (callsIn_wide.1 (appendP_in Fence.wide 3 trivial rfl (by omega) gf lb trivial eg S Sp N hN w (fun w' hb => hseq _ w' (by omega) hb)))
  clear hseq
  go_enter Tryz.func271, Tryz.ntmps271
  go_wp2_with fail
  refine KA.out.mono ?_
  rintro e w1 ⟨v, xs, rfl, hS, hrow, hb⟩
  have HR := Lib.hid hrow
  have HB := Lib.hid hb
  clear hrow hb KA
  go_wp2_with fail
  go_ret
  refine ⟨v, xs, rfl, hS, ⟨cellsP_k xs, ?_⟩, HB.out⟩
  rw [cellsP_length, show (cellsP xs).flatten = xs.map Value.pointer from flat_one Value.pointer xs]
  exact HR.out
end Go.Proofs.YtjgojgmgicpgaaaGreat
