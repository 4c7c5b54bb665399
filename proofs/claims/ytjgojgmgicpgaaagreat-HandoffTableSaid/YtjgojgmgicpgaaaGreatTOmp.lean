/- Maps that are keyed by strings, as functions: what stands at each key; the look-up, the store and the making of such at the operation. No condition; it serves any seat. -/
import Derived.Test.YtjgojgmgicpgaaaGreatTQ00
import Derived.MapViews
import Derived.Maps.Own
import Derived.Maps.AppendAt
namespace Go.Proofs.YtjgojgmgicpgaaaGreat
open Go.RowKit
set_option linter.unusedSimpArgs false
set_option linter.unusedVariables false

section
variable {P : Program}
/-- Does this entry bear this key? -/
def keyB (e : MapEntry) (s : ByteArray) : Bool := match e.key with | .string a => decide (a = s) | _ => false
theorem keyB_iff {e : MapEntry} {s : ByteArray} : keyB e s = true ↔ e.key = .string s := by
  unfold keyB
  split
  · rename_i a ha
    rw [ha, decide_eq_true_eq]
    exact ⟨fun h => by rw [h], fun h => by injection h⟩
  · rename_i h
    constructor
    · intro h'; cases h'
    · intro h'; exact absurd h' (h s)
theorem keyB_no {e : MapEntry} {s : ByteArray} (h : ¬ e.key = .string s) : keyB e s = false := Bool.eq_false_iff.2 fun h' => h (keyB_iff.1 h')
/-- The first entry at this key, with its place. -/
def hitS (s : ByteArray) : List MapEntry → Nat → Option (Nat × Value)
  | [], _ => none
  | e :: es, i => if keyB e s then some (i, e.val) else hitS s es (i + 1)
def StrK (es : List MapEntry) : Prop := ∀ e ∈ es, ∃ s, e.key = .string s
theorem ba_eq {a b : ByteArray} : (a == b) = decide (a = b) := by
  rw [Bool.eq_iff_iff, decide_eq_true_eq]; exact MapKept.bytes_beq a b
theorem findNow_hit (s : ByteArray) : ∀ (es : List MapEntry) (i : Nat), StrK es → Instr.findNow .string (.string s) es i = some (hitS s es i)
  | [], _, _ => rfl
  | e :: es, i, h => by
    obtain ⟨a, ha⟩ := h e (by simp)
    unfold Instr.findNow hitS
    rw [ha]
    simp only [Instr.sameNow, ba_eq]
    by_cases hs : s = a
    · rw [decide_eq_true hs, keyB_iff.2 (by rw [ha, hs])]; rfl
    · rw [decide_eq_false hs, keyB_no (by rw [ha]; intro e; injection e with e; exact hs e.symm)]
      exact findNow_hit s es (i + 1) (fun x hx => h x (by simp [hx]))
theorem run_findKey {k : TypeId} (hk : P.underlying k = some .string) (w : World) (s : ByteArray) (es : List MapEntry) (h : StrK es) : (Instr.findKey k (.string s) es).run P w = .ok (hitS s es 0) w := by
  unfold Instr.findKey
  simp [run_underlying hk, findNow_hit s es 0 h]
theorem run_checkKey {k : TypeId} (hk : P.underlying k = some .string) (w : World) (em : Bool) (s : ByteArray) : (Instr.checkKey em 10000 k (.string s)).run P w = .ok () w := by
  unfold Instr.checkKey
  simp [run_underlying hk]
/-- What stands at a key. -/
def valS (z : Value) (es : List MapEntry) (s : ByteArray) : Value := ((hitS s es 0).map (·.2)).getD z
theorem hitS_cons (s : ByteArray) (x : MapEntry) (es : List MapEntry) (i : Nat) : hitS s (x :: es) i = if keyB x s then some (i, x.val) else hitS s es (i + 1) := rfl
theorem hitS_none {s : ByteArray} : ∀ {es : List MapEntry} {i : Nat}, hitS s es i = none → ∀ e ∈ es, ¬ e.key = .string s
  | [], _, _, e, he => by cases he
  | x :: es, i, h, e, he => by
    rw [hitS_cons] at h
    by_cases hx : keyB x s = true
    · rw [if_pos hx] at h; cases h
    · rw [if_neg hx] at h
      rcases List.mem_cons.1 he with rfl | he
      · exact fun h' => hx (keyB_iff.2 h')
      · exact hitS_none h e he
theorem hitS_some {s : ByteArray} : ∀ {es : List MapEntry} {i j : Nat} {v : Value}, hitS s es i = some (j, v) → ∃ m e, j = i + m ∧ es[m]? = some e ∧ e.key = .string s ∧ e.val = v
  | [], _, _, _, h => by cases h
  | x :: es, i, j, v, h => by
    rw [hitS_cons] at h
    by_cases hx : keyB x s = true
    · rw [if_pos hx] at h
      injection h with h; injection h with h1 h2
      exact ⟨0, x, by omega, rfl, keyB_iff.1 hx, h2⟩
    · rw [if_neg hx] at h
      obtain ⟨m, e, h1, h2, h3, h4⟩ := hitS_some h
      exact ⟨m + 1, e, by omega, by simpa using h2, h3, h4⟩
theorem hitS_val (s : ByteArray) : ∀ (es : List MapEntry) (i j : Nat), (hitS s es i).map (·.2) = (hitS s es j).map (·.2)
  | [], _, _ => rfl
  | x :: es, i, j => by
    rw [hitS_cons, hitS_cons]
    split
    · rfl
    · exact hitS_val s es (i + 1) (j + 1)
theorem valS_cons (z : Value) (x : MapEntry) (es : List MapEntry) (s : ByteArray) : valS z (x :: es) s = if keyB x s then x.val else valS z es s := by
  unfold valS
  rw [hitS_cons]
  split
  · rfl
  · rw [hitS_val s es (0 + 1) 0]
theorem valS_push (z : Value) (s : ByteArray) (v : Value) (born : Nat) (s' : ByteArray) : ∀ (es : List MapEntry), (∀ e ∈ es, ¬ e.key = .string s) → valS z (es ++ [⟨.string s, v, born⟩]) s' = if s' = s then v else valS z es s'
  | [], _ => by
    rw [List.nil_append, valS_cons]
    by_cases h : s' = s
    · rw [if_pos (keyB_iff.2 (by rw [h])), if_pos h]
    · rw [keyB_no (fun e => h (by injection e with e; exact e.symm)), if_neg h]; rfl
  | x :: es, h => by
    rw [List.cons_append, valS_cons, valS_cons, valS_push z s v born s' es (fun e he => h e (by simp [he]))]
    by_cases hs : s' = s
    · subst hs
      rw [keyB_no (h x (by simp))]; simp
    · rw [if_neg hs, if_neg hs]
/-- What is stored at the place of the first entry at a key stands there, and nowhere else. -/
theorem valS_modify (z : Value) (s : ByteArray) (v : Value) (s' : ByteArray) : ∀ (es : List MapEntry) (i j : Nat) (u : Value), hitS s es i = some (i + j, u) → valS z (es.modify j fun e => { e with key := .string s, val := v }) s' = if s' = s then v else valS z es s'
  | [], _, _, _, h => by cases h
  | x :: es, i, 0, u, h => by
    have hx : x.key = .string s := by
      rw [hitS_cons] at h
      by_cases hk : keyB x s = true
      · exact keyB_iff.1 hk
      · rw [if_neg hk] at h
        obtain ⟨m, _, h1, _⟩ := hitS_some h
        omega
    rw [List.modify_zero_cons, valS_cons, valS_cons]
    by_cases hs : s' = s
    · rw [if_pos (keyB_iff.2 (by rw [hs])), if_pos hs]
    · rw [keyB_no (fun e => hs (by injection e with e; exact e.symm)), if_neg hs, keyB_no (fun e => hs (by rw [hx] at e; injection e with e; exact e.symm))]
      rfl
  | x :: es, i, j + 1, u, h => by
    have hx : ¬ keyB x s = true := by
      intro hx
      rw [hitS_cons, if_pos hx] at h
      injection h with h; injection h with h1 h2
      omega
    have h' : hitS s es (i + 1) = some ((i + 1) + j, u) := by
      rw [hitS_cons, if_neg hx] at h
      rw [h, show i + (j + 1) = i + 1 + j by omega]
    rw [List.modify_succ_cons, valS_cons, valS_cons, valS_modify z s v s' es (i + 1) j u h']
    by_cases hs : s' = s
    · subst hs
      rw [if_neg hx]; simp
    · rw [if_neg hs, if_neg hs]

/-- Block b is a map that is keyed by strings: at each key stands f's value (where there is no entry: z). -/
def MapF (w : World) (b : Nat) (z : Value) (f : ByteArray → Value) : Prop := ∃ es clock, w.heap[b]? = some (.map es clock) ∧ StrK es.toList ∧ ∀ s, valS z es.toList s = f s
section
variable {w w' : World} {b : Nat} {z : Value} {f : ByteArray → Value} {row : Option Nat}
theorem MapF.lt (h : MapF w b z f) : b < w.heap.size := by
  obtain ⟨es, clock, hb, _⟩ := h
  exact (Array.getElem?_eq_some_iff.1 hb).1
theorem MapF.kept (h : MapF w b z f) (hg : w.grownBy w' row) (hne : some b ≠ row) : MapF w' b z f := by
  have hlt := h.lt
  obtain ⟨es, clock, hb, h1, h2⟩ := h
  exact ⟨es, clock, (hg.block b hlt hne).trans hb, h1, h2⟩
theorem MapF.later (h : MapF w b z f) (hg : Below w.heap.size w w') : MapF w' b z f := by
  have hlt := h.lt
  obtain ⟨es, clock, hb, h1, h2⟩ := h
  exact ⟨es, clock, (hg.block b hlt).trans hb, h1, h2⟩
theorem MapF.made (w : World) (z : Value) : MapF (w.alloc (.map #[] 0)) w.heap.size z fun _ => z :=
  ⟨#[], 0, (MapKept.heap_alloc w _).1, by intro e he; simp at he, fun s => rfl⟩
theorem MapF.look (h : MapF w b z f) {t k e : TypeId} (ht : P.underlying t = some (.map k e)) (hk : P.underlying k = some .string) (hz : (zeroValue e).run P w = .ok z w) (s : ByteArray) : (Instr.lookup t (.map (some b)) (.string s) false).run P w = .ok (f s) w := by
  obtain ⟨es, clock, hb, h1, h2⟩ := h
  have h3 := h2 s
  unfold valS at h3
  cases hh : hitS s es.toList 0 with
  | none =>
    rw [hh] at h3
    simp only [Option.map_none, Option.getD_none] at h3
    simp [Instr.lookup, run_underlying ht, MapKept.run_getObj_map hb, run_checkKey hk, run_findKey hk w s es.toList h1, hh, hz, Result.andThen, h3]
  | some x =>
    rw [hh] at h3
    simp only [Option.map_some, Option.getD_some] at h3
    simp [Instr.lookup, run_underlying ht, MapKept.run_getObj_map hb, run_checkKey hk, run_findKey hk w s es.toList h1, hh, Result.andThen, h3]
theorem MapF.store (h : MapF w b z f) {t k e : TypeId} (ht : P.underlying t = some (.map k e)) (hk : P.underlying k = some .string) (s : ByteArray) (v : Value) : ∃ w', (Instr.mapUpdate t (.map (some b)) (.string s) v).run P w = .ok () w' ∧ MapF w' b z (fun s' => if s' = s then v else f s') ∧ w.grownBy w' (some b) := by
  obtain ⟨es, clock, hb, h1, h2⟩ := h
  have hgr : ∀ o, w.grownBy (ChangeMaps.setBlock w b o) (some b) := fun o => ⟨rfl, rfl, rfl, by simp [ChangeMaps.setBlock], fun i _ hi => ChangeMaps.heap_setBlock_other hb _ (fun e => hi (by rw [e]))⟩
  cases hh : hitS s es.toList 0 with
  | none =>
    refine ⟨ChangeMaps.setBlock w b (.map (es.push ⟨.string s, v, clock⟩) (clock + 1)), ?_, ⟨es.push ⟨.string s, v, clock⟩, clock + 1, ChangeMaps.heap_setBlock_same hb _, ?_, fun s' => ?_⟩, hgr _⟩
    · simp [Instr.mapUpdate, run_underlying ht, MapKept.run_getObj_map hb, run_checkKey hk, run_findKey hk w s es.toList h1, hh, MapKept.run_setObj_map _ hb, Result.andThen, ChangeMaps.setBlock]
    · intro e he
      rw [Array.toList_push, List.mem_append] at he
      rcases he with he | he
      · exact h1 e he
      · simp at he; subst he; exact ⟨s, rfl⟩
    · rw [Array.toList_push, valS_push z s v clock s' _ (hitS_none hh), h2]
  | some x =>
    obtain ⟨j, u⟩ := x
    obtain ⟨m, e, hj, he, hek, hev⟩ := hitS_some hh
    rw [Nat.zero_add] at hj
    subst hj
    have hkeep : (Instr.keyThatStays (((es[j]?).map (·.key)).getD (.string s)) (.string s)).run P w = .ok (.string s) w := by
      rw [show es[j]? = some e by rw [← Array.getElem?_toList]; exact he]
      simp only [Option.map_some, Option.getD_some, hek]
      unfold Instr.keyThatStays
      rw [if_pos (by unfold Instr.sameBits; simp [ba_eq])]
      rfl
    refine ⟨ChangeMaps.setBlock w b (.map (es.modify j fun e => { e with key := .string s, val := v }) clock), ?_, ⟨_, clock, ChangeMaps.heap_setBlock_same hb _, ?_, fun s' => ?_⟩, hgr _⟩
    · simp [Instr.mapUpdate, run_underlying ht, MapKept.run_getObj_map hb, run_checkKey hk, run_findKey hk w s es.toList h1, hh, hkeep, MapKept.run_setObj_map _ hb, Result.andThen, ChangeMaps.setBlock]
    · intro x hx
      rw [Array.toList_modify] at hx
      obtain ⟨i, hi, rfl⟩ := List.getElem_of_mem hx
      rw [List.getElem_modify]
      split
      · exact ⟨s, rfl⟩
      · exact h1 _ (List.getElem_mem _)
    · rw [Array.toList_modify, valS_modify z s v s' es.toList 0 j u (by rw [Nat.zero_add]; exact hh), h2]

/-- 'm[s]' at the operation. -/
theorem look_f {ops : Array Oper} {rest : List Oper} (w : World) {o : Oper} {a : Act} {Q : Exit → Act → World → Prop} (hw : Region.wanted o (yielded ops a.tmps) = true)
    (m x : Operand) (t : TypeId) (hop : o.op = Op.lookup t m x false) (k e : TypeId) (ht : P.underlying t = some (.map k e)) (hk : P.underlying k = some .string) (z : Value) (hz : (zeroValue e).run P w = .ok z w)
    (b : Nat) (f : ByteArray → Value) (hm : a.eval m = .map (some b)) (h : MapF w b z f) (s : ByteArray) (hx : a.eval x = .string s)
    (hK : wpList P ops Q rest (a.put o.dst (f s)) w) : wpList P ops Q (o :: rest) a w :=
  BigFrame.wpList_want hw fun K hKK => by
    have hrun := h.look ht hk hz s
    unfold Oper.wp
    simp [execOp, hop, hm, hx, hrun, Result.andThen]
    exact hKK _ _ hK
/-- 'm[s] = v' at the operation. -/
theorem store_f {ops : Array Oper} {rest : List Oper} (w : World) {o : Oper} {a : Act} {Q : Exit → Act → World → Prop} (hw : Region.wanted o (yielded ops a.tmps) = true)
    (m x v : Operand) (t : TypeId) (hop : o.op = Op.mapUpdate t m x v) (k e : TypeId) (ht : P.underlying t = some (.map k e)) (hk : P.underlying k = some .string)
    (b : Nat) (z : Value) (f : ByteArray → Value) (hm : a.eval m = .map (some b)) (h : MapF w b z f) (s : ByteArray) (hx : a.eval x = .string s) (val : Value) (hv : a.eval v = val)
    (hK : ∀ w', MapF w' b z (fun s' => if s' = s then val else f s') → w.grownBy w' (some b) → wpList P ops Q rest (a.put o.dst undef) w') : wpList P ops Q (o :: rest) a w :=
  BigFrame.wpList_want hw fun K hKK => by
    obtain ⟨w', hrun, r1, r2⟩ := h.store ht hk s val
    unfold Oper.wp
    simp [execOp, hop, hm, hx, hv, hrun, Result.andThen]
    exact hKK _ _ (hK w' r1 r2)
end
/-- 'm[s]' at the operation: what stands there is known. -/
theorem look_v {ops : Array Oper} {rest : List Oper} (w : World) {o : Oper} {a : Act} {Q : Exit → Act → World → Prop} (hw : Region.wanted o (yielded ops a.tmps) = true)
    (m x : Operand) (t : TypeId) (hop : o.op = Op.lookup t m x false) (k e : TypeId) (ht : P.underlying t = some (.map k e)) (hk : P.underlying k = some .string) (z : Value) (hz : (zeroValue e).run P w = .ok z w)
    (b : Nat) (f : ByteArray → Value) (hm : a.eval m = .map (some b)) (h : MapF w b z f) (s : ByteArray) (hx : a.eval x = .string s) (v : Value) (hv : f s = v)
    (hK : wpList P ops Q rest (a.put o.dst v) w) : wpList P ops Q (o :: rest) a w := look_f w hw m x t hop k e ht hk z hz b f hm h s hx (by rw [hv]; exact hK)
/-- Elements are put behind a row that the call owns: with where the new row lies. -/
theorem append_ka {ops : Array Oper} {rest : List Oper} (w : World) {o : Oper} {a : Act} {Q : Exit → Act → World → Prop} (hw : Region.wanted o (yielded ops a.tmps) = true)
    (s x : Operand) (t : TypeId) (hop : o.op = Op.call { callee := Callee.builtin Builtin.append, args := #[s, x], argTypes := #[t, t] })
    (base : Nat) (e : TypeId) (z : Value) (k b : Nat) (h1 : P.underlying t = some (.slice e)) (h2 : (P.info? e).map (fun i => (i.zero, i.size, i.bytes)) = some (some z, k, b)) (hz : z.cells.size = k) (hk : 0 < k)
    (v : Value) (l : List (List Value)) (hs : a.eval s = v) (hown : OwnK w base e k v l) (ad : Addr) (c m : Nat) (news : List (List Value))
    (hx : a.eval x = .slice (some ad) m c) (hr : RdK w k (some ad) news) (hn : ∀ y ∈ news, y.length = k) (hone : ∀ y ∈ news, ∀ u ∈ y, u.oneCell' = true) (hm : m = news.length)
    (b0 : l.length + news.length ≤ maxLen) (b1 : (l.length + news.length) * b ≤ 140737488355328) (hbase : base ≤ w.heap.size)
    (hK : ∀ v' w', OwnK w' base e k v' (l ++ news) → w.grownBy w' v.ownBlock → (v'.ownBlock = v.ownBlock ∨ v'.ownBlock = some w.heap.size) → wpList P ops Q rest (a.put o.dst v') w') : wpList P ops Q (o :: rest) a w :=
  BigFrame.wpList_want hw fun K hKK => by
    subst hm
    obtain ⟨i, hi, hiz, his, hib⟩ := info_partsK h2
    obtain ⟨v', w', hrun, r1, r2, r3, r4⟩ := run_append_own_at (P := P) w base t o.type e i z k b h1 hi hiz his hib hz hk v l.length l.flatten hown.2 ad news.length c news.flatten (flat_length hn) (hr.cells hn)
      (fun u hu => by obtain ⟨y, hy, hu'⟩ := List.mem_flatten.1 hu; exact hone y hy u hu') b0 b1 hbase
    unfold Oper.wp
    simp [execOp, hop, resolve, invoke, builtin, hs, hx, hrun, Result.andThen]
    exact hKK _ _ (hK v' w' ⟨fun y hy => (List.mem_append.1 hy).elim (hown.1 y) (hn y), by rw [List.length_append, List.flatten_append]; exact r1⟩ r2 r4)
/-- A single cell is stored into a block that is known whole. -/
theorem store1_bk {ops : Array Oper} {rest : List Oper} {o : Oper} {a : Act} {w : World} {Q : Exit → Act → World → Prop} (hw : Region.wanted o (yielded ops a.tmps) = true) (ty : TypeId) (x y : Operand) (ho : o.op = .store ty x y)
    (g off : Nat) (u : Value) (hx : a.eval x = .pointer (some ⟨g, off, none⟩)) (hy : a.eval y = u) (t : TypeId) (cs cs' : Array Value) (hg : Bk w g t cs)
    (hi : (P.info? ty).map (·.size) = some 1) (hl : off < cs.size) (h1 : u.oneCell' = true) (hu : u.cells = #[u]) (hc : cs' = cs.setIfInBounds off u)
    (h : ∀ w', Bk w' g t cs' → w.grownBy w' (some g) → w'.heap.size = w.heap.size → wpList P ops Q rest (a.put o.dst undef) w') : wpList P ops Q (o :: rest) a w :=
  BigFrame.wpList_want hw fun K hKK => by
    have hst := run_storeCells_at P g off t [u] 0 cs w hg (by simp; omega) (fun v hv => by simp at hv; subst hv; exact h1)
    have hpp : putPart cs off #[u] = cs.setIfInBounds off u := by
      unfold putPart
      apply Array.ext'
      apply List.ext_getElem?
      intro i
      simp only [List.size_toArray, List.length_cons, List.length_nil, Array.toList_setIfInBounds, List.getElem?_set]
      by_cases h1 : i < off
      · rw [List.append_assoc, List.getElem?_append_left (by simp; omega), List.getElem?_take_of_lt h1, if_neg (by omega)]
      · by_cases h2 : i = off
        · subst h2
          rw [List.append_assoc, List.getElem?_append_right (by simp; omega)]
          simp [hl, show min i cs.size = i by omega]
        · rw [List.append_assoc, List.getElem?_append_right (by simp; omega), List.getElem?_append_right (by simp; omega), List.getElem?_drop, if_neg (fun e => h2 e.symm)]
          congr 1
          simp
          omega
    have hsv : (storeVar ty ⟨g, off, none⟩ u).run P w = .ok () (w.setRow g (putPart cs off #[u])) := by
      cases hq : P.info? ty with
      | none => simp [hq] at hi
      | some i =>
        have hs : i.size = 1 := by simpa [hq] using hi
        simp only [Nat.add_zero] at hst
        simp [storeVar, sizeOf, typeInfo, hq, hu, hs]
        rw [hst]; simp [putPart]
    unfold Oper.wp execOp
    simp only [ho, hx, hy, Instr.storeAt, Instr.sureAddr, Sem.run_bind, Sem.run_pure, Result.andThen_ok, hsv]
    refine hKK _ _ (h _ ?_ ⟨rfl, rfl, rfl, by simp, fun i hi hne => ?_⟩ (by simp))
    · rw [hc, ← hpp]; exact setRow_heap w g cs _ t _ hg
    · exact setRow_other w g i _ (fun e => hne (by rw [e]))
end
/-- A row that the call owns lies in no block of another type, and in no map. -/
theorem OwnK.notBk {w : World} {b k g : Nat} {e t : TypeId} {v : Value} {l : List (List Value)} {cs : Array Value} (h : OwnK w b e k v l) (hB : Bk w g t cs) (hne : e ≠ t) : v.ownBlock = none ∨ v.ownBlock ≠ some g := by
  rcases h.2.2 with ⟨rfl, _⟩ | ⟨g', cap, cur, rfl, _, hg, _⟩
  · exact .inl rfl
  · refine .inr fun he => ?_
    injection he with he
    subst he
    have := hg.symm.trans hB
    injection this with this
    injection this with _ this
    exact hne this
theorem OwnK.notMap {w : World} {b k g : Nat} {e : TypeId} {v z : Value} {l : List (List Value)} {f : ByteArray → Value} (h : OwnK w b e k v l) (hB : MapF w g z f) : v.ownBlock = none ∨ v.ownBlock ≠ some g := by
  rcases h.2.2 with ⟨rfl, _⟩ | ⟨g', cap, cur, rfl, _, hg, _⟩
  · exact .inl rfl
  · refine .inr fun he => ?_
    injection he with he
    subst he
    obtain ⟨es, clock, hb, _⟩ := hB
    have := hg.symm.trans hb
    injection this with this
    cases this
theorem OwnK.cellsV {w : World} {b k : Nat} {e : TypeId} {v : Value} {l : List (List Value)} (h : OwnK w b e k v l) : v.cells = #[v] := by
  obtain ⟨A, c, hv, _⟩ := h.sl
  rw [hv]; rfl
theorem OwnK.lt {w : World} {b k g : Nat} {e : TypeId} {v : Value} {l : List (List Value)} (h : OwnK w b e k v l) (hg : v.ownBlock = some g) : g < w.heap.size := (World.ownsRow.lt h.2 g hg).2
theorem OwnK.one1 {w : World} {b k : Nat} {e : TypeId} {v : Value} {l : List (List Value)} (h : OwnK w b e k v l) : v.oneCell' = true := by
  obtain ⟨A, c, hv, _⟩ := h.sl
  rw [hv]; rfl
end Go.Proofs.YtjgojgmgicpgaaaGreat
