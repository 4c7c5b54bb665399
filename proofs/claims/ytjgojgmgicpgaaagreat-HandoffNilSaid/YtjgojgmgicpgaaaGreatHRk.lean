/- Slices whose elements are of k cells each, whatever they hold: a slice that reads as such elements, a row of such elements that the call owns, append, and loads of whole structs out of a range. No condition; it serves any seat. -/
import Derived.Test.YtjgojgmgicpgaaaGreatHBkk
import Derived.Lib.Hide
import Derived.Laws.OwnMore
import Derived.Laws.AppendOwn
import Derived.OwnWalk
namespace Go.Proofs.YtjgojgmgicpgaaaGreat
open Go.RowKit
set_option linter.unusedSimpArgs false
set_option linter.unusedVariables false

theorem range_keep {w w' : World} {g o : Nat} {cs : List Value} (h : w.rangeAt g o cs) (hb : Below w.heap.size w w') : w'.rangeAt g o cs := fun j v hv =>
  (hb.cell (p := ⟨g, o + j, none⟩) (World.block_lt_of_cell? w _ (h j v hv))).trans (h j v hv)
theorem range_lt {w : World} {g o : Nat} {cs : List Value} (h : w.rangeAt g o cs) (hn : 0 < cs.length) : g < w.heap.size := World.block_lt_of_cell? w _ (h 0 cs[0] (List.getElem?_eq_getElem hn))
theorem range_part {w : World} {g o : Nat} {cs : List Value} (h : w.rangeAt g o cs) (a b : Nat) : w.rangeAt g (o + a) ((cs.drop a).take b) := fun j v hv => by
  rw [List.getElem?_take] at hv
  split at hv
  · rw [List.getElem?_drop] at hv
    rw [Nat.add_assoc]; exact h _ _ hv
  · cases hv
theorem range_at {w : World} {g o : Nat} {cs : List Value} (h : w.rangeAt g o cs) (i : Nat) (v : Value) (hv : cs[i]? = some v) : w.cell? ⟨g, o + i, none⟩ = some v := h i v hv

section
variable {P : Program}
/-- A whole struct out of a range. -/
theorem load_rg {ops : Array Oper} {rest : List Oper} {o : Oper} {a : Act} {w : World} {Q : Exit → Act → World → Prop} (hw : Region.wanted o (yielded ops a.tmps) = true) (ty : TypeId) (x : Operand) (ho : o.op = .load ty x)
    (g off : Nat) (hx : a.eval x = .pointer (some ⟨g, off, none⟩)) (ps : Array Value) (d : TypeDesc) (hr : w.rangeAt g off ps.toList)
    (hu : P.underlying ty = some d) (hd : d.isRow = true) (hi : (P.info? ty).map (·.size) = some ps.size)
    (h : wpList P ops Q rest (a.put o.dst (.agg ps)) w) : wpList P ops Q (o :: rest) a w :=
  BigFrame.wpList_want hw fun _ hK => wp_load_mid ty x ho g off hx ps.toList d hr hu hd (by simpa using hi) (hK _ _ (by simpa using h))
theorem yields_rg {ops : Array Oper} {S : World → Prop} {op : Oper} {a : Act} (hw : Region.wanted op (yielded ops a.tmps) = true) (ty : TypeId) (x : Operand) (ho : op.op = .load ty x)
    (g off : Nat) (hx : a.eval x = .pointer (some ⟨g, off, none⟩)) (ps : Array Value) (d : TypeDesc) (hS : ∀ w, S w → w.rangeAt g off ps.toList)
    (hu : P.underlying ty = some d) (hd : d.isRow = true) (hi : (P.info? ty).map (·.size) = some ps.size) : YieldsIf P ops S op (.agg ps) a := by
  have := yieldsIf_load_mid (P := P) (ops := ops) (S := S) (op := op) (a := a) hw ty x ho g off hx ps.toList d hS hu hd (by simpa using hi)
  simpa using this
theorem load_rg_op {o : Oper} {a : Act} {w : World} {K : Act → World → Prop} {Q : Exit → Act → World → Prop} (ty : TypeId) (x : Operand) (ho : o.op = .load ty x)
    (g off : Nat) (hx : a.eval x = .pointer (some ⟨g, off, none⟩)) (ps : Array Value) (d : TypeDesc) (hr : w.rangeAt g off ps.toList)
    (hu : P.underlying ty = some d) (hd : d.isRow = true) (hi : (P.info? ty).map (·.size) = some ps.size)
    (h : K (a.put o.dst (.agg ps)) w) : o.wp P a w K Q :=
  wp_load_mid ty x ho g off hx ps.toList d hr hu hd (by simpa using hi) (by simpa using h)
end

/-- A slice at this address reads as these elements, of k cells each. -/
def RdK (w : World) (k : Nat) (A : Option Addr) (l : List (List Value)) : Prop :=
  ∀ i x, l[i]? = some x → ∃ g o, A = some ⟨g, o, none⟩ ∧ w.rangeAt g (o + i * k) x
section
variable {w w' : World} {k : Nat} {A : Option Addr} {l : List (List Value)}
theorem RdK.nil (w : World) (k : Nat) (A : Option Addr) : RdK w k A [] := by intro i b h; simp at h
theorem RdK.later (h : RdK w k A l) (hb : Below w.heap.size w w') : RdK w' k A l := fun i x hx => by
  obtain ⟨g, o, ha, hr⟩ := h i x hx
  exact ⟨g, o, ha, range_keep hr hb⟩
theorem RdK.at (h : RdK w k A l) {i : Nat} (hi : i < l.length) : ∃ g o, A = some ⟨g, o, none⟩ ∧ w.rangeAt g (o + i * k) l[i] := h i l[i] (List.getElem?_eq_getElem hi)
theorem RdK.take (h : RdK w k A l) (n : Nat) : RdK w k A (l.take n) := fun i x hx => by
  rw [List.getElem?_take] at hx
  split at hx
  · exact h i x hx
  · cases hx
end

/-! ### The cells of such elements, one behind the other -/
theorem flat_length {k : Nat} : ∀ {l : List (List Value)}, (∀ x ∈ l, x.length = k) → l.flatten.length = l.length * k
  | [], _ => by simp
  | x :: l, h => by
    rw [List.flatten_cons, List.length_append, flat_length (fun y hy => h y (by simp [hy])), h x (by simp), List.length_cons, Nat.add_mul]; omega
theorem flat_get {k : Nat} : ∀ {l : List (List Value)}, (∀ x ∈ l, x.length = k) → ∀ {i : Nat} {x : List Value}, l[i]? = some x → ∀ {j : Nat} {v : Value}, x[j]? = some v → l.flatten[i * k + j]? = some v
  | [], _, i, x, h, j, v, hv => by simp at h
  | y :: l, hk, 0, x, h, j, v, hv => by
    simp at h; subst h
    rw [List.flatten_cons, Nat.zero_mul, Nat.zero_add, List.getElem?_append_left (List.getElem?_eq_some_iff.1 hv).1]; exact hv
  | y :: l, hk, i + 1, x, h, j, v, hv => by
    rw [List.getElem?_cons_succ] at h
    have hy : y.length = k := hk y (by simp)
    have := flat_get (fun z hz => hk z (by simp [hz])) h hv
    rw [List.flatten_cons, List.getElem?_append_right (by rw [hy, Nat.add_mul]; omega), hy, show (i + 1) * k + j - k = i * k + j by rw [Nat.add_mul]; omega]
    exact this
theorem flat_inv {k : Nat} : ∀ {l : List (List Value)}, (∀ x ∈ l, x.length = k) → ∀ {m : Nat} {u : Value}, l.flatten[m]? = some u → ∃ i x j, l[i]? = some x ∧ x[j]? = some u ∧ m = i * k + j
  | [], _, m, u, h => by simp at h
  | y :: l, hk, m, u, h => by
    have hy : y.length = k := hk y (by simp)
    rw [List.flatten_cons] at h
    by_cases hm : m < y.length
    · rw [List.getElem?_append_left hm] at h
      exact ⟨0, y, m, rfl, h, by omega⟩
    · rw [List.getElem?_append_right (by omega)] at h
      obtain ⟨i, x, j, h1, h2, h3⟩ := flat_inv (fun z hz => hk z (by simp [hz])) h
      refine ⟨i + 1, x, j, by rw [List.getElem?_cons_succ]; exact h1, h2, ?_⟩
      rw [Nat.add_mul]; omega
theorem RdK.cells {w : World} {k : Nat} {a : Addr} {l : List (List Value)} (h : RdK w k (some a) l) (hk : ∀ x ∈ l, x.length = k) : ∀ j u, l.flatten[j]? = some u → w.cell? (a.add j) = some u := by
  intro m u hu
  obtain ⟨i, x, j, h1, h2, h3⟩ := flat_inv hk hu
  obtain ⟨g, o, ha, hr⟩ := h i x h1
  injection ha with ha; subst ha
  rw [Addr.add_lit, h3, ← Nat.add_assoc]
  exact hr j u h2

/-- A row of such elements that the call owns. -/
def OwnK (w : World) (base : Nat) (e : TypeId) (k : Nat) (v : Value) (l : List (List Value)) : Prop := (∀ x ∈ l, x.length = k) ∧ w.ownsRow base e k v l.length l.flatten
/-- What a slice that the call owns reads as. -/
structure SlK (w : World) (base k : Nat) (v : Value) (l : List (List Value)) (A : Option Addr) (c : Nat) : Prop where
  val : v = .slice A l.length c
  rd : RdK w k A l
  cap : l.length ≤ c
  cap2 : c ≤ maxLen
  new : ∀ g o p, A = some ⟨g, o, p⟩ → base ≤ g ∧ g < w.heap.size
section
variable {w w' : World} {b0 b' k : Nat} {e : TypeId} {v : Value} {l : List (List Value)}
theorem OwnK.sl (h : OwnK w b0 e k v l) : ∃ A c, SlK w b0 k v l A c := by
  obtain ⟨hk, h⟩ := h
  have h' := h
  rcases h.2 with ⟨hv, h0⟩ | ⟨g, cap, cur, hv, hb, hg, hn, hm, _, _⟩
  · rw [List.length_eq_zero_iff] at h0
    subst h0
    exact ⟨none, 0, hv, RdK.nil _ _ _, Nat.le_refl _, by simp [maxLen], fun g o p e => by cases e⟩
  · refine ⟨some ⟨g, 0, none⟩, cap, hv, fun i x hx => ⟨g, 0, rfl, fun j u hu => ?_⟩, hn, hm, fun g' o p e => ?_⟩
    · have := World.ownsRow.cells h' (g := g) (by rw [hv]; rfl) _ _ (flat_get hk hx hu)
      rw [Addr.add_lit] at this
      rw [Nat.zero_add] at this ⊢
      exact this
    · injection e with e; injection e with e1 e2; subst e1
      exact World.ownsRow.lt h' g (by rw [hv]; rfl)
theorem OwnK.below (h : OwnK w b0 e k v l) (hb : Below w.heap.size w w') : OwnK w' b0 e k v l :=
  ⟨h.1, World.ownsRow.kept (row := none) h.2 ⟨hb.os, hb.tape, hb.output, hb.size, fun k hk _ => hb.block k hk⟩ (by
    rcases h.2.2 with ⟨hv, _⟩ | ⟨g, cap, cur, hv, _⟩ <;> rw [hv] <;> simp [Value.ownBlock])⟩
theorem OwnK.base (h : OwnK w b0 e k v l) (hb : b' ≤ b0) : OwnK w b' e k v l :=
  ⟨h.1, h.2.1, h.2.2.imp id fun ⟨g, cap, cur, a, hg, c⟩ => ⟨g, cap, cur, a, Nat.le_trans hb hg, c⟩⟩
theorem OwnK.nil (w : World) (base : Nat) (e : TypeId) (k : Nat) : OwnK w base e k (.slice none 0 0) [] := ⟨by simp, by simp [World.ownsRow]⟩
theorem OwnK.block (h : OwnK w b0 e k v l) : ∀ g, v.ownBlock = some g → b0 ≤ g := fun g hg => (World.ownsRow.lt h.2 g hg).1
theorem OwnK.alloc (h : OwnK w b0 e k v l) (o : Obj) : OwnK (w.alloc o) b0 e k v l := ⟨h.1, World.ownsRow.alloc h.2 o⟩
end
theorem info_partsK {P : Program} {e : TypeId} {z : Value} {s b : Nat} (h : (P.info? e).map (fun i => (i.zero, i.size, i.bytes)) = some (some z, s, b)) : ∃ i, P.info? e = some i ∧ i.zero = some z ∧ i.size = s ∧ i.bytes = b := by
  cases hi : P.info? e with
  | none => rw [hi] at h; cases h
  | some i =>
    rw [hi] at h
    simp at h
    exact ⟨i, rfl, h.1, h.2.1, h.2.2⟩
/-- One element in a new block. -/
theorem fresh_k (w : World) (k : Nat) (cs : List Value) (t : TypeId) {g : Nat} (hg : g = w.heap.size) : RdK (w.alloc (.cells cs.toArray t)) k (some ⟨g, 0, none⟩) [cs] := by
  subst hg
  intro i x hx
  match i, hx with
  | 0, hx =>
    simp at hx; subst hx
    refine ⟨_, _, rfl, fun j v hv => ?_⟩
    have h := (Bk.fresh w t cs.toArray).cellAt j
    simp only [List.getElem?_toArray] at h
    simp only [Nat.zero_mul, Nat.zero_add]
    exact h.trans hv
  | i + 1, hx => simp at hx

section
variable {P : Program}
/-- Elements that read anywhere are put behind a row that the call owns. -/
theorem append_k_op (w : World) {o : Oper} {a : Act} {K : Act → World → Prop} {Q : Exit → Act → World → Prop}
    (s x : Operand) (t : TypeId) (hop : o.op = Op.call { callee := Callee.builtin Builtin.append, args := #[s, x], argTypes := #[t, t] })
    (base : Nat) (e : TypeId) (z : Value) (k b : Nat) (h1 : P.underlying t = some (.slice e)) (h2 : (P.info? e).map (fun i => (i.zero, i.size, i.bytes)) = some (some z, k, b)) (hz : z.cells.size = k) (hk : 0 < k)
    (v : Value) (l : List (List Value)) (hs : a.eval s = v) (hown : OwnK w base e k v l) (ad : Addr) (c m : Nat) (news : List (List Value))
    (hx : a.eval x = .slice (some ad) m c) (hr : RdK w k (some ad) news) (hn : ∀ y ∈ news, y.length = k) (hone : ∀ y ∈ news, ∀ u ∈ y, u.oneCell' = true) (hm : m = news.length)
    (b0 : l.length + news.length ≤ maxLen) (b1 : (l.length + news.length) * b ≤ 140737488355328) (hbase : base ≤ w.heap.size)
    (hK : ∀ v' w', OwnK w' base e k v' (l ++ news) → w.grownBy w' v.ownBlock → K (a.put o.dst v') w') : o.wp P a w K Q := by
  subst hm
  obtain ⟨i, hi, hiz, his, hib⟩ := info_partsK h2
  obtain ⟨v', w', hrun, r1, r2, r3⟩ := run_append_own (P := P) w base t o.type e i z k b h1 hi hiz his hib hz hk v l.length l.flatten hown.2 ad news.length c news.flatten (flat_length hn) (hr.cells hn)
    (fun u hu => by obtain ⟨y, hy, hu'⟩ := List.mem_flatten.1 hu; exact hone y hy u hu') b0 b1 hbase
  unfold Oper.wp
  simp [execOp, hop, resolve, invoke, builtin, hs, hx, hrun, Result.andThen]
  exact hK v' w' ⟨fun y hy => (List.mem_append.1 hy).elim (hown.1 y) (hn y), by rw [List.length_append, List.flatten_append]; exact r1⟩ r2
theorem append_k {ops : Array Oper} {rest : List Oper} (w : World) {o : Oper} {a : Act} {Q : Exit → Act → World → Prop} (hw : Region.wanted o (yielded ops a.tmps) = true)
    (s x : Operand) (t : TypeId) (hop : o.op = Op.call { callee := Callee.builtin Builtin.append, args := #[s, x], argTypes := #[t, t] })
    (base : Nat) (e : TypeId) (z : Value) (k b : Nat) (h1 : P.underlying t = some (.slice e)) (h2 : (P.info? e).map (fun i => (i.zero, i.size, i.bytes)) = some (some z, k, b)) (hz : z.cells.size = k) (hk : 0 < k)
    (v : Value) (l : List (List Value)) (hs : a.eval s = v) (hown : OwnK w base e k v l) (ad : Addr) (c m : Nat) (news : List (List Value))
    (hx : a.eval x = .slice (some ad) m c) (hr : RdK w k (some ad) news) (hn : ∀ y ∈ news, y.length = k) (hone : ∀ y ∈ news, ∀ u ∈ y, u.oneCell' = true) (hm : m = news.length)
    (b0 : l.length + news.length ≤ maxLen) (b1 : (l.length + news.length) * b ≤ 140737488355328) (hbase : base ≤ w.heap.size)
    (hK : ∀ v' w', OwnK w' base e k v' (l ++ news) → w.grownBy w' v.ownBlock → wpList P ops Q rest (a.put o.dst v') w') : wpList P ops Q (o :: rest) a w :=
  BigFrame.wpList_want hw fun K hKK => append_k_op w s x t hop base e z k b h1 h2 hz hk v l hs hown ad c m news hx hr hn hone hm b0 b1 hbase (fun v' w' h1 h2 => hKK _ _ (hK v' w' h1 h2))
/-- Nothing is put behind a row, whatever the capacity of the nothing. -/
theorem run_void_k (w : World) (base : Nat) (t ty e : TypeId) (i : TypeInfo) (k : Nat) (ht : P.underlying t = some (.slice e)) (hi : P.info? e = some i)
    (v : Value) (l : List (List Value)) (hown : OwnK w base e k v l) (c : Nat) : (Builtin.append_ #[t, t] ty #[v, .slice none 0 c]).run P w = .ok v w := by
  rcases hown.2.2 with ⟨rfl, _⟩ | ⟨g, cap, cur, rfl, _, _, hnc, _⟩
  · simp [Builtin.append_, run_underlying ht, sizeOf, typeInfo, hi, Builtin.lenOf, Builtin.firstCells]
  · simp [Builtin.append_, run_underlying ht, sizeOf, typeInfo, hi, Builtin.lenOf, Builtin.firstCells, hnc, storeCells]
/-- The same where what is put may be nothing at all, nil among it. -/
theorem append_kn_op (w : World) {o : Oper} {a : Act} {K : Act → World → Prop} {Q : Exit → Act → World → Prop}
    (s x : Operand) (t : TypeId) (hop : o.op = Op.call { callee := Callee.builtin Builtin.append, args := #[s, x], argTypes := #[t, t] })
    (base : Nat) (e : TypeId) (z : Value) (k b : Nat) (h1 : P.underlying t = some (.slice e)) (h2 : (P.info? e).map (fun i => (i.zero, i.size, i.bytes)) = some (some z, k, b)) (hz : z.cells.size = k) (hk : 0 < k)
    (v : Value) (l : List (List Value)) (hs : a.eval s = v) (hown : OwnK w base e k v l) (A : Option Addr) (c m : Nat) (news : List (List Value))
    (hx : a.eval x = .slice A m c) (hr : RdK w k A news) (hn : ∀ y ∈ news, y.length = k) (hone : ∀ y ∈ news, ∀ u ∈ y, u.oneCell' = true) (hm : m = news.length)
    (b0 : l.length + news.length ≤ maxLen) (b1 : (l.length + news.length) * b ≤ 140737488355328) (hbase : base ≤ w.heap.size)
    (hK : ∀ v' w', OwnK w' base e k v' (l ++ news) → w.grownBy w' v.ownBlock → K (a.put o.dst v') w') : o.wp P a w K Q := by
  cases A with
  | some ad => exact append_k_op w s x t hop base e z k b h1 h2 hz hk v l hs hown ad c m news hx hr hn hone hm b0 b1 hbase hK
  | none =>
    have h0 : news = [] := by
      cases news with
      | nil => rfl
      | cons b r => obtain ⟨_, _, ha, _⟩ := hr 0 b rfl; cases ha
    subst h0
    simp at hm
    subst hm
    obtain ⟨i, hi, hiz, his, hib⟩ := info_partsK h2
    have hrun := run_void_k (P := P) w base t o.type e i k h1 hi v l hown c
    unfold Oper.wp
    simp [execOp, hop, resolve, invoke, builtin, hs, hx, hrun, Result.andThen]
    exact hK v w (by simpa using hown) ⟨rfl, rfl, rfl, Nat.le_refl _, fun _ _ _ => rfl⟩
/-- An empty row in a new block. -/
theorem OwnK.empty (w : World) (base : Nat) (e : TypeId) (k : Nat) (hb : base ≤ w.heap.size) {g : Nat} (hg : g = w.heap.size) : OwnK (w.alloc (.cells #[] e)) base e k (.slice (some ⟨g, 0, none⟩) 0 0) [] := by
  subst hg
  exact ⟨by simp, by simp, .inr ⟨w.heap.size, 0, #[], rfl, hb, Bk.fresh w e #[], Nat.le_refl _, by simp [maxLen], by simp, by simp⟩⟩
end
end Go.Proofs.YtjgojgmgicpgaaaGreat
