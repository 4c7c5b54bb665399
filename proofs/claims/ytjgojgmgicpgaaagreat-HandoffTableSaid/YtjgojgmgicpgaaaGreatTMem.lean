/- Slices of bytes: a slice that reads as a list of bytes, a row of bytes that the call itself owns, and what makes and appends do to them. No condition beyond those that each lemma bears. -/
import Derived.Test.YtjgojgmgicpgaaaGreatTQ09
import Derived.WalkKit
import Derived.WalkSpells
import Derived.Lib.AppendStr
import Derived.Lib.Hide
import Derived.Deep.Draws
namespace Go.Proofs.YtjgojgmgicpgaaaGreat
open Go.RowKit

/-- The cells that hold bytes. -/
def cells (l : List UInt8) : List Value := l.map fun b => Value.int .u8 b.toNat
theorem cells_length (l : List UInt8) : (cells l).length = l.length := by simp [cells]
theorem cells_append (l m : List UInt8) : cells (l ++ m) = cells l ++ cells m := by simp [cells]
theorem cells_one (l : List UInt8) : ∀ u ∈ cells l, u.oneCell' = true := by
  intro u hu
  simp only [cells, List.mem_map] at hu
  obtain ⟨_, _, rfl⟩ := hu
  rfl
theorem cells_str (s : ByteArray) : Lib.strCells s = cells s.data.toList := rfl
theorem cells_get {l : List UInt8} {j : Nat} {u : Value} (h : (cells l)[j]? = some u) : ∃ b, l[j]? = some b ∧ u = .int .u8 b.toNat := by
  simp only [cells, List.getElem?_map, Option.map_eq_some_iff] at h
  obtain ⟨b, hb, rfl⟩ := h
  exact ⟨b, hb, rfl⟩
theorem cells_at {l : List UInt8} {j : Nat} {b : UInt8} (h : l[j]? = some b) : (cells l)[j]? = some (.int .u8 b.toNat) := by simp [cells, h]

/-- A slice at this address reads as these bytes. -/
def Rd (w : World) (A : Option Addr) (l : List UInt8) : Prop := ∀ i b, l[i]? = some b → ∃ g o, A = some ⟨g, o, none⟩ ∧ w.cell? ⟨g, o + i, none⟩ = some (.int .u8 (b.toNat : Int))

section
variable {w w' : World} {A : Option Addr} {l : List UInt8}
theorem Rd.nil (w : World) (A : Option Addr) : Rd w A [] := by intro i b h; simp at h
theorem Rd.keep (h : Rd w A l) (hk : ∀ (p : Addr) v, w.cell? p = some v → w'.cell? p = some v) : Rd w' A l := fun i b hb => by
  obtain ⟨g, o, ha, hc⟩ := h i b hb
  exact ⟨g, o, ha, hk _ _ hc⟩
theorem Rd.below (h : Rd w A l) (hb : Below w.heap.size w w') : Rd w' A l := h.keep fun p _ hc => (hb.cell (World.block_lt_of_cell? w p hc)).trans hc
theorem Rd.alloc (h : Rd w A l) (o : Obj) : Rd (w.alloc o) A l := h.below ((Below.refl _ _).alloc (Nat.le_refl _) o)
theorem Rd.drew (h : Rd w A l) : Rd w.drew A l := h
theorem Rd.drewN (h : Rd w A l) (n : Nat) : Rd (w.drewN n) A l := h
theorem Rd.drop (h : Rd w A l) {k c : Nat} (hlc : l.length ≤ c) : Rd w (if c = k then A else A.map (·.add k)) (l.drop k) := fun i b hb => by
  rw [List.getElem?_drop] at hb
  have hi : k + i < l.length := (List.getElem?_eq_some_iff.1 hb).1
  obtain ⟨g, o, rfl, hc⟩ := h (k + i) b hb
  rw [if_neg (by omega)]
  refine ⟨g, o + k, by simp [Addr.add_lit], ?_⟩
  rw [Nat.add_assoc]
  exact hc
theorem Rd.take (h : Rd w A l) (k : Nat) : Rd w A (l.take k) := fun i b hb => by
  rw [List.getElem?_take] at hb
  split at hb
  · exact h i b hb
  · cases hb
theorem Rd.pre {m : List UInt8} (h : Rd w A (l ++ m)) : Rd w A l := fun i b hb => h i b (by
  rw [List.getElem?_append_left (List.getElem?_eq_some_iff.1 hb).1]; exact hb)
theorem Rd.news (h : Rd w A l) : ∀ ad, A = some ad → ∀ j u, (cells l)[j]? = some u → w.cell? (ad.add j) = some u := by
  intro ad had j u hu
  obtain ⟨b, hb, rfl⟩ := cells_get hu
  obtain ⟨g, o, ha, hc⟩ := h j b hb
  rw [had] at ha
  injection ha with ha
  subst ha
  rw [Addr.add_lit]
  exact hc
theorem Rd.own {base e cap : Nat} (h : w.ownsRow base e 1 (.slice A l.length cap) l.length (cells l)) : Rd w A l := fun i b hb => by
  rcases h.2 with ⟨_, h0⟩ | ⟨g, c, cur, hv, _⟩
  · rw [List.length_eq_zero_iff] at h0; subst h0; simp at hb
  · injection hv with hA
    subst hA
    have := h.cells (g := g) rfl i _ (cells_at hb)
    rw [Addr.add_lit] at this
    exact ⟨_, _, rfl, this⟩
end

/-- A row of bytes that the call owns, at the head of block g. -/
def Own (w : World) (base e g cap : Nat) (l : List UInt8) : Prop := w.ownsRow base e 1 (.slice (some ⟨g, 0, none⟩) l.length cap) l.length (cells l)

theorem Own.rd {w : World} {base e g cap : Nat} {l : List UInt8} (h : Own w base e g cap l) : Rd w (some ⟨g, 0, none⟩) l := Rd.own h
theorem Own.get {w : World} {base e g cap : Nat} {l : List UInt8} (h : Own w base e g cap l) {i : Nat} {b : UInt8} (hb : l[i]? = some b) : w.cell? ⟨g, i, none⟩ = some (.int .u8 (b.toNat : Int)) := by
  obtain ⟨g', o, he, hc⟩ := h.rd i b hb
  injection he with he
  injection he with h1 h2
  subst h1 h2
  rw [Nat.zero_add] at hc
  exact hc
theorem Own.lt {w : World} {base e g cap : Nat} {l : List UInt8} (h : Own w base e g cap l) : base ≤ g ∧ g < w.heap.size := World.ownsRow.lt h g rfl
theorem Own.caps {w : World} {base e g cap : Nat} {l : List UInt8} (h : Own w base e g cap l) : l.length ≤ cap ∧ cap ≤ maxLen := by
  rcases h.2 with ⟨h0, _⟩ | ⟨g', cap', cur, hv, _, _, h1, h2, _⟩
  · cases h0
  · injection hv with _ _ hc
    subst hc
    exact ⟨h1, h2⟩
theorem Own.alloc {w : World} {base e g cap : Nat} {l : List UInt8} (h : Own w base e g cap l) (o : Obj) : Own (w.alloc o) base e g cap l := World.ownsRow.alloc h o
theorem Own.drew {w : World} {base e g cap : Nat} {l : List UInt8} (h : Own w base e g cap l) : Own w.drew base e g cap l := h
theorem Own.below {w w' : World} {base e g cap : Nat} {l : List UInt8} (h : Own w base e g cap l) (hb : Below w.heap.size w w') : Own w' base e g cap l :=
  World.ownsRow.kept (row := none) h ⟨hb.os, hb.tape, hb.output, hb.size, fun k hk _ => hb.block k hk⟩ (Or.inr (by simp [Value.ownBlock]))
theorem Own.base {w : World} {base base' e g cap : Nat} {l : List UInt8} (h : Own w base e g cap l) (hb : base' ≤ base) : Own w base' e g cap l :=
  ⟨h.1, h.2.imp id fun ⟨g, cap, cur, a, b, c⟩ => ⟨g, cap, cur, a, Nat.le_trans hb b, c⟩⟩

theorem grownBy_below {w w' : World} {row : Option Nat} {B : Nat} (hg : w.grownBy w' row) (hB : B ≤ w.heap.size) (hr : ∀ k, row = some k → B ≤ k) : Below B w w' := (Below.refl _ _).grown hg hB hr
theorem below_grownBy {w w' : World} {row : Option Nat} (hb : Below w.heap.size w w') : w.grownBy w' row := ⟨hb.os, hb.tape, hb.output, hb.size, fun i hi _ => hb.block i hi⟩
theorem grownBy_trans {w w' w'' : World} {row : Option Nat} (h : w.grownBy w' row) (k : w'.grownBy w'' row) : w.grownBy w'' row :=
  ⟨k.os.trans h.os, k.tape.trans h.tape, k.output.trans h.output, Nat.le_trans h.size k.size, fun i hi hne => (k.block i (Nat.lt_of_lt_of_le hi h.size) hne).trans (h.block i hi hne)⟩

/-- One byte in a new block. -/
theorem new_byte (w : World) (b : UInt8) (t : TypeId) : ∀ j u, (cells [b])[j]? = some u → (w.alloc (.cells #[.int .u8 (b.toNat : Int)] t)).cell? ((⟨w.heap.size, 0, none⟩ : Addr).add j) = some u := by
  intro j u hu
  obtain ⟨c, hc, rfl⟩ := cells_get hu
  match j, hc with
  | 0, hc => simp at hc; subst hc; simp [Addr.add]
  | (j + 1), hc => simp at hc

theorem Rd.byte (w : World) (x : Int) (b : UInt8) (t : TypeId) (h : x = b.toNat) : Rd (w.alloc (.cells #[.int .u8 x] t)) (some ⟨w.heap.size, 0, none⟩) [b] := by
  subst h
  intro i c hc
  have := new_byte w b t i _ (cells_at hc)
  rw [Addr.add_lit] at this
  exact ⟨_, _, rfl, this⟩

section
variable {P : Program} (w : World)
/-- Appending nothing, whatever the capacity of the nothing. -/
theorem run_append_void (base : Nat) (t ty e : TypeId) (i : TypeInfo) (size : Nat) (ht : P.underlying t = some (.slice e)) (hi : P.info? e = some i)
    (v : Value) (n : Nat) (xs : List Value) (hown : w.ownsRow base e size v n xs) (c : Nat) : (Builtin.append_ #[t, t] ty #[v, .slice none 0 c]).run P w = .ok v w := by
  rcases hown.2 with ⟨rfl, rfl⟩ | ⟨g, cap, cur, rfl, _, _, hnc, _⟩
  · simp [Builtin.append_, run_underlying ht, sizeOf, typeInfo, hi, Builtin.lenOf, Builtin.firstCells]
  · simp [Builtin.append_, run_underlying ht, sizeOf, typeInfo, hi, Builtin.lenOf, Builtin.firstCells, hnc, storeCells]

/-- Appending bytes that read anywhere, within the capacity. -/
theorem wpList_append_rd {ops : Array Oper} {rest : List Oper} {o : Oper} {a : Act} {Q : Exit → Act → World → Prop}
    (hg : o.guard = none) (s x : Operand) (t : TypeId) (hop : o.op = Op.call { callee := Callee.builtin Builtin.append, args := #[s, x], argTypes := #[t, t] })
    (base e : Nat) (i : TypeInfo) (h1 : P.underlying t = some (.slice e)) (h2 : P.info? e = some i) (h4 : i.size = 1)
    (g cap n : Nat) (l : List UInt8) (hs : a.eval s = .slice (some ⟨g, 0, none⟩) n cap) (hown : Own w base e g cap l) (A : Option Addr) (c m : Nat) (news : List UInt8)
    (hx : a.eval x = .slice A m c) (hr : Rd w A news) (hn : n = l.length) (hm : m = news.length) (b1 : l.length + news.length ≤ cap)
    (hK : ∀ w', Own w' base e g cap (l ++ news) → w.grownBy w' (some g) → wpList P ops Q rest (a.put o.dst (.slice (some ⟨g, 0, none⟩) (n + m) cap)) w') :
    wpList P ops Q (o :: rest) a w := by
  subst hn hm
  refine wpList_plain hg fun K hK' => ?_
  cases A with
  | none =>
    have h0 : news = [] := by
      cases news with
      | nil => rfl
      | cons b r => obtain ⟨_, _, ha, _⟩ := hr 0 b rfl; cases ha
    subst h0
    have hrun := run_append_void (P := P) w base t o.type e i 1 h1 h2 _ _ _ hown c
    unfold Oper.wp
    simp [execOp, hop, resolve, invoke, builtin, hs, hx, hrun, Result.andThen]
    exact hK' _ _ (by simpa using hK w (by simpa using hown) (World.grownBy.refl _ _))
  | some ad =>
    obtain ⟨w', hrun, r1, r2⟩ := run_append_fits (P := P) w base t o.type e i 1 h1 h2 h4 g l.length cap (cells l) hown ad news.length c (cells news) (by rw [cells_length, Nat.mul_one]) (hr.news ad rfl) (cells_one _) b1
    unfold Oper.wp
    simp [execOp, hop, resolve, invoke, builtin, hs, hx, hrun, Result.andThen]
    refine hK' _ _ (by simpa using hK w' (by unfold Own; rw [List.length_append, cells_append]; exact r1) r2)

/-- Appending a string within the capacity. -/
theorem wpList_append_str {ops : Array Oper} {rest : List Oper} {o : Oper} {a : Act} {Q : Exit → Act → World → Prop}
    (hgd : o.guard = none) (sl x : Operand) (t u : TypeId) (hop : o.op = Op.call { callee := Callee.builtin Builtin.append, args := #[sl, x], argTypes := #[t, u] })
    (base e : Nat) (i : TypeInfo) (h1 : P.underlying t = some (.slice e)) (hu : P.underlying u = some .string) (h2 : P.info? e = some i) (h4 : i.size = 1)
    (g cap n : Nat) (l : List UInt8) (hs : a.eval sl = .slice (some ⟨g, 0, none⟩) n cap) (hown : Own w base e g cap l) (s : ByteArray)
    (hx : a.eval x = .string s) (hn : n = l.length) (b1 : n + s.size ≤ cap)
    (hK : ∀ w', Own w' base e g cap (l ++ s.data.toList) → w.grownBy w' (some g) → wpList P ops Q rest (a.put o.dst (.slice (some ⟨g, 0, none⟩) (n + s.size) cap)) w') :
    wpList P ops Q (o :: rest) a w := by
  subst hn
  refine wpList_plain hgd fun K hK' => ?_
  obtain ⟨cur, hb, hgg, hcm, hcs, htk⟩ : ∃ cur, base ≤ g ∧ w.heap[g]? = some (.cells cur e (0, 0)) ∧ cap ≤ maxLen ∧ cur.size = cap ∧ cur.toList.take l.length = cells l := by
    rcases hown.2 with ⟨h, _⟩ | ⟨g', cap', cur, hv, hb, hgg, _, hcm, hcs, htk⟩
    · cases h
    · injection hv with hA _ hc
      injection hA with hA
      injection hA with hA
      subst hA hc
      exact ⟨cur, hb, hgg, hcm, by simpa using hcs, by simpa using htk⟩
  have hsz : s.data.toList.length = s.size := by simp
  have hrun := Lib.run_append_room_string (P := P) w t u o.type e i h1 hu h2 h4 g l.length cap cur hgg s b1 (by omega)
  rw [htk] at hrun
  have hnew : Own (w.setRow g (cells l ++ Lib.strCells s ++ cur.toList.drop (l.length + s.size)).toArray) base e g cap (l ++ s.data.toList) := by
    unfold Own
    refine ⟨by simp [cells_length], .inr ⟨g, cap, _, rfl, hb, setRow_heap w g cur _ e _ hgg, by simp [hsz]; exact b1, hcm, ?_, ?_⟩⟩
    · simp only [List.size_toArray, List.length_append, List.length_drop, Array.length_toList, Lib.strCells_length, cells_length]
      omega
    · rw [cells_append, ← cells_str]
      have : ((l ++ s.data.toList).length * 1) = (cells l ++ Lib.strCells s).length := by simp [cells_length, Lib.strCells_length, hsz]
      rw [this]
      exact List.take_left
  have hgr : w.grownBy (w.setRow g (cells l ++ Lib.strCells s ++ cur.toList.drop (l.length + s.size)).toArray) (some g) :=
    ⟨rfl, rfl, rfl, by simp, fun k _ hk => setRow_other w g k _ (fun e => hk (by rw [e]))⟩
  obtain ⟨W, hW⟩ : ∃ W, W = w.setRow g (cells l ++ Lib.strCells s ++ cur.toList.drop (l.length + s.size)).toArray := ⟨_, rfl⟩
  rw [← hW] at hrun hnew hgr
  unfold Oper.wp
  simp [execOp, hop, resolve, invoke, builtin, hs, hx, hrun, Result.andThen]
  exact hK' _ _ (hK _ hnew hgr)

/-- A string from bytes that read anywhere. -/
theorem run_str_rd {src dst e : TypeId} {A : Option Addr} {c m : Nat} {l : List UInt8} (hs : P.underlying src = some (.slice e)) (he : P.underlying e = some (.int .u8)) (hd : P.underlying dst = some .string)
    (hm : m = l.length) (hr : Rd w A l) : (convert src dst (.slice A m c)).run P w = .ok (.string ⟨l.toArray⟩) w := by
  subst hm
  cases A with
  | none =>
    have h0 : l = [] := by
      cases l with
      | nil => rfl
      | cons b r => obtain ⟨_, _, ha, _⟩ := hr 0 b rfl; cases ha
    subst h0
    rw [List.length_nil, run_convert_bytes_string w src dst e none 0 c hs he hd]
    rfl
  | some a => exact run_convert_bytes_back w src dst e a c l hs he hd (fun j hj => hr.news a rfl j _ (cells_at (List.getElem?_eq_getElem hj)))

/-- The bytes of a string in a new row. -/
theorem run_bytes_rd {src dst e : TypeId} {s : ByteArray} (hs : P.underlying src = some .string) (hd : P.underlying dst = some (.slice e)) (he : P.underlying e = some (.int .u8)) (hm : s.size ≤ maxLen) :
    ∃ c w', (convert src dst (.string s)).run P w = .ok (.slice (some ⟨w.heap.size, 0, none⟩) s.size c) w' ∧ Rd w' (some ⟨w.heap.size, 0, none⟩) s.data.toList ∧ Below w.heap.size w w' ∧ w.heap.size < w'.heap.size ∧ s.size ≤ c ∧ c ≤ maxLen := by
  refine ⟨_, _, run_bytes_of_string w src dst e s hs hd he, ?_, ?_, by simp, grownCap_ge w s.size 0 e, grownCap_le_maxLen w s.size 0 e hm⟩
  · intro i b hb
    have hi : i < s.data.size := by have := (List.getElem?_eq_some_iff.1 hb).1; simpa using this
    refine ⟨_, _, rfl, ?_⟩
    have h1 := World.cell?_alloc_mark w.drew (bytesRow s (grownCap w s.size 0 e)) e ((bytesRow s (grownCap w s.size 0 e)).size, (bytesRow s (grownCap w s.size 0 e)).size + 1) i
    have h2 := bytesRow_at s (grownCap w s.size 0 e) i hi
    rw [Nat.zero_add]
    refine h1.trans (h2.trans ?_)
    rw [List.getElem?_eq_getElem (by simpa using hi)] at hb
    injection hb with hb
    rw [← hb]
    rfl
  · exact ((Below.refl _ _).drew).alloc (Nat.le_refl _) _

theorem wpList_bytes {ops : Array Oper} {rest : List Oper} {o : Oper} {a : Act} {Q : Exit → Act → World → Prop}
    (hg : o.guard = none) (x : Operand) (src dst : TypeId) (hop : o.op = Op.convert src dst x) (e : TypeId) (s : ByteArray)
    (hs : P.underlying src = some .string) (hd : P.underlying dst = some (.slice e)) (he : P.underlying e = some (.int .u8)) (hm : s.size ≤ maxLen) (hx : a.eval x = .string s)
    (hK : ∀ c w', Rd w' (some ⟨w.heap.size, 0, none⟩) s.data.toList → Below w.heap.size w w' → w.heap.size < w'.heap.size → s.size ≤ c → c ≤ maxLen → wpList P ops Q rest (a.put o.dst (.slice (some ⟨w.heap.size, 0, none⟩) s.size c)) w') :
    wpList P ops Q (o :: rest) a w := by
  refine wpList_plain hg fun K hK' => ?_
  obtain ⟨c, w', hrun, r1, r2, r3, r4, r5⟩ := run_bytes_rd (P := P) w hs hd he hm
  unfold Oper.wp
  simp [execOp, hop, hx, hrun, Result.andThen]
  exact hK' _ _ (hK c w' r1 r2 r3 r4 r5)
end

/-- What is known of a slice of integers that came in: it is nil, or it leads to a row of cap cells that hold these numbers, each of which fits its kind. -/
def IsRow (k : IntKind) (w : World) (a : Option Addr) (len cap : Nat) (zs : List Int) : Prop :=
  (a = none ∧ len = 0 ∧ cap = 0 ∧ zs = []) ∨
  ∃ x, a = some x ∧ len ≤ cap ∧ cap ≤ maxLen ∧ zs.length = cap ∧ (∀ i, i < zs.length → w.cell? (x.add i) = some (.int k (zs.getD i 0))) ∧ ∀ n ∈ zs, (Lit.int k n).wf = true
end Go.Proofs.YtjgojgmgicpgaaaGreat
