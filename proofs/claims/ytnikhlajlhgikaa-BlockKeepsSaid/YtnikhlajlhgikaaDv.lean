/- The store in memory: its bytes, whether the power is off, how many writes there were, with what it is armed; and worlds that grew but for some blocks. No condition beyond those that each lemma bears. -/
import Derived.Test.YtnikhlajlhgikaaZro
import Derived.Test.YtnikhlajlhgikaaBkk
import Derived.Test.YtnikhlajlhgikaaMem
namespace Go.Proofs.Ytnikhlajlhgikaa
open Go.RowKit
set_option linter.unusedSimpArgs false
set_option linter.unusedVariables false

theorem zeroValue32 (w : World) : (zeroValue 32).run Try.prog w = .ok (.agg (List.replicate 65536 (Value.int .u8 0) ++ zEnd).toArray) w := by
  simp only [zeroValue, Sem.run_bind, Try.typeInfo32, Result.andThen_ok, zero32, Sem.run_pure]

/-- The world grew but for the blocks of a list. -/
structure Gr (ks : List Nat) (w w' : World) : Prop where
  os : w'.os = w.os
  tape : w'.tape = w.tape
  output : w'.output = w.output
  size : w.heap.size ≤ w'.heap.size
  block : ∀ k, k < w.heap.size → k ∉ ks → w'.heap[k]? = w.heap[k]?
theorem Gr.refl (ks : List Nat) (w : World) : Gr ks w w := ⟨rfl, rfl, rfl, Nat.le_refl _, fun _ _ _ => rfl⟩
theorem Gr.trans {ks : List Nat} {a b c : World} (h : Gr ks a b) (k : Gr ks b c) : Gr ks a c :=
  ⟨k.os.trans h.os, k.tape.trans h.tape, k.output.trans h.output, Nat.le_trans h.size k.size, fun i hi hn => (k.block i (Nat.lt_of_lt_of_le hi h.size) hn).trans (h.block i hi hn)⟩
theorem Gr.of {w w' : World} {g : Nat} (h : w.grownBy w' (some g)) : Gr [g] w w' := ⟨h.os, h.tape, h.output, h.size, fun k hk hn => h.block k hk (fun e => hn (by simp at e; simp [e]))⟩
theorem Gr.ofBelow {w w' : World} {ks : List Nat} (h : Below w.heap.size w w') : Gr ks w w' := ⟨h.os, h.tape, h.output, h.size, fun k hk _ => h.block k hk⟩
theorem Gr.wide {w w' : World} {ks js : List Nat} (h : Gr ks w w') (hs : ∀ k, k ∈ ks → k ∈ js) : Gr js w w' := ⟨h.os, h.tape, h.output, h.size, fun k hk hn => h.block k hk (fun e => hn (hs k e))⟩
theorem Gr.drew {w w' : World} {ks : List Nat} (h : Gr ks w w') : Gr ks w w'.drew := ⟨h.os, h.tape, h.output, h.size, h.block⟩
theorem Gr.set {w w' : World} {ks : List Nat} (h : Gr ks w w') {p : Addr} (hp : p.block ∈ ks) (u : Value) : Gr ks w (w'.setCell p u) :=
  ⟨h.os, h.tape, h.output, by simpa using h.size, fun k hk hn => (Below.heap_setCell w' p u k (fun e => hn (by rw [e]; exact hp))).trans (h.block k hk hn)⟩
theorem Gr.alloc {w w' : World} {ks : List Nat} (h : Gr ks w w') (o : Obj) : Gr ks w (w'.alloc o) :=
  ⟨h.os, h.tape, h.output, Nat.le_trans h.size (by simp), fun k hk hn => (Below.heap_alloc w' o k (Nat.lt_of_lt_of_le hk h.size)).trans (h.block k hk hn)⟩
theorem Gr.below {w w' : World} {ks : List Nat} {B : Nat} (h : Gr ks w w') (hB : B ≤ w.heap.size) (hk : ∀ k, k ∈ ks → B ≤ k) : Below B w w' :=
  ⟨h.os, h.tape, h.output, h.size, fun k hlt => h.block k (by omega) (fun e => by have := hk k e; omega)⟩
theorem Gr.cell {w w' : World} {ks : List Nat} (h : Gr ks w w') {b o : Nat} (hb : b < w.heap.size) (hn : b ∉ ks) : w'.cell? ⟨b, o, none⟩ = w.cell? ⟨b, o, none⟩ := World.cell?_of_block (w := w) (h.block b hb hn)
theorem Bk.gr {w w' : World} {g : Nat} {t : TypeId} {cs : Array Value} {ks : List Nat} (h : Bk w g t cs) (hb : Gr ks w w') (hg : g ∉ ks) : Bk w' g t cs := (hb.block g h.here hg).trans h
theorem Rd.gr {w w' : World} {g o : Nat} {l : List UInt8} {ks : List Nat} (h : Rd w (some ⟨g, o, none⟩) l) (hb : Gr ks w w') (hg : g ∉ ks) : Rd w' (some ⟨g, o, none⟩) l := fun i b hi => by
  obtain ⟨g', o', ha, hc⟩ := h i b hi
  injection ha with ha
  injection ha with h1 h2
  subst h1 h2
  exact ⟨_, _, rfl, (hb.cell (World.block_lt_of_cell? w _ hc) hg).trans hc⟩

/-- The program's store, plainly: its bytes, is the power off, the writes, is it armed, the count, the part. -/
structure Dv where
  B : List UInt8
  off : Bool
  wr : Int
  armed : Bool
  cnt : Int
  part : Int
def Dv.tail (d : Dv) : List Value := [.bool d.off, .int .i64 d.wr, .bool d.armed, .int .i64 d.cnt, .int .i64 d.part]
def Dv.cs (d : Dv) : Array Value := (cells d.B ++ d.tail).toArray
theorem Dv.size (d : Dv) (h : d.B.length = 65536) : d.cs.size = 65541 := by simp [Dv.cs, Dv.tail, cells_length, h]
theorem tail_at {l t : List Value} (h : l.length = 65536) (k : Nat) : (l ++ t).toArray[65536 + k]? = t[k]? := by
  rw [List.getElem?_toArray, List.getElem?_append_right (by omega), h, Nat.add_sub_cancel_left]
theorem tail_put {l t : List Value} (h : l.length = 65536) (k : Nat) (v : Value) : (l ++ t).toArray.setIfInBounds (65536 + k) v = (l ++ t.set k v).toArray := by
  rw [List.setIfInBounds_toArray, List.set_append_right _ _ (by omega), h, Nat.add_sub_cancel_left]
/-- The store d lies in block g. -/
structure St (w : World) (g : Nat) (d : Dv) : Prop where
  len : d.B.length = 65536
  low : 0 ≤ d.part
  high : d.part ≤ 64
  bk : Bk w g 32 d.cs
section
variable {w w' : World} {g : Nat} {d : Dv}
theorem St.c0 (h : St w g d) : w.cell? ⟨g, 65536, none⟩ = some (.bool d.off) := (h.bk.cellAt 65536).trans (tail_at (k := 0) (by rw [cells_length]; exact h.len))
theorem St.c1 (h : St w g d) : w.cell? ⟨g, 65537, none⟩ = some (.int .i64 d.wr) := (h.bk.cellAt 65537).trans (tail_at (k := 1) (by rw [cells_length]; exact h.len))
theorem St.c2 (h : St w g d) : w.cell? ⟨g, 65538, none⟩ = some (.bool d.armed) := (h.bk.cellAt 65538).trans (tail_at (k := 2) (by rw [cells_length]; exact h.len))
theorem St.c3 (h : St w g d) : w.cell? ⟨g, 65539, none⟩ = some (.int .i64 d.cnt) := (h.bk.cellAt 65539).trans (tail_at (k := 3) (by rw [cells_length]; exact h.len))
theorem St.c4 (h : St w g d) : w.cell? ⟨g, 65540, none⟩ = some (.int .i64 d.part) := (h.bk.cellAt 65540).trans (tail_at (k := 4) (by rw [cells_length]; exact h.len))
theorem St.s0 (h : St w g d) (v : Bool) : St (w.setCell ⟨g, 65536, none⟩ (.bool v)) g { d with off := v } :=
  ⟨h.len, h.low, h.high, by have := h.bk.put 65536 (.bool v); rwa [show d.cs.setIfInBounds 65536 (.bool v) = _ from tail_put (k := 0) (by rw [cells_length]; exact h.len) _] at this⟩
theorem St.s1 (h : St w g d) (v : Int) : St (w.setCell ⟨g, 65537, none⟩ (.int .i64 v)) g { d with wr := v } :=
  ⟨h.len, h.low, h.high, by have := h.bk.put 65537 (.int .i64 v); rwa [show d.cs.setIfInBounds 65537 (.int .i64 v) = _ from tail_put (k := 1) (by rw [cells_length]; exact h.len) _] at this⟩
theorem St.s2 (h : St w g d) (v : Bool) : St (w.setCell ⟨g, 65538, none⟩ (.bool v)) g { d with armed := v } :=
  ⟨h.len, h.low, h.high, by have := h.bk.put 65538 (.bool v); rwa [show d.cs.setIfInBounds 65538 (.bool v) = _ from tail_put (k := 2) (by rw [cells_length]; exact h.len) _] at this⟩
theorem St.s3 (h : St w g d) (v : Int) : St (w.setCell ⟨g, 65539, none⟩ (.int .i64 v)) g { d with cnt := v } :=
  ⟨h.len, h.low, h.high, by have := h.bk.put 65539 (.int .i64 v); rwa [show d.cs.setIfInBounds 65539 (.int .i64 v) = _ from tail_put (k := 3) (by rw [cells_length]; exact h.len) _] at this⟩
theorem St.s4 (h : St w g d) (v : Int) (h0 : 0 ≤ v) (h1 : v ≤ 64) : St (w.setCell ⟨g, 65540, none⟩ (.int .i64 v)) g { d with part := v } :=
  ⟨h.len, h0, h1, by have := h.bk.put 65540 (.int .i64 v); rwa [show d.cs.setIfInBounds 65540 (.int .i64 v) = _ from tail_put (k := 4) (by rw [cells_length]; exact h.len) _] at this⟩
theorem St.gr {ks : List Nat} (h : St w g d) (hb : Gr ks w w') (hg : g ∉ ks) : St w' g d := ⟨h.len, h.low, h.high, h.bk.gr hb hg⟩
theorem St.later (h : St w g d) (hb : Below w.heap.size w w') : St w' g d := ⟨h.len, h.low, h.high, h.bk.later hb⟩
/-- Bytes put over bytes. -/
def over (B : List UInt8) (o : Nat) (l : List UInt8) : List UInt8 := B.take o ++ l ++ B.drop (o + l.length)
theorem over_length {B : List UInt8} {o : Nat} {l : List UInt8} (h : o + l.length ≤ B.length) : (over B o l).length = B.length := by simp [over]; omega
theorem over_nil (B : List UInt8) (o : Nat) : over B o [] = B := by simp [over]
theorem St.over {o : Nat} {l : List UInt8} (h : St w g d) (hl : o + l.length ≤ 65536) (hb : Bk w' g 32 (putPart d.cs o (cells l).toArray)) : St w' g { d with B := over d.B o l } := by
  refine ⟨by rw [show (({ d with B := Ytnikhlajlhgikaa.over d.B o l } : Dv).B) = Ytnikhlajlhgikaa.over d.B o l from rfl, over_length (by rw [h.len]; exact hl)]; exact h.len, h.low, h.high, ?_⟩
  have e : putPart d.cs o (cells l).toArray = Dv.cs { d with B := Ytnikhlajlhgikaa.over d.B o l } := by
    have hc : (cells d.B).length = 65536 := by rw [cells_length]; exact h.len
    have hcl : (cells l).length = l.length := cells_length l
    simp only [putPart, Dv.cs, List.size_toArray, hcl]
    rw [List.take_append_of_le_length (by omega), List.drop_append_of_le_length (by omega)]
    simp [Ytnikhlajlhgikaa.over, Dv.tail, cells]
  rw [← e]; exact hb
/-- The bytes of a part of the store. -/
theorem St.rd (h : St w g d) (o n : Nat) : Rd w (some ⟨g, o, none⟩) ((d.B.drop o).take n) := fun i b hi => by
  rw [List.getElem?_take] at hi
  split at hi
  · rw [List.getElem?_drop] at hi
    have hlt : o + i < d.B.length := (List.getElem?_eq_some_iff.1 hi).1
    refine ⟨_, _, rfl, (h.bk.cellAt (o + i)).trans ?_⟩
    simp only [Dv.cs, List.getElem?_toArray]
    rw [List.getElem?_append_left (by rw [cells_length]; exact hlt)]
    exact cells_at hi
  · cases hi
end
end Go.Proofs.Ytnikhlajlhgikaa
