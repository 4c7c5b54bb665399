/- Bytes in memory of the call's own, as any slice; and the contracts of slices.Grow (of nil) and slices.Concat (of two slices of bytes). Conditions: lengths within 2^47 together. -/
import Derived.Test.YtehkdaknhgmdkaaApp
import Derived.Lib.AppendZerosOnto
import Derived.Laws.OwnMore
import Derived.Lib.Walk
namespace Go.Proofs.Ytehkdaknhgmdkaa
open Go.RowKit
set_option linter.unusedSimpArgs false
set_option linter.unusedVariables false

/-- A row of bytes that the call owns, or nil. -/
def OwnB (w : World) (base : Nat) (v : Value) (l : List UInt8) : Prop := w.ownsRow base 5 1 v l.length (cells l)

/-- What such a slice is, and reads as. -/
structure Slb (w : World) (base : Nat) (v : Value) (l : List UInt8) (A : Option Addr) (c : Nat) : Prop where
  val : v = .slice A l.length c
  rd : Rd w A l
  cap : l.length ≤ c
  cap2 : c ≤ maxLen
  head : A = none ∨ ∃ g, A = some ⟨g, 0, none⟩
  new : ∀ g o p, A = some ⟨g, o, p⟩ → base ≤ g ∧ g < w.heap.size
theorem OwnB.sl {w : World} {base : Nat} {v : Value} {l : List UInt8} (h : OwnB w base v l) : ∃ A c, Slb w base v l A c := by
  rcases h.2 with ⟨hv, h0⟩ | ⟨g, cap, cur, hv, hb, hg, hn, hm, _, _⟩
  · rw [List.length_eq_zero_iff] at h0
    subst h0
    exact ⟨none, 0, hv, Rd.nil _ _, Nat.le_refl _, by simp [maxLen], .inl rfl, fun g o p e => by cases e⟩
  · refine ⟨some ⟨g, 0, none⟩, cap, hv, ?_, hn, hm, .inr ⟨g, rfl⟩, fun g' o p e => ?_⟩
    · have h' : Own w base 5 g cap l := by unfold Own; rw [← hv]; exact h
      exact h'.rd
    · injection e with e; injection e with e1 e2; subst e1
      exact World.ownsRow.lt h g (by rw [hv]; rfl)
theorem OwnB.below {w w' : World} {base : Nat} {v : Value} {l : List UInt8} (h : OwnB w base v l) (hb : Below w.heap.size w w') : OwnB w' base v l :=
  World.ownsRow.kept (row := none) h ⟨hb.os, hb.tape, hb.output, hb.size, fun k hk _ => hb.block k hk⟩ (by
    rcases h.2 with ⟨hv, _⟩ | ⟨g, cap, cur, hv, _⟩ <;> rw [hv] <;> simp [Value.ownBlock])
theorem OwnB.base {w : World} {b b' : Nat} {v : Value} {l : List UInt8} (h : OwnB w b v l) (hb : b' ≤ b) : OwnB w b' v l :=
  ⟨h.1, h.2.imp id fun ⟨g, cap, cur, a, hg, c⟩ => ⟨g, cap, cur, a, Nat.le_trans hb hg, c⟩⟩
theorem OwnB.nil (w : World) (base : Nat) : OwnB w base (.slice none 0 0) [] := ⟨rfl, .inl ⟨rfl, rfl⟩⟩
theorem OwnB.block {w : World} {base : Nat} {v : Value} {l : List UInt8} (h : OwnB w base v l) : ∀ k, v.ownBlock = some k → base ≤ k := fun k hk => (World.ownsRow.lt h k hk).1

section
variable {P : Program} (w : World)
/-- Appending bytes that read anywhere to a row that the call owns. -/
theorem wpList_append_b {ops : Array Oper} {rest : List Oper} {o : Oper} {a : Act} {Q : Exit → Act → World → Prop}
    (hg : o.guard = none) (s x : Operand) (t : TypeId) (hop : o.op = Op.call { callee := Callee.builtin Builtin.append, args := #[s, x], argTypes := #[t, t] })
    (base : Nat) (i : TypeInfo) (h1 : P.underlying t = some (.slice 5)) (h2 : P.info? 5 = some i) (h3 : i.zero = some (.int .u8 0)) (h4 : i.size = 1) (h5 : i.bytes = 1)
    (v : Value) (l : List UInt8) (hs : a.eval s = v) (hown : OwnB w base v l) (A : Option Addr) (c m : Nat) (news : List UInt8)
    (hx : a.eval x = .slice A m c) (hr : Rd w A news) (hm : m = news.length) (b1 : l.length + news.length ≤ 140737488355328) (hbase : base ≤ w.heap.size)
    (hK : ∀ v' w', OwnB w' base v' (l ++ news) → w.grownBy w' v.ownBlock → wpList P ops Q rest (a.put o.dst v') w') :
    wpList P ops Q (o :: rest) a w := by
  subst hm
  refine wpList_plain hg fun K hK' => ?_
  cases A with
  | none =>
    have h0 : news = [] := by
      cases news with
      | nil => rfl
      | cons b r => obtain ⟨_, _, ha, _⟩ := hr 0 b rfl; cases ha
    subst h0
    have hrun := run_append_void (P := P) w base t o.type 5 i 1 h1 h2 _ _ _ hown c
    unfold Oper.wp
    simp [execOp, hop, resolve, invoke, builtin, hs, hx, hrun, Result.andThen]
    exact hK' _ _ (by simpa using hK v w (by simpa using hown) (World.grownBy.refl _ _))
  | some ad =>
    obtain ⟨v', w', hrun, r1, r2, r3⟩ := run_append_own (P := P) w base t o.type 5 i (.int .u8 0) 1 1 h1 h2 h3 h4 h5 rfl (by decide) v l.length (cells l) hown ad news.length c (cells news) (by rw [cells_length, Nat.mul_one]) (hr.news ad rfl) (cells_one _) (by simp only [maxLen]; omega) (by omega) hbase
    unfold Oper.wp
    simp [execOp, hop, resolve, invoke, builtin, hs, hx, hrun, Result.andThen]
    exact hK' _ _ (hK v' w' (by unfold OwnB; rw [List.length_append, cells_append]; exact r1) r2)
end

set_option maxHeartbeats 2000000 in
set_option maxRecDepth 100000 in
theorem grow_any (N : Nat) (w : World) (hN : N ≤ 140737488355328) :
    Calls Try.prog 83 #[.slice none 0 0, .int .i64 N] w fun e w' => ∃ v, e = .returned v ∧ OwnB w' w.heap.size v [] ∧ Below w.heap.size w w' := by
  by_cases h0 : N = 0
  · subst h0
    go_enter Try.func83, Try.ntmps83
    go_wp2
    go_ret
    exact ⟨_, rfl, OwnB.nil _ _, Below.refl _ _⟩
  have hpos : 0 < N := by omega
  obtain ⟨i0, hi, hz0, hz1, hz2⟩ := info_parts info5
  have hold : (Builtin.firstCells i0.size 0 (.slice none 0 0)).run Try.prog w.drew = .ok ([] : List Value).toArray w.drew := run_firstCells_none w.drew i0.size 0 0 0
  have hrz : ∀ ty, (Builtin.append_ #[35, 3] ty #[.slice none 0 0, .int .i64 (N : Int)]).run Try.prog w =
      .ok (.slice (some ⟨w.heap.size, 0, none⟩) N (grownCap w N 0 5)) (w.drew.alloc (.cells (([] : List Value).toArray ++ Builtin.zeroCells (Value.int .u8 0).cells N ++ Builtin.zeroCells (Value.int .u8 0).cells (grownCap w N 0 5 - N)) 5)) := fun ty => by
    have h := Lib.run_append_grow_zeros w 35 3 ty 5 i0 (.int .u8 0) .i64 .i64 Try.underlying35 Try.underlying3 hi hz0 none 0 0 [] hold N hpos (by omega) (by omega) (by omega) (by rw [hz2]; omega)
      (by rw [Nat.zero_add, hz2]; exact growslice_fits (by omega) (by omega))
    rw [Nat.zero_add] at h
    exact h
  have hGn : N ≤ grownCap w N 0 5 := grownCap_ge w _ _ _
  have hGm := grownCap_le_maxLen w N 0 5 (by unfold maxLen; omega)
  obtain ⟨G, hG⟩ : ∃ G, G = grownCap w N 0 5 := ⟨_, rfl⟩
  rw [← hG] at hrz hGn hGm
  have hG63 : G ≤ 9223372036854775807 := by unfold maxLen at hGm; omega
  obtain ⟨cur, hcur⟩ : ∃ cur : Array Value, cur = ([] : List Value).toArray ++ Builtin.zeroCells (Value.int .u8 0).cells N ++ Builtin.zeroCells (Value.int .u8 0).cells (G - N) := ⟨_, rfl⟩
  rw [← hcur] at hrz
  have hsz : cur.size = G := by
    rw [hcur]; simp [size_zeroCells, Value.cells]; omega
  have HS := Lib.hid hsz
  have HM := Lib.hid hGm
  clear hold hG hcur hsz hGm
  have h1 : ¬ ((N : Int) < 0) := by omega
  go_enter Try.func83, Try.ntmps83
  go_wp2_with (at_builtin; refine Lib.wpList_append_run _ rfl _ _ _ _ rfl _ _ rfl rfl _ _ (hrz _) ?_)
  go_ret
  refine ⟨_, rfl, ?_, (Below.refl _ _).drew.alloc (Nat.le_refl _) _⟩
  have := World.ownsRow_made (e := 5) (size := 1) (base := w.heap.size) w.drew cur G (Nat.le_refl _) HM.out (by rw [HS.out, Nat.mul_one])
  exact this

set_option maxHeartbeats 2000000 in
set_option maxRecDepth 100000 in
theorem concat_any (X : Nat) (A B : Option Addr) (n c m d : Nat) (l r : List UInt8) (w : World) (hX0 : w.cell? ⟨X, 0, none⟩ = some (.slice A n c)) (hX1 : w.cell? ⟨X, 1, none⟩ = some (.slice B m d))
    (hn : Hid (n = l.length)) (hm : Hid (m = r.length)) (hr : Hid (Rd w A l)) (hq : Hid (Rd w B r)) (hb : n + m ≤ 140737488355328) :
    Calls Try.prog 55 #[.slice (some ⟨X, 0, none⟩) 2 2] w fun e w' => ∃ v, e = .returned v ∧ OwnB w' w.heap.size v (l ++ r) ∧ Below w.heap.size w w' := by
  have hXlt : X < w.heap.size := World.block_lt_of_cell? w _ hX0
  obtain ⟨i0, hi, hz0, hz1, hz2⟩ := info_parts info5
  have hg := fun W => grow_any (n + m) W hb
  have HG := Lib.hid hg
  clear hg
  have hnm : ((n + m : Nat) : Int) = (n : Int) + (m : Int) := by omega
  rw [hnm] at HG
  clear hnm
  have p1 : ¬ ((n : Int) < 0) := by omega
  have p2 : ¬ ((n : Int) + (m : Int) < 0) := by omega
  go_enter Try.func55, Try.ntmps55
  go_wp2_with fail
  refine wp_loop_rounds 3 ?_
  rw [rounds_succ]
  go_wp2_with fail
  rw [rounds_succ]
  go_wp2_with fail
  rw [rounds_succ]
  go_wp2_with fail
  refine (HG.out _).mono ?_
  rintro e w1 ⟨v1, rfl, ho1, hb1⟩
  have hz := hb1.size
  have f0 : w1.cell? ⟨X, 0, none⟩ = some (.slice A n c) := (hb1.cell (p := ⟨X, 0, none⟩) hXlt).trans hX0
  have f1 : w1.cell? ⟨X, 1, none⟩ = some (.slice B m d) := (hb1.cell (p := ⟨X, 1, none⟩) hXlt).trans hX1
  have hr1 := hr.out.below hb1
  have hq1 := hq.out.below hb1
  have bl1 := ho1.block
  have HO1 := Lib.hid ho1
  have HR1 := Lib.hid hr1
  have HQ1 := Lib.hid hq1
  have BL1 := Lib.hid bl1
  clear ho1 hr1 hq1 bl1 hX0 hX1
  go_wp2_with fail
  refine wp_loop_rounds 3 ?_
  rw [rounds_succ]
  go_wp2_with (at_builtin; refine wpList_append_b _ rfl _ _ 35 rfl w.heap.size i0 Try.underlying35 hi hz0 hz1 hz2 v1 [] rfl HO1.out A c n l rfl HR1.out hn.out (by have := hn.out; simp; omega) hz ?_)
  intro v2 w2 ho2 hg2
  have hb2 : Below w.heap.size w w2 := hb1.trans (grownBy_below hg2 hz BL1.out)
  have hz2' := hb2.size
  have e0 : w2.cell? ⟨X, 0, none⟩ = some (.slice A n c) := (hb2.cell (p := ⟨X, 0, none⟩) hXlt).trans ((hb1.cell (p := ⟨X, 0, none⟩) hXlt).symm.trans f0)
  have e1 : w2.cell? ⟨X, 1, none⟩ = some (.slice B m d) := (hb2.cell (p := ⟨X, 1, none⟩) hXlt).trans ((hb1.cell (p := ⟨X, 1, none⟩) hXlt).symm.trans f1)
  have hq2 := hq.out.below hb2
  have bl2 := ho2.block
  have HO2 := Lib.hid ho2
  have HQ2 := Lib.hid hq2
  have BL2 := Lib.hid bl2
  clear ho2 hq2 bl2 f0 f1
  go_wp2_with fail
  rw [rounds_succ]
  go_wp2_with (at_builtin; refine wpList_append_b _ rfl _ _ 35 rfl w.heap.size i0 Try.underlying35 hi hz0 hz1 hz2 v2 l rfl HO2.out B d m r rfl HQ2.out hm.out (by have := hn.out; have := hm.out; omega) hz2' ?_)
  intro v3 w3 ho3 hg3
  have hb3 : Below w.heap.size w w3 := hb2.trans (grownBy_below hg3 hz2' BL2.out)
  have HO3 := Lib.hid ho3
  clear ho3
  go_wp2_with fail
  rw [rounds_succ]
  go_wp2
  go_ret
  exact ⟨v3, rfl, HO3.out, hb3⟩
end Go.Proofs.Ytehkdaknhgmdkaa
