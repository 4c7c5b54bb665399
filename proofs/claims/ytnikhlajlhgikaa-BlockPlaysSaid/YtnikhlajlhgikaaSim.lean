/- The program's store and the document's go alike: writes, arming, power, reads. And: bytes of a string as one operation. No condition beyond those that each lemma bears. -/
import Derived.Test.YtnikhlajlhgikaaRwr
namespace Go.Proofs.Ytnikhlajlhgikaa
open Go.RowKit
set_option linter.unusedSimpArgs false
set_option linter.unusedVariables false

/-- The two stores answer alike. -/
structure Sim (d : Dv) (r : Rv) : Prop where
  bytes : d.B = r.B
  off : d.off = r.down
  wr : d.wr = r.wr
  armed : d.armed = r.armed
  cnt : d.armed = true → 0 ≤ d.cnt ∧ d.cnt ≤ 9223372036854775807 ∧ d.cnt = r.left ∧ d.part = clamp r.part
theorem sim0 {B : List UInt8} : Sim ⟨B, false, 0, false, 0, 0⟩ ⟨B, false, 0, 0, false, 0⟩ := ⟨rfl, rfl, rfl, rfl, fun h => by cases h⟩
theorem Sim.arm {d : Dv} {r : Rv} (h : Sim d r) (n p : Int) (hn : n ≤ 9223372036854775807) : Sim (d.arm n p) { r with armed := decide (0 ≤ n), left := n, part := p } := by
  unfold Dv.arm
  by_cases h0 : 0 ≤ n
  · rw [if_pos h0]
    exact ⟨h.bytes, h.off, h.wr, by simp [h0], fun _ => ⟨h0, hn, rfl, rfl⟩⟩
  · rw [if_neg h0]
    exact ⟨h.bytes, h.off, h.wr, by simp [h0], fun e => by cases e⟩
theorem Sim.power {d : Dv} {r : Rv} (h : Sim d r) : Sim { d with off := false, armed := false, cnt := 0, part := 0 } { r with armed := false, down := false } := ⟨h.bytes, rfl, h.wr, rfl, fun e => by cases e⟩
theorem Sim.write {d : Dv} {r : Rv} (h : Sim d r) (i : Int) (b : List UInt8) : (d.write i b).1 = (r.write i b).1 ∧ Sim (d.write i b).2 (r.write i b).2 := by
  unfold Dv.write Rv.write
  by_cases h1 : d.off = true
  · have hr1 : r.down = true := by rw [← h.off]; exact h1
    rw [if_pos h1, if_pos hr1]
    exact ⟨rfl, h⟩
  · have hr1 : ¬ r.down = true := by rw [← h.off]; exact h1
    rw [if_neg h1, if_neg hr1]
    by_cases h2 : isB i = false ∨ b.length ≠ 64
    · rw [if_pos h2, if_pos h2]
      exact ⟨rfl, h⟩
    · rw [if_neg h2, if_neg h2]
      by_cases ha : d.armed = true
      · obtain ⟨c0, c1, c2, c3⟩ := h.cnt ha
        by_cases hc : 0 < d.cnt
        · have g1 : ¬ d.goesDown = true := by unfold Dv.goesDown; rw [ha]; simp; exact hc
          have g2 : ¬ (r.armed = true ∧ r.left = 0) := fun e => by rw [c2, e.2] at hc; omega
          rw [if_neg g1, if_neg g2]
          refine ⟨rfl, ?_⟩
          unfold Dv.counted
          rw [if_pos ⟨ha, hc⟩]
          refine ⟨?_, h.off, ?_, h.armed, fun _ => ?_⟩
          · show over d.B _ _ = over r.B _ _
            rw [h.bytes]
          · show wrap64 (d.wr + 1) = wrap64 (r.wr + 1)
            rw [h.wr]
          · show 0 ≤ wrap64 (d.cnt - 1) ∧ wrap64 (d.cnt - 1) ≤ 9223372036854775807 ∧ wrap64 (d.cnt - 1) = wrap64 (r.left - 1) ∧ d.part = clamp r.part
            rw [← c2]
            refine ⟨?_, ?_, rfl, c3⟩
            · unfold wrap64; omega
            · unfold wrap64; omega
        · have e0 : d.cnt = 0 := by omega
          have g1 : d.goesDown = true := by unfold Dv.goesDown; rw [ha]; simp; omega
          have g2 : r.armed = true ∧ r.left = 0 := ⟨by rw [← h.armed]; exact ha, by rw [← c2]; exact e0⟩
          rw [if_pos g1, if_pos g2]
          refine ⟨rfl, ?_, rfl, ?_, rfl, fun e => by cases e⟩
          · show over d.B _ _ = over r.B _ _
            rw [h.bytes, c3]
          · show wrap64 (d.wr + 1) = wrap64 (r.wr + 1)
            rw [h.wr]
      · have ha2 : d.armed = false := by simpa using ha
        have g1 : ¬ d.goesDown = true := by unfold Dv.goesDown; rw [ha2]; simp
        have g2 : ¬ (r.armed = true ∧ r.left = 0) := fun e => ha (by rw [h.armed]; exact e.1)
        rw [if_neg g1, if_neg g2]
        refine ⟨rfl, ?_⟩
        unfold Dv.counted
        rw [if_neg (fun e => ha e.1)]
        refine ⟨?_, h.off, ?_, h.armed, fun e => absurd e ha⟩
        · show over d.B _ _ = over r.B _ _
          rw [h.bytes]
        · show wrap64 (d.wr + 1) = wrap64 (r.wr + 1)
          rw [h.wr]
theorem both_write {d : Dv} {r : Rv} (h : Sim d r) (i : Int) (b : List UInt8) : ∃ e d' r', d.write i b = (e, d') ∧ r.write i b = (e, r') ∧ Sim d' r' := by
  obtain ⟨h1, h2⟩ := h.write i b
  generalize d.write i b = x at h1 h2
  generalize r.write i b = y at h1 h2
  obtain ⟨e, d'⟩ := x
  obtain ⟨f, r'⟩ := y
  obtain rfl : e = f := h1
  exact ⟨e, d', r', rfl, rfl, h2⟩
/-- What the program's Read answers. -/
def Dv.read (d : Dv) (i : Int) : List UInt8 × Int := if d.off = true then ([], 13) else if isB i = false then ([], 1) else (blockAt d.B i.toNat, 0)
theorem Sim.read {d : Dv} {r : Rv} (h : Sim d r) (i : Int) : d.read i = r.read i := by
  unfold Dv.read Rv.read
  rw [h.off, h.bytes]
theorem read_any (g : Nat) (d : Dv) (i : Int) (w : World) (h : St w g d) : Calls Try.prog 14 #[.pointer (some ⟨g, 0, none⟩), .int .i64 i] w fun e w' =>
    ∃ A c, e = .returned (.tuple #[.slice A (d.read i).1.length c, .int .i64 (d.read i).2]) ∧ Rd w' A (d.read i).1 ∧ Below w.heap.size w w' := by
  by_cases h1 : d.off = true
  · have e : d.read i = ([], 13) := by unfold Dv.read; rw [if_pos h1]
    rw [e]
    refine (read_off g d i w h h1).mono ?_
    rintro e w' ⟨rfl, rfl⟩
    exact ⟨none, 0, rfl, Rd.nil _ _, Below.refl _ _⟩
  · have h1' : d.off = false := by simpa using h1
    by_cases h2 : isB i = false
    · have e : d.read i = ([], 1) := by unfold Dv.read; rw [if_neg h1, if_pos h2]
      rw [e]
      refine (read_not g d i w h h1' h2).mono ?_
      rintro e w' ⟨rfl, rfl⟩
      exact ⟨none, 0, rfl, Rd.nil _ _, Below.refl _ _⟩
    · obtain ⟨k, rfl, hk⟩ := isB_nat (by simpa using h2 : isB i = true)
      have e : d.read (k : Int) = (blockAt d.B k, 0) := by unfold Dv.read; rw [if_neg h1, if_neg h2]; rfl
      rw [e]
      refine (read_is g d k w h h1' hk).mono ?_
      rintro e w' ⟨rfl, hB, hb⟩
      exact ⟨_, 64, by rw [show (blockAt d.B k, (0 : Int)).1.length = 64 from blockAt_length h.len hk], hB.rd, hb⟩
theorem rnew_at (w : World) : Calls Try.prog 11 #[] w fun e w' => ∃ g gb, e = .returned (.pointer (some ⟨g, 0, none⟩)) ∧ (∃ B0 : List UInt8, B0 = zeroB ∧ Rs w' g gb ⟨B0, false, 0, 0, false, 0⟩) ∧ w.heap.size ≤ g ∧ w.heap.size ≤ gb ∧ Below w.heap.size w w' := by
  refine (rnew_any w).mono ?_
  rintro e w' ⟨g, gb, h1, h2, h3⟩
  exact ⟨g, gb, h1, ⟨_, rfl, h2⟩, h3⟩
theorem zero_at : ∃ Z : Array Value, (∀ W : World, (zeroValue 32).run Try.prog W = .ok (.agg Z) W) ∧ ∀ w : World, ∃ B0 : List UInt8, B0 = zeroB ∧ St (w.alloc (.cells Z 32)) w.heap.size ⟨B0, false, 0, false, 0, 0⟩ :=
  ⟨_, zero_dv, fun w => ⟨_, rfl, st_new w⟩⟩
theorem bytes_op {P : Program} {o : Oper} {a : Act} {w : World} {K : Act → World → Prop} {Q : Exit → Act → World → Prop} (x : Operand) (src dst : TypeId) (hop : o.op = Op.convert src dst x) (e : TypeId) (s : ByteArray)
    (hs : P.underlying src = some .string) (hd : P.underlying dst = some (.slice e)) (he : P.underlying e = some (.int .u8)) (hm : s.size ≤ maxLen) (hx : a.eval x = .string s)
    (hK : ∀ c w', Rd w' (some ⟨w.heap.size, 0, none⟩) s.data.toList → Below w.heap.size w w' → w.heap.size < w'.heap.size → s.size ≤ c → c ≤ maxLen → K (a.put o.dst (.slice (some ⟨w.heap.size, 0, none⟩) s.size c)) w') : o.wp P a w K Q := by
  obtain ⟨c, w', hrun, r1, r2, r3, r4, r5⟩ := run_bytes_rd (P := P) w hs hd he hm
  unfold Oper.wp
  simp [execOp, hop, hx, hrun, Result.andThen]
  exact hK c w' r1 r2 r3 r4 r5
end Go.Proofs.Ytnikhlajlhgikaa
