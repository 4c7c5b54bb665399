/- Arguments that are operations, answers and acts, opened: what they hold, and that their texts are not longer than Go can have. No condition beyond the form's own. -/
import Derived.Test.YtjgojgmgicpgaaaGreatTOpa
import Derived.Test.YtjgojgmgicpgaaaGreatTOac
namespace Go.Proofs.YtjgojgmgicpgaaaGreat
open Go.ChangeShapes Go.WideShapes Go.RowKit Go.Deep
set_option linter.unusedSimpArgs false
set_option linter.unusedVariables false

theorem cellsOp : Tryz.prog.cellsOf 59 = 21 := by kernel_rfl
theorem cellsAct : Tryz.prog.cellsOf 233 = 3 := by kernel_rfl
theorem cellsActs : Tryz.prog.cellsOf 45 = 1 := by kernel_rfl
theorem cellsErr : Tryz.prog.cellsOf 30 = 1 := by kernel_rfl
theorem cellsAns : Tryz.prog.cellsOf 47 = 2 := by kernel_rfl
theorem list21 {α : Type} (l : List α) (h : l.length = 21) : ∃ a0 a1 a2 a3 a4 a5 a6 a7 a8 a9 b0 b1 b2 b3 b4 b5 b6 b7 b8 b9 z, l = [a0, a1, a2, a3, a4, a5, a6, a7, a8, a9, b0, b1, b2, b3, b4, b5, b6, b7, b8, b9, z] := by
  match l, h with
  | [a0, a1, a2, a3, a4, a5, a6, a7, a8, a9, b0, b1, b2, b3, b4, b5, b6, b7, b8, b9, z], _ => exact ⟨a0, a1, a2, a3, a4, a5, a6, a7, a8, a9, b0, b1, b2, b3, b4, b5, b6, b7, b8, b9, z, rfl⟩

section
variable {H : Type} {enc : TypeId × Value → H} {W : World} {base : Nat} {sp : Nat → Bool} {held : Bool}
set_option maxRecDepth 100000 in
theorem open_node_f {fuel : Nat} {c0 c1 c2 c3 c4 : Value} {y : DataW H × List MemPlace} (h : DataW.trod enc Tryz.prog W base sp held fuel 53 [c0, c1, c2, c3, c4] = some y) :
    ∃ nm a b c A n cp l da dl, c0 = .string nm ∧ c1 = .int .i64 a ∧ c2 = .int .i64 b ∧ c3 = .int .i64 c ∧ c4 = .slice A n cp ∧ y.1 = .agg [.lit (.string nm.data.toList), da, dl] ∧ LabsIn W dl A n cp l := by
  obtain ⟨ys, n, _, hx, _, hyl, hg⟩ := DataW.trod_struct Tryz.underlying53 h
  obtain ⟨y0, y1, y2, rfl⟩ := list3' ys (by simpa using hyl)
  have h0 : DataW.trod enc Tryz.prog W base sp held n 9 (List.take (Tryz.prog.cellsOf 9) [c0, c1, c2, c3, c4]) = some y0 := hg 0 _ rfl
  have h1 : DataW.trod enc Tryz.prog W base sp held n 50 (List.take (Tryz.prog.cellsOf 50) [c1, c2, c3, c4]) = some y1 := hg 1 _ rfl
  have h2 : DataW.trod enc Tryz.prog W base sp held n 51 (List.take (Tryz.prog.cellsOf 51) [c4]) = some y2 := hg 2 _ rfl
  rw [cells9] at h0
  rw [cellsRes] at h1
  rw [cellsLabs] at h2
  obtain ⟨s, rfl, e0⟩ := open_field_string h0
  obtain ⟨a, b, c, rfl, rfl, rfl⟩ := open_field_res h1
  obtain ⟨A, m, cp, l, rfl, hl⟩ := open_field_labs h2
  exact ⟨s, a, b, c, A, m, cp, l, y1.1, y2.1, rfl, rfl, rfl, rfl, rfl, by have := congrArg Prod.fst hx; simpa [e0] using this, hl⟩
set_option maxRecDepth 100000 in
theorem open_queue_f {fuel : Nat} {c0 c1 c2 c3 : Value} {y : DataW H × List MemPlace} (h : DataW.trod enc Tryz.prog W base sp held fuel 55 [c0, c1, c2, c3] = some y) :
    ∃ nm a b c da, c0 = .string nm ∧ c1 = .int .i64 a ∧ c2 = .int .i64 b ∧ c3 = .int .i64 c ∧ y.1 = .agg [.lit (.string nm.data.toList), da] := by
  obtain ⟨ys, n, _, hx, _, hyl, hg⟩ := DataW.trod_struct Tryz.underlying55 h
  obtain ⟨y0, y1, rfl⟩ := list2 ys (by simpa using hyl)
  have h0 : DataW.trod enc Tryz.prog W base sp held n 9 (List.take (Tryz.prog.cellsOf 9) [c0, c1, c2, c3]) = some y0 := hg 0 _ rfl
  have h1 : DataW.trod enc Tryz.prog W base sp held n 50 (List.take (Tryz.prog.cellsOf 50) [c1, c2, c3]) = some y1 := hg 1 _ rfl
  rw [cells9] at h0
  rw [cellsRes] at h1
  obtain ⟨s, rfl, e0⟩ := open_field_string h0
  obtain ⟨a, b, c, rfl, rfl, rfl⟩ := open_field_res h1
  exact ⟨s, a, b, c, y1.1, rfl, rfl, rfl, rfl, by have := congrArg Prod.fst hx; simpa [e0] using this⟩
set_option maxRecDepth 100000 in
theorem open_task_f {fuel : Nat} {c0 c1 c2 c3 c4 c5 c6 c7 c8 c9 : Value} {y : DataW H × List MemPlace} (h : DataW.trod enc Tryz.prog W base sp held fuel 57 [c0, c1, c2, c3, c4, c5, c6, c7, c8, c9] = some y) :
    ∃ nm qu pr a b c A n cp l ap ga sz d2 d3 d4 d7, c0 = .string nm ∧ c1 = .string qu ∧ c2 = .int .i64 pr ∧ c3 = .int .i64 a ∧ c4 = .int .i64 b ∧ c5 = .int .i64 c ∧ c6 = .slice A n cp ∧ c7 = .string ap ∧ c8 = .string ga ∧ c9 = .int .i64 sz ∧
      y.1 = .agg [.lit (.string nm.data.toList), .lit (.string qu.data.toList), d2, d3, d4, .lit (.string ap.data.toList), .lit (.string ga.data.toList), d7] ∧ LabsIn W d4 A n cp l := by
  obtain ⟨ys, n, _, hx, _, hyl, hg⟩ := DataW.trod_struct Tryz.underlying57 h
  obtain ⟨y0, y1, y2, y3, y4, y5, y6, y7, rfl⟩ := list8 ys (by simpa using hyl)
  have h0 : DataW.trod enc Tryz.prog W base sp held n 9 (List.take (Tryz.prog.cellsOf 9) [c0, c1, c2, c3, c4, c5, c6, c7, c8, c9]) = some y0 := hg 0 _ rfl
  have h1 : DataW.trod enc Tryz.prog W base sp held n 9 (List.take (Tryz.prog.cellsOf 9) [c1, c2, c3, c4, c5, c6, c7, c8, c9]) = some y1 := hg 1 _ rfl
  have h2 : DataW.trod enc Tryz.prog W base sp held n 3 (List.take (Tryz.prog.cellsOf 3) [c2, c3, c4, c5, c6, c7, c8, c9]) = some y2 := hg 2 _ rfl
  have h3 : DataW.trod enc Tryz.prog W base sp held n 50 (List.take (Tryz.prog.cellsOf 50) [c3, c4, c5, c6, c7, c8, c9]) = some y3 := hg 3 _ rfl
  have h4 : DataW.trod enc Tryz.prog W base sp held n 51 (List.take (Tryz.prog.cellsOf 51) [c6, c7, c8, c9]) = some y4 := hg 4 _ rfl
  have h5 : DataW.trod enc Tryz.prog W base sp held n 9 (List.take (Tryz.prog.cellsOf 9) [c7, c8, c9]) = some y5 := hg 5 _ rfl
  have h6 : DataW.trod enc Tryz.prog W base sp held n 9 (List.take (Tryz.prog.cellsOf 9) [c8, c9]) = some y6 := hg 6 _ rfl
  have h7 : DataW.trod enc Tryz.prog W base sp held n 3 (List.take (Tryz.prog.cellsOf 3) [c9]) = some y7 := hg 7 _ rfl
  rw [cells9] at h0 h1 h5 h6
  rw [cellsInt] at h2 h7
  rw [cellsRes] at h3
  rw [cellsLabs] at h4
  obtain ⟨nm, rfl, e0⟩ := open_field_string h0
  obtain ⟨qu, rfl, e1⟩ := open_field_string h1
  obtain ⟨pr, rfl⟩ := open_field_int h2
  obtain ⟨a, b, c, rfl, rfl, rfl⟩ := open_field_res h3
  obtain ⟨A, m, cp, l, rfl, hl⟩ := open_field_labs h4
  obtain ⟨ap, rfl, e5⟩ := open_field_string h5
  obtain ⟨ga, rfl, e6⟩ := open_field_string h6
  obtain ⟨sz, rfl⟩ := open_field_int h7
  exact ⟨nm, qu, pr, a, b, c, A, m, cp, l, ap, ga, sz, y2.1, y3.1, y4.1, y7.1, rfl, rfl, rfl, rfl, rfl, rfl, rfl, rfl, rfl, rfl, by have := congrArg Prod.fst hx; simpa [e0, e1, e5, e6] using this, hl⟩

set_option maxRecDepth 100000 in
theorem open_op {r : Reach} {b0 : Nat} {v : Value} {d : DataW H} {p : List MemPlace} (hval : Value.okWide Tryz.prog W r b0 59 v) (h : DataW.Trod enc Tryz.prog W base sp held 59 v d p) :
    ∃ k nn a1 b1 c1 A1 m1 p1 l1 qn a2 b2 c2 tn tq tp a3 b3 c3 A3 m3 p3 l3 ta tg ts s d0 da dl qa e2 e3 e4 e7,
      v = .agg #[.int .i64 k, .string nn, .int .i64 a1, .int .i64 b1, .int .i64 c1, .slice A1 m1 p1, .string qn, .int .i64 a2, .int .i64 b2, .int .i64 c2, .string tn, .string tq, .int .i64 tp, .int .i64 a3, .int .i64 b3, .int .i64 c3, .slice A3 m3 p3, .string ta, .string tg, .int .i64 ts, .string s] ∧
      d = .agg [d0, .agg [.lit (.string nn.data.toList), da, dl], .agg [.lit (.string qn.data.toList), qa], .agg [.lit (.string tn.data.toList), .lit (.string tq.data.toList), e2, e3, e4, .lit (.string ta.data.toList), .lit (.string tg.data.toList), e7], .lit (.string s.data.toList)] ∧
      LabsIn W dl A1 m1 p1 l1 ∧ LabsIn W e4 A3 m3 p3 l3 := by
  obtain ⟨cs, rfl, hsz⟩ := okWide_struct Tryz.underlying59 hval
  obtain ⟨cs⟩ := cs
  rw [cellsOp] at hsz
  obtain ⟨x0, x1, x2, x3, x4, x5, x6, x7, x8, x9, u0, u1, u2, u3, u4, u5, u6, u7, u8, u9, z, rfl⟩ := list21 cs hsz
  obtain ⟨fuel, hf⟩ := h
  obtain ⟨ys, n, _, hx, _, hyl, hg⟩ := DataW.trod_struct Tryz.underlying59 hf
  obtain ⟨y0, y1, y2, y3, y4, rfl⟩ := list5 ys (by simpa using hyl)
  have h0 : DataW.trod enc Tryz.prog W base sp held n 3 (List.take (Tryz.prog.cellsOf 3) [x0, x1, x2, x3, x4, x5, x6, x7, x8, x9, u0, u1, u2, u3, u4, u5, u6, u7, u8, u9, z]) = some y0 := hg 0 _ rfl
  have h1 : DataW.trod enc Tryz.prog W base sp held n 53 (List.take (Tryz.prog.cellsOf 53) [x1, x2, x3, x4, x5, x6, x7, x8, x9, u0, u1, u2, u3, u4, u5, u6, u7, u8, u9, z]) = some y1 := hg 1 _ rfl
  have h2 : DataW.trod enc Tryz.prog W base sp held n 55 (List.take (Tryz.prog.cellsOf 55) [x6, x7, x8, x9, u0, u1, u2, u3, u4, u5, u6, u7, u8, u9, z]) = some y2 := hg 2 _ rfl
  have h3 : DataW.trod enc Tryz.prog W base sp held n 57 (List.take (Tryz.prog.cellsOf 57) [u0, u1, u2, u3, u4, u5, u6, u7, u8, u9, z]) = some y3 := hg 3 _ rfl
  have h4 : DataW.trod enc Tryz.prog W base sp held n 9 (List.take (Tryz.prog.cellsOf 9) [z]) = some y4 := hg 4 _ rfl
  rw [cellsInt] at h0
  rw [cellsNode] at h1
  rw [cellsQueue] at h2
  rw [cellsTask] at h3
  rw [cells9] at h4
  obtain ⟨k, rfl⟩ := open_field_int h0
  obtain ⟨nn, a1, b1, c1, A1, m1, p1, l1, da, dl, rfl, rfl, rfl, rfl, rfl, e1, hl1⟩ := open_node_f h1
  obtain ⟨qn, a2, b2, c2, qa, rfl, rfl, rfl, rfl, e2⟩ := open_queue_f h2
  obtain ⟨tn, tq, tp, a3, b3, c3, A3, m3, p3, l3, ta, tg, ts, d2, d3, d4, d7, rfl, rfl, rfl, rfl, rfl, rfl, rfl, rfl, rfl, rfl, e3, hl3⟩ := open_task_f h3
  obtain ⟨s, rfl, e4⟩ := open_field_string h4
  exact ⟨k, nn, a1, b1, c1, A1, m1, p1, l1, qn, a2, b2, c2, tn, tq, tp, a3, b3, c3, A3, m3, p3, l3, ta, tg, ts, s, y0.1, da, dl, qa, d2, d3, d4, d7, rfl, by have := congrArg Prod.fst hx; simpa [e1, e2, e3, e4] using this, hl1, hl3⟩

theorem sized_op {ts : List TypeId} {ds : List (DataW H)} (h : (DataW.weightsEach Tryz.prog ts ds).all (· ≤ reachBytes) = true) {j : Nat} {nn qn tn tq ta tg s : ByteArray} {d0 da dl qa e2 e3 e4 e7 : DataW H} (ht : ts[j]? = some 59)
    (hd : ds[j]? = some (.agg [d0, .agg [.lit (.string nn.data.toList), da, dl], .agg [.lit (.string qn.data.toList), qa], .agg [.lit (.string tn.data.toList), .lit (.string tq.data.toList), e2, e3, e4, .lit (.string ta.data.toList), .lit (.string tg.data.toList), e7], .lit (.string s.data.toList)]))
    {A1 A3 : Option Addr} {m1 p1 m3 p3 : Nat} {l1 l3 : List Lb} (hl1 : LabsIn W dl A1 m1 p1 l1) (hl3 : LabsIn W e4 A3 m3 p3 l3) :
    Sz l1 ∧ Sz l3 ∧ nn.size ≤ 140737488351232 ∧ qn.size ≤ 140737488351232 ∧ tn.size ≤ 140737488351232 ∧ tq.size ≤ 140737488351232 ∧ ta.size ≤ 140737488351232 ∧ tg.size ≤ 140737488351232 ∧ s.size ≤ 140737488351232 := by
  have hi := sized_inner h Tryz.underlying59 ht hd
  obtain ⟨n1, n2⟩ := sized_node hi (j := 1) rfl rfl hl1
  have q1 := sized_queue hi (j := 2) rfl rfl
  obtain ⟨t1, t2, t3, t4, t5⟩ := sized_task hi (j := 3) rfl rfl hl3
  exact ⟨n2, t5, n1, q1, t1, t2, t3, t4, sized_str hi (j := 4) rfl rfl⟩

/-! ### Acts and answers -/
theorem trod_act {fuel : Nat} {cs : List Value} {x : DataW H × List MemPlace} (h : DataW.trod enc Tryz.prog W base sp held fuel 233 cs = some x) :
    ∃ k : Ac, ∃ d0, cs = [.int .i64 k.1, .string k.2.1, .string k.2.2] ∧ x.1 = .agg [d0, .lit (.string k.2.1.data.toList), .lit (.string k.2.2.data.toList)] := by
  obtain ⟨ys, n, _, hx, hlen, hyl, hf⟩ := DataW.trod_struct Tryz.underlying233 h
  rw [cellsAct] at hlen
  obtain ⟨c0, c1, c2, rfl⟩ := list3' cs hlen
  obtain ⟨y0, y1, y2, rfl⟩ := list3' ys (by simpa using hyl)
  have h0 : DataW.trod enc Tryz.prog W base sp held n 3 (List.take (Tryz.prog.cellsOf 3) [c0, c1, c2]) = some y0 := hf 0 _ rfl
  have h1 : DataW.trod enc Tryz.prog W base sp held n 9 (List.take (Tryz.prog.cellsOf 9) [c1, c2]) = some y1 := hf 1 _ rfl
  have h2 : DataW.trod enc Tryz.prog W base sp held n 9 (List.take (Tryz.prog.cellsOf 9) [c2]) = some y2 := hf 2 _ rfl
  rw [cellsInt] at h0
  rw [cells9] at h1 h2
  obtain ⟨k, rfl⟩ := open_field_int h0
  obtain ⟨t, rfl, e1⟩ := open_field_string h1
  obtain ⟨u, rfl, e2⟩ := open_field_string h2
  exact ⟨(k, t, u), y0.1, rfl, by have := congrArg Prod.fst hx; simpa [e1, e2] using this⟩
theorem RdA.none (w : World) (A : Option Addr) : RdA w A [] := by intro i b h; simp at h
theorem open_acts {a : Option Addr} {len cap : Nat} {d : DataW H} {p : List MemPlace}
    (h : DataW.Trod enc Tryz.prog W base sp held 45 (.slice a len cap) d p) :
    ∃ l : List Ac, len = l.length ∧ RdA W a l ∧ len ≤ cap ∧ cap ≤ 9223372036854775807 := by
  obtain ⟨fuel, hf⟩ := h
  rcases open_slice Tryz.underlying45 hf with ⟨hcs, _⟩ | ⟨x, n', c, m, n, D, Pl, hcs, _, hl, hm, hmm, hx, hi⟩
  · simp [Value.cells] at hcs
    obtain ⟨rfl, rfl, rfl⟩ := hcs
    exact ⟨[], rfl, RdA.none _ _, Nat.le_refl _, by omega⟩
  · simp [Value.cells] at hcs
    obtain ⟨rfl, rfl, rfl⟩ := hcs
    rw [cellsAct] at hi
    have hlm : len ≤ m := by rw [hmm]; split <;> omega
    have hm' : cap ≤ 9223372036854775807 := by unfold maxLen at hm; omega
    have hspot : 0 < len → x.spot = Option.none := fun h => by
      obtain ⟨cs', hc, ht⟩ := hi 0 (by omega)
      obtain ⟨_, hcl, hat⟩ := World.cells?_some hc
      have h0 := hat 0 (by omega)
      rw [List.getElem?_eq_getElem (by omega)] at h0
      simpa [Addr.add] using World.cell?_spot h0
    have key : ∀ i, i < len → ∃ k : Ac, ∃ g o, x = ⟨g, o, Option.none⟩ ∧ W.cell? ⟨g, o + i * 3, Option.none⟩ = some (.int .i64 k.1) ∧ W.cell? ⟨g, o + i * 3 + 1, Option.none⟩ = some (.string k.2.1) ∧ W.cell? ⟨g, o + i * 3 + 2, Option.none⟩ = some (.string k.2.2) := fun i hlt => by
      obtain ⟨cs', hc, ht⟩ := hi i (by omega)
      obtain ⟨_, hcl, hat⟩ := World.cells?_some hc
      obtain ⟨k, _, rfl, _⟩ := trod_act ht
      have h0 := hat 0 (by omega)
      have h1 := hat 1 (by omega)
      have h2 := hat 2 (by omega)
      simp at h0 h1 h2
      obtain ⟨g, o, spot⟩ := x
      have hs : spot = Option.none := hspot (by omega)
      subst hs
      rw [Addr.add_lit] at h0 h1 h2
      rw [Addr.add_lit] at h1 h2
      exact ⟨k, g, o, rfl, by simpa [Addr.add] using h0, h1, h2⟩
    have pick : ∀ n, n ≤ len → ∃ l : List Ac, l.length = n ∧ RdA W (some x) l := by
      intro n
      induction n with
      | zero => exact fun _ => ⟨[], rfl, RdA.none _ _⟩
      | succ n ih =>
        intro hn
        obtain ⟨l, hll, hr⟩ := ih (by omega)
        obtain ⟨k, g, o, hxx, h0, h1, h2⟩ := key n (by omega)
        refine ⟨l ++ [k], by simp [hll], fun i y hy => ?_⟩
        by_cases hi' : i < l.length
        · rw [List.getElem?_append_left hi'] at hy; exact hr i y hy
        · rw [List.getElem?_append_right (by omega)] at hy
          have e : i = n := by
            have := (List.getElem?_eq_some_iff.1 hy).1
            simp at this; omega
          subst e
          rw [show i - l.length = 0 by omega] at hy
          simp at hy; subst hy
          exact ⟨g, o, by rw [hxx], h0, h1, h2⟩
    obtain ⟨l, hll, hr⟩ := pick len (Nat.le_refl _)
    exact ⟨l, hll.symm, hr, hl, hm'⟩
theorem open_field_err {fuel : Nat} {c : Value} {y : DataW H × List MemPlace} (h : DataW.trod enc Tryz.prog W base sp held fuel 30 [c] = some y) : ∃ a : Int, c = .int .i64 a := by
  obtain ⟨x, e, _, _⟩ := DataW.trod_int Tryz.underlying30 h
  simp at e
  exact ⟨x, e⟩
set_option maxRecDepth 100000 in
theorem open_answer {r : Reach} {b0 : Nat} {v : Value} {d : DataW H} {p : List MemPlace} (hval : Value.okWide Tryz.prog W r b0 47 v) (h : DataW.Trod enc Tryz.prog W base sp held 47 v d p) :
    ∃ e A n c l, v = .agg #[.int .i64 e, .slice A n c] ∧ n = l.length ∧ RdA W A l ∧ n ≤ c ∧ c ≤ 9223372036854775807 := by
  obtain ⟨cs, rfl, hsz⟩ := okWide_struct Tryz.underlying47 hval
  obtain ⟨cs⟩ := cs
  rw [cellsAns] at hsz
  obtain ⟨c0, c1, rfl⟩ := list2 cs hsz
  obtain ⟨fuel, hf⟩ := h
  obtain ⟨ys, n, _, hx, _, hyl, hg⟩ := DataW.trod_struct Tryz.underlying47 hf
  obtain ⟨y0, y1, rfl⟩ := list2 ys (by simpa using hyl)
  have h0 : DataW.trod enc Tryz.prog W base sp held n 30 (List.take (Tryz.prog.cellsOf 30) [c0, c1]) = some y0 := hg 0 _ rfl
  have h1 : DataW.trod enc Tryz.prog W base sp held n 45 (List.take (Tryz.prog.cellsOf 45) [c1]) = some y1 := hg 1 _ rfl
  rw [cellsErr] at h0
  rw [cellsActs] at h1
  obtain ⟨e, rfl⟩ := open_field_err h0
  have key : ∀ A n' c', c1 = .slice A n' c' → ∃ A n c l, c1 = .slice A n c ∧ n = l.length ∧ RdA W A l ∧ n ≤ c ∧ c ≤ 9223372036854775807 := fun A n' c' hc => by
    subst hc
    obtain ⟨l, k1, k2, k3, k4⟩ := open_acts (enc := enc) (base := base) (sp := sp) (held := held) (p := y1.2) (d := y1.1) ⟨n, by simpa [Value.cells] using h1⟩
    exact ⟨A, n', c', l, rfl, k1, k2, k3, k4⟩
  have hA : ∃ A n c l, c1 = .slice A n c ∧ n = l.length ∧ RdA W A l ∧ n ≤ c ∧ c ≤ 9223372036854775807 := by
    rcases open_slice Tryz.underlying45 h1 with ⟨hcs, _⟩ | ⟨a, len, cap, _, _, _, _, hcs, _⟩
    · simp at hcs; exact key _ _ _ hcs
    · simp at hcs; exact key _ _ _ hcs
  obtain ⟨A, n', c, l, rfl, k1, k2, k3, k4⟩ := hA
  exact ⟨e, A, n', c, l, rfl, k1, k2, k3, k4⟩
set_option maxRecDepth 100000 in
theorem open_act {r : Reach} {b0 : Nat} {v : Value} {d : DataW H} {p : List MemPlace} (hval : Value.okWide Tryz.prog W r b0 233 v) (h : DataW.Trod enc Tryz.prog W base sp held 233 v d p) :
    ∃ k t u d0, v = .agg #[.int .i64 k, .string t, .string u] ∧ d = .agg [d0, .lit (.string t.data.toList), .lit (.string u.data.toList)] := by
  obtain ⟨cs, rfl, hsz⟩ := okWide_struct Tryz.underlying233 hval
  obtain ⟨cs⟩ := cs
  obtain ⟨fuel, hf⟩ := h
  obtain ⟨k, d0, e, hd⟩ := trod_act hf
  simp [Value.cells] at e
  subst e
  exact ⟨k.1, k.2.1, k.2.2, d0, rfl, hd⟩
theorem sized_act {ts : List TypeId} {ds : List (DataW H)} (h : (DataW.weightsEach Tryz.prog ts ds).all (· ≤ reachBytes) = true) {j : Nat} {t u : ByteArray} {d0 : DataW H} (ht : ts[j]? = some 233) (hd : ds[j]? = some (.agg [d0, .lit (.string t.data.toList), .lit (.string u.data.toList)])) :
    t.size ≤ 140737488351232 ∧ u.size ≤ 140737488351232 := by
  have hi := sized_inner h Tryz.underlying233 ht hd
  exact ⟨sized_str hi (j := 1) rfl rfl, sized_str hi (j := 2) rfl rfl⟩
end
end Go.Proofs.YtjgojgmgicpgaaaGreat
