/- Jobs: what the cells of a job hold, a slice that reads as a list of jobs, and an argument that is such a slice, opened: what it holds, and that its texts are not longer than Go can have. No condition beyond the form's own. -/
import Derived.Test.YtjgojgmgicpgaaaGreatHRk
import Derived.Test.YtjgojgmgicpgaaaGreatHOpa
namespace Go.Proofs.YtjgojgmgicpgaaaGreat
open Go.ChangeShapes Go.WideShapes Go.RowKit Go.Deep
set_option linter.unusedSimpArgs false
set_option linter.unusedVariables false

/-- A job, as its cells hold it: its task (of the labels that it wants, where they lie), its number, its machine, and when it was bound. -/
structure Jb where
  nm : ByteArray
  qu : ByteArray
  pr : Int
  a : Int
  b : Int
  c : Int
  A : Option Addr
  n : Nat
  cp : Nat
  ap : ByteArray
  ga : ByteArray
  sz : Int
  sq : Int
  nd : ByteArray
  bo : Int
/-- The cells of its task. -/
abbrev Jb.task (j : Jb) : Array Value := #[.string j.nm, .string j.qu, .int .i64 j.pr, .int .i64 j.a, .int .i64 j.b, .int .i64 j.c, .slice j.A j.n j.cp, .string j.ap, .string j.ga, .int .i64 j.sz]
/-- The cells of a job. -/
abbrev Jb.arr (j : Jb) : Array Value := #[.string j.nm, .string j.qu, .int .i64 j.pr, .int .i64 j.a, .int .i64 j.b, .int .i64 j.c, .slice j.A j.n j.cp, .string j.ap, .string j.ga, .int .i64 j.sz, .int .i64 j.sq, .string j.nd, .int .i64 j.bo]
/-- The same as a list. -/
def Jb.cells (j : Jb) : List Value := j.arr.toList
theorem Jb.cells_length (j : Jb) : j.cells.length = 13 := rfl
theorem Jb.cells_one (j : Jb) : ∀ u ∈ j.cells, u.oneCell' = true := by
  intro u hu
  simp only [Jb.cells, Jb.arr, List.mem_cons, List.not_mem_nil, or_false] at hu
  rcases hu with rfl | rfl | rfl | rfl | rfl | rfl | rfl | rfl | rfl | rfl | rfl | rfl | rfl <;> rfl
/-- The lists of the cells of jobs. -/
def cellsJ (l : List Jb) : List (List Value) := l.map Jb.cells
theorem cellsJ_length (l : List Jb) : (cellsJ l).length = l.length := by simp [cellsJ]
theorem cellsJ_append (l m : List Jb) : cellsJ (l ++ m) = cellsJ l ++ cellsJ m := by simp [cellsJ]
theorem cellsJ_k (l : List Jb) : ∀ x ∈ cellsJ l, x.length = 13 := by
  intro x hx
  simp only [cellsJ, List.mem_map] at hx
  obtain ⟨j, _, rfl⟩ := hx
  rfl
theorem cellsJ_one (l : List Jb) : ∀ y ∈ cellsJ l, ∀ u ∈ y, u.oneCell' = true := by
  intro x hx
  simp only [cellsJ, List.mem_map] at hx
  obtain ⟨j, _, rfl⟩ := hx
  exact j.cells_one
/-- A slice at this address reads as these jobs. -/
def RdJ (w : World) (A : Option Addr) (l : List Jb) : Prop := RdK w 13 A (cellsJ l)
/-- The cells of a job lie here. -/
structure JAt (w : World) (g o : Nat) (j : Jb) : Prop where
  rg : w.rangeAt g o j.arr.toList
section
variable {w w' : World} {g o : Nat} {j : Jb}
theorem JAt.lt (h : JAt w g o j) : g < w.heap.size := range_lt h.rg (by show 0 < 13; omega)
theorem JAt.later (h : JAt w g o j) (hb : Below w.heap.size w w') : JAt w' g o j := ⟨range_keep h.rg hb⟩
theorem JAt.nm (h : JAt w g o j) : w.cell? ⟨g, o, none⟩ = some (.string j.nm) := h.rg 0 _ rfl
theorem JAt.qu (h : JAt w g o j) : w.cell? ⟨g, o + 1, none⟩ = some (.string j.qu) := h.rg 1 _ rfl
theorem JAt.pr (h : JAt w g o j) : w.cell? ⟨g, o + 2, none⟩ = some (.int .i64 j.pr) := h.rg 2 _ rfl
theorem JAt.a (h : JAt w g o j) : w.cell? ⟨g, o + 3, none⟩ = some (.int .i64 j.a) := h.rg 3 _ rfl
theorem JAt.b (h : JAt w g o j) : w.cell? ⟨g, o + 3 + 1, none⟩ = some (.int .i64 j.b) := h.rg 4 _ rfl
theorem JAt.c (h : JAt w g o j) : w.cell? ⟨g, o + 3 + 2, none⟩ = some (.int .i64 j.c) := h.rg 5 _ rfl
theorem JAt.nd (h : JAt w g o j) : w.cell? ⟨g, o + 11, none⟩ = some (.string j.nd) := h.rg 11 _ rfl
theorem JAt.of_bk {t : TypeId} (h : Bk w g t j.arr) : JAt w g 0 j := ⟨h.range (Part.whole _)⟩
end
section
variable {w w' : World} {A : Option Addr} {l : List Jb}
theorem RdJ.nil (w : World) (A : Option Addr) : RdJ w A [] := RdK.nil _ _ _
theorem RdJ.later (h : RdJ w A l) (hb : Below w.heap.size w w') : RdJ w' A l := RdK.later h hb
theorem RdJ.at (h : RdJ w A l) {i : Nat} (hi : i < l.length) : ∃ g o, A = some ⟨g, o, none⟩ ∧ g < w.heap.size ∧ JAt w g (o + i * 13) l[i] := by
  obtain ⟨g, o, ha, hr⟩ := RdK.at h (i := i) (by rw [cellsJ_length]; exact hi)
  have hr' : w.rangeAt g (o + i * 13) l[i].arr.toList := by have h2 := hr; simp only [cellsJ, List.getElem_map] at h2; exact h2
  exact ⟨g, o, ha, range_lt hr' (by show 0 < 13; omega), ⟨hr'⟩⟩
end

/-! ### A slice of jobs as an argument -/
theorem cellsJob : Tryz.prog.cellsOf 95 = 13 := by kernel_rfl
theorem list13 {α : Type} (l : List α) (h : l.length = 13) : ∃ a b c d e f g i j k m n o, l = [a, b, c, d, e, f, g, i, j, k, m, n, o] := by
  match l, h with
  | [a, b, c, d, e, f, g, i, j, k, m, n, o], _ => exact ⟨a, b, c, d, e, f, g, i, j, k, m, n, o, rfl⟩
section
variable {H : Type} {enc : TypeId × Value → H} {W : World} {base : Nat} {sp : Nat → Bool} {held : Bool}
/-- What is known of a job's datum: its texts, and the labels that it wants. -/
structure JobIn (W : World) (d : DataW H) (j : Jb) : Prop where
  shape : ∃ d2 d3 d4 d7 e1 e3 l, d = .agg [.agg [.lit (.string j.nm.data.toList), .lit (.string j.qu.data.toList), d2, d3, d4, .lit (.string j.ap.data.toList), .lit (.string j.ga.data.toList), d7], e1, .lit (.string j.nd.data.toList), e3] ∧ LabsIn W d4 j.A j.n j.cp l
set_option maxRecDepth 100000 in
theorem trod_job {fuel : Nat} {cs : List Value} {x : DataW H × List MemPlace} (h : DataW.trod enc Tryz.prog W base sp held fuel 95 cs = some x) : ∃ j : Jb, cs = j.cells ∧ JobIn W x.1 j := by
  obtain ⟨zs, n', _, hx', hlen, hzl, hg'⟩ := DataW.trod_struct Tryz.underlying95 h
  rw [cellsJob] at hlen
  obtain ⟨c0, c1, c2, c3, c4, c5, c6, c7, c8, c9, k0, k1, k2, rfl⟩ := list13 cs hlen
  obtain ⟨z0, z1, z2, z3, rfl⟩ := list4 zs (by simpa using hzl)
  have u0 : DataW.trod enc Tryz.prog W base sp held n' 57 (List.take (Tryz.prog.cellsOf 57) [c0, c1, c2, c3, c4, c5, c6, c7, c8, c9, k0, k1, k2]) = some z0 := hg' 0 _ rfl
  have u1 : DataW.trod enc Tryz.prog W base sp held n' 3 (List.take (Tryz.prog.cellsOf 3) [k0, k1, k2]) = some z1 := hg' 1 _ rfl
  have u2 : DataW.trod enc Tryz.prog W base sp held n' 9 (List.take (Tryz.prog.cellsOf 9) [k1, k2]) = some z2 := hg' 2 _ rfl
  have u3 : DataW.trod enc Tryz.prog W base sp held n' 3 (List.take (Tryz.prog.cellsOf 3) [k2]) = some z3 := hg' 3 _ rfl
  rw [cellsTask] at u0
  rw [cellsInt] at u1 u3
  rw [cells9] at u2
  obtain ⟨ys, n, _, hx, _, hyl, hg⟩ := DataW.trod_struct Tryz.underlying57 u0
  obtain ⟨y0, y1, y2, y3, y4, y5, y6, y7, rfl⟩ := list8 ys (by simpa using hyl)
  have h0 : DataW.trod enc Tryz.prog W base sp held n 9 (List.take (Tryz.prog.cellsOf 9) [c0, c1, c2, c3, c4, c5, c6, c7, c8, c9]) = some y0 := hg 0 _ rfl
  have h1 : DataW.trod enc Tryz.prog W base sp held n 9 (List.take (Tryz.prog.cellsOf 9) [c1, c2, c3, c4, c5, c6, c7, c8, c9]) = some y1 := hg 1 _ rfl
  have h2 : DataW.trod enc Tryz.prog W base sp held n 3 (List.take (Tryz.prog.cellsOf 3) [c2, c3, c4, c5, c6, c7, c8, c9]) = some y2 := hg 2 _ rfl
  have h3 : DataW.trod enc Tryz.prog W base sp held n 50 (List.take (Tryz.prog.cellsOf 50) [c3, c4, c5, c6, c7, c8, c9]) = some y3 := hg 3 _ rfl
  have h4 : DataW.trod enc Tryz.prog W base sp held n 51 (List.take (Tryz.prog.cellsOf 51) [c6, c7, c8, c9]) = some y4 := hg 4 _ rfl
  have h5 : DataW.trod enc Tryz.prog W base sp held n 9 (List.take (Tryz.prog.cellsOf 9) [c7, c8, c9]) = some y5 := hg 5 _ rfl
  have h6 : DataW.trod enc Tryz.prog W base sp held n 9 (List.take (Tryz.prog.cellsOf 9) [c8, c9]) = some y6 := hg 6 _ rfl
  have h7 : DataW.trod enc Tryz.prog W base sp held n 3 (List.take (Tryz.prog.cellsOf 3) [c9]) = some y7 := hg 7 _ rfl
  rw [cells9] at h0 h1 h5 h6
  rw [cellsInt] at h2 h7
  rw [cellsRes] at h3
  rw [cellsLabs] at h4
  obtain ⟨nm, rfl, e0⟩ := open_field_string h0
  obtain ⟨qu, rfl, e1⟩ := open_field_string h1
  obtain ⟨pr, rfl⟩ := open_field_int h2
  obtain ⟨a, b, c, rfl, rfl, rfl⟩ := open_field_res h3
  obtain ⟨A, m, cp, l, rfl, hl⟩ := open_field_labs h4
  obtain ⟨ap, rfl, e5⟩ := open_field_string h5
  obtain ⟨ga, rfl, e6⟩ := open_field_string h6
  obtain ⟨sz, rfl⟩ := open_field_int h7
  obtain ⟨sq, rfl⟩ := open_field_int u1
  obtain ⟨nd, rfl, e2⟩ := open_field_string u2
  obtain ⟨bo, rfl⟩ := open_field_int u3
  have hz0 : z0.1 = .agg [.lit (.string nm.data.toList), .lit (.string qu.data.toList), y2.1, y3.1, y4.1, .lit (.string ap.data.toList), .lit (.string ga.data.toList), y7.1] := by have := congrArg Prod.fst hx; simpa [e0, e1, e5, e6] using this
  exact ⟨⟨nm, qu, pr, a, b, c, A, m, cp, ap, ga, sz, sq, nd, bo⟩, rfl, ⟨y2.1, y3.1, y4.1, y7.1, z1.1, z3.1, l, by have := congrArg Prod.fst hx'; simpa [hz0, e2] using this, hl⟩⟩

set_option maxRecDepth 100000 in
theorem open_job {r : Reach} {b0 : Nat} {v : Value} {d : DataW H} {p : List MemPlace} (hval : Value.okWide Tryz.prog W r b0 95 v) (h : DataW.Trod enc Tryz.prog W base sp held 95 v d p) : ∃ j : Jb, v = .agg j.arr ∧ JobIn W d j := by
  obtain ⟨cs, rfl, hsz⟩ := okWide_struct Tryz.underlying95 hval
  obtain ⟨cs⟩ := cs
  obtain ⟨fuel, hf⟩ := h
  obtain ⟨j, hc, hj⟩ := trod_job hf
  have e : cs = j.cells := hc
  subst e
  exact ⟨j, rfl, hj⟩

theorem open_jobs {a : Option Addr} {len cap : Nat} {d : DataW H} {p : List MemPlace} (h : DataW.Trod enc Tryz.prog W base sp held 24 (.slice a len cap) d p) :
    ∃ l : List Jb, len = l.length ∧ RdJ W a l ∧ len ≤ cap ∧ cap ≤ 9223372036854775807 ∧ ∀ j ∈ l, ∃ elems spare x, d = .slice elems spare ∧ x ∈ elems ∧ JobIn W x j := by
  obtain ⟨fuel, hf⟩ := h
  rcases open_slice Tryz.underlying24 hf with ⟨hcs, _⟩ | ⟨x, n', c, m, n, D, Pl, hcs, _, hl, hm, hmm, hx, hi⟩
  · simp [Value.cells] at hcs
    obtain ⟨rfl, rfl, rfl⟩ := hcs
    exact ⟨[], rfl, RdJ.nil _ _, Nat.le_refl _, by omega, fun x hx => by simp at hx⟩
  · simp [Value.cells] at hcs
    obtain ⟨rfl, rfl, rfl⟩ := hcs
    rw [cellsJob] at hi
    have hlm : len ≤ m := by rw [hmm]; split <;> omega
    have hm' : cap ≤ 9223372036854775807 := by unfold maxLen at hm; omega
    have hdat : d = .slice ((List.range len).map D) ((List.range (m - len)).map fun j => D (len + j)) := congrArg Prod.fst hx
    have hspot : 0 < len → x.spot = none := fun h => by
      obtain ⟨cs', hc, ht⟩ := hi 0 (by omega)
      obtain ⟨_, hcl, hat⟩ := World.cells?_some hc
      have h0 := hat 0 (by omega)
      rw [List.getElem?_eq_getElem (by omega)] at h0
      simpa [Addr.add] using World.cell?_spot h0
    have key : ∀ i, i < len → ∃ j : Jb, ∃ g o, x = ⟨g, o, none⟩ ∧ W.rangeAt g (o + i * 13) j.cells ∧ JobIn W (D i) j := by
      intro i hlt
      obtain ⟨cs', hc, ht⟩ := hi i (by omega)
      obtain ⟨_, hcl, hat⟩ := World.cells?_some hc
      obtain ⟨j, rfl, hj⟩ := trod_job ht
      obtain ⟨g, o, spot⟩ := x
      have hs : spot = none := hspot (by omega)
      subst hs
      refine ⟨j, g, o, rfl, fun m' v hv => ?_, hj⟩
      have hm13 : m' < 13 := (List.getElem?_eq_some_iff.1 hv).1
      have := hat m' hm13
      rw [Addr.add_lit, Addr.add_lit, hv] at this
      exact this
    have pick : ∀ n, n ≤ len → ∃ l : List Jb, l.length = n ∧ RdJ W (some x) l ∧ ∀ i k, l[i]? = some k → JobIn W (D i) k := by
      intro n
      induction n with
      | zero => exact fun _ => ⟨[], rfl, RdJ.nil _ _, fun i k hk => by simp at hk⟩
      | succ n ih =>
        intro hn
        obtain ⟨l, hll, hr, hD⟩ := ih (by omega)
        obtain ⟨k, g, o, hxx, hrg, hk⟩ := key n (by omega)
        refine ⟨l ++ [k], by simp [hll], fun i y hy => ?_, fun i y hy => ?_⟩
        · rw [cellsJ_append] at hy
          by_cases hi' : i < l.length
          · rw [List.getElem?_append_left (by rw [cellsJ_length]; exact hi')] at hy; exact hr i y hy
          · rw [List.getElem?_append_right (by rw [cellsJ_length]; omega)] at hy
            have e : i = n := by
              have := (List.getElem?_eq_some_iff.1 hy).1
              simp [cellsJ] at this; omega
            subst e
            rw [cellsJ_length, show i - l.length = 0 by omega] at hy
            simp [cellsJ] at hy; subst hy
            exact ⟨g, o, by rw [hxx], hrg⟩
        · by_cases hi' : i < l.length
          · rw [List.getElem?_append_left hi'] at hy; exact hD i y hy
          · rw [List.getElem?_append_right (by omega)] at hy
            have e : i = n := by
              have := (List.getElem?_eq_some_iff.1 hy).1
              simp at this; omega
            subst e
            rw [show i - l.length = 0 by omega] at hy
            simp at hy; subst hy
            exact hk
    obtain ⟨l, hll, hr, hD⟩ := pick len (Nat.le_refl _)
    refine ⟨l, hll.symm, hr, hl, hm', fun y hy => ?_⟩
    obtain ⟨i, hi', e⟩ := List.getElem_of_mem hy
    exact ⟨_, _, D i, hdat, List.mem_map.2 ⟨i, List.mem_range.2 (by omega), rfl⟩, hD i y (by rw [List.getElem?_eq_getElem hi', e])⟩
end
end Go.Proofs.YtjgojgmgicpgaaaGreat
