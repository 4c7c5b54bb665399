/- Jobs: what the cells of a job hold, a slice that reads as a list of jobs, and an argument that is such a slice, opened: what it holds, and that its texts are not longer than Go can have. No condition beyond the form's own. · More of elements of k cells: blocks that are apart, an empty row, a row of one element. No condition. · Jobs that the call owns; slices of no job and of one job; a new cell of a job. No condition. · Machines and tasks as their cells hold them, a slice that reads as a list of machines, and an argument that is a machine, opened: what it holds, and that its texts are not longer than Go can have. No condition beyond the form's own. -/
import Derived.Test.YtjgojgmgicpgaaaGreatTQ00
import Derived.Test.YtjgojgmgicpgaaaGreatTOpa
namespace Go.Proofs.YtjgojgmgicpgaaaGreat
open Go.ChangeShapes Go.WideShapes Go.RowKit Go.Deep
set_option linter.unusedSimpArgs false
set_option linter.unusedVariables false

/-- A job, as its cells hold it: its task (of the labels that it wants, where they lie), its number, its machine, and when it was bound. -/
structure Jb where
  nm : ByteArray
  qu : ByteArray
  pr : Int
  a : Int
  b : Int
  c : Int
  A : Option Addr
  n : Nat
  cp : Nat
  ap : ByteArray
  ga : ByteArray
  sz : Int
  sq : Int
  nd : ByteArray
  bo : Int
/-- The cells of its task. -/
abbrev Jb.task (j : Jb) : Array Value := #[.string j.nm, .string j.qu, .int .i64 j.pr, .int .i64 j.a, .int .i64 j.b, .int .i64 j.c, .slice j.A j.n j.cp, .string j.ap, .string j.ga, .int .i64 j.sz]
/-- The cells of a job. -/
abbrev Jb.arr (j : Jb) : Array Value := #[.string j.nm, .string j.qu, .int .i64 j.pr, .int .i64 j.a, .int .i64 j.b, .int .i64 j.c, .slice j.A j.n j.cp, .string j.ap, .string j.ga, .int .i64 j.sz, .int .i64 j.sq, .string j.nd, .int .i64 j.bo]
/-- The same as a list. -/
def Jb.cells (j : Jb) : List Value := j.arr.toList
theorem Jb.cells_length (j : Jb) : j.cells.length = 13 := rfl
theorem Jb.cells_one (j : Jb) : ∀ u ∈ j.cells, u.oneCell' = true := by
  intro u hu
  simp only [Jb.cells, Jb.arr, List.mem_cons, List.not_mem_nil, or_false] at hu
  rcases hu with rfl | rfl | rfl | rfl | rfl | rfl | rfl | rfl | rfl | rfl | rfl | rfl | rfl <;> rfl
/-- The lists of the cells of jobs. -/
def cellsJ (l : List Jb) : List (List Value) := l.map Jb.cells
theorem cellsJ_length (l : List Jb) : (cellsJ l).length = l.length := by simp [cellsJ]
theorem cellsJ_append (l m : List Jb) : cellsJ (l ++ m) = cellsJ l ++ cellsJ m := by simp [cellsJ]
theorem cellsJ_k (l : List Jb) : ∀ x ∈ cellsJ l, x.length = 13 := by
  intro x hx
  simp only [cellsJ, List.mem_map] at hx
  obtain ⟨j, _, rfl⟩ := hx
  rfl
theorem cellsJ_one (l : List Jb) : ∀ y ∈ cellsJ l, ∀ u ∈ y, u.oneCell' = true := by
  intro x hx
  simp only [cellsJ, List.mem_map] at hx
  obtain ⟨j, _, rfl⟩ := hx
  exact j.cells_one
/-- A slice at this address reads as these jobs. -/
def RdJ (w : World) (A : Option Addr) (l : List Jb) : Prop := RdK w 13 A (cellsJ l)
/-- The cells of a job lie here. -/
structure JAt (w : World) (g o : Nat) (j : Jb) : Prop where
  rg : w.rangeAt g o j.arr.toList
section
variable {w w' : World} {g o : Nat} {j : Jb}
theorem JAt.lt (h : JAt w g o j) : g < w.heap.size := range_lt h.rg (by show 0 < 13; omega)
theorem JAt.later (h : JAt w g o j) (hb : Below w.heap.size w w') : JAt w' g o j := ⟨range_keep h.rg hb⟩
theorem JAt.nm (h : JAt w g o j) : w.cell? ⟨g, o, none⟩ = some (.string j.nm) := h.rg 0 _ rfl
theorem JAt.qu (h : JAt w g o j) : w.cell? ⟨g, o + 1, none⟩ = some (.string j.qu) := h.rg 1 _ rfl
theorem JAt.pr (h : JAt w g o j) : w.cell? ⟨g, o + 2, none⟩ = some (.int .i64 j.pr) := h.rg 2 _ rfl
theorem JAt.a (h : JAt w g o j) : w.cell? ⟨g, o + 3, none⟩ = some (.int .i64 j.a) := h.rg 3 _ rfl
theorem JAt.b (h : JAt w g o j) : w.cell? ⟨g, o + 3 + 1, none⟩ = some (.int .i64 j.b) := h.rg 4 _ rfl
theorem JAt.c (h : JAt w g o j) : w.cell? ⟨g, o + 3 + 2, none⟩ = some (.int .i64 j.c) := h.rg 5 _ rfl
theorem JAt.nd (h : JAt w g o j) : w.cell? ⟨g, o + 11, none⟩ = some (.string j.nd) := h.rg 11 _ rfl
theorem JAt.of_bk {t : TypeId} (h : Bk w g t j.arr) : JAt w g 0 j := ⟨h.range (Part.whole _)⟩
end
section
variable {w w' : World} {A : Option Addr} {l : List Jb}
theorem RdJ.nil (w : World) (A : Option Addr) : RdJ w A [] := RdK.nil _ _ _
theorem RdJ.later (h : RdJ w A l) (hb : Below w.heap.size w w') : RdJ w' A l := RdK.later h hb
theorem RdJ.at (h : RdJ w A l) {i : Nat} (hi : i < l.length) : ∃ g o, A = some ⟨g, o, none⟩ ∧ g < w.heap.size ∧ JAt w g (o + i * 13) l[i] := by
  obtain ⟨g, o, ha, hr⟩ := RdK.at h (i := i) (by rw [cellsJ_length]; exact hi)
  have hr' : w.rangeAt g (o + i * 13) l[i].arr.toList := by have h2 := hr; simp only [cellsJ, List.getElem_map] at h2; exact h2
  exact ⟨g, o, ha, range_lt hr' (by show 0 < 13; omega), ⟨hr'⟩⟩
end

/-! ### A slice of jobs as an argument -/
theorem cellsJob : Tryz.prog.cellsOf 95 = 13 := by kernel_rfl
theorem list13 {α : Type} (l : List α) (h : l.length = 13) : ∃ a b c d e f g i j k m n o, l = [a, b, c, d, e, f, g, i, j, k, m, n, o] := by
  match l, h with
  | [a, b, c, d, e, f, g, i, j, k, m, n, o], _ => exact ⟨a, b, c, d, e, f, g, i, j, k, m, n, o, rfl⟩
section
variable {H : Type} {enc : TypeId × Value → H} {W : World} {base : Nat} {sp : Nat → Bool} {held : Bool}
/-- What is known of a job's datum: its texts, and the labels that it wants. -/
structure JobIn (W : World) (d : DataW H) (j : Jb) : Prop where
  shape : ∃ d2 d3 d4 d7 e1 e3 l, d = .agg [.agg [.lit (.string j.nm.data.toList), .lit (.string j.qu.data.toList), d2, d3, d4, .lit (.string j.ap.data.toList), .lit (.string j.ga.data.toList), d7], e1, .lit (.string j.nd.data.toList), e3] ∧ LabsIn W d4 j.A j.n j.cp l
set_option maxRecDepth 100000 in
theorem trod_job {fuel : Nat} {cs : List Value} {x : DataW H × List MemPlace} (h : DataW.trod enc Tryz.prog W base sp held fuel 95 cs = some x) : ∃ j : Jb, cs = j.cells ∧ JobIn W x.1 j := by
  obtain ⟨zs, n', _, hx', hlen, hzl, hg'⟩ := DataW.trod_struct Tryz.underlying95 h
  rw [cellsJob] at hlen
  obtain ⟨c0, c1, c2, c3, c4, c5, c6, c7, c8, c9, k0, k1, k2, rfl⟩ := list13 cs hlen
  obtain ⟨z0, z1, z2, z3, rfl⟩ := list4 zs (by simpa using hzl)
  have u0 : DataW.trod enc Tryz.prog W base sp held n' 57 (List.take (Tryz.prog.cellsOf 57) [c0, c1, c2, c3, c4, c5, c6, c7, c8, c9, k0, k1, k2]) = some z0 := hg' 0 _ rfl
  have u1 : DataW.trod enc Tryz.prog W base sp held n' 3 (List.take (Tryz.prog.cellsOf 3) [k0, k1, k2]) = some z1 := hg' 1 _ rfl
  have u2 : DataW.trod enc Tryz.prog W base sp held n' 9 (List.take (Tryz.prog.cellsOf 9) [k1, k2]) = some z2 := hg' 2 _ rfl
  have u3 : DataW.trod enc Tryz.prog W base sp held n' 3 (List.take (Tryz.prog.cellsOf 3) [k2]) = some z3 := hg' 3 _ rfl
  rw [cellsTask] at u0
  rw [cellsInt] at u1 u3
  rw [cells9] at u2
  obtain ⟨ys, n, _, hx, _, hyl, hg⟩ := DataW.trod_struct Tryz.underlying57 u0
  obtain ⟨y0, y1, y2, y3, y4, y5, y6, y7, rfl⟩ := list8 ys (by simpa using hyl)
  have h0 : DataW.trod enc Tryz.prog W base sp held n 9 (List.take (Tryz.prog.cellsOf 9) [c0, c1, c2, c3, c4, c5, c6, c7, c8, c9]) = some y0 := hg 0 _ rfl
  have h1 : DataW.trod enc Tryz.prog W base sp held n 9 (List.take (Tryz.prog.cellsOf 9) [c1, c2, c3, c4, c5, c6, c7, c8, c9]) = some y1 := hg 1 _ rfl
  have h2 : DataW.trod enc Tryz.prog W base sp held n 3 (List.take (Tryz.prog.cellsOf 3) [c2, c3, c4, c5, c6, c7, c8, c9]) = some y2 := hg 2 _ rfl
  have h3 : DataW.trod enc Tryz.prog W base sp held n 50 (List.take (Tryz.prog.cellsOf 50) [c3, c4, c5, c6, c7, c8, c9]) = some y3 := hg 3 _ rfl
  have h4 : DataW.trod enc Tryz.prog W base sp held n 51 (List.take (Tryz.prog.cellsOf 51) [c6, c7, c8, c9]) = some y4 := hg 4 _ rfl
  have h5 : DataW.trod enc Tryz.prog W base sp held n 9 (List.take (Tryz.prog.cellsOf 9) [c7, c8, c9]) = some y5 := hg 5 _ rfl
  have h6 : DataW.trod enc Tryz.prog W base sp held n 9 (List.take (Tryz.prog.cellsOf 9) [c8, c9]) = some y6 := hg 6 _ rfl
  have h7 : DataW.trod enc Tryz.prog W base sp held n 3 (List.take (Tryz.prog.cellsOf 3) [c9]) = some y7 := hg 7 _ rfl
  rw [cells9] at h0 h1 h5 h6
  rw [cellsInt] at h2 h7
  rw [cellsRes] at h3
  rw [cellsLabs] at h4
  obtain ⟨nm, rfl, e0⟩ := open_field_string h0
  obtain ⟨qu, rfl, e1⟩ := open_field_string h1
  obtain ⟨pr, rfl⟩ := open_field_int h2
  obtain ⟨a, b, c, rfl, rfl, rfl⟩ := open_field_res h3
  obtain ⟨A, m, cp, l, rfl, hl⟩ := open_field_labs h4
  obtain ⟨ap, rfl, e5⟩ := open_field_string h5
  obtain ⟨ga, rfl, e6⟩ := open_field_string h6
  obtain ⟨sz, rfl⟩ := open_field_int h7
  obtain ⟨sq, rfl⟩ := open_field_int u1
  obtain ⟨nd, rfl, e2⟩ := open_field_string u2
  obtain ⟨bo, rfl⟩ := open_field_int u3
  have hz0 : z0.1 = .agg [.lit (.string nm.data.toList), .lit (.string qu.data.toList), y2.1, y3.1, y4.1, .lit (.string ap.data.toList), .lit (.string ga.data.toList), y7.1] := by have := congrArg Prod.fst hx; simpa [e0, e1, e5, e6] using this
  exact ⟨⟨nm, qu, pr, a, b, c, A, m, cp, ap, ga, sz, sq, nd, bo⟩, rfl, ⟨y2.1, y3.1, y4.1, y7.1, z1.1, z3.1, l, by have := congrArg Prod.fst hx'; simpa [hz0, e2] using this, hl⟩⟩

set_option maxRecDepth 100000 in
theorem open_job {r : Reach} {b0 : Nat} {v : Value} {d : DataW H} {p : List MemPlace} (hval : Value.okWide Tryz.prog W r b0 95 v) (h : DataW.Trod enc Tryz.prog W base sp held 95 v d p) : ∃ j : Jb, v = .agg j.arr ∧ JobIn W d j := by
  obtain ⟨cs, rfl, hsz⟩ := okWide_struct Tryz.underlying95 hval
  obtain ⟨cs⟩ := cs
  obtain ⟨fuel, hf⟩ := h
  obtain ⟨j, hc, hj⟩ := trod_job hf
  have e : cs = j.cells := hc
  subst e
  exact ⟨j, rfl, hj⟩

theorem open_jobs {a : Option Addr} {len cap : Nat} {d : DataW H} {p : List MemPlace} (h : DataW.Trod enc Tryz.prog W base sp held 24 (.slice a len cap) d p) :
    ∃ l : List Jb, len = l.length ∧ RdJ W a l ∧ len ≤ cap ∧ cap ≤ 9223372036854775807 ∧ ∀ j ∈ l, ∃ elems spare x, d = .slice elems spare ∧ x ∈ elems ∧ JobIn W x j := by
  obtain ⟨fuel, hf⟩ := h
  rcases open_slice Tryz.underlying24 hf with ⟨hcs, _⟩ | ⟨x, n', c, m, n, D, Pl, hcs, _, hl, hm, hmm, hx, hi⟩
  · simp [Value.cells] at hcs
    obtain ⟨rfl, rfl, rfl⟩ := hcs
    exact ⟨[], rfl, RdJ.nil _ _, Nat.le_refl _, by omega, fun x hx => by simp at hx⟩
  · simp [Value.cells] at hcs
    obtain ⟨rfl, rfl, rfl⟩ := hcs
    rw [cellsJob] at hi
    have hlm : len ≤ m := by rw [hmm]; split <;> omega
    have hm' : cap ≤ 9223372036854775807 := by unfold maxLen at hm; omega
    have hdat : d = .slice ((List.range len).map D) ((List.range (m - len)).map fun j => D (len + j)) := congrArg Prod.fst hx
    have hspot : 0 < len → x.spot = none := fun h => by
      obtain ⟨cs', hc, ht⟩ := hi 0 (by omega)
      obtain ⟨_, hcl, hat⟩ := World.cells?_some hc
      have h0 := hat 0 (by omega)
      rw [List.getElem?_eq_getElem (by omega)] at h0
      simpa [Addr.add] using World.cell?_spot h0
    have key : ∀ i, i < len → ∃ j : Jb, ∃ g o, x = ⟨g, o, none⟩ ∧ W.rangeAt g (o + i * 13) j.cells ∧ JobIn W (D i) j := by
      intro i hlt
      obtain ⟨cs', hc, ht⟩ := hi i (by omega)
      obtain ⟨_, hcl, hat⟩ := World.cells?_some hc
      obtain ⟨j, rfl, hj⟩ := trod_job ht
      obtain ⟨g, o, spot⟩ := x
      have hs : spot = none := hspot (by omega)
      subst hs
      refine ⟨j, g, o, rfl, fun m' v hv => ?_, hj⟩
      have hm13 : m' < 13 := (List.getElem?_eq_some_iff.1 hv).1
      have := hat m' hm13
      rw [Addr.add_lit, Addr.add_lit, hv] at this
      exact this
    have pick : ∀ n, n ≤ len → ∃ l : List Jb, l.length = n ∧ RdJ W (some x) l ∧ ∀ i k, l[i]? = some k → JobIn W (D i) k := by
      intro n
      induction n with
      | zero => exact fun _ => ⟨[], rfl, RdJ.nil _ _, fun i k hk => by simp at hk⟩
      | succ n ih =>
        intro hn
        obtain ⟨l, hll, hr, hD⟩ := ih (by omega)
        obtain ⟨k, g, o, hxx, hrg, hk⟩ := key n (by omega)
        refine ⟨l ++ [k], by simp [hll], fun i y hy => ?_, fun i y hy => ?_⟩
        · rw [cellsJ_append] at hy
          by_cases hi' : i < l.length
          · rw [List.getElem?_append_left (by rw [cellsJ_length]; exact hi')] at hy; exact hr i y hy
          · rw [List.getElem?_append_right (by rw [cellsJ_length]; omega)] at hy
            have e : i = n := by
              have := (List.getElem?_eq_some_iff.1 hy).1
              simp [cellsJ] at this; omega
            subst e
            rw [cellsJ_length, show i - l.length = 0 by omega] at hy
            simp [cellsJ] at hy; subst hy
            exact ⟨g, o, by rw [hxx], hrg⟩
        · by_cases hi' : i < l.length
          · rw [List.getElem?_append_left hi'] at hy; exact hD i y hy
          · rw [List.getElem?_append_right (by omega)] at hy
            have e : i = n := by
              have := (List.getElem?_eq_some_iff.1 hy).1
              simp at this; omega
            subst e
            rw [show i - l.length = 0 by omega] at hy
            simp at hy; subst hy
            exact hk
    obtain ⟨l, hll, hr, hD⟩ := pick len (Nat.le_refl _)
    refine ⟨l, hll.symm, hr, hl, hm', fun y hy => ?_⟩
    obtain ⟨i, hi', e⟩ := List.getElem_of_mem hy
    exact ⟨_, _, D i, hdat, List.mem_map.2 ⟨i, List.mem_range.2 (by omega), rfl⟩, hD i y (by rw [List.getElem?_eq_getElem hi', e])⟩
end
end Go.Proofs.YtjgojgmgicpgaaaGreat

namespace Go.Proofs.YtjgojgmgicpgaaaGreat
open Go.RowKit
set_option linter.unusedSimpArgs false
set_option linter.unusedVariables false

theorem Bk.ne {w : World} {g g' : Nat} {t t' : TypeId} {cs cs' : Array Value} (h : Bk w g t cs) (h' : Bk w g' t' cs') (hne : cs.size ≠ cs'.size) : g ≠ g' := fun e => by
  subst e
  have := h.symm.trans h'
  injection this with this
  injection this with this
  exact hne (by rw [this])
theorem OwnK.ne {w : World} {g base k : Nat} {t e : TypeId} {cs : Array Value} {v : Value} {l : List (List Value)} (h : OwnK w base e k v l) (h' : Bk w g t cs) (hne : t ≠ e) : some g ≠ v.ownBlock := fun he => by
  rcases h.2.2 with ⟨rfl, _⟩ | ⟨g', cap, cur, rfl, _, hg, _⟩
  · cases he
  · injection he with he
    subst he
    have := h'.symm.trans hg
    injection this with this
    injection this with _ this
    exact hne this
theorem OwnK.of_empty {w : World} {g base k : Nat} {e : TypeId} (h : Bk w g e #[]) (hb : base ≤ g) : OwnK w base e k (.slice (some ⟨g, 0, none⟩) 0 0) [] :=
  ⟨by simp, by simp, .inr ⟨g, 0, #[], rfl, hb, h, Nat.le_refl _, by simp [maxLen], by simp, by simp⟩⟩
theorem RdK.of_bk {w : World} {g k : Nat} {t : TypeId} {cs : List Value} (h : Bk w g t cs.toArray) : RdK w k (some ⟨g, 0, none⟩) [cs] := by
  intro i x hx
  match i, hx with
  | 0, hx =>
    simp at hx; subst hx
    refine ⟨_, _, rfl, fun j v hv => ?_⟩
    have h' := h.cellAt j
    simp only [List.getElem?_toArray] at h'
    simp only [Nat.zero_mul, Nat.zero_add]
    exact h'.trans hv
  | i + 1, hx => simp at hx
end Go.Proofs.YtjgojgmgicpgaaaGreat

namespace Go.Proofs.YtjgojgmgicpgaaaGreat
open Go.RowKit
set_option linter.unusedSimpArgs false
set_option linter.unusedVariables false

/-- What a job needs. -/
abbrev Jb.need (j : Jb) : Int × Int × Int := (j.a, j.b, j.c)
theorem infoJ : (Tryz.prog.info? 95).map (fun i => (i.zero, i.size, i.bytes)) = some (some (.agg #[.string ⟨#[]⟩, .string ⟨#[]⟩, .int .i64 0, .int .i64 0, .int .i64 0, .int .i64 0, .slice none 0 0, .string ⟨#[]⟩, .string ⟨#[]⟩, .int .i64 0, .int .i64 0, .string ⟨#[]⟩, .int .i64 0]), 13, 160) := by kernel_rfl
theorem OwnK.rdj {w : World} {base : Nat} {e : TypeId} {v : Value} {l : List Jb} (h : OwnK w base e 13 v (cellsJ l)) : ∃ A c, v = .slice A l.length c ∧ RdJ w A l ∧ l.length ≤ c ∧ c ≤ 9223372036854775807 := by
  obtain ⟨A, c, hv, hr, h1, h2, _⟩ := h.sl
  rw [cellsJ_length] at hv h1
  refine ⟨A, c, hv, hr, h1, ?_⟩
  unfold maxLen at h2; omega

section
variable {o : Oper} {a : Act} {w : World} {K : Act → World → Prop} {Q : Exit → Act → World → Prop}
/-- A slice of no job. -/
theorem none_op (ho : o.op = .buildSlice 24 0 #[]) (h : ∀ g w', g = w.heap.size → Bk w' g 95 #[] → Below w.heap.size w w' → K (a.put o.dst (.slice (some ⟨g, 0, none⟩) 0 0)) w') : o.wp Tryz.prog a w K Q := by
  unfold Oper.wp execOp
  simp only [ho]
  go_simp
  exact h _ _ rfl (Bk.fresh w _ _) ((Below.refl _ _).alloc (Nat.le_refl _) _)
/-- A slice of one job. -/
theorem one_op (t : Tmp) (j : Array Value) (ho : o.op = .buildSlice 24 1 #[(0, .tmp t)]) (hx : a.tmps[t]?.getD undef = .agg j) (hj : j.size = 13) (h : ∀ g w', g = w.heap.size → Bk w' g 95 j → Below w.heap.size w w' → K (a.put o.dst (.slice (some ⟨g, 0, none⟩) 1 1)) w') : o.wp Tryz.prog a w K Q := by
  obtain ⟨j⟩ := j
  obtain ⟨c0, c1, c2, c3, c4, c5, c6, c7, c8, c9, k0, k1, k2, rfl⟩ := list13 j hj
  unfold Oper.wp execOp
  simp only [ho]
  go_simp
  exact h _ _ rfl (Bk.fresh w _ _) ((Below.refl _ _).alloc (Nat.le_refl _) _)
/-- A new cell of one job. -/
theorem jcell_op (ho : o.op = .alloc 95) (h : ∀ g w', g = w.heap.size → Bk w' g 95 #[.string ⟨#[]⟩, .string ⟨#[]⟩, .int .i64 0, .int .i64 0, .int .i64 0, .int .i64 0, .slice none 0 0, .string ⟨#[]⟩, .string ⟨#[]⟩, .int .i64 0, .int .i64 0, .string ⟨#[]⟩, .int .i64 0] → Below w.heap.size w w' → K (a.put o.dst (.pointer (some ⟨g, 0, none⟩))) w') : o.wp Tryz.prog a w K Q := by
  unfold Oper.wp execOp
  simp only [ho]
  go_simp
  exact h _ _ rfl (Bk.fresh w _ _) ((Below.refl _ _).alloc (Nat.le_refl _) _)
end
end Go.Proofs.YtjgojgmgicpgaaaGreat

namespace Go.Proofs.YtjgojgmgicpgaaaGreat
open Go.ChangeShapes Go.WideShapes Go.RowKit Go.Deep
set_option linter.unusedSimpArgs false
set_option linter.unusedVariables false

/-- A machine, as its cells hold it: its node (of the labels, where they lie), is it up, and its lease. -/
structure Mc where
  nm : ByteArray
  a : Int
  b : Int
  c : Int
  A : Option Addr
  n : Nat
  cp : Nat
  up : Bool
  un : Int
/-- The cells of its node. -/
abbrev Mc.node (m : Mc) : Array Value := #[.string m.nm, .int .i64 m.a, .int .i64 m.b, .int .i64 m.c, .slice m.A m.n m.cp]
/-- The cells of a machine. -/
abbrev Mc.arr (m : Mc) : Array Value := #[.string m.nm, .int .i64 m.a, .int .i64 m.b, .int .i64 m.c, .slice m.A m.n m.cp, .bool m.up, .int .i64 m.un]
/-- The same as a list. -/
def Mc.cells (m : Mc) : List Value := m.arr.toList
theorem Mc.cells_one (m : Mc) : ∀ u ∈ m.cells, u.oneCell' = true := by
  intro u hu
  simp only [Mc.cells, Mc.arr, List.mem_cons, List.not_mem_nil, or_false] at hu
  rcases hu with rfl | rfl | rfl | rfl | rfl | rfl | rfl <;> rfl
/-- The lists of the cells of machines. -/
def cellsM (l : List Mc) : List (List Value) := l.map Mc.cells
theorem cellsM_length (l : List Mc) : (cellsM l).length = l.length := by simp [cellsM]
theorem cellsM_append (l m : List Mc) : cellsM (l ++ m) = cellsM l ++ cellsM m := by simp [cellsM]
theorem cellsM_k (l : List Mc) : ∀ x ∈ cellsM l, x.length = 7 := by
  intro x hx
  simp only [cellsM, List.mem_map] at hx
  obtain ⟨j, _, rfl⟩ := hx
  rfl
/-- A slice at this address reads as these machines. -/
def RdM (w : World) (A : Option Addr) (l : List Mc) : Prop := RdK w 7 A (cellsM l)
/-- The cells of a machine lie here. -/
structure MAt (w : World) (g o : Nat) (m : Mc) : Prop where
  rg : w.rangeAt g o m.arr.toList
section
variable {w w' : World} {g o : Nat} {m : Mc}
theorem MAt.lt (h : MAt w g o m) : g < w.heap.size := range_lt h.rg (by show 0 < 7; omega)
theorem MAt.later (h : MAt w g o m) (hb : Below w.heap.size w w') : MAt w' g o m := ⟨range_keep h.rg hb⟩
theorem MAt.nm (h : MAt w g o m) : w.cell? ⟨g, o, none⟩ = some (.string m.nm) := h.rg 0 _ rfl
theorem MAt.labs (h : MAt w g o m) : w.cell? ⟨g, o + 4, none⟩ = some (.slice m.A m.n m.cp) := h.rg 4 _ rfl
theorem MAt.up (h : MAt w g o m) : w.cell? ⟨g, o + 5, none⟩ = some (.bool m.up) := h.rg 5 _ rfl
theorem MAt.of_bk {t : TypeId} (h : Bk w g t m.arr) : MAt w g 0 m := ⟨h.range (Part.whole _)⟩
end
section
variable {w w' : World} {A : Option Addr} {l : List Mc}
theorem RdM.nil (w : World) (A : Option Addr) : RdM w A [] := RdK.nil _ _ _
theorem RdM.later (h : RdM w A l) (hb : Below w.heap.size w w') : RdM w' A l := RdK.later h hb
theorem RdM.at (h : RdM w A l) {i : Nat} (hi : i < l.length) : ∃ g o, A = some ⟨g, o, none⟩ ∧ g < w.heap.size ∧ MAt w g (o + i * 7) l[i] := by
  obtain ⟨g, o, ha, hr⟩ := RdK.at h (i := i) (by rw [cellsM_length]; exact hi)
  have hr' : w.rangeAt g (o + i * 7) l[i].arr.toList := by have h2 := hr; simp only [cellsM, List.getElem_map] at h2; exact h2
  exact ⟨g, o, ha, range_lt hr' (by show 0 < 7; omega), ⟨hr'⟩⟩
end

/-- A task, as its cells hold it. -/
structure Kt where
  nm : ByteArray
  qu : ByteArray
  pr : Int
  a : Int
  b : Int
  c : Int
  A : Option Addr
  n : Nat
  cp : Nat
  ap : ByteArray
  ga : ByteArray
  sz : Int
/-- The cells of a task. -/
abbrev Kt.arr (t : Kt) : Array Value := #[.string t.nm, .string t.qu, .int .i64 t.pr, .int .i64 t.a, .int .i64 t.b, .int .i64 t.c, .slice t.A t.n t.cp, .string t.ap, .string t.ga, .int .i64 t.sz]
/-- The task of a job. -/
abbrev Jb.tk (j : Jb) : Kt := ⟨j.nm, j.qu, j.pr, j.a, j.b, j.c, j.A, j.n, j.cp, j.ap, j.ga, j.sz⟩
/-- A task's job of number 0 at this machine. -/
abbrev Kt.job (t : Kt) (s : ByteArray) : Jb := ⟨t.nm, t.qu, t.pr, t.a, t.b, t.c, t.A, t.n, t.cp, t.ap, t.ga, t.sz, 0, s, 0⟩

/-- Labels in a field are ones that Go can have. -/
structure LbOk (w : World) (A : Option Addr) (n cp : Nat) (l : List Lb) : Prop where
  len : n = l.length
  rd : RdL w A l
  cap : n ≤ cp
  cap2 : cp ≤ 9223372036854775807
  sz : Sz l
theorem LbOk.later {w w' : World} {A : Option Addr} {n cp : Nat} {l : List Lb} (h : LbOk w A n cp l) (hb : Below w.heap.size w w') : LbOk w' A n cp l := ⟨h.len, h.rd.later hb, h.cap, h.cap2, h.sz⟩
theorem LbOk.nil (w : World) : LbOk w none 0 0 [] := ⟨rfl, RdL.nil _ _, Nat.le_refl _, by omega, fun x hx => by simp at hx⟩
/-- A machine is one that Go can have. -/
structure McOk (w : World) (m : Mc) (l : List Lb) : Prop where
  nm : m.nm.size ≤ 140737488351232
  lb : LbOk w m.A m.n m.cp l
theorem McOk.later {w w' : World} {m : Mc} {l : List Lb} (h : McOk w m l) (hb : Below w.heap.size w w') : McOk w' m l := ⟨h.nm, h.lb.later hb⟩
/-- A task is one that Go can have. -/
structure KtOk (w : World) (t : Kt) (l : List Lb) : Prop where
  nm : t.nm.size ≤ 140737488351232
  qu : t.qu.size ≤ 140737488351232
  ap : t.ap.size ≤ 140737488351232
  ga : t.ga.size ≤ 140737488351232
  lb : LbOk w t.A t.n t.cp l
theorem KtOk.later {w w' : World} {t : Kt} {l : List Lb} (h : KtOk w t l) (hb : Below w.heap.size w w') : KtOk w' t l := ⟨h.nm, h.qu, h.ap, h.ga, h.lb.later hb⟩

/-! ### A machine as an argument -/
theorem cellsMachine : Tryz.prog.cellsOf 93 = 7 := by kernel_rfl
theorem cellsBool : Tryz.prog.cellsOf 4 = 1 := by kernel_rfl
theorem list7 {α : Type} (l : List α) (h : l.length = 7) : ∃ a b c d e f g, l = [a, b, c, d, e, f, g] := by
  match l, h with
  | [a, b, c, d, e, f, g], _ => exact ⟨a, b, c, d, e, f, g, rfl⟩
section
variable {H : Type} {enc : TypeId × Value → H} {W : World} {base : Nat} {sp : Nat → Bool} {held : Bool}
theorem open_field_bool {fuel : Nat} {c : Value} {y : DataW H × List MemPlace} (h : DataW.trod enc Tryz.prog W base sp held fuel 4 [c] = some y) : ∃ b : Bool, c = .bool b := by
  obtain ⟨x, e, _, _⟩ := DataW.trod_bool Tryz.underlying4 h
  simp at e
  exact ⟨x, e⟩
set_option maxRecDepth 100000 in
theorem open_machine {r : Reach} {b0 : Nat} {v : Value} {d : DataW H} {p : List MemPlace} (hval : Value.okWide Tryz.prog W r b0 93 v) (h : DataW.Trod enc Tryz.prog W base sp held 93 v d p) :
    ∃ (m : Mc) (l : List Lb) (da dl e1 e2 : DataW H), v = .agg m.arr ∧ d = .agg [.agg [.lit (.string m.nm.data.toList), da, dl], e1, e2] ∧ LabsIn W dl m.A m.n m.cp l := by
  obtain ⟨cs, rfl, hsz⟩ := okWide_struct Tryz.underlying93 hval
  obtain ⟨cs⟩ := cs
  rw [cellsMachine] at hsz
  obtain ⟨c0, c1, c2, c3, c4, k0, k1, rfl⟩ := list7 cs hsz
  obtain ⟨fuel, hf⟩ := h
  obtain ⟨zs, n', _, hx', _, hzl, hg'⟩ := DataW.trod_struct Tryz.underlying93 hf
  obtain ⟨z0, z1, z2, rfl⟩ := list3' zs (by simpa using hzl)
  have u0 : DataW.trod enc Tryz.prog W base sp held n' 53 (List.take (Tryz.prog.cellsOf 53) [c0, c1, c2, c3, c4, k0, k1]) = some z0 := hg' 0 _ rfl
  have u1 : DataW.trod enc Tryz.prog W base sp held n' 4 (List.take (Tryz.prog.cellsOf 4) [k0, k1]) = some z1 := hg' 1 _ rfl
  have u2 : DataW.trod enc Tryz.prog W base sp held n' 3 (List.take (Tryz.prog.cellsOf 3) [k1]) = some z2 := hg' 2 _ rfl
  rw [cellsNode] at u0
  rw [cellsBool] at u1
  rw [cellsInt] at u2
  obtain ⟨ys, n, _, hx, _, hyl, hg⟩ := DataW.trod_struct Tryz.underlying53 u0
  obtain ⟨y0, y1, y2, rfl⟩ := list3' ys (by simpa using hyl)
  have h0 : DataW.trod enc Tryz.prog W base sp held n 9 (List.take (Tryz.prog.cellsOf 9) [c0, c1, c2, c3, c4]) = some y0 := hg 0 _ rfl
  have h1 : DataW.trod enc Tryz.prog W base sp held n 50 (List.take (Tryz.prog.cellsOf 50) [c1, c2, c3, c4]) = some y1 := hg 1 _ rfl
  have h2 : DataW.trod enc Tryz.prog W base sp held n 51 (List.take (Tryz.prog.cellsOf 51) [c4]) = some y2 := hg 2 _ rfl
  rw [cells9] at h0
  rw [cellsRes] at h1
  rw [cellsLabs] at h2
  obtain ⟨s, rfl, e0⟩ := open_field_string h0
  obtain ⟨a, b, c, rfl, rfl, rfl⟩ := open_field_res h1
  obtain ⟨A, m, cp, l, rfl, hl⟩ := open_field_labs h2
  obtain ⟨up, rfl⟩ := open_field_bool u1
  obtain ⟨un, rfl⟩ := open_field_int u2
  have hz0 : z0.1 = .agg [.lit (.string s.data.toList), y1.1, y2.1] := by have := congrArg Prod.fst hx; simpa [e0] using this
  exact ⟨⟨s, a, b, c, A, m, cp, up, un⟩, l, y1.1, y2.1, z1.1, z2.1, rfl, by have := congrArg Prod.fst hx'; simpa [hz0] using this, hl⟩
theorem sized_machine {ts : List TypeId} {ds : List (DataW H)} (h : (DataW.weightsEach Tryz.prog ts ds).all (· ≤ reachBytes) = true) {j : Nat} {nm : ByteArray} {da dl e1 e2 : DataW H} (ht : ts[j]? = some 93) (hd : ds[j]? = some (.agg [.agg [.lit (.string nm.data.toList), da, dl], e1, e2])) {W : World} {A : Option Addr} {n c : Nat} {l : List Lb} (hl : LabsIn W dl A n c l) :
    nm.size ≤ 140737488351232 ∧ Sz l :=
  sized_node (sized_inner h Tryz.underlying93 ht hd) (j := 0) rfl rfl hl
/-- A machine as an argument, as a whole. -/
theorem okMachine {W : World} {m : Mc} {dl : DataW H} {l : List Lb} (hl : LabsIn W dl m.A m.n m.cp l) (hz : m.nm.size ≤ 140737488351232 ∧ Sz l) : McOk W m l := ⟨hz.1, ⟨hl.len, hl.rd, hl.cap, hl.cap2, hz.2⟩⟩
end
end Go.Proofs.YtjgojgmgicpgaaaGreat
