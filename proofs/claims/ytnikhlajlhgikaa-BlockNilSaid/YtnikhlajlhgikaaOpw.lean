/- Calls of the store as arguments: a call of four cells, a slice of such, opened: what they hold, and that their texts are not longer than Go can have. No condition beyond the form's own. -/
import Derived.Test.YtnikhlajlhgikaaMem
import Derived.Test.YtnikhlajlhgikaaBkk
import Derived.Deep.Slices
import Derived.Deep.Fields
import Derived.SizedLaws
import Derived.ChangeArms
namespace Go.Proofs.Ytnikhlajlhgikaa
open Go.ChangeShapes Go.WideShapes Go.RowKit Go.Deep
set_option linter.unusedSimpArgs false
set_option linter.unusedVariables false

/-- A call: its kind, two integers, bytes. -/
abbrev Ox := Int × Int × Int × ByteArray
/-- A slice at this address reads as these calls. -/
def RdO (w : World) (A : Option Addr) (l : List Ox) : Prop :=
  ∀ i x, l[i]? = some x → ∃ g o, A = some ⟨g, o, none⟩ ∧ w.cell? ⟨g, o + i * 4, none⟩ = some (.int .i64 x.1) ∧ w.cell? ⟨g, o + i * 4 + 1, none⟩ = some (.int .i64 x.2.1) ∧ w.cell? ⟨g, o + i * 4 + 2, none⟩ = some (.int .i64 x.2.2.1) ∧ w.cell? ⟨g, o + i * 4 + 3, none⟩ = some (.string x.2.2.2)
section
variable {w w' : World} {A : Option Addr} {l : List Ox}
theorem RdO.nil (w : World) (A : Option Addr) : RdO w A [] := by intro i b h; simp at h
theorem RdO.later (h : RdO w A l) (hb : Below w.heap.size w w') : RdO w' A l := fun i b hb' => by
  obtain ⟨g, o, ha, h1, h2, h3, h4⟩ := h i b hb'
  exact ⟨g, o, ha, (hb.cell (World.block_lt_of_cell? w _ h1)).trans h1, (hb.cell (World.block_lt_of_cell? w _ h2)).trans h2, (hb.cell (World.block_lt_of_cell? w _ h3)).trans h3, (hb.cell (World.block_lt_of_cell? w _ h4)).trans h4⟩
theorem RdO.at (h : RdO w A l) {i : Nat} (hi : i < l.length) : ∃ g o, A = some ⟨g, o, none⟩ ∧ g < w.heap.size ∧ w.cell? ⟨g, o + i * 4, none⟩ = some (.int .i64 l[i].1) ∧ w.cell? ⟨g, o + i * 4 + 1, none⟩ = some (.int .i64 l[i].2.1) ∧ w.cell? ⟨g, o + i * 4 + 2, none⟩ = some (.int .i64 l[i].2.2.1) ∧ w.cell? ⟨g, o + i * 4 + 3, none⟩ = some (.string l[i].2.2.2) := by
  obtain ⟨g, o, ha, h1, h2, h3, h4⟩ := h i l[i] (List.getElem?_eq_getElem hi)
  exact ⟨g, o, ha, World.block_lt_of_cell? w _ h1, h1, h2, h3, h4⟩
end
theorem cellsOx : Try.prog.cellsOf 34 = 4 := by kernel_rfl
theorem cells9 : Try.prog.cellsOf 9 = 1 := by kernel_rfl
theorem cells3 : Try.prog.cellsOf 3 = 1 := by kernel_rfl
theorem list4 {α : Type} (l : List α) (h : l.length = 4) : ∃ a b c d, l = [a, b, c, d] := by
  match l, h with
  | [a, b, c, d], _ => exact ⟨a, b, c, d, rfl⟩
/-- Its first integer is one that Go can have. -/
def okO (x : Ox) : Prop := x.2.1 ≤ 9223372036854775807
/-- A call as data. -/
def datO {H : Type} (x : Ox) : DataW H := .agg [.lit (.int .i64 x.1), .lit (.int .i64 x.2.1), .lit (.int .i64 x.2.2.1), .lit (.string x.2.2.2.data.toList)]
theorem trod_ox {H : Type} {enc : TypeId × Value → H} {W : World} {base : Nat} {sp : Nat → Bool} {held : Bool} {fuel : Nat} {cs : List Value} {x : DataW H × List MemPlace}
    (h : DataW.trod enc Try.prog W base sp held fuel 34 cs = some x) : ∃ k : Ox, cs = [.int .i64 k.1, .int .i64 k.2.1, .int .i64 k.2.2.1, .string k.2.2.2] ∧ x.1 = datO k ∧ okO k := by
  obtain ⟨ys, n, _, hx, hlen, hyl, hf⟩ := DataW.trod_struct Try.underlying34 h
  rw [cellsOx] at hlen
  obtain ⟨c0, c1, c2, c3, rfl⟩ := list4 cs hlen
  obtain ⟨y0, y1, y2, y3, rfl⟩ := list4 ys (by simpa using hyl)
  have h0 : DataW.trod enc Try.prog W base sp held n 3 (List.take (Try.prog.cellsOf 3) [c0, c1, c2, c3]) = some y0 := hf 0 _ rfl
  have h1 : DataW.trod enc Try.prog W base sp held n 3 (List.take (Try.prog.cellsOf 3) [c1, c2, c3]) = some y1 := hf 1 _ rfl
  have h2 : DataW.trod enc Try.prog W base sp held n 3 (List.take (Try.prog.cellsOf 3) [c2, c3]) = some y2 := hf 2 _ rfl
  have h3 : DataW.trod enc Try.prog W base sp held n 9 (List.take (Try.prog.cellsOf 9) [c3]) = some y3 := hf 3 _ rfl
  rw [cells3] at h0 h1 h2
  rw [cells9] at h3
  obtain ⟨a, e0, r0, _⟩ := DataW.trod_int Try.underlying3 h0
  obtain ⟨b, e1, r1, wb⟩ := DataW.trod_int Try.underlying3 h1
  obtain ⟨c, e2, r2, _⟩ := DataW.trod_int Try.underlying3 h2
  obtain ⟨s, e3, r3, _⟩ := DataW.trod_string Try.underlying9 h3
  simp at e0 e1 e2 e3
  subst e0 e1 e2 e3 r0 r1 r2 r3
  have hb : -9223372036854775808 ≤ b ∧ b ≤ 9223372036854775807 := by simpa [Lit.wf, IntKind.min, IntKind.max, IntKind.signed, IntKind.bits] using wb
  exact ⟨(a, b, c, s), rfl, by rw [hx]; rfl, hb.2⟩
theorem weightsAll_mem' {H : Type} {P : Program} {e : TypeId} : ∀ {l : List (DataW H)} {d : DataW H}, d ∈ l → ∀ n ∈ d.weights P e, n ∈ DataW.weightsAll P e l
  | d' :: r, d, hd, n, hn => by
    simp only [DataW.weightsAll, List.mem_append]
    rcases List.mem_cons.1 hd with rfl | h
    · exact .inl hn
    · exact .inr (weightsAll_mem' h n hn)
theorem sized_ox {H : Type} {ts : List TypeId} {ds : List (DataW H)} (h : (DataW.weightsEach Try.prog ts ds).all (· ≤ reachBytes) = true) {j : Nat} {x : Ox} (ht : ts[j]? = some 34) (hd : ds[j]? = some (datO x)) : x.2.2.2.size ≤ 140737488351232 := by
  have key : ∀ n, n ∈ (datO (H := H) x).weights Try.prog 34 → n ≤ 140737488351232 := fun n hn => of_decide_eq_true (List.all_eq_true.1 h n (DataW.weights_mem_each ht hd n hn))
  have e1 : x.2.2.2.data.toList.length = x.2.2.2.size := by simp
  rw [← e1]
  exact key _ (by simp [datO, DataW.weights, Try.underlying34, DataW.weightsEach])
theorem sized_oxs {H : Type} {ts : List TypeId} {ds : List (DataW H)} (h : (DataW.weightsEach Try.prog ts ds).all (· ≤ reachBytes) = true) {j : Nat} {elems spare : List (DataW H)} {x : Ox}
    (ht : ts[j]? = some 22) (hd : ds[j]? = some (.slice elems spare)) (hx : datO x ∈ elems) : x.2.2.2.size ≤ 140737488351232 := by
  have key : ∀ n, n ∈ (datO (H := H) x).weights Try.prog 34 → n ≤ 140737488351232 := fun n hn => by
    have := of_decide_eq_true (List.all_eq_true.1 h n (DataW.weights_mem_each ht hd n (by
      simp only [DataW.weights, Try.underlying22, List.mem_cons, List.mem_append]
      exact .inr (.inl (weightsAll_mem' hx n hn)))))
    exact this
  have e1 : x.2.2.2.data.toList.length = x.2.2.2.size := by simp
  rw [← e1]
  exact key _ (by simp [datO, DataW.weights, Try.underlying34, DataW.weightsEach])
section
variable {H : Type} {enc : TypeId × Value → H} {W : World} {base : Nat} {sp : Nat → Bool} {held : Bool}
theorem open_ox {r : Reach} {b0 : Nat} {v : Value} {d : DataW H} {p : List MemPlace} (hval : Value.okWide Try.prog W r b0 34 v) (h : DataW.Trod enc Try.prog W base sp held 34 v d p) :
    ∃ k i n s, v = .agg #[.int .i64 k, .int .i64 i, .int .i64 n, .string s] ∧ d = datO (k, i, n, s) := by
  obtain ⟨cs, rfl, hsz⟩ := okWide_struct Try.underlying34 hval
  obtain ⟨cs⟩ := cs
  obtain ⟨fuel, hf⟩ := h
  obtain ⟨k, e, hd⟩ := trod_ox hf
  simp [Value.cells] at e
  subst e
  exact ⟨k.1, k.2.1, k.2.2.1, k.2.2.2, rfl, hd.1⟩
end
theorem open_oxs {H : Type} {enc : TypeId × Value → H} {W : World} {base : Nat} {sp : Nat → Bool} {held : Bool} {a : Option Addr} {len cap : Nat} {d : DataW H} {p : List MemPlace}
    (h : DataW.Trod enc Try.prog W base sp held 22 (.slice a len cap) d p) :
    ∃ l : List Ox, len = l.length ∧ RdO W a l ∧ len ≤ cap ∧ cap ≤ 9223372036854775807 ∧ ∀ x ∈ l, ∃ elems spare, d = .slice elems spare ∧ datO x ∈ elems ∧ okO x := by
  obtain ⟨fuel, hf⟩ := h
  rcases open_slice Try.underlying22 hf with ⟨hcs, _⟩ | ⟨x, n', c, m, n, D, Pl, hcs, _, hl, hm, hmm, hx, hi⟩
  · simp [Value.cells] at hcs
    obtain ⟨rfl, rfl, rfl⟩ := hcs
    exact ⟨[], rfl, RdO.nil _ _, Nat.le_refl _, by omega, fun x hx => by simp at hx⟩
  · simp [Value.cells] at hcs
    obtain ⟨rfl, rfl, rfl⟩ := hcs
    rw [cellsOx] at hi
    have hlm : len ≤ m := by rw [hmm]; split <;> omega
    have hm' : cap ≤ 9223372036854775807 := by unfold maxLen at hm; omega
    have hdat : d = .slice ((List.range len).map D) ((List.range (m - len)).map fun j => D (len + j)) := congrArg Prod.fst hx
    have hspot : 0 < len → x.spot = none := fun h => by
      obtain ⟨cs', hc, ht⟩ := hi 0 (by omega)
      obtain ⟨_, hcl, hat⟩ := World.cells?_some hc
      have h0 := hat 0 (by omega)
      rw [List.getElem?_eq_getElem (by omega)] at h0
      simpa [Addr.add] using World.cell?_spot h0
    have key : ∀ i, i < len → ∃ k : Ox, ∃ g o, x = ⟨g, o, none⟩ ∧ W.cell? ⟨g, o + i * 4, none⟩ = some (.int .i64 k.1) ∧ W.cell? ⟨g, o + i * 4 + 1, none⟩ = some (.int .i64 k.2.1) ∧ W.cell? ⟨g, o + i * 4 + 2, none⟩ = some (.int .i64 k.2.2.1) ∧ W.cell? ⟨g, o + i * 4 + 3, none⟩ = some (.string k.2.2.2) ∧ (D i = datO k ∧ okO k) := fun i hlt => by
      obtain ⟨cs', hc, ht⟩ := hi i (by omega)
      obtain ⟨_, hcl, hat⟩ := World.cells?_some hc
      obtain ⟨k, rfl, hk⟩ := trod_ox ht
      have h0 := hat 0 (by omega)
      have h1 := hat 1 (by omega)
      have h2 := hat 2 (by omega)
      have h3 := hat 3 (by omega)
      simp at h0 h1 h2 h3
      obtain ⟨g, o, spot⟩ := x
      have hs : spot = none := hspot (by omega)
      subst hs
      rw [Addr.add_lit] at h0 h1 h2 h3
      rw [Addr.add_lit] at h1 h2 h3
      exact ⟨k, g, o, rfl, by simpa [Addr.add] using h0, h1, h2, h3, hk⟩
    have pick : ∀ n, n ≤ len → ∃ l : List Ox, l.length = n ∧ RdO W (some x) l ∧ ∀ i k, l[i]? = some k → (D i = datO k ∧ okO k) := by
      intro n
      induction n with
      | zero => exact fun _ => ⟨[], rfl, RdO.nil _ _, fun i k hk => by simp at hk⟩
      | succ n ih =>
        intro hn
        obtain ⟨l, hll, hr, hD⟩ := ih (by omega)
        obtain ⟨k, g, o, hxx, h0, h1, h2, h3, hk⟩ := key n (by omega)
        refine ⟨l ++ [k], by simp [hll], fun i y hy => ?_, fun i y hy => ?_⟩
        · by_cases hi' : i < l.length
          · rw [List.getElem?_append_left hi'] at hy; exact hr i y hy
          · rw [List.getElem?_append_right (by omega)] at hy
            have e : i = n := by
              have := (List.getElem?_eq_some_iff.1 hy).1
              simp at this; omega
            subst e
            rw [show i - l.length = 0 by omega] at hy
            simp at hy; subst hy
            exact ⟨g, o, by rw [hxx], h0, h1, h2, h3⟩
        · by_cases hi' : i < l.length
          · rw [List.getElem?_append_left hi'] at hy; exact hD i y hy
          · rw [List.getElem?_append_right (by omega)] at hy
            have e : i = n := by
              have := (List.getElem?_eq_some_iff.1 hy).1
              simp at this; omega
            subst e
            rw [show i - l.length = 0 by omega] at hy
            simp at hy; subst hy
            exact hk
    obtain ⟨l, hll, hr, hD⟩ := pick len (Nat.le_refl _)
    refine ⟨l, hll.symm, hr, hl, hm', fun y hy => ?_⟩
    obtain ⟨i, hi', e⟩ := List.getElem_of_mem hy
    have hk := hD i y (by rw [List.getElem?_eq_getElem hi', e])
    exact ⟨_, _, hdat, List.mem_map.2 ⟨i, List.mem_range.2 (by omega), hk.1⟩, hk.2⟩
end Go.Proofs.Ytnikhlajlhgikaa
