/- Arguments of layer 17's laws opened: a call, slices of calls; a vector's first number is an int. No condition beyond the form's own. -/
import Derived.Test.YtiklogoookngaaaBxa
import Derived.Deep.Slices
import Derived.Deep.Fields
import Derived.SizedLaws
import Derived.ChangeArms
import Derived.OpenShut
import Derived.Test.YtiklogoookngaaaArr
namespace Go.Proofs.Ytiklogoookngaaa
open Go.ChangeShapes Go.WideShapes Go.RowKit Go.Deep
set_option linter.unusedSimpArgs false
set_option linter.unusedVariables false

/-- A slice of elements of k cells as an argument: what it reads as. -/
theorem open_rows {H κ : Type} {enc : TypeId × Value → H} {W : World} {base : Nat} {sp : Nat → Bool} {held : Bool} {a : Option Addr} {len cap : Nat} {d : DataW H} {p : List MemPlace} {tS e k : Nat} (encE : κ → List Value) (okE : κ → Prop)
    (hu : Try.prog.underlying tS = some (.slice e)) (hk : Try.prog.cellsOf e = k) (hk0 : 0 < k) (hlen : ∀ y, (encE y).length = k)
    (htr : ∀ (sp : Nat → Bool) (held : Bool) (base fuel : Nat) (cs : List Value) (x : DataW H × List MemPlace), DataW.trod enc Try.prog W base sp held fuel e cs = some x → ∃ y : κ, cs = encE y ∧ okE y)
    (h : DataW.Trod enc Try.prog W base sp held tS (.slice a len cap) d p) :
    ∃ l : List κ, len = l.length ∧ RdK W k a (l.map encE) ∧ len ≤ cap ∧ cap ≤ 9223372036854775807 ∧ ∀ y ∈ l, okE y := by
  obtain ⟨fuel, hf⟩ := h
  rcases open_slice hu hf with ⟨hcs, _⟩ | ⟨x, n', c, m, n, D, Pl, hcs, _, hl, hm, hmm, hx, hi⟩
  · simp [Value.cells] at hcs
    obtain ⟨rfl, rfl, rfl⟩ := hcs
    exact ⟨[], rfl, RdK.nil _ _ _, Nat.le_refl _, by omega, by simp⟩
  · simp [Value.cells] at hcs
    obtain ⟨rfl, rfl, rfl⟩ := hcs
    rw [hk] at hi
    have hlm : len ≤ m := by rw [hmm]; split <;> omega
    have hm' : cap ≤ 9223372036854775807 := by unfold maxLen at hm; omega
    have hspot : 0 < len → x.spot = none := fun h => by
      obtain ⟨cs', hc, ht⟩ := hi 0 (by omega)
      obtain ⟨_, hcl, hat⟩ := World.cells?_some hc
      have h0 := hat 0 (by omega)
      rw [List.getElem?_eq_getElem (by omega)] at h0
      simpa [Addr.add] using World.cell?_spot h0
    have key : ∀ i, i < len → ∃ y : κ, ∃ g o, x = ⟨g, o, none⟩ ∧ W.rangeAt g (o + i * k) (encE y) ∧ okE y := fun i hlt => by
      obtain ⟨cs', hc, ht⟩ := hi i (by omega)
      obtain ⟨_, hcl, hat⟩ := World.cells?_some hc
      obtain ⟨y, rfl, hok⟩ := htr _ _ _ _ _ _ ht
      obtain ⟨g, o, spot⟩ := x
      have hs : spot = none := hspot (by omega)
      subst hs
      refine ⟨y, g, o, rfl, fun j v hv => ?_, hok⟩
      have hj : j < k := by rw [← hlen y]; exact (List.getElem?_eq_some_iff.1 hv).1
      have h1 := hat j (by omega)
      rw [Addr.add_lit, Addr.add_lit, hv] at h1
      exact h1
    have pick : ∀ n, n ≤ len → ∃ l : List κ, l.length = n ∧ RdK W k (some x) (l.map encE) ∧ ∀ y ∈ l, okE y := by
      intro n
      induction n with
      | zero => exact fun _ => ⟨[], rfl, RdK.nil _ _ _, by simp⟩
      | succ n ih =>
        intro hn
        obtain ⟨l, hll, hr, hall⟩ := ih (by omega)
        obtain ⟨y, g, o, hxx, hrg, hok⟩ := key n (by omega)
        refine ⟨l ++ [y], by simp [hll], fun i z hz => ?_, fun z hz => (List.mem_append.1 hz).elim (hall z) fun hz => by rw [List.mem_singleton.1 hz]; exact hok⟩
        rw [List.map_append] at hz
        by_cases hi' : i < (l.map encE).length
        · rw [List.getElem?_append_left hi'] at hz; exact hr i z hz
        · rw [List.getElem?_append_right (by omega)] at hz
          have e : i = n := by
            have := (List.getElem?_eq_some_iff.1 hz).1
            simp at this hi'; omega
          subst e
          simp [hll] at hz
          subst hz
          exact ⟨g, o, by rw [hxx], hrg⟩
    obtain ⟨l, hll, hr, hall⟩ := pick len (Nat.le_refl _)
    exact ⟨l, hll.symm, hr, by omega, hm', hall⟩
theorem cellsI1 : Try.prog.cellsOf 3 = 1 := by kernel_rfl
theorem cellsS1 : Try.prog.cellsOf 9 = 1 := by kernel_rfl
theorem cellsR3 : Try.prog.cellsOf 37 = 3 := by kernel_rfl
theorem cellsOq : Try.prog.cellsOf 39 = 5 := by kernel_rfl
theorem list3' {α : Type} (l : List α) (h : l.length = 3) : ∃ a b c, l = [a, b, c] := by
  match l, h with
  | [a, b, c], _ => exact ⟨a, b, c, rfl⟩
theorem list5' {α : Type} (l : List α) (h : l.length = 5) : ∃ a b c d e, l = [a, b, c, d, e] := by
  match l, h with
  | [a, b, c, d, e], _ => exact ⟨a, b, c, d, e, rfl⟩
theorem wf_i64 {a : Int} (h : (Lit.int .i64 a).wf = true) : -9223372036854775808 ≤ a ∧ a ≤ 9223372036854775807 := by
  simp [Lit.wf, IntKind.min, IntKind.max, IntKind.signed, IntKind.bits] at h
  omega
theorem trod_res {H : Type} {enc : TypeId × Value → H} {W : World} {base : Nat} {sp : Nat → Bool} {held : Bool} {fuel : Nat} {cs : List Value} {x : DataW H × List MemPlace} (hl : cs.length = 3)
    (h : DataW.trod enc Try.prog W base sp held fuel 37 cs = some x) : ∃ t : R3, cs = [.int .i64 t.1, .int .i64 t.2.1, .int .i64 t.2.2] ∧ okV t := by
  obtain ⟨c0, c1, c2, rfl⟩ := list3' cs hl
  obtain ⟨y0, y1, y2, m, hx, hy0, hy1, hy2⟩ := trod_array3 Try.underlying37 cells3 h
  obtain ⟨x0, e0, rfl, w0⟩ := DataW.trod_int Try.underlying3 hy0
  obtain ⟨x1, e1, rfl, w1⟩ := DataW.trod_int Try.underlying3 hy1
  obtain ⟨x2, e2, rfl, w2⟩ := DataW.trod_int Try.underlying3 hy2
  simp at e0 e1 e2
  subst e0 e1 e2
  exact ⟨(x0, x1, x2), rfl, wf_i64 w0⟩
theorem trod_oq {H : Type} {enc : TypeId × Value → H} {W : World} {base : Nat} {sp : Nat → Bool} {held : Bool} {fuel : Nat} {cs : List Value} {x : DataW H × List MemPlace}
    (h : DataW.trod enc Try.prog W base sp held fuel 39 cs = some x) : ∃ k : Oq, cs = eQ k ∧ okV k.2.2 := by
  obtain ⟨ys, n, _, hx, hlen, hyl, hf⟩ := DataW.trod_struct Try.underlying39 h
  rw [cellsOq] at hlen
  obtain ⟨c0, c1, c2, c3, c4, rfl⟩ := list5' cs hlen
  obtain ⟨y0, y1, y2, rfl⟩ := list3' ys (by simpa using hyl)
  have h0 : DataW.trod enc Try.prog W base sp held n 3 (List.take (Try.prog.cellsOf 3) [c0, c1, c2, c3, c4]) = some y0 := hf 0 _ rfl
  have h1 : DataW.trod enc Try.prog W base sp held n 9 (List.take (Try.prog.cellsOf 9) [c1, c2, c3, c4]) = some y1 := hf 1 _ rfl
  have h2 : DataW.trod enc Try.prog W base sp held n 37 (List.take (Try.prog.cellsOf 37) [c2, c3, c4]) = some y2 := hf 2 _ rfl
  rw [cellsI1] at h0
  rw [cellsS1] at h1
  rw [cellsR3] at h2
  obtain ⟨a, e0, _, _⟩ := DataW.trod_int Try.underlying3 h0
  obtain ⟨s, e1, _⟩ := DataW.trod_string Try.underlying9 h1
  obtain ⟨t, e2, ht⟩ := trod_res rfl h2
  simp at e0 e1 e2
  obtain ⟨rfl, rfl, rfl⟩ := e2
  subst e0 e1
  exact ⟨(a, s, t), rfl, ht⟩
section
variable {H : Type} {enc : TypeId × Value → H} {W : World} {base : Nat} {sp : Nat → Bool} {held : Bool}
theorem open_oq {r : Reach} {b0 : Nat} {v : Value} {d : DataW H} {p : List MemPlace} (hval : Value.okWide Try.prog W r b0 39 v) (h : DataW.Trod enc Try.prog W base sp held 39 v d p) : ∃ k : Oq, v = .agg #[.int .i64 k.1, .string k.2.1, .int .i64 k.2.2.1, .int .i64 k.2.2.2.1, .int .i64 k.2.2.2.2] ∧ okV k.2.2 := by
  obtain ⟨cs, rfl, hsz⟩ := okWide_struct Try.underlying39 hval
  obtain ⟨cs⟩ := cs
  obtain ⟨fuel, hf⟩ := h
  obtain ⟨k, e, hd⟩ := trod_oq hf
  simp [Value.cells] at e
  subst e
  exact ⟨k, rfl, hd⟩
theorem open_oqs {a : Option Addr} {len cap : Nat} {d : DataW H} {p : List MemPlace} (h : DataW.Trod enc Try.prog W base sp held 22 (.slice a len cap) d p) : ∃ l : List Oq, len = l.length ∧ RdK W 5 a (l.map eQ) ∧ len ≤ cap ∧ cap ≤ 9223372036854775807 ∧ ∀ y ∈ l, okV y.2.2 :=
  open_rows eQ (fun y => okV y.2.2) Try.underlying22 cellsOq (by omega) (fun _ => rfl) (fun _ _ _ _ _ _ h => trod_oq h) h
end
end Go.Proofs.Ytiklogoookngaaa
