/- Arguments of layer 19's laws opened: a call, slices of calls. No condition beyond the form's own. -/
import Derived.Test.YtbegbecmnhldkaaTwa
import Derived.Deep.Slices
import Derived.Deep.Fields
import Derived.SizedLaws
import Derived.ChangeArms
import Derived.OpenShut
namespace Go.Proofs.Ytbegbecmnhldkaa
open Go.ChangeShapes Go.WideShapes Go.RowKit Go.Deep
set_option linter.unusedSimpArgs false
set_option linter.unusedVariables false

/-- A slice of elements of k cells as an argument: what it reads as. -/
theorem open_rowsT {H κ : Type} {enc : TypeId × Value → H} {W : World} {base : Nat} {sp : Nat → Bool} {held : Bool} {a : Option Addr} {len cap : Nat} {d : DataW H} {p : List MemPlace} {tS e k : Nat} (encE : κ → List Value) (okE : κ → Prop)
    (hu : Try.prog.underlying tS = some (.slice e)) (hk : Try.prog.cellsOf e = k) (hk0 : 0 < k) (hlen : ∀ y, (encE y).length = k)
    (htr : ∀ (sp : Nat → Bool) (held : Bool) (base fuel : Nat) (cs : List Value) (x : DataW H × List MemPlace), DataW.trod enc Try.prog W base sp held fuel e cs = some x → ∃ y : κ, cs = encE y ∧ okE y)
    (h : DataW.Trod enc Try.prog W base sp held tS (.slice a len cap) d p) :
    ∃ l : List κ, len = l.length ∧ RdK W k a (l.map encE) ∧ len ≤ cap ∧ cap ≤ 9223372036854775807 ∧ ∀ y ∈ l, okE y := by
  obtain ⟨fuel, hf⟩ := h
  rcases open_slice hu hf with ⟨hcs, _⟩ | ⟨x, n', c, m, n, D, Pl, hcs, _, hl, hm, hmm, hx, hi⟩
  · simp [Value.cells] at hcs
    obtain ⟨rfl, rfl, rfl⟩ := hcs
    exact ⟨[], rfl, RdK.nil _ _ _, Nat.le_refl _, by omega, by simp⟩
  · simp [Value.cells] at hcs
    obtain ⟨rfl, rfl, rfl⟩ := hcs
    rw [hk] at hi
    have hlm : len ≤ m := by rw [hmm]; split <;> omega
    have hm' : cap ≤ 9223372036854775807 := by unfold maxLen at hm; omega
    have hspot : 0 < len → x.spot = none := fun h => by
      obtain ⟨cs', hc, ht⟩ := hi 0 (by omega)
      obtain ⟨_, hcl, hat⟩ := World.cells?_some hc
      have h0 := hat 0 (by omega)
      rw [List.getElem?_eq_getElem (by omega)] at h0
      simpa [Addr.add] using World.cell?_spot h0
    have key : ∀ i, i < len → ∃ y : κ, ∃ g o, x = ⟨g, o, none⟩ ∧ W.rangeAt g (o + i * k) (encE y) ∧ okE y := fun i hlt => by
      obtain ⟨cs', hc, ht⟩ := hi i (by omega)
      obtain ⟨_, hcl, hat⟩ := World.cells?_some hc
      obtain ⟨y, rfl, hok⟩ := htr _ _ _ _ _ _ ht
      obtain ⟨g, o, spot⟩ := x
      have hs : spot = none := hspot (by omega)
      subst hs
      refine ⟨y, g, o, rfl, fun j v hv => ?_, hok⟩
      have hj : j < k := by rw [← hlen y]; exact (List.getElem?_eq_some_iff.1 hv).1
      have h1 := hat j (by omega)
      rw [Addr.add_lit, Addr.add_lit, hv] at h1
      exact h1
    have pick : ∀ n, n ≤ len → ∃ l : List κ, l.length = n ∧ RdK W k (some x) (l.map encE) ∧ ∀ y ∈ l, okE y := by
      intro n
      induction n with
      | zero => exact fun _ => ⟨[], rfl, RdK.nil _ _ _, by simp⟩
      | succ n ih =>
        intro hn
        obtain ⟨l, hll, hr, hall⟩ := ih (by omega)
        obtain ⟨y, g, o, hxx, hrg, hok⟩ := key n (by omega)
        refine ⟨l ++ [y], by simp [hll], fun i z hz => ?_, fun z hz => (List.mem_append.1 hz).elim (hall z) fun hz => by rw [List.mem_singleton.1 hz]; exact hok⟩
        rw [List.map_append] at hz
        by_cases hi' : i < (l.map encE).length
        · rw [List.getElem?_append_left hi'] at hz; exact hr i z hz
        · rw [List.getElem?_append_right (by omega)] at hz
          have e : i = n := by
            have := (List.getElem?_eq_some_iff.1 hz).1
            simp at this hi'; omega
          subst e
          simp [hll] at hz
          subst hz
          exact ⟨g, o, by rw [hxx], hrg⟩
    obtain ⟨l, hll, hr, hall⟩ := pick len (Nat.le_refl _)
    exact ⟨l, hll.symm, hr, by omega, hm', hall⟩
theorem cellsI1T : Try.prog.cellsOf 3 = 1 := by kernel_rfl
theorem cellsS1T : Try.prog.cellsOf 9 = 1 := by kernel_rfl
theorem cellsOe : Try.prog.cellsOf 37 = 3 := by kernel_rfl
theorem list3T {α : Type} (l : List α) (h : l.length = 3) : ∃ a b c, l = [a, b, c] := by
  match l, h with
  | [a, b, c], _ => exact ⟨a, b, c, rfl⟩
theorem trod_oe {H : Type} {enc : TypeId × Value → H} {W : World} {base : Nat} {sp : Nat → Bool} {held : Bool} {fuel : Nat} {cs : List Value} {x : DataW H × List MemPlace}
    (h : DataW.trod enc Try.prog W base sp held fuel 37 cs = some x) : ∃ k : Oe, cs = eE k ∧ True := by
  obtain ⟨ys, n, _, hx, hlen, hyl, hf⟩ := DataW.trod_struct Try.underlying37 h
  rw [cellsOe] at hlen
  obtain ⟨c0, c1, c2, rfl⟩ := list3T cs hlen
  obtain ⟨y0, y1, y2, rfl⟩ := list3T ys (by simpa using hyl)
  have h0 : DataW.trod enc Try.prog W base sp held n 3 (List.take (Try.prog.cellsOf 3) [c0, c1, c2]) = some y0 := hf 0 _ rfl
  have h1 : DataW.trod enc Try.prog W base sp held n 3 (List.take (Try.prog.cellsOf 3) [c1, c2]) = some y1 := hf 1 _ rfl
  have h2 : DataW.trod enc Try.prog W base sp held n 9 (List.take (Try.prog.cellsOf 9) [c2]) = some y2 := hf 2 _ rfl
  rw [cellsI1T] at h0 h1
  rw [cellsS1T] at h2
  obtain ⟨a, e0, _, _⟩ := DataW.trod_int Try.underlying3 h0
  obtain ⟨b, e1, _, _⟩ := DataW.trod_int Try.underlying3 h1
  obtain ⟨s, e2, _⟩ := DataW.trod_string Try.underlying9 h2
  simp at e0 e1 e2
  subst e0 e1 e2
  exact ⟨(a, b, s), rfl, trivial⟩
section
variable {H : Type} {enc : TypeId × Value → H} {W : World} {base : Nat} {sp : Nat → Bool} {held : Bool}
theorem open_oe {r : Reach} {b0 : Nat} {v : Value} {d : DataW H} {p : List MemPlace} (hval : Value.okWide Try.prog W r b0 37 v) (h : DataW.Trod enc Try.prog W base sp held 37 v d p) : ∃ k : Oe, v = .agg #[.int .i64 k.1, .int .i64 k.2.1, .string k.2.2] := by
  obtain ⟨cs, rfl, hsz⟩ := okWide_struct Try.underlying37 hval
  obtain ⟨cs⟩ := cs
  obtain ⟨fuel, hf⟩ := h
  obtain ⟨k, e, _⟩ := trod_oe hf
  simp [Value.cells] at e
  subst e
  exact ⟨k, rfl⟩
theorem open_oes {a : Option Addr} {len cap : Nat} {d : DataW H} {p : List MemPlace} (h : DataW.Trod enc Try.prog W base sp held 22 (.slice a len cap) d p) : ∃ l : List Oe, len = l.length ∧ RdK W 3 a (l.map eE) ∧ len ≤ cap ∧ cap ≤ 9223372036854775807 := by
  obtain ⟨l, h1, h2, h3, h4, _⟩ := open_rowsT eE (fun _ => True) Try.underlying22 cellsOe (by omega) (fun _ => rfl) (fun _ _ _ _ _ _ h => trod_oe h) h
  exact ⟨l, h1, h2, h3, h4⟩
end
end Go.Proofs.Ytbegbecmnhldkaa
