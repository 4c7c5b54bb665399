/- Arguments of layer 16's laws opened: a pair, slices of pairs, of strings, of calls. No condition beyond the form's own. -/
import Derived.Test.YtkadcaihihgceaaHra
import Derived.Deep.Slices
import Derived.Deep.Fields
import Derived.SizedLaws
import Derived.ChangeArms
import Derived.OpenShut
namespace Go.Proofs.Ytkadcaihihgceaa
open Go.ChangeShapes Go.WideShapes Go.RowKit Go.Deep
set_option linter.unusedSimpArgs false
set_option linter.unusedVariables false

/-- A slice of elements of k cells as an argument: what it reads as. -/
theorem open_rows {H κ : Type} {enc : TypeId × Value → H} {W : World} {base : Nat} {sp : Nat → Bool} {held : Bool} {a : Option Addr} {len cap : Nat} {d : DataW H} {p : List MemPlace} {tS e k : Nat} (encE : κ → List Value)
    (hu : Try.prog.underlying tS = some (.slice e)) (hk : Try.prog.cellsOf e = k) (hk0 : 0 < k) (hlen : ∀ y, (encE y).length = k)
    (htr : ∀ (sp : Nat → Bool) (held : Bool) (base fuel : Nat) (cs : List Value) (x : DataW H × List MemPlace), DataW.trod enc Try.prog W base sp held fuel e cs = some x → ∃ y : κ, cs = encE y)
    (h : DataW.Trod enc Try.prog W base sp held tS (.slice a len cap) d p) :
    ∃ l : List κ, len = l.length ∧ RdK W k a (l.map encE) ∧ len ≤ cap ∧ cap ≤ 9223372036854775807 := by
  obtain ⟨fuel, hf⟩ := h
  rcases open_slice hu hf with ⟨hcs, _⟩ | ⟨x, n', c, m, n, D, Pl, hcs, _, hl, hm, hmm, hx, hi⟩
  · simp [Value.cells] at hcs
    obtain ⟨rfl, rfl, rfl⟩ := hcs
    exact ⟨[], rfl, RdK.nil _ _ _, Nat.le_refl _, by omega⟩
  · simp [Value.cells] at hcs
    obtain ⟨rfl, rfl, rfl⟩ := hcs
    rw [hk] at hi
    have hlm : len ≤ m := by rw [hmm]; split <;> omega
    have hm' : cap ≤ 9223372036854775807 := by unfold maxLen at hm; omega
    have hspot : 0 < len → x.spot = none := fun h => by
      obtain ⟨cs', hc, ht⟩ := hi 0 (by omega)
      obtain ⟨_, hcl, hat⟩ := World.cells?_some hc
      have h0 := hat 0 (by omega)
      rw [List.getElem?_eq_getElem (by omega)] at h0
      simpa [Addr.add] using World.cell?_spot h0
    have key : ∀ i, i < len → ∃ y : κ, ∃ g o, x = ⟨g, o, none⟩ ∧ W.rangeAt g (o + i * k) (encE y) := fun i hlt => by
      obtain ⟨cs', hc, ht⟩ := hi i (by omega)
      obtain ⟨_, hcl, hat⟩ := World.cells?_some hc
      obtain ⟨y, rfl⟩ := htr _ _ _ _ _ _ ht
      obtain ⟨g, o, spot⟩ := x
      have hs : spot = none := hspot (by omega)
      subst hs
      refine ⟨y, g, o, rfl, fun j v hv => ?_⟩
      have hj : j < k := by rw [← hlen y]; exact (List.getElem?_eq_some_iff.1 hv).1
      have h1 := hat j (by omega)
      rw [Addr.add_lit, Addr.add_lit, hv] at h1
      exact h1
    have pick : ∀ n, n ≤ len → ∃ l : List κ, l.length = n ∧ RdK W k (some x) (l.map encE) := by
      intro n
      induction n with
      | zero => exact fun _ => ⟨[], rfl, RdK.nil _ _ _⟩
      | succ n ih =>
        intro hn
        obtain ⟨l, hll, hr⟩ := ih (by omega)
        obtain ⟨y, g, o, hxx, hrg⟩ := key n (by omega)
        refine ⟨l ++ [y], by simp [hll], fun i z hz => ?_⟩
        rw [List.map_append] at hz
        by_cases hi' : i < (l.map encE).length
        · rw [List.getElem?_append_left hi'] at hz; exact hr i z hz
        · rw [List.getElem?_append_right (by omega)] at hz
          have e : i = n := by
            have := (List.getElem?_eq_some_iff.1 hz).1
            simp at this hi'; omega
          subst e
          simp [hll] at hz
          subst hz
          exact ⟨g, o, by rw [hxx], hrg⟩
    obtain ⟨l, hll, hr⟩ := pick len (Nat.le_refl _)
    exact ⟨l, hll.symm, hr, by omega, hm'⟩
theorem cellsPr : Try.prog.cellsOf 27 = 2 := by kernel_rfl
theorem cellsI1 : Try.prog.cellsOf 3 = 1 := by kernel_rfl
theorem cellsB1 : Try.prog.cellsOf 4 = 1 := by kernel_rfl
theorem cellsS1 : Try.prog.cellsOf 9 = 1 := by kernel_rfl
theorem cellsOp4 : Try.prog.cellsOf 34 = 4 := by kernel_rfl
theorem list2' {α : Type} (l : List α) (h : l.length = 2) : ∃ a b, l = [a, b] := by
  match l, h with
  | [a, b], _ => exact ⟨a, b, rfl⟩
theorem list3' {α : Type} (l : List α) (h : l.length = 3) : ∃ a b c, l = [a, b, c] := by
  match l, h with
  | [a, b, c], _ => exact ⟨a, b, c, rfl⟩
theorem list4' {α : Type} (l : List α) (h : l.length = 4) : ∃ a b c d, l = [a, b, c, d] := by
  match l, h with
  | [a, b, c, d], _ => exact ⟨a, b, c, d, rfl⟩
theorem trod_pr {H : Type} {enc : TypeId × Value → H} {W : World} {base : Nat} {sp : Nat → Bool} {held : Bool} {fuel : Nat} {cs : List Value} {x : DataW H × List MemPlace}
    (h : DataW.trod enc Try.prog W base sp held fuel 27 cs = some x) : ∃ k : Px, cs = eX k ∧ x.1 = .agg [.lit (.int .i64 k.1), .lit (.int .i64 k.2)] ∧ x.2 = [] ∧ (Lit.int .i64 k.1).wf = true ∧ (Lit.int .i64 k.2).wf = true := by
  obtain ⟨ys, n, _, hx, hlen, hyl, hf⟩ := DataW.trod_struct Try.underlying27 h
  rw [cellsPr] at hlen
  obtain ⟨c0, c1, rfl⟩ := list2' cs hlen
  obtain ⟨y0, y1, rfl⟩ := list2' ys (by simpa using hyl)
  have h0 : DataW.trod enc Try.prog W base sp held n 3 (List.take (Try.prog.cellsOf 3) [c0, c1]) = some y0 := hf 0 _ rfl
  have h1 : DataW.trod enc Try.prog W base sp held n 3 (List.take (Try.prog.cellsOf 3) [c1]) = some y1 := hf 1 _ rfl
  rw [cellsI1] at h0 h1
  obtain ⟨a, e0, r0, w0⟩ := DataW.trod_int Try.underlying3 h0
  obtain ⟨b, e1, r1, w1⟩ := DataW.trod_int Try.underlying3 h1
  simp at e0 e1
  subst e0 e1 r0 r1
  refine ⟨(a, b), rfl, by rw [hx]; rfl, by rw [hx]; rfl, w0, w1⟩
/-- A call of the law. -/
abbrev Ok := Int × Px × Bool
abbrev eO (x : Ok) : List Value := [.int .i64 x.1, .int .i64 x.2.1.1, .int .i64 x.2.1.2, .bool x.2.2]
theorem trod_okk {H : Type} {enc : TypeId × Value → H} {W : World} {base : Nat} {sp : Nat → Bool} {held : Bool} {fuel : Nat} {cs : List Value} {x : DataW H × List MemPlace}
    (h : DataW.trod enc Try.prog W base sp held fuel 34 cs = some x) : ∃ k : Ok, cs = eO k := by
  obtain ⟨ys, n, _, hx, hlen, hyl, hf⟩ := DataW.trod_struct Try.underlying34 h
  rw [cellsOp4] at hlen
  obtain ⟨c0, c1, c2, c3, rfl⟩ := list4' cs hlen
  obtain ⟨y0, y1, y2, rfl⟩ := list3' ys (by simpa using hyl)
  have h0 : DataW.trod enc Try.prog W base sp held n 3 (List.take (Try.prog.cellsOf 3) [c0, c1, c2, c3]) = some y0 := hf 0 _ rfl
  have h1 : DataW.trod enc Try.prog W base sp held n 27 (List.take (Try.prog.cellsOf 27) [c1, c2, c3]) = some y1 := hf 1 _ rfl
  have h3 : DataW.trod enc Try.prog W base sp held n 4 (List.take (Try.prog.cellsOf 4) [c3]) = some y2 := hf 2 _ rfl
  rw [cellsI1] at h0
  rw [cellsPr] at h1
  rw [cellsB1] at h3
  obtain ⟨a, e0, _, _⟩ := DataW.trod_int Try.underlying3 h0
  obtain ⟨k, e1, _⟩ := trod_pr h1
  obtain ⟨b, e3, _⟩ := DataW.trod_bool Try.underlying4 h3
  simp at e0 e1 e3
  obtain ⟨rfl, rfl⟩ := e1
  subst e0 e3
  exact ⟨(a, k, b), rfl⟩
section
variable {H : Type} {enc : TypeId × Value → H} {W : World} {base : Nat} {sp : Nat → Bool} {held : Bool}
theorem open_pair {r : Reach} {b0 : Nat} {v : Value} {d : DataW H} {p : List MemPlace} (hval : Value.okWide Try.prog W r b0 27 v) (h : DataW.Trod enc Try.prog W base sp held 27 v d p) : ∃ k : Px, v = .agg #[.int .i64 k.1, .int .i64 k.2] := by
  obtain ⟨cs, rfl, hsz⟩ := okWide_struct Try.underlying27 hval
  obtain ⟨cs⟩ := cs
  obtain ⟨fuel, hf⟩ := h
  obtain ⟨k, e, hd⟩ := trod_pr hf
  simp [Value.cells] at e
  subst e
  exact ⟨k, rfl⟩
theorem open_pairs {a : Option Addr} {len cap : Nat} {d : DataW H} {p : List MemPlace} (h : DataW.Trod enc Try.prog W base sp held 30 (.slice a len cap) d p) : ∃ l : List Px, len = l.length ∧ RdK W 2 a (l.map eX) ∧ len ≤ cap ∧ cap ≤ 9223372036854775807 :=
  open_rows eX Try.underlying30 cellsPr (by omega) (fun _ => rfl) (fun _ _ _ _ _ _ h => (trod_pr h).imp fun _ h => h.1) h
theorem open_okks {a : Option Addr} {len cap : Nat} {d : DataW H} {p : List MemPlace} (h : DataW.Trod enc Try.prog W base sp held 22 (.slice a len cap) d p) : ∃ l : List Ok, len = l.length ∧ RdK W 4 a (l.map eO) ∧ len ≤ cap ∧ cap ≤ 9223372036854775807 :=
  open_rows eO Try.underlying22 cellsOp4 (by omega) (fun _ => rfl) (fun _ _ _ _ _ _ h => trod_okk h) h
theorem open_strs {a : Option Addr} {len cap : Nat} {d : DataW H} {p : List MemPlace} (h : DataW.Trod enc Try.prog W base sp held 46 (.slice a len cap) d p) : ∃ l : List ByteArray, len = l.length ∧ RdK W 1 a (l.map fun s => [.string s]) ∧ len ≤ cap ∧ cap ≤ 9223372036854775807 :=
  open_rows (fun s => [.string s]) Try.underlying46 cellsS1 (by omega) (fun _ => rfl) (fun _ _ _ _ _ _ h => by
    obtain ⟨s, e, _⟩ := DataW.trod_string Try.underlying9 h
    exact ⟨s, e⟩) h
end
end Go.Proofs.Ytkadcaihihgceaa
