/- An argument that is a slice of labels, opened: what it reads as, and that its texts are not longer than Go can have. No condition beyond the form's own. -/
import Derived.Test.YtldijginplgikaaLab
import Derived.Deep.Slices
import Derived.Deep.Fields
import Derived.SizedLaws
import Derived.ChangeArms
namespace Go.Proofs.Ytldijginplgikaa
open Go.ChangeShapes Go.WideShapes Go.RowKit Go.Deep
set_option linter.unusedSimpArgs false
set_option linter.unusedVariables false

theorem cells33 : Try.prog.cellsOf 48 = 2 := by kernel_rfl
theorem cells9 : Try.prog.cellsOf 9 = 1 := by kernel_rfl
theorem list2 {α : Type} (l : List α) (h : l.length = 2) : ∃ a b, l = [a, b] := by
  match l, h with
  | [a, b], _ => exact ⟨a, b, rfl⟩

/-- A label as data. -/
def datL {H : Type} (x : Lb) : DataW H := .agg [.lit (.string x.1.data.toList), .lit (.string x.2.data.toList)]

theorem trod_label {H : Type} {enc : TypeId × Value → H} {W : World} {base : Nat} {sp : Nat → Bool} {held : Bool} {fuel : Nat} {cs : List Value} {x : DataW H × List MemPlace}
    (h : DataW.trod enc Try.prog W base sp held fuel 48 cs = some x) : ∃ k : Lb, cs = [.string k.1, .string k.2] ∧ x.1 = datL k := by
  obtain ⟨ys, n, _, hx, hlen, hyl, hf⟩ := DataW.trod_struct Try.underlying48 h
  rw [cells33] at hlen
  obtain ⟨c0, c1, rfl⟩ := list2 cs hlen
  obtain ⟨y0, y1, rfl⟩ := list2 ys (by simpa using hyl)
  have h0 : DataW.trod enc Try.prog W base sp held n 9 (List.take (Try.prog.cellsOf 9) [c0, c1]) = some y0 := hf 0 _ rfl
  have h1 : DataW.trod enc Try.prog W base sp held n 9 (List.take (Try.prog.cellsOf 9) [c1]) = some y1 := hf 1 _ rfl
  rw [cells9] at h0 h1
  obtain ⟨s, e0, r0, _⟩ := DataW.trod_string Try.underlying9 h0
  obtain ⟨t, e1, r1, _⟩ := DataW.trod_string Try.underlying9 h1
  simp at e0 e1
  subst e0 e1 r0 r1
  exact ⟨(s, t), rfl, by rw [hx]; rfl⟩

theorem weightsAll_mem' {H : Type} {P : Program} {e : TypeId} : ∀ {l : List (DataW H)} {d : DataW H}, d ∈ l → ∀ n ∈ d.weights P e, n ∈ DataW.weightsAll P e l
  | d' :: r, d, hd, n, hn => by
    simp only [DataW.weightsAll, List.mem_append]
    rcases List.mem_cons.1 hd with rfl | h
    · exact .inl hn
    · exact .inr (weightsAll_mem' h n hn)
theorem sized_labs {H : Type} {ts : List TypeId} {ds : List (DataW H)} (h : (DataW.weightsEach Try.prog ts ds).all (· ≤ reachBytes) = true) {j : Nat} {elems spare : List (DataW H)} {x : Lb}
    (ht : ts[j]? = some 36) (hd : ds[j]? = some (.slice elems spare)) (hx : datL x ∈ elems) : x.1.size ≤ 140737488351232 ∧ x.2.size ≤ 140737488351232 := by
  have key : ∀ n, n ∈ (datL (H := H) x).weights Try.prog 48 → n ≤ 140737488351232 := fun n hn => by
    have := of_decide_eq_true (List.all_eq_true.1 h n (DataW.weights_mem_each ht hd n (by
      simp only [DataW.weights, Try.underlying36, List.mem_cons, List.mem_append]
      exact .inr (.inl (weightsAll_mem' hx n hn)))))
    exact this
  have e1 : x.1.data.toList.length = x.1.size := by simp
  have e2 : x.2.data.toList.length = x.2.size := by simp
  refine ⟨?_, ?_⟩
  · rw [← e1]; exact key _ (by simp [datL, DataW.weights, Try.underlying48, DataW.weightsEach])
  · rw [← e2]; exact key _ (by simp [datL, DataW.weights, Try.underlying48, DataW.weightsEach])

theorem open_labs {H : Type} {enc : TypeId × Value → H} {W : World} {base : Nat} {sp : Nat → Bool} {held : Bool} {a : Option Addr} {len cap : Nat} {d : DataW H} {p : List MemPlace}
    (h : DataW.Trod enc Try.prog W base sp held 36 (.slice a len cap) d p) :
    ∃ l : List Lb, len = l.length ∧ RdL W a l ∧ len ≤ cap ∧ cap ≤ 9223372036854775807 ∧ ∀ x ∈ l, ∃ elems spare, d = .slice elems spare ∧ datL x ∈ elems := by
  obtain ⟨fuel, hf⟩ := h
  rcases open_slice Try.underlying36 hf with ⟨hcs, _⟩ | ⟨x, n', c, m, n, D, Pl, hcs, _, hl, hm, hmm, hx, hi⟩
  · simp [Value.cells] at hcs
    obtain ⟨rfl, rfl, rfl⟩ := hcs
    exact ⟨[], rfl, RdL.nil _ _, Nat.le_refl _, by omega, fun x hx => by simp at hx⟩
  · simp [Value.cells] at hcs
    obtain ⟨rfl, rfl, rfl⟩ := hcs
    rw [cells33] at hi
    have hlm : len ≤ m := by rw [hmm]; split <;> omega
    have hm' : cap ≤ 9223372036854775807 := by unfold maxLen at hm; omega
    have hdat : d = .slice ((List.range len).map D) ((List.range (m - len)).map fun j => D (len + j)) := congrArg Prod.fst hx
    have hspot : 0 < len → x.spot = none := fun h => by
      obtain ⟨cs', hc, ht⟩ := hi 0 (by omega)
      obtain ⟨_, hcl, hat⟩ := World.cells?_some hc
      have h0 := hat 0 (by omega)
      rw [List.getElem?_eq_getElem (by omega)] at h0
      simpa [Addr.add] using World.cell?_spot h0
    have key : ∀ i, i < len → ∃ k : Lb, ∃ g o, x = ⟨g, o, none⟩ ∧ W.cell? ⟨g, o + i * 2, none⟩ = some (.string k.1) ∧ W.cell? ⟨g, o + i * 2 + 1, none⟩ = some (.string k.2) ∧ D i = datL k := fun i hlt => by
      obtain ⟨cs', hc, ht⟩ := hi i (by omega)
      obtain ⟨_, hcl, hat⟩ := World.cells?_some hc
      obtain ⟨k, rfl, hk⟩ := trod_label ht
      have h0 := hat 0 (by omega)
      have h1 := hat 1 (by omega)
      simp at h0 h1
      obtain ⟨g, o, spot⟩ := x
      have hs : spot = none := hspot (by omega)
      subst hs
      rw [Addr.add_lit] at h0 h1
      rw [Addr.add_lit] at h1
      exact ⟨k, g, o, rfl, by simpa [Addr.add] using h0, h1, hk⟩
    have pick : ∀ n, n ≤ len → ∃ l : List Lb, l.length = n ∧ RdL W (some x) l ∧ ∀ i k, l[i]? = some k → D i = datL k := by
      intro n
      induction n with
      | zero => exact fun _ => ⟨[], rfl, RdL.nil _ _, fun i k hk => by simp at hk⟩
      | succ n ih =>
        intro hn
        obtain ⟨l, hll, hr, hD⟩ := ih (by omega)
        obtain ⟨k, g, o, hxx, h0, h1, hk⟩ := key n (by omega)
        refine ⟨l ++ [k], by simp [hll], fun i y hy => ?_, fun i y hy => ?_⟩
        · by_cases hi' : i < l.length
          · rw [List.getElem?_append_left hi'] at hy; exact hr i y hy
          · rw [List.getElem?_append_right (by omega)] at hy
            have e : i = n := by
              have := (List.getElem?_eq_some_iff.1 hy).1
              simp at this; omega
            subst e
            rw [show i - l.length = 0 by omega] at hy
            simp at hy; subst hy
            exact ⟨g, o, by rw [hxx], h0, h1⟩
        · by_cases hi' : i < l.length
          · rw [List.getElem?_append_left hi'] at hy; exact hD i y hy
          · rw [List.getElem?_append_right (by omega)] at hy
            have e : i = n := by
              have := (List.getElem?_eq_some_iff.1 hy).1
              simp at this; omega
            subst e
            rw [show i - l.length = 0 by omega] at hy
            simp at hy; subst hy
            exact hk
    obtain ⟨l, hll, hr, hD⟩ := pick len (Nat.le_refl _)
    refine ⟨l, hll.symm, hr, hl, hm', fun y hy => ⟨_, _, hdat, ?_⟩⟩
    obtain ⟨i, hi', e⟩ := List.getElem_of_mem hy
    rw [List.mem_map]
    exact ⟨i, List.mem_range.2 (by omega), hD i y (by rw [List.getElem?_eq_getElem hi', e])⟩
end Go.Proofs.Ytldijginplgikaa
