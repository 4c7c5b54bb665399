/- Labels: a slice that reads as a list of labels, what a reading of it says, and the plain functions on such lists. No condition beyond those that each lemma bears. · An argument that is a slice of labels, opened: what it reads as, and that its texts are not longer than Go can have. No condition beyond the form's own. -/
import Derived.Test.YtjgojgmgicpgaaaGreatChecked
import Derived.WalkKit
import Derived.WalkSpells
import Derived.Lib.Hide
import Derived.Deep.Slices
import Derived.Deep.Fields
import Derived.ChangeSame
import Derived.Below
import Derived.WideShapes
import Derived.Deep.Draws
import Derived.Laws.StructEq
import Derived.SizedLaws
import Derived.Sort.Walk0
import Derived.ChangeArms
namespace Go.Proofs.YtjgojgmgicpgaaaGreat
open Go.RowKit
set_option linter.unusedSimpArgs false
set_option linter.unusedVariables false

theorem bdrewN {B : Nat} {a w : World} (h : Below B a w) (n : Nat) : Below B a (w.drewN n) := ⟨h.os, h.tape, h.output, h.size, h.block⟩
theorem sz_drewN (w : World) (n : Nat) : (w.drewN n).heap.size = w.heap.size := rfl

/-- A label: its key and its value. -/
abbrev Lb := ByteArray × ByteArray

/-- A slice at this address reads as these labels. -/
def RdL (w : World) (A : Option Addr) (l : List Lb) : Prop :=
  ∀ i x, l[i]? = some x → ∃ g o, A = some ⟨g, o, none⟩ ∧ w.cell? ⟨g, o + i * 2, none⟩ = some (.string x.1) ∧ w.cell? ⟨g, o + i * 2 + 1, none⟩ = some (.string x.2)

/-- No text among these is longer than Go can have. -/
def Sz (l : List Lb) : Prop := ∀ x ∈ l, x.1.size ≤ 140737488351232 ∧ x.2.size ≤ 140737488351232

section
variable {w w' : World} {A : Option Addr} {l : List Lb}
theorem RdL.nil (w : World) (A : Option Addr) : RdL w A [] := by intro i b h; simp at h
theorem RdL.keep (h : RdL w A l) (hk : ∀ (p : Addr) v, w.cell? p = some v → w'.cell? p = some v) : RdL w' A l := fun i b hb => by
  obtain ⟨g, o, ha, h1, h2⟩ := h i b hb
  exact ⟨g, o, ha, hk _ _ h1, hk _ _ h2⟩
theorem RdL.below (h : RdL w A l) {B : Nat} (hb : Below B w w') (hA : ∀ g o, A = some ⟨g, o, none⟩ → g < B) : RdL w' A l := fun i b hb' => by
  obtain ⟨g, o, ha, h1, h2⟩ := h i b hb'
  have := hA g o ha
  exact ⟨g, o, ha, (hb.cell (p := ⟨g, _, none⟩) this).trans h1, (hb.cell (p := ⟨g, _, none⟩) this).trans h2⟩
theorem RdL.later (h : RdL w A l) (hb : Below w.heap.size w w') : RdL w' A l := h.keep fun p _ hc => (hb.cell (World.block_lt_of_cell? w p hc)).trans hc
/-- The two cells of a label, and where the slice lies. -/
theorem RdL.at (h : RdL w A l) {i : Nat} (hi : i < l.length) : ∃ g o, A = some ⟨g, o, none⟩ ∧ g < w.heap.size ∧ w.cell? ⟨g, o + i * 2, none⟩ = some (.string l[i].1) ∧ w.cell? ⟨g, o + i * 2 + 1, none⟩ = some (.string l[i].2) := by
  obtain ⟨g, o, ha, h1, h2⟩ := h i l[i] (List.getElem?_eq_getElem hi)
  exact ⟨g, o, ha, World.block_lt_of_cell? w _ h1, h1, h2⟩
theorem RdL.take (h : RdL w A l) (k : Nat) : RdL w A (l.take k) := fun i b hb => by
  rw [List.getElem?_take] at hb
  split at hb
  · exact h i b hb
  · cases hb
end
theorem Sz.at {l : List Lb} (h : Sz l) {i : Nat} (hi : i < l.length) : l[i].1.size ≤ 140737488351232 ∧ l[i].2.size ≤ 140737488351232 := h _ (List.getElem_mem hi)

/-! ### Two texts: are they one, which stands ahead -/
/-- Are two texts one, as the model says it? -/
def sE (a b : ByteArray) : Bool := a.toList == b.toList
/-- Does the one stand ahead of the other, as the model says it? -/
def sL (a b : ByteArray) : Bool := Op.bytesLess a.toList b.toList
theorem sE_iff {a b : ByteArray} : sE a b = true ↔ a = b := by
  unfold sE
  rw [ByteArray.toList_eq, ByteArray.toList_eq]
  constructor
  · intro h; have h' : a.data.toList = b.data.toList := by simpa using h
    exact Go.WideShapes.bytes_inj h'
  · rintro rfl; simp
theorem sE_refl (a : ByteArray) : sE a a = true := sE_iff.2 rfl
theorem sE_comm (a b : ByteArray) : sE a b = sE b a := by rw [Bool.eq_iff_iff, sE_iff, sE_iff]; exact eq_comm
theorem sL_iff {a b : ByteArray} : sL a b = true ↔ a.data.toList < b.data.toList := by
  unfold sL; rw [bytesLess_eq, ByteArray.toList_eq, ByteArray.toList_eq]; simp
theorem sL_irrefl (a : ByteArray) : sL a a = false := by
  rw [Bool.eq_false_iff]; intro h; exact List.lt_irrefl _ (sL_iff.1 h)
theorem sL_trans {a b c : ByteArray} (h1 : sL a b = true) (h2 : sL b c = true) : sL a c = true := sL_iff.2 (List.lt_trans (sL_iff.1 h1) (sL_iff.1 h2))
theorem sL_asymm {a b : ByteArray} (h1 : sL a b = true) : sL b a = false := by
  rw [Bool.eq_false_iff]; intro h; have := sL_trans h1 h; rw [sL_irrefl] at this; cases this
theorem sL_total {a b : ByteArray} (h : sL a b = false) : sL b a = true ∨ a = b := by
  have h1 : ¬ a.data.toList < b.data.toList := fun hc => by rw [sL_iff.2 hc] at h; cases h
  rw [List.not_lt] at h1
  rcases List.le_iff_lt_or_eq.1 h1 with h2 | h2
  · exact .inl (sL_iff.2 h2)
  · exact .inr (Go.WideShapes.bytes_inj h2.symm)
/-- Are two labels one? -/
def lE (x y : Lb) : Bool := sE x.1 y.1 && sE x.2 y.2
theorem lE_iff {x y : Lb} : lE x y = true ↔ x = y := by
  unfold lE; rw [Bool.and_eq_true, sE_iff, sE_iff]; exact ⟨fun h => Prod.ext h.1 h.2, fun h => by rw [h]; exact ⟨rfl, rfl⟩⟩
end Go.Proofs.YtjgojgmgicpgaaaGreat

namespace Go.Proofs.YtjgojgmgicpgaaaGreat
open Go.ChangeShapes Go.WideShapes Go.RowKit Go.Deep
set_option linter.unusedSimpArgs false
set_option linter.unusedVariables false

theorem cells33 : Tryz.prog.cellsOf 220 = 2 := by kernel_rfl
theorem cells9 : Tryz.prog.cellsOf 9 = 1 := by kernel_rfl
theorem list2 {α : Type} (l : List α) (h : l.length = 2) : ∃ a b, l = [a, b] := by
  match l, h with
  | [a, b], _ => exact ⟨a, b, rfl⟩

/-- A label as data. -/
def datL {H : Type} (x : Lb) : DataW H := .agg [.lit (.string x.1.data.toList), .lit (.string x.2.data.toList)]

theorem trod_label {H : Type} {enc : TypeId × Value → H} {W : World} {base : Nat} {sp : Nat → Bool} {held : Bool} {fuel : Nat} {cs : List Value} {x : DataW H × List MemPlace}
    (h : DataW.trod enc Tryz.prog W base sp held fuel 220 cs = some x) : ∃ k : Lb, cs = [.string k.1, .string k.2] ∧ x.1 = datL k := by
  obtain ⟨ys, n, _, hx, hlen, hyl, hf⟩ := DataW.trod_struct Tryz.underlying220 h
  rw [cells33] at hlen
  obtain ⟨c0, c1, rfl⟩ := list2 cs hlen
  obtain ⟨y0, y1, rfl⟩ := list2 ys (by simpa using hyl)
  have h0 : DataW.trod enc Tryz.prog W base sp held n 9 (List.take (Tryz.prog.cellsOf 9) [c0, c1]) = some y0 := hf 0 _ rfl
  have h1 : DataW.trod enc Tryz.prog W base sp held n 9 (List.take (Tryz.prog.cellsOf 9) [c1]) = some y1 := hf 1 _ rfl
  rw [cells9] at h0 h1
  obtain ⟨s, e0, r0, _⟩ := DataW.trod_string Tryz.underlying9 h0
  obtain ⟨t, e1, r1, _⟩ := DataW.trod_string Tryz.underlying9 h1
  simp at e0 e1
  subst e0 e1 r0 r1
  exact ⟨(s, t), rfl, by rw [hx]; rfl⟩

theorem weightsAll_mem' {H : Type} {P : Program} {e : TypeId} : ∀ {l : List (DataW H)} {d : DataW H}, d ∈ l → ∀ n ∈ d.weights P e, n ∈ DataW.weightsAll P e l
  | d' :: r, d, hd, n, hn => by
    simp only [DataW.weightsAll, List.mem_append]
    rcases List.mem_cons.1 hd with rfl | h
    · exact .inl hn
    · exact .inr (weightsAll_mem' h n hn)
theorem sized_labs {H : Type} {ts : List TypeId} {ds : List (DataW H)} (h : (DataW.weightsEach Tryz.prog ts ds).all (· ≤ reachBytes) = true) {j : Nat} {elems spare : List (DataW H)} {x : Lb}
    (ht : ts[j]? = some 51) (hd : ds[j]? = some (.slice elems spare)) (hx : datL x ∈ elems) : x.1.size ≤ 140737488351232 ∧ x.2.size ≤ 140737488351232 := by
  have key : ∀ n, n ∈ (datL (H := H) x).weights Tryz.prog 220 → n ≤ 140737488351232 := fun n hn => by
    have := of_decide_eq_true (List.all_eq_true.1 h n (DataW.weights_mem_each ht hd n (by
      simp only [DataW.weights, Tryz.underlying51, List.mem_cons, List.mem_append]
      exact .inr (.inl (weightsAll_mem' hx n hn)))))
    exact this
  have e1 : x.1.data.toList.length = x.1.size := by simp
  have e2 : x.2.data.toList.length = x.2.size := by simp
  refine ⟨?_, ?_⟩
  · rw [← e1]; exact key _ (by simp [datL, DataW.weights, Tryz.underlying220, DataW.weightsEach])
  · rw [← e2]; exact key _ (by simp [datL, DataW.weights, Tryz.underlying220, DataW.weightsEach])

theorem open_labs {H : Type} {enc : TypeId × Value → H} {W : World} {base : Nat} {sp : Nat → Bool} {held : Bool} {a : Option Addr} {len cap : Nat} {d : DataW H} {p : List MemPlace}
    (h : DataW.Trod enc Tryz.prog W base sp held 51 (.slice a len cap) d p) :
    ∃ l : List Lb, len = l.length ∧ RdL W a l ∧ len ≤ cap ∧ cap ≤ 9223372036854775807 ∧ ∀ x ∈ l, ∃ elems spare, d = .slice elems spare ∧ datL x ∈ elems := by
  obtain ⟨fuel, hf⟩ := h
  rcases open_slice Tryz.underlying51 hf with ⟨hcs, _⟩ | ⟨x, n', c, m, n, D, Pl, hcs, _, hl, hm, hmm, hx, hi⟩
  · simp [Value.cells] at hcs
    obtain ⟨rfl, rfl, rfl⟩ := hcs
    exact ⟨[], rfl, RdL.nil _ _, Nat.le_refl _, by omega, fun x hx => by simp at hx⟩
  · simp [Value.cells] at hcs
    obtain ⟨rfl, rfl, rfl⟩ := hcs
    rw [cells33] at hi
    have hlm : len ≤ m := by rw [hmm]; split <;> omega
    have hm' : cap ≤ 9223372036854775807 := by unfold maxLen at hm; omega
    have hdat : d = .slice ((List.range len).map D) ((List.range (m - len)).map fun j => D (len + j)) := congrArg Prod.fst hx
    have hspot : 0 < len → x.spot = none := fun h => by
      obtain ⟨cs', hc, ht⟩ := hi 0 (by omega)
      obtain ⟨_, hcl, hat⟩ := World.cells?_some hc
      have h0 := hat 0 (by omega)
      rw [List.getElem?_eq_getElem (by omega)] at h0
      simpa [Addr.add] using World.cell?_spot h0
    have key : ∀ i, i < len → ∃ k : Lb, ∃ g o, x = ⟨g, o, none⟩ ∧ W.cell? ⟨g, o + i * 2, none⟩ = some (.string k.1) ∧ W.cell? ⟨g, o + i * 2 + 1, none⟩ = some (.string k.2) ∧ D i = datL k := fun i hlt => by
      obtain ⟨cs', hc, ht⟩ := hi i (by omega)
      obtain ⟨_, hcl, hat⟩ := World.cells?_some hc
      obtain ⟨k, rfl, hk⟩ := trod_label ht
      have h0 := hat 0 (by omega)
      have h1 := hat 1 (by omega)
      simp at h0 h1
      obtain ⟨g, o, spot⟩ := x
      have hs : spot = none := hspot (by omega)
      subst hs
      rw [Addr.add_lit] at h0 h1
      rw [Addr.add_lit] at h1
      exact ⟨k, g, o, rfl, by simpa [Addr.add] using h0, h1, hk⟩
    have pick : ∀ n, n ≤ len → ∃ l : List Lb, l.length = n ∧ RdL W (some x) l ∧ ∀ i k, l[i]? = some k → D i = datL k := by
      intro n
      induction n with
      | zero => exact fun _ => ⟨[], rfl, RdL.nil _ _, fun i k hk => by simp at hk⟩
      | succ n ih =>
        intro hn
        obtain ⟨l, hll, hr, hD⟩ := ih (by omega)
        obtain ⟨k, g, o, hxx, h0, h1, hk⟩ := key n (by omega)
        refine ⟨l ++ [k], by simp [hll], fun i y hy => ?_, fun i y hy => ?_⟩
        · by_cases hi' : i < l.length
          · rw [List.getElem?_append_left hi'] at hy; exact hr i y hy
          · rw [List.getElem?_append_right (by omega)] at hy
            have e : i = n := by
              have := (List.getElem?_eq_some_iff.1 hy).1
              simp at this; omega
            subst e
            rw [show i - l.length = 0 by omega] at hy
            simp at hy; subst hy
            exact ⟨g, o, by rw [hxx], h0, h1⟩
        · by_cases hi' : i < l.length
          · rw [List.getElem?_append_left hi'] at hy; exact hD i y hy
          · rw [List.getElem?_append_right (by omega)] at hy
            have e : i = n := by
              have := (List.getElem?_eq_some_iff.1 hy).1
              simp at this; omega
            subst e
            rw [show i - l.length = 0 by omega] at hy
            simp at hy; subst hy
            exact hk
    obtain ⟨l, hll, hr, hD⟩ := pick len (Nat.le_refl _)
    refine ⟨l, hll.symm, hr, hl, hm', fun y hy => ⟨_, _, hdat, ?_⟩⟩
    obtain ⟨i, hi', e⟩ := List.getElem_of_mem hy
    rw [List.mem_map]
    exact ⟨i, List.mem_range.2 (by omega), hD i y (by rw [List.getElem?_eq_getElem hi', e])⟩
end Go.Proofs.YtjgojgmgicpgaaaGreat
