/- Lists of machines with their labels, and an argument that is a slice of machines, opened. No condition beyond the form's own. -/
import Derived.Test.YtlomeicilgfhnaaGreatMc
namespace Go.Proofs.YtlomeicilgfhnaaGreat
open Go.ChangeShapes Go.WideShapes Go.RowKit Go.Deep
set_option linter.unusedSimpArgs false
set_option linter.unusedVariables false

/-- A machine with its labels. -/
abbrev Ml := Mc × List Lb
/-- Machines alone. -/
abbrev mcs (L : List Ml) : List Mc := L.map Prod.fst
/-- All of these are machines that Go can have. -/
def MsOk (w : World) (L : List Ml) : Prop := ∀ x ∈ L, McOk w x.1 x.2
theorem MsOk.later {w w' : World} {L : List Ml} (h : MsOk w L) (hb : Below w.heap.size w w') : MsOk w' L := fun x hx => (h x hx).later hb
theorem MsOk.at {w : World} {L : List Ml} (h : MsOk w L) {i : Nat} (hi : i < L.length) : McOk w L[i].1 L[i].2 := h _ (List.getElem_mem hi)
theorem mcs_at {L : List Ml} {i : Nat} (hi : i < L.length) : (mcs L)[i]'(by simpa using hi) = L[i].1 := by simp [mcs]

section
variable {H : Type} {enc : TypeId × Value → H} {W : World} {base : Nat} {sp : Nat → Bool} {held : Bool}
/-- What is known of a machine's datum. -/
structure MachIn (W : World) (d : DataW H) (x : Ml) : Prop where
  shape : ∃ da dl e1 e2, d = .agg [.agg [.lit (.string x.1.nm.data.toList), da, dl], e1, e2] ∧ LabsIn W dl x.1.A x.1.n x.1.cp x.2
set_option maxRecDepth 100000 in
theorem trod_machine {fuel : Nat} {cs : List Value} {y : DataW H × List MemPlace} (h : DataW.trod enc Tryz.prog W base sp held fuel 60 cs = some y) : ∃ x : Ml, cs = x.1.cells ∧ MachIn W y.1 x := by
  obtain ⟨zs, n', _, hx', hlen, hzl, hg'⟩ := DataW.trod_struct Tryz.underlying60 h
  rw [cellsMachine] at hlen
  obtain ⟨c0, c1, c2, c3, c4, k0, k1, rfl⟩ := list7 cs hlen
  obtain ⟨z0, z1, z2, rfl⟩ := list3' zs (by simpa using hzl)
  have u0 : DataW.trod enc Tryz.prog W base sp held n' 43 (List.take (Tryz.prog.cellsOf 43) [c0, c1, c2, c3, c4, k0, k1]) = some z0 := hg' 0 _ rfl
  have u1 : DataW.trod enc Tryz.prog W base sp held n' 4 (List.take (Tryz.prog.cellsOf 4) [k0, k1]) = some z1 := hg' 1 _ rfl
  have u2 : DataW.trod enc Tryz.prog W base sp held n' 3 (List.take (Tryz.prog.cellsOf 3) [k1]) = some z2 := hg' 2 _ rfl
  rw [cellsNode] at u0
  rw [cellsBool] at u1
  rw [cellsInt] at u2
  obtain ⟨ys, n, _, hx, _, hyl, hg⟩ := DataW.trod_struct Tryz.underlying43 u0
  obtain ⟨y0, y1, y2, rfl⟩ := list3' ys (by simpa using hyl)
  have h0 : DataW.trod enc Tryz.prog W base sp held n 9 (List.take (Tryz.prog.cellsOf 9) [c0, c1, c2, c3, c4]) = some y0 := hg 0 _ rfl
  have h1 : DataW.trod enc Tryz.prog W base sp held n 40 (List.take (Tryz.prog.cellsOf 40) [c1, c2, c3, c4]) = some y1 := hg 1 _ rfl
  have h2 : DataW.trod enc Tryz.prog W base sp held n 41 (List.take (Tryz.prog.cellsOf 41) [c4]) = some y2 := hg 2 _ rfl
  rw [cells9] at h0
  rw [cellsRes] at h1
  rw [cellsLabs] at h2
  obtain ⟨s, rfl, e0⟩ := open_field_string h0
  obtain ⟨a, b, c, rfl, rfl, rfl⟩ := open_field_res h1
  obtain ⟨A, m, cp, l, rfl, hl⟩ := open_field_labs h2
  obtain ⟨up, rfl⟩ := open_field_bool u1
  obtain ⟨un, rfl⟩ := open_field_int u2
  have hz0 : z0.1 = .agg [.lit (.string s.data.toList), y1.1, y2.1] := by have := congrArg Prod.fst hx; simpa [e0] using this
  exact ⟨(⟨s, a, b, c, A, m, cp, up, un⟩, l), rfl, ⟨y1.1, y2.1, z1.1, z2.1, by have := congrArg Prod.fst hx'; simpa [hz0] using this, hl⟩⟩

theorem open_machines {a : Option Addr} {len cap : Nat} {d : DataW H} {p : List MemPlace} (h : DataW.Trod enc Tryz.prog W base sp held 27 (.slice a len cap) d p) :
    ∃ L : List Ml, len = L.length ∧ RdM W a (mcs L) ∧ len ≤ cap ∧ cap ≤ 9223372036854775807 ∧ ∀ x ∈ L, ∃ elems spare e, d = .slice elems spare ∧ e ∈ elems ∧ MachIn W e x := by
  obtain ⟨fuel, hf⟩ := h
  rcases open_slice Tryz.underlying27 hf with ⟨hcs, _⟩ | ⟨x, n', c, m, n, D, Pl, hcs, _, hl, hm, hmm, hx, hi⟩
  · simp [Value.cells] at hcs
    obtain ⟨rfl, rfl, rfl⟩ := hcs
    exact ⟨[], rfl, RdM.nil _ _, Nat.le_refl _, by omega, fun x hx => by simp at hx⟩
  · simp [Value.cells] at hcs
    obtain ⟨rfl, rfl, rfl⟩ := hcs
    rw [cellsMachine] at hi
    have hlm : len ≤ m := by rw [hmm]; split <;> omega
    have hm' : cap ≤ 9223372036854775807 := by unfold maxLen at hm; omega
    have hdat : d = .slice ((List.range len).map D) ((List.range (m - len)).map fun j => D (len + j)) := congrArg Prod.fst hx
    have hspot : 0 < len → x.spot = none := fun h => by
      obtain ⟨cs', hc, ht⟩ := hi 0 (by omega)
      obtain ⟨_, hcl, hat⟩ := World.cells?_some hc
      have h0 := hat 0 (by omega)
      rw [List.getElem?_eq_getElem (by omega)] at h0
      simpa [Addr.add] using World.cell?_spot h0
    have key : ∀ i, i < len → ∃ j : Ml, ∃ g o, x = ⟨g, o, none⟩ ∧ W.rangeAt g (o + i * 7) j.1.cells ∧ MachIn W (D i) j := by
      intro i hlt
      obtain ⟨cs', hc, ht⟩ := hi i (by omega)
      obtain ⟨_, hcl, hat⟩ := World.cells?_some hc
      obtain ⟨j, rfl, hj⟩ := trod_machine ht
      obtain ⟨g, o, spot⟩ := x
      have hs : spot = none := hspot (by omega)
      subst hs
      refine ⟨j, g, o, rfl, fun m' v hv => ?_, hj⟩
      have hm7 : m' < 7 := (List.getElem?_eq_some_iff.1 hv).1
      have := hat m' hm7
      rw [Addr.add_lit, Addr.add_lit, hv] at this
      exact this
    have pick : ∀ n, n ≤ len → ∃ l : List Ml, l.length = n ∧ RdM W (some x) (mcs l) ∧ ∀ i k, l[i]? = some k → MachIn W (D i) k := by
      intro n
      induction n with
      | zero => exact fun _ => ⟨[], rfl, RdM.nil _ _, fun i k hk => by simp at hk⟩
      | succ n ih =>
        intro hn
        obtain ⟨l, hll, hr, hD⟩ := ih (by omega)
        obtain ⟨k, g, o, hxx, hrg, hk⟩ := key n (by omega)
        refine ⟨l ++ [k], by simp [hll], fun i y hy => ?_, fun i y hy => ?_⟩
        · rw [show mcs (l ++ [k]) = mcs l ++ [k.1] by simp [mcs], cellsM_append] at hy
          have hml : (cellsM (mcs l)).length = l.length := by rw [cellsM_length]; simp [mcs]
          by_cases hi' : i < l.length
          · rw [List.getElem?_append_left (by rw [hml]; exact hi')] at hy; exact hr i y hy
          · rw [List.getElem?_append_right (by rw [hml]; omega)] at hy
            have e : i = n := by
              have := (List.getElem?_eq_some_iff.1 hy).1
              simp [cellsM] at this; omega
            subst e
            rw [hml, show i - l.length = 0 by omega] at hy
            simp [cellsM] at hy; subst hy
            exact ⟨g, o, by rw [hxx], hrg⟩
        · by_cases hi' : i < l.length
          · rw [List.getElem?_append_left hi'] at hy; exact hD i y hy
          · rw [List.getElem?_append_right (by omega)] at hy
            have e : i = n := by
              have := (List.getElem?_eq_some_iff.1 hy).1
              simp at this; omega
            subst e
            rw [show i - l.length = 0 by omega] at hy
            simp at hy; subst hy
            exact hk
    obtain ⟨l, hll, hr, hD⟩ := pick len (Nat.le_refl _)
    refine ⟨l, hll.symm, hr, hl, hm', fun y hy => ?_⟩
    obtain ⟨i, hi', e⟩ := List.getElem_of_mem hy
    exact ⟨_, _, D i, hdat, List.mem_map.2 ⟨i, List.mem_range.2 (by omega), rfl⟩, hD i y (by rw [List.getElem?_eq_getElem hi', e])⟩
/-- The machines of a slice argument are ones that Go can have. -/
theorem okMachines {ts : List TypeId} {ds : List (DataW H)} (h : (DataW.weightsEach Tryz.prog ts ds).all (· ≤ reachBytes) = true) {j : Nat} {d : DataW H} (ht : ts[j]? = some 27) (hd : ds[j]? = some d) {W : World} {L : List Ml}
    (hL : ∀ x ∈ L, ∃ elems spare e, d = .slice elems spare ∧ e ∈ elems ∧ MachIn W e x) : MsOk W L := fun x hx => by
  obtain ⟨el, spa, e, rfl, he, da, dl, e1, e2, rfl, hl⟩ := hL x hx
  obtain ⟨E, hE⟩ : ∃ E : DataW H, E = .agg [.agg [.lit (.string x.1.nm.data.toList), da, dl], e1, e2] := ⟨_, rfl⟩
  rw [← hE] at he
  have hall : (DataW.weightsEach Tryz.prog [60] [E]).all (· ≤ reachBytes) = true := by
    rw [List.all_eq_true] at h ⊢
    intro n hn
    refine h n (DataW.weights_mem_each ht hd n ?_)
    simp only [DataW.weights, Tryz.underlying27, List.mem_cons, List.mem_append]
    refine .inr (.inl (weightsAll_mem' he n ?_))
    simpa [DataW.weightsEach] using hn
  subst hE
  exact okMachine hl (sized_machine hall (j := 0) (e1 := e1) (e2 := e2) (da := da) rfl rfl hl)
end
end Go.Proofs.YtlomeicilgfhnaaGreat
