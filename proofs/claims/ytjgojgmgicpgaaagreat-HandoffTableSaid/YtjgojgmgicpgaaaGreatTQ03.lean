/- Lists of machines with their labels, and an argument that is a slice of machines, opened. No condition beyond the form's own. · The contracts of the statements' own size test (few) and of the document's test whether labels are alike (Same). Condition: the slices are ones that Go can have. -/
import Derived.Test.YtjgojgmgicpgaaaGreatTQ02
import Derived.Test.YtjgojgmgicpgaaaGreatTQ01
import Derived.BigQuiet
import Derived.Deep.QuietTactic
import Derived.Handy
namespace Go.Proofs.YtjgojgmgicpgaaaGreat
open Go.ChangeShapes Go.WideShapes Go.RowKit Go.Deep
set_option linter.unusedSimpArgs false
set_option linter.unusedVariables false

/-- A machine with its labels. -/
abbrev Ml := Mc × List Lb
/-- Machines alone. -/
abbrev mcs (L : List Ml) : List Mc := L.map Prod.fst
/-- All of these are machines that Go can have. -/
def MsOk (w : World) (L : List Ml) : Prop := ∀ x ∈ L, McOk w x.1 x.2
theorem MsOk.later {w w' : World} {L : List Ml} (h : MsOk w L) (hb : Below w.heap.size w w') : MsOk w' L := fun x hx => (h x hx).later hb
theorem MsOk.at {w : World} {L : List Ml} (h : MsOk w L) {i : Nat} (hi : i < L.length) : McOk w L[i].1 L[i].2 := h _ (List.getElem_mem hi)
theorem mcs_at {L : List Ml} {i : Nat} (hi : i < L.length) : (mcs L)[i]'(by simpa using hi) = L[i].1 := by simp [mcs]

section
variable {H : Type} {enc : TypeId × Value → H} {W : World} {base : Nat} {sp : Nat → Bool} {held : Bool}
/-- What is known of a machine's datum. -/
structure MachIn (W : World) (d : DataW H) (x : Ml) : Prop where
  shape : ∃ da dl e1 e2, d = .agg [.agg [.lit (.string x.1.nm.data.toList), da, dl], e1, e2] ∧ LabsIn W dl x.1.A x.1.n x.1.cp x.2
set_option maxRecDepth 100000 in
theorem trod_machine {fuel : Nat} {cs : List Value} {y : DataW H × List MemPlace} (h : DataW.trod enc Tryz.prog W base sp held fuel 93 cs = some y) : ∃ x : Ml, cs = x.1.cells ∧ MachIn W y.1 x := by
  obtain ⟨zs, n', _, hx', hlen, hzl, hg'⟩ := DataW.trod_struct Tryz.underlying93 h
  rw [cellsMachine] at hlen
  obtain ⟨c0, c1, c2, c3, c4, k0, k1, rfl⟩ := list7 cs hlen
  obtain ⟨z0, z1, z2, rfl⟩ := list3' zs (by simpa using hzl)
  have u0 : DataW.trod enc Tryz.prog W base sp held n' 53 (List.take (Tryz.prog.cellsOf 53) [c0, c1, c2, c3, c4, k0, k1]) = some z0 := hg' 0 _ rfl
  have u1 : DataW.trod enc Tryz.prog W base sp held n' 4 (List.take (Tryz.prog.cellsOf 4) [k0, k1]) = some z1 := hg' 1 _ rfl
  have u2 : DataW.trod enc Tryz.prog W base sp held n' 3 (List.take (Tryz.prog.cellsOf 3) [k1]) = some z2 := hg' 2 _ rfl
  rw [cellsNode] at u0
  rw [cellsBool] at u1
  rw [cellsInt] at u2
  obtain ⟨ys, n, _, hx, _, hyl, hg⟩ := DataW.trod_struct Tryz.underlying53 u0
  obtain ⟨y0, y1, y2, rfl⟩ := list3' ys (by simpa using hyl)
  have h0 : DataW.trod enc Tryz.prog W base sp held n 9 (List.take (Tryz.prog.cellsOf 9) [c0, c1, c2, c3, c4]) = some y0 := hg 0 _ rfl
  have h1 : DataW.trod enc Tryz.prog W base sp held n 50 (List.take (Tryz.prog.cellsOf 50) [c1, c2, c3, c4]) = some y1 := hg 1 _ rfl
  have h2 : DataW.trod enc Tryz.prog W base sp held n 51 (List.take (Tryz.prog.cellsOf 51) [c4]) = some y2 := hg 2 _ rfl
  rw [cells9] at h0
  rw [cellsRes] at h1
  rw [cellsLabs] at h2
  obtain ⟨s, rfl, e0⟩ := open_field_string h0
  obtain ⟨a, b, c, rfl, rfl, rfl⟩ := open_field_res h1
  obtain ⟨A, m, cp, l, rfl, hl⟩ := open_field_labs h2
  obtain ⟨up, rfl⟩ := open_field_bool u1
  obtain ⟨un, rfl⟩ := open_field_int u2
  have hz0 : z0.1 = .agg [.lit (.string s.data.toList), y1.1, y2.1] := by have := congrArg Prod.fst hx; simpa [e0] using this
  exact ⟨(⟨s, a, b, c, A, m, cp, up, un⟩, l), rfl, ⟨y1.1, y2.1, z1.1, z2.1, by have := congrArg Prod.fst hx'; simpa [hz0] using this, hl⟩⟩

theorem open_machines {a : Option Addr} {len cap : Nat} {d : DataW H} {p : List MemPlace} (h : DataW.Trod enc Tryz.prog W base sp held 22 (.slice a len cap) d p) :
    ∃ L : List Ml, len = L.length ∧ RdM W a (mcs L) ∧ len ≤ cap ∧ cap ≤ 9223372036854775807 ∧ ∀ x ∈ L, ∃ elems spare e, d = .slice elems spare ∧ e ∈ elems ∧ MachIn W e x := by
  obtain ⟨fuel, hf⟩ := h
  rcases open_slice Tryz.underlying22 hf with ⟨hcs, _⟩ | ⟨x, n', c, m, n, D, Pl, hcs, _, hl, hm, hmm, hx, hi⟩
  · simp [Value.cells] at hcs
    obtain ⟨rfl, rfl, rfl⟩ := hcs
    exact ⟨[], rfl, RdM.nil _ _, Nat.le_refl _, by omega, fun x hx => by simp at hx⟩
  · simp [Value.cells] at hcs
    obtain ⟨rfl, rfl, rfl⟩ := hcs
    rw [cellsMachine] at hi
    have hlm : len ≤ m := by rw [hmm]; split <;> omega
    have hm' : cap ≤ 9223372036854775807 := by unfold maxLen at hm; omega
    have hdat : d = .slice ((List.range len).map D) ((List.range (m - len)).map fun j => D (len + j)) := congrArg Prod.fst hx
    have hspot : 0 < len → x.spot = none := fun h => by
      obtain ⟨cs', hc, ht⟩ := hi 0 (by omega)
      obtain ⟨_, hcl, hat⟩ := World.cells?_some hc
      have h0 := hat 0 (by omega)
      rw [List.getElem?_eq_getElem (by omega)] at h0
      simpa [Addr.add] using World.cell?_spot h0
    have key : ∀ i, i < len → ∃ j : Ml, ∃ g o, x = ⟨g, o, none⟩ ∧ W.rangeAt g (o + i * 7) j.1.cells ∧ MachIn W (D i) j := by
      intro i hlt
      obtain ⟨cs', hc, ht⟩ := hi i (by omega)
      obtain ⟨_, hcl, hat⟩ := World.cells?_some hc
      obtain ⟨j, rfl, hj⟩ := trod_machine ht
      obtain ⟨g, o, spot⟩ := x
      have hs : spot = none := hspot (by omega)
      subst hs
      refine ⟨j, g, o, rfl, fun m' v hv => ?_, hj⟩
      have hm7 : m' < 7 := (List.getElem?_eq_some_iff.1 hv).1
      have := hat m' hm7
      rw [Addr.add_lit, Addr.add_lit, hv] at this
      exact this
    have pick : ∀ n, n ≤ len → ∃ l : List Ml, l.length = n ∧ RdM W (some x) (mcs l) ∧ ∀ i k, l[i]? = some k → MachIn W (D i) k := by
      intro n
      induction n with
      | zero => exact fun _ => ⟨[], rfl, RdM.nil _ _, fun i k hk => by simp at hk⟩
      | succ n ih =>
        intro hn
        obtain ⟨l, hll, hr, hD⟩ := ih (by omega)
        obtain ⟨k, g, o, hxx, hrg, hk⟩ := key n (by omega)
        refine ⟨l ++ [k], by simp [hll], fun i y hy => ?_, fun i y hy => ?_⟩
        · rw [show mcs (l ++ [k]) = mcs l ++ [k.1] by simp [mcs], cellsM_append] at hy
          have hml : (cellsM (mcs l)).length = l.length := by rw [cellsM_length]; simp [mcs]
          by_cases hi' : i < l.length
          · rw [List.getElem?_append_left (by rw [hml]; exact hi')] at hy; exact hr i y hy
          · rw [List.getElem?_append_right (by rw [hml]; omega)] at hy
            have e : i = n := by
              have := (List.getElem?_eq_some_iff.1 hy).1
              simp [cellsM] at this; omega
            subst e
            rw [hml, show i - l.length = 0 by omega] at hy
            simp [cellsM] at hy; subst hy
            exact ⟨g, o, by rw [hxx], hrg⟩
        · by_cases hi' : i < l.length
          · rw [List.getElem?_append_left hi'] at hy; exact hD i y hy
          · rw [List.getElem?_append_right (by omega)] at hy
            have e : i = n := by
              have := (List.getElem?_eq_some_iff.1 hy).1
              simp at this; omega
            subst e
            rw [show i - l.length = 0 by omega] at hy
            simp at hy; subst hy
            exact hk
    obtain ⟨l, hll, hr, hD⟩ := pick len (Nat.le_refl _)
    refine ⟨l, hll.symm, hr, hl, hm', fun y hy => ?_⟩
    obtain ⟨i, hi', e⟩ := List.getElem_of_mem hy
    exact ⟨_, _, D i, hdat, List.mem_map.2 ⟨i, List.mem_range.2 (by omega), rfl⟩, hD i y (by rw [List.getElem?_eq_getElem hi', e])⟩
/-- The machines of a slice argument are ones that Go can have. -/
theorem okMachines {ts : List TypeId} {ds : List (DataW H)} (h : (DataW.weightsEach Tryz.prog ts ds).all (· ≤ reachBytes) = true) {j : Nat} {d : DataW H} (ht : ts[j]? = some 22) (hd : ds[j]? = some d) {W : World} {L : List Ml}
    (hL : ∀ x ∈ L, ∃ elems spare e, d = .slice elems spare ∧ e ∈ elems ∧ MachIn W e x) : MsOk W L := fun x hx => by
  obtain ⟨el, spa, e, rfl, he, da, dl, e1, e2, rfl, hl⟩ := hL x hx
  obtain ⟨E, hE⟩ : ∃ E : DataW H, E = .agg [.agg [.lit (.string x.1.nm.data.toList), da, dl], e1, e2] := ⟨_, rfl⟩
  rw [← hE] at he
  have hall : (DataW.weightsEach Tryz.prog [93] [E]).all (· ≤ reachBytes) = true := by
    rw [List.all_eq_true] at h ⊢
    intro n hn
    refine h n (DataW.weights_mem_each ht hd n ?_)
    simp only [DataW.weights, Tryz.underlying22, List.mem_cons, List.mem_append]
    refine .inr (.inl (weightsAll_mem' he n ?_))
    simpa [DataW.weightsEach] using hn
  subst hE
  exact okMachine hl (sized_machine hall (j := 0) (e1 := e1) (e2 := e2) (da := da) rfl rfl hl)
end
end Go.Proofs.YtjgojgmgicpgaaaGreat

namespace Go.Proofs.YtjgojgmgicpgaaaGreat
open Go.RowKit
set_option linter.unusedSimpArgs false
set_option linter.unusedVariables false

theorem ret_bool' {a b : Bool} (h : a = b) : Ending.returned (.bool a) = .returned (.bool b) := by rw [h]
/-- Is this label of a size that is looked at? -/
def smallB (x : Lb) : Bool := decide (x.1.size + x.2.size ≤ 1000)
/-- Are labels of a size that is looked at? -/
def fewB (l : List Lb) : Bool := decide (l.length ≤ 300) && l.all smallB

theorem all_takeL {l : List Lb} {p : Lb → Bool} {k : Nat} (h : k < l.length) : (l.take (k + 1)).all p = ((l.take k).all p && p l[k]) := by
  rw [List.take_succ_eq_append_getElem h, List.all_append]; simp
theorem all_take_falseL {l : List Lb} {p : Lb → Bool} {k : Nat} (h : k < l.length) (hp : p l[k] = false) : l.all p = false := by
  rw [List.all_eq_false]
  exact ⟨l[k], List.getElem_mem h, by simp [hp]⟩


@[go_sem] theorem run_guardL (op : BinOp) (x y : Operand) (xs ys : Array Value) (w : World) : (eqGuard op 220 x y (.agg xs) (.agg ys)).run Tryz.prog w = .ok () w := run_eqGuard_agg w op 220 x y xs ys (by kernel_rfl)

theorem lE_yes {x y : Lb} (h : lE x y = true) : x.1.toList = y.1.toList ∧ x.2.toList = y.2.toList := by rw [lE_iff.1 h]; exact ⟨rfl, rfl⟩
theorem lE_no {x y : Lb} (h : lE x y = false) : (x.1.toList ≠ y.1.toList) ∨ (x.1.toList = y.1.toList ∧ x.2.toList ≠ y.2.toList) := by
  by_cases h1 : x.1.toList = y.1.toList
  · refine .inr ⟨h1, fun h2 => ?_⟩
    unfold lE sE at h
    simp [h1, h2] at h
  · exact .inl h1

/-- Are labels alike? -/
def sameB (l m : List Lb) : Bool := decide (l = m)
theorem same_len {l m : List Lb} (h : l.length ≠ m.length) : sameB l m = false := decide_eq_false fun hc => h (by rw [hc])
theorem same_at {l m : List Lb} {k : Nat} (h1 : k < l.length) (h2 : k < m.length) (h : lE l[k] m[k] = false) : sameB l m = false := decide_eq_false fun hc => by
  subst hc
  rw [lE_iff.2 rfl] at h; cases h

set_option maxHeartbeats 1600000 in
theorem same_any (A B : Option Addr) (n c m d : Nat) (l r : List Lb) (w : World) (hn : Hid (n = l.length)) (hm : Hid (m = r.length)) (hr : Hid (RdL w A l)) (hq : Hid (RdL w B r)) (hc : n ≤ c) (hc2 : c ≤ 9223372036854775807) (hd : m ≤ d) (hd2 : d ≤ 9223372036854775807) :
    Calls Tryz.prog 140 #[.slice A n c, .slice B m d] w fun e w' => e = .returned (.bool (sameB l r)) ∧ Below w.heap.size w w' := by
  by_cases hnm : n = m
  · obtain rfl : n = m := hnm
    go_enter Tryz.func140, Tryz.ntmps140
    go_wp2
    go_loopw [5, 13] (fun _ i wr => ∃ k : Nat, k ≤ n ∧ i = .int .i64 k ∧ Hid (l.take k = r.take k) ∧ Below w.heap.size w wr) (fun _ i wr => n - (intOf i).toNat)
    case atStart => exact ⟨0, Nat.zero_le _, rfl, (show l.take 0 = r.take 0 by simp), Below.refl _ _⟩
    case round =>
      obtain ⟨k, hk, rfl, HA, hb⟩ := hrel
      by_cases hlt : k < n
      · have hl : k < l.length := by have := hn.out; omega
        have hl2 : k < r.length := by have := hm.out; omega
        obtain ⟨g, o, rfl, hg, h1, h2⟩ := (hr.out.later hb).at hl
        obtain ⟨g', o', rfl, hg', h1', h2'⟩ := (hq.out.later hb).at hl2
        by_cases hE : lE l[k] r[k] = true
        · have HS : Hid (l.take (k + 1) = r.take (k + 1)) := by
            show _ = _
            rw [List.take_succ_eq_append_getElem hl, List.take_succ_eq_append_getElem hl2, HA.out, lE_iff.1 hE]
          obtain ⟨e1, e2⟩ := lE_yes hE
          clear hE
          go_wp2_with fail
          go_quiet (fail)
          go_wp2
          go_round
          case rel => exact ⟨k + 1, by omega, by go_num, HS, (by (repeat' (first | (with_reducible exact Below.refl _ _) | (with_reducible refine bdrewN ?_ _) | (with_reducible refine Below.drew ?_) | (with_reducible refine Below.setCell ?_ ?_ _) | (with_reducible refine Below.alloc ?_ ?_ _) | (with_reducible refine Below.trans ?_ (Below.mono hb ?_)) | (with_reducible exact Nat.le_refl _) | (with_reducible assumption) | omega | (simp only [World.size_alloc, World.size_setCell, World.size_drew, sz_drewN]; omega))))⟩
          case measure => simp [intOf]; omega
        · have HK : Hid (sameB l r = false) := same_at hl hl2 (by simpa using hE)
          have hE' := lE_no (by simpa using hE)
          clear hE
          rcases hE' with e1 | ⟨e1, e2⟩
          all_goals
            go_wp2_with fail
            go_quiet (fail)
            go_wp2
            go_ret
            exact ⟨ret_bool' HK.out.symm, (by (repeat' (first | (with_reducible exact Below.refl _ _) | (with_reducible refine bdrewN ?_ _) | (with_reducible refine Below.drew ?_) | (with_reducible refine Below.setCell ?_ ?_ _) | (with_reducible refine Below.alloc ?_ ?_ _) | (with_reducible refine Below.trans ?_ (Below.mono hb ?_)) | (with_reducible exact Nat.le_refl _) | (with_reducible assumption) | omega | (simp only [World.size_alloc, World.size_setCell, World.size_drew, sz_drewN]; omega))))⟩
      · have HK : Hid (sameB l r = true) := decide_eq_true (by
          have := HA.out
          rwa [List.take_of_length_le (by have := hn.out; omega), List.take_of_length_le (by have := hm.out; omega)] at this)
        go_wp2
        go_ret
        exact ⟨ret_bool' HK.out.symm, (by (repeat' (first | (with_reducible exact Below.refl _ _) | (with_reducible refine bdrewN ?_ _) | (with_reducible refine Below.drew ?_) | (with_reducible refine Below.setCell ?_ ?_ _) | (with_reducible refine Below.alloc ?_ ?_ _) | (with_reducible refine Below.trans ?_ (Below.mono hb ?_)) | (with_reducible exact Nat.le_refl _) | (with_reducible assumption) | omega | (simp only [World.size_alloc, World.size_setCell, World.size_drew, sz_drewN]; omega))))⟩
  · have hr : sameB l r = false := same_len (by have := hn.out; have := hm.out; omega)
    rw [hr]
    go_enter Tryz.func140, Tryz.ntmps140
    go_wp2
    go_ret
    exact ⟨rfl, Below.refl _ _⟩
end Go.Proofs.YtjgojgmgicpgaaaGreat
