/- A list of operations as an argument of layer 15's laws: what it reads as; few. No condition beyond the form's own. · A control that is none: the nil one, or the zero one. No condition. -/
import Derived.Test.YtjgojgmgicpgaaaGreatTGnn
import Derived.Test.YtjgojgmgicpgaaaGreatTQ12
import Derived.Test.YtjgojgmgicpgaaaGreatTOpo
import Derived.Deep.Slices
import Derived.Deep.Fields
import Derived.SizedLaws
import Derived.ChangeArms
import Derived.OpenShut
import Derived.Test.YtjgojgmgicpgaaaGreatTQ05
import Derived.Handy
namespace Go.Proofs.YtjgojgmgicpgaaaGreat
open Go.ChangeShapes Go.WideShapes Go.RowKit Go.Deep
set_option linter.unusedSimpArgs false
set_option linter.unusedVariables false

/-- The cells of an operation. -/
def eZ (x : Oz) : List Value := x.arr.toList
/-- A slice reads as these operations, which Go can have. -/
structure RdOps (w : World) (A : Option Addr) (z : List Oz) : Prop where
  rd : RdK w 21 A (z.map eZ)
  ok : ∀ x ∈ z, OzOk w x
theorem RdOps.later {w w' : World} {A : Option Addr} {z : List Oz} (h : RdOps w A z) (hb : Below w.heap.size w w') : RdOps w' A z := ⟨h.rd.later hb, fun x hx => (h.ok x hx).later hb⟩
section
variable {H : Type} {enc : TypeId × Value → H} {W : World} {base : Nat} {sp : Nat → Bool} {held : Bool}
/-- What is known of an operation's datum. -/
def OzIn (W : World) (d : DataW H) (x : Oz) : Prop := ∃ d0 da dl qa e2 e3 e4 e7, d = .agg [d0, .agg [.lit (.string x.v.nn.data.toList), da, dl], .agg [.lit (.string x.v.qn.data.toList), qa], .agg [.lit (.string x.v.tn.data.toList), .lit (.string x.v.tq.data.toList), e2, e3, e4, .lit (.string x.v.ta.data.toList), .lit (.string x.v.tg.data.toList), e7], .lit (.string x.v.s.data.toList)] ∧ LabsIn W dl x.A1 x.m1 x.p1 x.v.l1 ∧ LabsIn W e4 x.A3 x.m3 x.p3 x.v.l3
set_option maxRecDepth 100000 in
theorem trod_oz {fuel : Nat} {cs : List Value} {x : DataW H × List MemPlace} (hf : DataW.trod enc Tryz.prog W base sp held fuel 59 cs = some x) : ∃ y : Oz, cs = eZ y ∧ OzIn W x.1 y := by
  obtain ⟨ys, n, _, hx, hsz, hyl, hg⟩ := DataW.trod_struct Tryz.underlying59 hf
  rw [cellsOp] at hsz
  obtain ⟨x0, x1, x2, x3, x4, x5, x6, x7, x8, x9, u0, u1, u2, u3, u4, u5, u6, u7, u8, u9, z, rfl⟩ := list21 cs hsz
  obtain ⟨y0, y1, y2, y3, y4, rfl⟩ := list5 ys (by simpa using hyl)
  have h0 : DataW.trod enc Tryz.prog W base sp held n 3 (List.take (Tryz.prog.cellsOf 3) [x0, x1, x2, x3, x4, x5, x6, x7, x8, x9, u0, u1, u2, u3, u4, u5, u6, u7, u8, u9, z]) = some y0 := hg 0 _ rfl
  have h1 : DataW.trod enc Tryz.prog W base sp held n 53 (List.take (Tryz.prog.cellsOf 53) [x1, x2, x3, x4, x5, x6, x7, x8, x9, u0, u1, u2, u3, u4, u5, u6, u7, u8, u9, z]) = some y1 := hg 1 _ rfl
  have h2 : DataW.trod enc Tryz.prog W base sp held n 55 (List.take (Tryz.prog.cellsOf 55) [x6, x7, x8, x9, u0, u1, u2, u3, u4, u5, u6, u7, u8, u9, z]) = some y2 := hg 2 _ rfl
  have h3 : DataW.trod enc Tryz.prog W base sp held n 57 (List.take (Tryz.prog.cellsOf 57) [u0, u1, u2, u3, u4, u5, u6, u7, u8, u9, z]) = some y3 := hg 3 _ rfl
  have h4 : DataW.trod enc Tryz.prog W base sp held n 9 (List.take (Tryz.prog.cellsOf 9) [z]) = some y4 := hg 4 _ rfl
  rw [cellsInt] at h0
  rw [cellsNode] at h1
  rw [cellsQueue] at h2
  rw [cellsTask] at h3
  rw [cells9] at h4
  obtain ⟨k, rfl⟩ := open_field_int h0
  obtain ⟨nn, a1, b1, c1, A1, m1, p1, l1, da, dl, rfl, rfl, rfl, rfl, rfl, e1, hl1⟩ := open_node_f h1
  obtain ⟨qn, a2, b2, c2, qa, rfl, rfl, rfl, rfl, e2⟩ := open_queue_f h2
  obtain ⟨tn, tq, tp, a3, b3, c3, A3, m3, p3, l3, ta, tg, ts, d2, d3, d4, d7, rfl, rfl, rfl, rfl, rfl, rfl, rfl, rfl, rfl, rfl, e3, hl3⟩ := open_task_f h3
  obtain ⟨s, rfl, e4⟩ := open_field_string h4
  exact ⟨⟨⟨k, nn, a1, b1, c1, l1, qn, a2, b2, c2, tn, tq, tp, a3, b3, c3, l3, ta, tg, ts, s⟩, A1, m1, p1, A3, m3, p3⟩, rfl, y0.1, da, dl, qa, d2, d3, d4, d7, by have := congrArg Prod.fst hx; simpa [e1, e2, e3, e4] using this, hl1, hl3⟩
/-- A slice of elements of k cells as an argument: what it reads as, and what is known of its data. -/
theorem open_rowsO {κ : Type} {a : Option Addr} {len cap : Nat} {d : DataW H} {p : List MemPlace} {tS e k : Nat} (encE : κ → List Value) (okE : DataW H → κ → Prop)
    (hu : Tryz.prog.underlying tS = some (.slice e)) (hk : Tryz.prog.cellsOf e = k) (hk0 : 0 < k) (hlen : ∀ y, (encE y).length = k)
    (htr : ∀ (sp : Nat → Bool) (held : Bool) (base fuel : Nat) (cs : List Value) (x : DataW H × List MemPlace), DataW.trod enc Tryz.prog W base sp held fuel e cs = some x → ∃ y : κ, cs = encE y ∧ okE x.1 y)
    (h : DataW.Trod enc Tryz.prog W base sp held tS (.slice a len cap) d p) :
    ∃ l : List κ, len = l.length ∧ RdK W k a (l.map encE) ∧ len ≤ cap ∧ cap ≤ 9223372036854775807 ∧ ∀ y ∈ l, ∃ elems spare e, d = .slice elems spare ∧ e ∈ elems ∧ okE e y := by
  obtain ⟨fuel, hf⟩ := h
  rcases open_slice hu hf with ⟨hcs, _⟩ | ⟨x, n', c, m, n, D, Pl, hcs, _, hl, hm, hmm, hx, hi⟩
  · simp [Value.cells] at hcs
    obtain ⟨rfl, rfl, rfl⟩ := hcs
    exact ⟨[], rfl, RdK.nil _ _ _, Nat.le_refl _, by omega, by simp⟩
  · simp [Value.cells] at hcs
    obtain ⟨rfl, rfl, rfl⟩ := hcs
    rw [hk] at hi
    have hlm : len ≤ m := by rw [hmm]; split <;> omega
    have hm' : cap ≤ 9223372036854775807 := by unfold maxLen at hm; omega
    have hdat : d = .slice ((List.range len).map D) ((List.range (m - len)).map fun j => D (len + j)) := congrArg Prod.fst hx
    have hspot : 0 < len → x.spot = none := fun h => by
      obtain ⟨cs', hc, ht⟩ := hi 0 (by omega)
      obtain ⟨_, hcl, hat⟩ := World.cells?_some hc
      have h0 := hat 0 (by omega)
      rw [List.getElem?_eq_getElem (by omega)] at h0
      simpa [Addr.add] using World.cell?_spot h0
    have key : ∀ i, i < len → ∃ y : κ, ∃ g o, x = ⟨g, o, none⟩ ∧ W.rangeAt g (o + i * k) (encE y) ∧ okE (D i) y := fun i hlt => by
      obtain ⟨cs', hc, ht⟩ := hi i (by omega)
      obtain ⟨_, hcl, hat⟩ := World.cells?_some hc
      obtain ⟨y, rfl, hok⟩ := htr _ _ _ _ _ _ ht
      obtain ⟨g, o, spot⟩ := x
      have hs : spot = none := hspot (by omega)
      subst hs
      refine ⟨y, g, o, rfl, fun j v hv => ?_, hok⟩
      have hj : j < k := by rw [← hlen y]; exact (List.getElem?_eq_some_iff.1 hv).1
      have h1 := hat j (by omega)
      rw [Addr.add_lit, Addr.add_lit, hv] at h1
      exact h1
    have pick : ∀ n, n ≤ len → ∃ l : List κ, l.length = n ∧ RdK W k (some x) (l.map encE) ∧ ∀ i y, l[i]? = some y → okE (D i) y := by
      intro n
      induction n with
      | zero => exact fun _ => ⟨[], rfl, RdK.nil _ _ _, fun i y hy => by simp at hy⟩
      | succ n ih =>
        intro hn
        obtain ⟨l, hll, hr, hall⟩ := ih (by omega)
        obtain ⟨y, g, o, hxx, hrg, hok⟩ := key n (by omega)
        refine ⟨l ++ [y], by simp [hll], fun i z hz => ?_, fun i z hz => ?_⟩
        · rw [List.map_append] at hz
          by_cases hi' : i < (l.map encE).length
          · rw [List.getElem?_append_left hi'] at hz; exact hr i z hz
          · rw [List.getElem?_append_right (by omega)] at hz
            have e : i = n := by
              have := (List.getElem?_eq_some_iff.1 hz).1
              simp at this hi'; omega
            subst e
            simp [hll] at hz
            subst hz
            exact ⟨g, o, by rw [hxx], hrg⟩
        · by_cases hi' : i < l.length
          · rw [List.getElem?_append_left hi'] at hz; exact hall i z hz
          · rw [List.getElem?_append_right (by omega)] at hz
            have e : i = n := by
              have := (List.getElem?_eq_some_iff.1 hz).1
              simp at this; omega
            subst e
            rw [show i - l.length = 0 by omega] at hz
            simp at hz; subst hz
            exact hok
    obtain ⟨l, hll, hr, hall⟩ := pick len (Nat.le_refl _)
    refine ⟨l, hll.symm, hr, by omega, hm', fun y hy => ?_⟩
    obtain ⟨i, hi', e⟩ := List.getElem_of_mem hy
    exact ⟨_, _, D i, hdat, List.mem_map.2 ⟨i, List.mem_range.2 (by omega), rfl⟩, hall i y (by rw [List.getElem?_eq_getElem hi', e])⟩
theorem open_ozs {a : Option Addr} {len cap : Nat} {d : DataW H} {p : List MemPlace} (h : DataW.Trod enc Tryz.prog W base sp held 42 (.slice a len cap) d p) : ∃ l : List Oz, len = l.length ∧ RdK W 21 a (l.map eZ) ∧ len ≤ cap ∧ cap ≤ 9223372036854775807 ∧ ∀ y ∈ l, ∃ elems spare e, d = .slice elems spare ∧ e ∈ elems ∧ OzIn W e y :=
  open_rowsO eZ (OzIn W) Tryz.underlying42 cellsOp (by omega) (fun _ => rfl) (fun _ _ _ _ _ _ h => trod_oz h) h
theorem okOz {ts : List TypeId} {ds : List (DataW H)} (h : (DataW.weightsEach Tryz.prog ts ds).all (· ≤ reachBytes) = true) {j : Nat} {d : DataW H} (ht : ts[j]? = some 59) (hd : ds[j]? = some d) {W : World} {x : Oz} (hk : OzIn W d x) : OzOk W x := by
  obtain ⟨d0, da, dl, qa, e2, e3, e4, e7, rfl, h1, h3⟩ := hk
  obtain ⟨z1, z3, n1, q1, t1, t2, t3, t4, s1⟩ := sized_op h ht hd h1 h3
  exact ⟨⟨h1.len, h1.rd, h1.cap, h1.cap2, z1⟩, ⟨h3.len, h3.rd, h3.cap, h3.cap2, z3⟩, n1, q1, t1, t2, t3, t4, s1⟩
theorem okOzs {ts : List TypeId} {ds : List (DataW H)} (h : (DataW.weightsEach Tryz.prog ts ds).all (· ≤ reachBytes) = true) {j : Nat} {d : DataW H} (ht : ts[j]? = some 42) (hd : ds[j]? = some d) {W : World} {L : List Oz}
    (hL : ∀ y ∈ L, ∃ elems spare e, d = .slice elems spare ∧ e ∈ elems ∧ OzIn W e y) : ∀ y ∈ L, OzOk W y := fun x hx => by
  obtain ⟨el, spa, e, rfl, he, hk⟩ := hL x hx
  have hall : (DataW.weightsEach Tryz.prog [59] [e]).all (· ≤ reachBytes) = true := by
    rw [List.all_eq_true] at h ⊢
    intro n hn
    refine h n (DataW.weights_mem_each ht hd n ?_)
    simp only [DataW.weights, Tryz.underlying42, List.mem_cons, List.mem_append]
    refine .inr (.inl (weightsAll_mem' he n ?_))
    simpa [DataW.weightsEach] using hn
  exact okOz hall (j := 0) rfl rfl hk
end
end Go.Proofs.YtjgojgmgicpgaaaGreat

namespace Go.Proofs.YtjgojgmgicpgaaaGreat
open Go.RowKit
set_option linter.unusedSimpArgs false
set_option linter.unusedVariables false

/-- A control's cells. -/
abbrev cV (p e : Int) (A B : Value) (n : Int) : Array Value := #[.int .i64 p, .int .i64 e, A, B, .int .i64 n]
/-- No control. -/
def Nc (w : World) (p : Option Addr) : Prop := p = none ∨ ∃ q, p = some ⟨q, 0, none⟩ ∧ Bk w q 89 (cV 0 0 .nilIface .nilIface 0)
theorem Nc.later {w w' : World} {p : Option Addr} (h : Nc w p) (hb : Below w.heap.size w w') : Nc w' p := h.imp id fun ⟨q, e, h⟩ => ⟨q, e, h.later hb⟩
theorem Nc.drew {w : World} {p : Option Addr} (h : Nc w p) : Nc w.drew p := h.later (Below.drew (Below.refl _ _))
set_option maxHeartbeats 3200000 in
theorem isNone_no (p : Option Addr) (w : World) (h : Nc w p) : Calls Tryz.prog 77 #[.pointer p] w fun e w' => e = .returned (.bool true) ∧ Below w.heap.size w w' := by
  rcases h with rfl | ⟨q, rfl, hB⟩
  · go_enter Tryz.func77, Tryz.ntmps77
    go_wp2
    go_ret
    exact ⟨rfl, Below.refl _ _⟩
  · have d2 : w.cell? ⟨q, 2, none⟩ = some .nilIface := hB.cellAt 2
    clear hB
    go_enter Tryz.func77, Tryz.ntmps77
    go_wp2
    go_ret
    exact ⟨rfl, Below.refl _ _⟩
set_option maxHeartbeats 3200000 in
theorem command_no (p : Option Addr) (k : Int) (w : World) (h : Nc w p) : Calls Tryz.prog 34 #[.pointer p, .int .i64 k] w fun e w' => e = .returned (.int .i64 14) ∧ Below w.heap.size w w' := by
  have K := Lib.hid (isNone_no p w h)
  clear h
  go_enter Tryz.func34, Tryz.ntmps34
  go_wp2_with fail
  refine K.out.mono ?_; rintro e w1 ⟨rfl, hb1⟩
  have HB := Lib.hid hb1
  clear hb1 K
  go_wp2_with fail
  go_ret
  exact ⟨rfl, HB.out⟩
set_option maxHeartbeats 3200000 in
theorem where_no (p : Option Addr) (w : World) (h : Nc w p) : Calls Tryz.prog 44 #[.pointer p] w fun e w' => e = .returned (.tuple #[.int .i64 0, .int .i64 0, .int .i64 0]) ∧ Below w.heap.size w w' := by
  have K := Lib.hid (isNone_no p w h)
  clear h
  go_enter Tryz.func44, Tryz.ntmps44
  go_wp2_with fail
  refine K.out.mono ?_; rintro e w1 ⟨rfl, hb1⟩
  have HB := Lib.hid hb1
  clear hb1 K
  go_wp2_with fail
  first | go_ret | go_ret3 | go_returns
  exact ⟨rfl, HB.out⟩
set_option maxHeartbeats 3200000 in
theorem save_no (p : Option Addr) (w : World) (h : Nc w p) : Calls Tryz.prog 39 #[.pointer p] w fun e w' => e = .returned (.slice none 0 0) ∧ Below w.heap.size w w' := by
  have K := Lib.hid (isNone_no p w h)
  clear h
  go_enter Tryz.func39, Tryz.ntmps39
  go_wp2_with fail
  refine K.out.mono ?_; rintro e w1 ⟨rfl, hb1⟩
  have HB := Lib.hid hb1
  clear hb1 K
  go_wp2_with fail
  go_ret
  exact ⟨rfl, HB.out⟩
set_option maxHeartbeats 3200000 in
theorem apart_no (p : Option Addr) (w : World) (h : Nc w p) : Calls Tryz.prog 43 #[.pointer p] w fun e w' => e = .returned (.int .i64 0) ∧ Below w.heap.size w w' := by
  rcases h with rfl | ⟨q, rfl, hB⟩
  · go_enter Tryz.func43, Tryz.ntmps43
    go_wp2
    go_ret
    exact ⟨rfl, Below.refl _ _⟩
  · have d2 : w.cell? ⟨q, 4, none⟩ = some (.int .i64 0) := hB.cellAt 4
    clear hB
    go_enter Tryz.func43, Tryz.ntmps43
    go_wp2
    go_ret
    exact ⟨rfl, Below.refl _ _⟩
set_option maxHeartbeats 3200000 in
set_option maxRecDepth 100000 in
theorem hdo_no (p : Option Addr) (x : Oz) (w : World) (h : Nc w p) : Calls Tryz.prog 36 #[.pointer p, .agg x.arr] w fun e w' => e = .returned (.agg #[.int .i64 1, .slice none 0 0]) ∧ Below w.heap.size w w' := by
  have K := Lib.hid (fun W (hb : Below w.heap.size w W) => isNone_no p W (h.later hb))
  clear h
  obtain ⟨W0, hW0⟩ : ∃ W0, W0 = (w.alloc (.cells x.arr 59)).alloc (.cells #[.int .i64 0, .slice none 0 0] 47) := ⟨_, rfl⟩
  have HA0 : Hid (Bk W0 (w.heap.size + 1) 47 #[.int .i64 0, .slice none 0 0]) := by rw [hW0]; exact Bk.freshAt _ _ _ (by simp)
  have Hb0 : Hid (Below w.heap.size w W0) := by rw [hW0]; exact ((Below.refl _ _).alloc (Nat.le_refl _) _).alloc (by simp) _
  subst hW0
  go_enter Tryz.func36, Tryz.ntmps36
  go_wp2_with fail
  refine (K.out _ Hb0.out).mono ?_; rintro e w1 ⟨rfl, hb1⟩
  have HA1 := Lib.hid (HA0.out.later hb1)
  have Hb1 : Hid (Below w.heap.size w w1) := Hb0.out.trans (hb1.mono Hb0.out.size)
  clear hb1 K HA0 Hb0
  go_wp2_with ((with_reducible refine store_bk rfl 47 (.tmp 4) (.tmp 8) rfl (w.heap.size + 1) 0 #[.int .i64 1, .slice none 0 0] rfl rfl 47 _ #[.int .i64 1, .slice none 0 0] HA1.out (by kernel_rfl) (by simp) (by kernel_rfl) rfl ?_); intro w2 hB2 hg2 hs2)
  exact bodyPost_ret (v := .agg #[.int .i64 1, .slice none 0 0]) (results_bk1 Tryz.results36 _ _ (w.heap.size + 1) 47 _ _ rfl hB2 Tryz.underlying47 rfl (by kernel_rfl)) rfl ⟨rfl, Hb1.out.grown hg2 Hb1.out.size (fun q e => by injection e with e; omega)⟩
set_option maxHeartbeats 3200000 in
set_option maxRecDepth 100000 in
theorem hstate_no (p : Option Addr) (w : World) (h : Nc w p) : Calls Tryz.prog 41 #[.pointer p] w fun e w' => (∃ v', e = .returned v' ∧ ZSt v') ∧ Below w.heap.size w w' := by
  have K := Lib.hid (fun W (hb : Below w.heap.size w W) => isNone_no p W (h.later hb))
  clear h
  obtain ⟨W0, hW0⟩ : ∃ W0, W0 = w.alloc (.cells #[.int .i64 0, .int .i64 0, .slice none 0 0, .slice none 0 0, .slice none 0 0] 26) := ⟨_, rfl⟩
  have HA0 : Hid (Bk W0 w.heap.size 26 #[.int .i64 0, .int .i64 0, .slice none 0 0, .slice none 0 0, .slice none 0 0]) := by rw [hW0]; exact Bk.fresh _ _ _
  have Hb0 : Hid (Below w.heap.size w W0) := by rw [hW0]; exact (Below.refl _ _).alloc (Nat.le_refl _) _
  subst hW0
  go_enter Tryz.func41, Tryz.ntmps41
  go_wp2_with fail
  refine (K.out _ Hb0.out).mono ?_; rintro e w1 ⟨rfl, hb1⟩
  have HA1 := Lib.hid (HA0.out.later hb1)
  have Hb1 : Hid (Below w.heap.size w w1) := Hb0.out.trans (hb1.mono Hb0.out.size)
  clear hb1 K HA0 Hb0
  go_wp2_with fail
  refine (new_z _).mono ?_; rintro e w2 ⟨rfl, hZ, hb2⟩
  have HZ := Lib.hid hZ
  have HA2 := Lib.hid (HA1.out.later hb2)
  have Hb2 : Hid (Below w.heap.size w w2) := Hb1.out.trans (hb2.mono Hb1.out.size)
  clear hZ hb2 HA1 Hb1
  go_wp2_with fail
  refine (state_z _ w2 HZ.out).mono ?_; rintro e w3 ⟨⟨v', rfl, hv⟩, hb3⟩
  obtain ⟨A, a, B, b, C, c, rfl, ha, hb, hc⟩ := hv
  have HV : Hid (ZSt (.agg (zV A a B b C c))) := ⟨A, a, B, b, C, c, rfl, ha, hb, hc⟩
  have HA3 := Lib.hid (HA2.out.later hb3)
  have Hb3 : Hid (Below w.heap.size w w3) := Hb2.out.trans (hb3.mono Hb2.out.size)
  clear ha hb hc hb3 HA2 Hb2 HZ
  go_wp2_with ((with_reducible refine store_bk rfl 26 (.tmp 2) (.tmp 6) rfl w.heap.size 0 (zV A a B b C c) rfl rfl 26 _ (zV A a B b C c) HA3.out (by kernel_rfl) (by simp) (by kernel_rfl) rfl ?_); intro w4 hB4 hg4 hs4)
  exact bodyPost_ret (v := .agg (zV A a B b C c)) (results_bk1 Tryz.results41 _ _ w.heap.size 26 _ _ rfl hB4 Tryz.underlying26 rfl (by kernel_rfl)) rfl ⟨⟨_, rfl, HV.out⟩, Hb3.out.grown hg4 Hb3.out.size (fun q e => by injection e with e; omega)⟩
end Go.Proofs.YtjgojgmgicpgaaaGreat
