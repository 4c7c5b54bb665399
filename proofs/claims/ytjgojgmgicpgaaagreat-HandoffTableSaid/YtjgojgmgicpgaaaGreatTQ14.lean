/- A step (a command, or an operation) as an argument of layer 22's laws; are steps few. No condition beyond the form's own. · Layer 22's few: steps that are few and small. No condition beyond the form's own. -/
import Derived.Test.YtjgojgmgicpgaaaGreatTQ13
import Derived.BigQuiet
import Derived.Deep.QuietTactic
import Derived.Handy
namespace Go.Proofs.YtjgojgmgicpgaaaGreat
open Go.ChangeShapes Go.WideShapes Go.RowKit Go.Deep
set_option linter.unusedSimpArgs false
set_option linter.unusedVariables false

/-- The cells of a step. -/
def eP (x : Int × Oz) : List Value := .int .i64 x.1 :: eZ x.2
def pArr (x : Int × Oz) : Array Value := (eP x).toArray
section
variable {H : Type} {enc : TypeId × Value → H} {W : World} {base : Nat} {sp : Nat → Bool} {held : Bool}
def StpIn (W : World) (d : DataW H) (x : Int × Oz) : Prop := ∃ d0 d1, d = .agg [d0, d1] ∧ OzIn W d1 x.2
theorem cellsStep : Tryz.prog.cellsOf 73 = 22 := by kernel_rfl
set_option maxRecDepth 100000 in
theorem trod_step {fuel : Nat} {cs : List Value} {x : DataW H × List MemPlace} (hf : DataW.trod enc Tryz.prog W base sp held fuel 73 cs = some x) : ∃ y : Int × Oz, cs = eP y ∧ StpIn W x.1 y := by
  obtain ⟨ys, n, _, hx, hsz, hyl, hg⟩ := DataW.trod_struct Tryz.underlying73 hf
  rw [cellsStep] at hsz
  obtain ⟨c, cs, rfl⟩ : ∃ c r, cs = c :: r := by
    cases cs with
    | nil => simp at hsz
    | cons c r => exact ⟨c, r, rfl⟩
  have hl : cs.length = 21 := by simpa using hsz
  obtain ⟨y0, y1, rfl⟩ : ∃ a b, ys = [a, b] := by
    match ys, hyl with
    | [a, b], _ => exact ⟨a, b, rfl⟩
  have h0 : DataW.trod enc Tryz.prog W base sp held n 3 (List.take (Tryz.prog.cellsOf 3) (c :: cs)) = some y0 := hg 0 _ rfl
  have h1 : DataW.trod enc Tryz.prog W base sp held n 59 (List.take (Tryz.prog.cellsOf 59) cs) = some y1 := hg 1 _ rfl
  rw [cellsInt] at h0
  rw [cellsOp, List.take_of_length_le (by omega)] at h1
  obtain ⟨k, rfl⟩ := open_field_int h0
  obtain ⟨z, rfl, hz⟩ := trod_oz h1
  exact ⟨(k, z), rfl, y0.1, y1.1, by have := congrArg Prod.fst hx; simpa using this, hz⟩
set_option maxRecDepth 100000 in
theorem open_step {r : Reach} {b0 : Nat} {v : Value} {d : DataW H} {p : List MemPlace} (hval : Value.okWide Tryz.prog W r b0 73 v) (h : DataW.Trod enc Tryz.prog W base sp held 73 v d p) :
    ∃ (c : Int) (z : Oz), v = .agg (pArr (c, z)) ∧ StpIn W d (c, z) := by
  obtain ⟨cs, rfl, hsz⟩ := okWide_struct Tryz.underlying73 hval
  obtain ⟨fuel, hf⟩ := h
  obtain ⟨y, hy, hs⟩ := trod_step hf
  obtain ⟨c, z⟩ := y
  refine ⟨c, z, ?_, hs⟩
  unfold pArr
  rw [← hy]
  simp [Value.cells]
set_option maxRecDepth 100000 in
theorem okStep {ts : List TypeId} {ds : List (DataW H)} (h : (DataW.weightsEach Tryz.prog ts ds).all (· ≤ reachBytes) = true) {j : Nat} {d : DataW H} (ht : ts[j]? = some 73) (hd : ds[j]? = some d) {W : World} {c : Int} {z : Oz} (hs : StpIn W d (c, z)) : OzOk W z := by
  obtain ⟨d0, d1, rfl, hz⟩ := hs
  have hi := sized_inner h Tryz.underlying73 ht hd
  exact okOz hi (j := 1) rfl rfl hz
theorem open_steps {a : Option Addr} {len cap : Nat} {d : DataW H} {p : List MemPlace} (h : DataW.Trod enc Tryz.prog W base sp held 66 (.slice a len cap) d p) : ∃ l : List (Int × Oz), len = l.length ∧ RdK W 22 a (l.map eP) ∧ len ≤ cap ∧ cap ≤ 9223372036854775807 ∧ ∀ y ∈ l, ∃ elems spare e, d = .slice elems spare ∧ e ∈ elems ∧ StpIn W e y :=
  open_rowsO eP (StpIn W) Tryz.underlying66 cellsStep (by omega) (fun _ => rfl) (fun _ _ _ _ _ _ h => trod_step h) h
theorem okSteps {ts : List TypeId} {ds : List (DataW H)} (h : (DataW.weightsEach Tryz.prog ts ds).all (· ≤ reachBytes) = true) {j : Nat} {d : DataW H} (ht : ts[j]? = some 66) (hd : ds[j]? = some d) {W : World} {L : List (Int × Oz)}
    (hL : ∀ y ∈ L, ∃ elems spare e, d = .slice elems spare ∧ e ∈ elems ∧ StpIn W e y) : ∀ y ∈ L, OzOk W y.2 := fun x hx => by
  obtain ⟨el, spa, e, rfl, he, hk⟩ := hL x hx
  have hall : (DataW.weightsEach Tryz.prog [73] [e]).all (· ≤ reachBytes) = true := by
    rw [List.all_eq_true] at h ⊢
    intro n hn
    refine h n (DataW.weights_mem_each ht hd n ?_)
    simp only [DataW.weights, Tryz.underlying66, List.mem_cons, List.mem_append]
    refine .inr (.inl (weightsAll_mem' he n ?_))
    simpa [DataW.weightsEach] using hn
  obtain ⟨c, z⟩ := x
  exact okStep hall (j := 0) rfl rfl hk
end
end Go.Proofs.YtjgojgmgicpgaaaGreat

namespace Go.Proofs.YtjgojgmgicpgaaaGreat
open Go.RowKit
set_option linter.unusedSimpArgs false
set_option linter.unusedVariables false

/-- A slice reads as these steps, which Go can have. -/
structure RdSteps (w : World) (A : Option Addr) (z : List (Int × Oz)) : Prop where
  rd : RdK w 22 A (z.map eP)
  ok : ∀ x ∈ z, OzOk w x.2
theorem RdSteps.later {w w' : World} {A : Option Addr} {z : List (Int × Oz)} (h : RdSteps w A z) (hb : Below w.heap.size w w') : RdSteps w' A z := ⟨h.rd.later hb, fun x hx => (h.ok x hx).later hb⟩
set_option maxHeartbeats 12800000 in
set_option maxRecDepth 100000 in
theorem few22_any (A : Option Addr) (n c : Nat) (z : List (Int × Oz)) (w : World) (hn : Hid (n = z.length)) (hm : n ≤ 9223372036854775807) (hr : Hid (RdSteps w A z)) : Calls Tryz.prog 31 #[.slice A n c] w fun e w' => RetIf e (n ≤ 120 ∧ ∀ x ∈ z, x.2.m1 ≤ 20 ∧ x.2.m3 ≤ 20) ∧ Below w.heap.size w w' := by
  by_cases h1 : n ≤ 120
  case neg =>
    have hni : (120 : Int) < (n : Int) := by omega
    clear h1
    go_enter Tryz.func31, Tryz.ntmps31
    go_wp2_with fail
    go_ret
    exact ⟨RetIf.no, Below.refl _ _⟩
  have hni : ¬ (120 : Int) < (n : Int) := by omega
  have H1 := Lib.hid h1
  clear hm h1
  go_enter Tryz.func31, Tryz.ntmps31
  go_wp2_with fail
  clear hni
  go_loopw [10] (fun s9 wr => ∃ k : Nat, k ≤ n ∧ s9 = .int .i64 k ∧ Hid (∀ x ∈ z.take k, x.2.m1 ≤ 20 ∧ x.2.m3 ≤ 20) ∧ Hid (Below w.heap.size w wr)) (fun s9 wr => n - (intOf s9).toNat)
  case atStart => exact ⟨0, Nat.zero_le _, rfl, (by intro x hx; simp at hx), Below.refl _ _⟩
  case round =>
    obtain ⟨k, hk, rfl, HA, HB⟩ := hrel
    by_cases hlt : k < n
    · have hkl : Hid (k < z.length) := by show k < z.length; rw [← hn.out]; exact hlt
      obtain ⟨x, hx⟩ : ∃ x, x = z[k]'hkl.out := ⟨_, rfl⟩
      obtain ⟨g, o, hA, hrg⟩ := (hr.out.later HB.out).rd.at (i := k) (by rw [List.length_map]; exact hkl.out)
      rw [List.getElem_map, ← hx] at hrg
      have HX : Hid (wr.rangeAt g (o + k * 22 + 1) x.2.arr.toList) := fun j v hv => by
        have h := hrg (j + 1) v (by unfold eP eZ; rw [List.getElem?_cons_succ]; exact hv)
        rw [show o + k * 22 + 1 + j = o + k * 22 + (j + 1) by omega]
        exact h
      have HXE := Lib.hid hx
      subst hA
      have hwk : wrap64 ((k : Int) + 1) = ((k + 1 : Nat) : Int) := by have := H1.out; unfold wrap64; omega
      clear hrg hx
      obtain ⟨c0, ⟨⟨kk, nn, a1, b1, c1, l1, qn, a2, b2, c2, tn, tq, tp, a3, b3, c3, l3, ta, tg, ts, s⟩, A1, m1, p1, A3, m3, p3⟩⟩ := x
      obtain ⟨d1, hd1⟩ : ∃ d, d = decide ((20 : Int) < (m1 : Int)) := ⟨_, rfl⟩
      obtain ⟨d3, hd3⟩ : ∃ d, d = decide ((20 : Int) < (m3 : Int)) := ⟨_, rfl⟩
      have HD1 : Hid (d1 = decide ((20 : Int) < (m1 : Int))) := hd1
      have HD3 : Hid (d3 = decide ((20 : Int) < (m3 : Int))) := hd3
      obtain ⟨dS, hdS⟩ : ∃ d, d = decide ((2000 : Int) < wrap64 (wrap64 (wrap64 (wrap64 (wrap64 (wrap64 ((nn.size : Int) + (qn.size : Int)) + (tn.size : Int)) + (tq.size : Int)) + (ta.size : Int)) + (tg.size : Int)) + (s.size : Int))) := ⟨_, rfl⟩
      go_wp2_with (first | (with_reducible refine load_rg rfl 59 _ rfl g (o + k * 22 + 1) rfl #[.int .i64 kk, .string nn, .int .i64 a1, .int .i64 b1, .int .i64 c1, .slice A1 m1 p1, .string qn, .int .i64 a2, .int .i64 b2, .int .i64 c2, .string tn, .string tq, .int .i64 tp, .int .i64 a3, .int .i64 b3, .int .i64 c3, .slice A3 m3 p3, .string ta, .string tg, .int .i64 ts, .string s] _ HX.out Tryz.underlying59 rfl (by kernel_rfl) ?_) | ((with_reducible refine store_bk rfl 59 (.tmp 4) (.tmp 17) rfl wr.heap.size 0 #[.int .i64 kk, .string nn, .int .i64 a1, .int .i64 b1, .int .i64 c1, .slice A1 m1 p1, .string qn, .int .i64 a2, .int .i64 b2, .int .i64 c2, .string tn, .string tq, .int .i64 tp, .int .i64 a3, .int .i64 b3, .int .i64 c3, .slice A3 m3 p3, .string ta, .string tg, .int .i64 ts, .string s] rfl rfl 59 _ #[.int .i64 kk, .string nn, .int .i64 a1, .int .i64 b1, .int .i64 c1, .slice A1 m1 p1, .string qn, .int .i64 a2, .int .i64 b2, .int .i64 c2, .string tn, .string tq, .int .i64 tp, .int .i64 a3, .int .i64 b3, .int .i64 c3, .slice A3 m3 p3, .string ta, .string tg, .int .i64 ts, .string s] (Bk.fresh _ _ _) (by kernel_rfl) (by simp) (by kernel_rfl) rfl ?_); intro w2 hB hG hs; obtain ⟨q, hq⟩ : ∃ q, q = wr.heap.size := ⟨_, rfl⟩; have HL2 : Hid (Below wr.heap.size wr w2) := ((Below.refl _ _).alloc (Nat.le_refl _) _).grown hG (by simp) (by intro k e; injection e with e; omega); have HB2 := Lib.hid (HB.out.trans (HL2.out.mono HB.out.size)); rw [← hq] at hB ⊢; have y1 : w2.cell? ⟨q, 1, none⟩ = some (.string nn) := hB.cellAt 1; have y5 : w2.cell? ⟨q, 5, none⟩ = some (.slice A1 m1 p1) := hB.cellAt 5; have y6 : w2.cell? ⟨q, 6, none⟩ = some (.string qn) := hB.cellAt 6; have y10 : w2.cell? ⟨q, 10, none⟩ = some (.string tn) := hB.cellAt 10; have y11 : w2.cell? ⟨q, 11, none⟩ = some (.string tq) := hB.cellAt 11; have y16 : w2.cell? ⟨q, 16, none⟩ = some (.slice A3 m3 p3) := hB.cellAt 16; have y17 : w2.cell? ⟨q, 17, none⟩ = some (.string ta) := hB.cellAt 17; have y18 : w2.cell? ⟨q, 18, none⟩ = some (.string tg) := hB.cellAt 18; have y20 : w2.cell? ⟨q, 20, none⟩ = some (.string s) := hB.cellAt 20; clear hB hG hs hq HL2 HX))
      · go_ret
        exact ⟨RetIf.no, HB2.out⟩
      · rename_i hA hB hC
        have HA2 : Hid (∀ x ∈ z.take (k + 1), x.2.m1 ≤ 20 ∧ x.2.m3 ≤ 20) := mem_take_succ hkl.out HA.out (by rw [← HXE.out]; show m1 ≤ 20 ∧ m3 ≤ 20; obtain ⟨⟨e1, e2⟩, _⟩ := hC; exact ⟨by omega, by omega⟩)
        rw [hwk]
        refine ⟨⟨k + 1, by omega, rfl, HA2, HB2⟩, ?_⟩
        show n - ((k + 1 : Nat) : Int).toNat < n - ((k : Nat) : Int).toNat
        rw [Int.toNat_natCast, Int.toNat_natCast]; omega
      · go_ret
        exact ⟨RetIf.no, HB2.out⟩
      · go_ret
        exact ⟨RetIf.no, HB2.out⟩
    · have hkn : k = n := by omega
      have HF : Hid (∀ x ∈ z, x.2.m1 ≤ 20 ∧ x.2.m3 ≤ 20) := by have h := HA.out; rw [hkn, hn.out, List.take_length] at h; exact h
      clear HA hk hlt
      subst hkn
      go_wp2_with fail
      go_ret
      exact ⟨RetIf.yes ⟨H1.out, HF.out⟩, HB.out⟩
end Go.Proofs.YtjgojgmgicpgaaaGreat
