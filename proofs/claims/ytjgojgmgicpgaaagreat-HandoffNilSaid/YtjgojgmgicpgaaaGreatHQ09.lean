/- The walk of HandoffNil. No condition beyond the form's own. · The law HandoffNil holds of the program: the Go function returns true for every input, and each argument reads afterwards as it did. No condition beyond the form's own. -/
import Derived.Test.YtjgojgmgicpgaaaGreatHZha
import Derived.Test.YtjgojgmgicpgaaaGreatHQ08
import Derived.Test.YtjgojgmgicpgaaaGreatHGsm
import Derived.Test.YtjgojgmgicpgaaaGreatRows
import Derived.ProofKit
import Derived.OpenShut
import Derived.ShutString
import Derived.ChangeOld
import Derived.Below
import Derived.SizedLaws
namespace Go.Proofs.YtjgojgmgicpgaaaGreat
open Go.RowKit
set_option linter.unusedSimpArgs false
set_option linter.unusedVariables false

abbrev stA (c : Int) (x : Oz) : Array Value := #[.int .i64 c, .int .i64 x.v.k, .string x.v.nn, .int .i64 x.v.a1, .int .i64 x.v.b1, .int .i64 x.v.c1, .slice x.A1 x.m1 x.p1, .string x.v.qn, .int .i64 x.v.a2, .int .i64 x.v.b2, .int .i64 x.v.c2, .string x.v.tn, .string x.v.tq, .int .i64 x.v.tp, .int .i64 x.v.a3, .int .i64 x.v.b3, .int .i64 x.v.c3, .slice x.A3 x.m3 x.p3, .string x.v.ta, .string x.v.tg, .int .i64 x.v.ts, .string x.v.s]
theorem rdS_one {W : World} {q : Nat} {t : TypeId} {c : Int} {x : Oz} (h : Bk W q t (stA c x)) (hx : OzOk W x) : RdSteps W (some ⟨q, 0, none⟩) [(c, x)] :=
  ⟨fun i z hz => by
    match i with
    | 0 =>
      have e : z = eP (c, x) := by simpa using hz.symm
      subst e
      exact ⟨q, 0, rfl, h.range (Part.whole _)⟩
    | i + 1 => simp at hz, fun y hy => by rw [List.mem_singleton.1 hy]; exact hx⟩
namespace handoffNil
set_option maxHeartbeats 51200000 in
set_option maxRecDepth 100000 in
theorem walk0 (c : Int) (x : Oz) (zero : Bool) (w : World) (hx : OzOk w x) : Calls Tryz.prog 12 #[.agg (stA c x), .bool zero] w fun r w' => r = .returned (.bool true) ∧ Below w.heap.size w w' := by
  have HX := Lib.hid (fun W (h : Below w.heap.size w W) => hx.later h)
  clear hx
  have HO0 : Hid (Bk (w.alloc (.cells (stA c x) 73)) w.heap.size 73 (stA c x)) := Bk.fresh _ _ _
  have Hb0 : Hid (Below w.heap.size w (w.alloc (.cells (stA c x) 73))) := (Below.refl _ _).alloc (Nat.le_refl _) _
  go_enter Tryz.func12, Tryz.ntmps12
  go_wp2_with fail
  refine (awake22_any _).mono ?_; rintro e w1 ⟨rfl, hb1⟩
  have HO1 := Lib.hid (HO0.out.later hb1); have Hb1 := Lib.hid (bclose Hb0.out hb1)
  clear hb1 HO0 Hb0
  go_wp2_with (with_reducible refine load_bk rfl 73 _ rfl w.heap.size 0 rfl 73 (stA c x) (stA c x) _ HO1.out (Part.whole _) Tryz.underlying73 rfl (by kernel_rfl) ?_)
  have HL2 : Hid (Below w1.heap.size w1 (w1.alloc (.cells (stA c x) 73))) := (Below.refl _ _).alloc (Nat.le_refl _) _
  refine (few22_any (some ⟨w1.heap.size, 0, none⟩) 1 1 [(c, x)] _ (Lib.hid rfl) (by decide) (Lib.hid (rdS_one (Bk.fresh w1 73 (stA c x)) (HX.out _ (bclose Hb1.out HL2.out))))).mono ?_
  rintro e w3 ⟨⟨b, rfl, hbt⟩, hb3⟩
  have HO3 := Lib.hid ((HO1.out.later HL2.out).later hb3); have Hb3 := Lib.hid (bclose (bclose Hb1.out HL2.out) hb3)
  clear hb3 HO1 Hb1 HL2 hbt
  cases b
  case false =>
    go_wp2_with fail
    refine (awake22_any _).mono ?_; rintro e w4 ⟨rfl, hb4⟩
    go_wp2_with fail
    go_ret
    exact ⟨rfl, bclose Hb3.out hb4⟩
  case true =>
    cases zero
    case false =>
      obtain ⟨p, hp⟩ : ∃ p : Option Addr, p = none := ⟨_, rfl⟩
      obtain ⟨w4, hw4⟩ : ∃ W, W = w3 := ⟨_, rfl⟩
      have HN4 : Hid (Nc w4 p) := .inl hp
      have HO4 : Hid (Bk w4 w.heap.size 73 (stA c x)) := by rw [hw4]; exact HO3.out
      have Hb4 : Hid (Below w.heap.size w w4) := by rw [hw4]; exact Hb3.out
      go_upto_region 6 with fail
      try simp only [Act.put]
      rw [← hp, ← hw4]
      clear HO3 Hb3 hp hw4
      go_wp2_with (with_reducible refine load_bk rfl 59 _ rfl w.heap.size 1 rfl 73 (stA c x) x.arr _ HO4.out (Part.of rfl) Tryz.underlying59 rfl (by kernel_rfl) ?_)
      refine (hdo_no p x _ HN4.out).mono ?_; rintro e w5 ⟨rfl, hb5⟩
      have HO5 := Lib.hid (HO4.out.later hb5); have HN5 := Lib.hid (HN4.out.later hb5); have Hb5 := Lib.hid (bclose Hb4.out hb5)
      clear hb5 HO4 HN4 Hb4
      go_wp2_with ((with_reducible refine store_bk rfl 47 (.tmp 6) (.tmp 25) rfl w5.heap.size 0 #[.int .i64 1, .slice none 0 0] rfl rfl 47 _ #[.int .i64 1, .slice none 0 0] (Bk.fresh _ _ _) (by kernel_rfl) (by simp) (by kernel_rfl) rfl ?_); intro w6 hB hG hs; obtain ⟨pa, hpa⟩ : ∃ q, q = w5.heap.size := ⟨_, rfl⟩; have HL6 : Hid (Below w5.heap.size w5 w6) := ((Below.refl _ _).alloc (Nat.le_refl _) _).grown hG (by simp) (by intro k e; injection e with e; omega); rw [← hpa] at hB ⊢; have HA6 := Lib.hid hB; have HO6 := Lib.hid (HO5.out.later HL6.out); have HN6 := Lib.hid (HN5.out.later HL6.out); have Hb6 := Lib.hid (bclose Hb5.out HL6.out); clear hB hG hs hpa HL6 HO5 HN5 Hb5)
      refine (where_no p _ HN6.out).mono ?_; rintro e w7 ⟨rfl, hb7⟩
      have HO7 := Lib.hid (HO6.out.later hb7); have HA7 := Lib.hid (HA6.out.later hb7); have HN7 := Lib.hid (HN6.out.later hb7); have Hb7 := Lib.hid (bclose Hb6.out hb7)
      clear hb7 HO6 HA6 HN6 Hb6
      have c0 : w7.cell? ⟨pa, 0, none⟩ = some (.int .i64 1) := HA7.out.cellAt 0
      have c1 : w7.cell? ⟨pa, 1, none⟩ = some (.slice none 0 0) := HA7.out.cellAt 1
      have c2 : w7.cell? ⟨w.heap.size, 0, none⟩ = some (.int .i64 c) := HO7.out.cellAt 0
      clear HA7 HO7
      go_wp2_with fail
      refine (command_no p _ _ HN7.out).mono ?_; rintro e w8 ⟨rfl, hb8⟩
      have HN8 := Lib.hid (HN7.out.later hb8); have Hb8 := Lib.hid (bclose Hb7.out hb8)
      clear hb8 HN7 Hb7 c0 c1 c2
      go_wp2_with fail
      refine (apart_no p _ HN8.out).mono ?_; rintro e w9 ⟨rfl, hb9⟩
      have HN9 := Lib.hid (HN8.out.later hb9); have Hb9 := Lib.hid (bclose Hb8.out hb9)
      clear hb9 HN8 Hb8
      go_wp2_with fail
      refine (save_no p _ HN9.out).mono ?_; rintro e wA ⟨rfl, hbA⟩
      have HNA := Lib.hid (HN9.out.later hbA); have HbA := Lib.hid (bclose Hb9.out hbA)
      clear hbA HN9 Hb9
      go_wp2_with fail
      refine (hstate_no p _ HNA.out).mono ?_; rintro e wB ⟨⟨v', rfl, A, a, B, b, C, d, rfl, ha, hb, hd⟩, hbB⟩
      have HZ : Hid (∀ W, RdSt W ⟨0, 1, A, 0, a, B, 0, b, C, 0, d⟩ Sg.new) := fun W => zRd W ha hb hd
      have HbB := Lib.hid (bclose HbA.out hbB)
      clear hbB HNA HbA ha hb hd
      go_wp2_with fail
      refine (rnew_any _).mono ?_; rintro e wC ⟨rfl, hbC⟩
      have HbC := Lib.hid (bclose HbB.out hbC)
      clear hbC HbB
      go_wp2_with fail
      refine (same15_yes ⟨0, 1, A, 0, a, B, 0, b, C, 0, d⟩ svN Sg.new Sg.new _ (HZ.out _) (rdN _) rfl).mono ?_; rintro e wD ⟨rfl, hbD⟩
      have HBz := Lib.hid (bclose HbC.out hbD)
      clear hbD HbC HZ
      go_wp2_with fail
      go_ret
      exact ⟨rfl, HBz.out⟩
    case true =>
      obtain ⟨p, hp⟩ : ∃ p : Option Addr, p = some ⟨w3.heap.size, 0, none⟩ := ⟨_, rfl⟩
      obtain ⟨w4, hw4⟩ : ∃ W, W = w3.alloc (.cells (cV 0 0 .nilIface .nilIface 0) 89) := ⟨_, rfl⟩
      have HL4 : Below w3.heap.size w3 w4 := by rw [hw4]; exact (Below.refl _ _).alloc (Nat.le_refl _) _
      have HN4 : Hid (Nc w4 p) := .inr ⟨_, hp, by rw [hw4]; exact Bk.fresh _ _ _⟩
      have HO4 := Lib.hid (HO3.out.later HL4)
      have Hb4 := Lib.hid (bclose Hb3.out HL4)
      go_upto_region 6 with fail
      try simp only [Act.put]
      rw [← hp, ← hw4]
      clear HO3 Hb3 hp hw4 HL4
      go_wp2_with (with_reducible refine load_bk rfl 59 _ rfl w.heap.size 1 rfl 73 (stA c x) x.arr _ HO4.out (Part.of rfl) Tryz.underlying59 rfl (by kernel_rfl) ?_)
      refine (hdo_no p x _ HN4.out).mono ?_; rintro e w5 ⟨rfl, hb5⟩
      have HO5 := Lib.hid (HO4.out.later hb5); have HN5 := Lib.hid (HN4.out.later hb5); have Hb5 := Lib.hid (bclose Hb4.out hb5)
      clear hb5 HO4 HN4 Hb4
      go_wp2_with ((with_reducible refine store_bk rfl 47 (.tmp 6) (.tmp 25) rfl w5.heap.size 0 #[.int .i64 1, .slice none 0 0] rfl rfl 47 _ #[.int .i64 1, .slice none 0 0] (Bk.fresh _ _ _) (by kernel_rfl) (by simp) (by kernel_rfl) rfl ?_); intro w6 hB hG hs; obtain ⟨pa, hpa⟩ : ∃ q, q = w5.heap.size := ⟨_, rfl⟩; have HL6 : Hid (Below w5.heap.size w5 w6) := ((Below.refl _ _).alloc (Nat.le_refl _) _).grown hG (by simp) (by intro k e; injection e with e; omega); rw [← hpa] at hB ⊢; have HA6 := Lib.hid hB; have HO6 := Lib.hid (HO5.out.later HL6.out); have HN6 := Lib.hid (HN5.out.later HL6.out); have Hb6 := Lib.hid (bclose Hb5.out HL6.out); clear hB hG hs hpa HL6 HO5 HN5 Hb5)
      refine (where_no p _ HN6.out).mono ?_; rintro e w7 ⟨rfl, hb7⟩
      have HO7 := Lib.hid (HO6.out.later hb7); have HA7 := Lib.hid (HA6.out.later hb7); have HN7 := Lib.hid (HN6.out.later hb7); have Hb7 := Lib.hid (bclose Hb6.out hb7)
      clear hb7 HO6 HA6 HN6 Hb6
      have c0 : w7.cell? ⟨pa, 0, none⟩ = some (.int .i64 1) := HA7.out.cellAt 0
      have c1 : w7.cell? ⟨pa, 1, none⟩ = some (.slice none 0 0) := HA7.out.cellAt 1
      have c2 : w7.cell? ⟨w.heap.size, 0, none⟩ = some (.int .i64 c) := HO7.out.cellAt 0
      clear HA7 HO7
      go_wp2_with fail
      refine (command_no p _ _ HN7.out).mono ?_; rintro e w8 ⟨rfl, hb8⟩
      have HN8 := Lib.hid (HN7.out.later hb8); have Hb8 := Lib.hid (bclose Hb7.out hb8)
      clear hb8 HN7 Hb7 c0 c1 c2
      go_wp2_with fail
      refine (apart_no p _ HN8.out).mono ?_; rintro e w9 ⟨rfl, hb9⟩
      have HN9 := Lib.hid (HN8.out.later hb9); have Hb9 := Lib.hid (bclose Hb8.out hb9)
      clear hb9 HN8 Hb8
      go_wp2_with fail
      refine (save_no p _ HN9.out).mono ?_; rintro e wA ⟨rfl, hbA⟩
      have HNA := Lib.hid (HN9.out.later hbA); have HbA := Lib.hid (bclose Hb9.out hbA)
      clear hbA HN9 Hb9
      go_wp2_with fail
      refine (hstate_no p _ HNA.out).mono ?_; rintro e wB ⟨⟨v', rfl, A, a, B, b, C, d, rfl, ha, hb, hd⟩, hbB⟩
      have HZ : Hid (∀ W, RdSt W ⟨0, 1, A, 0, a, B, 0, b, C, 0, d⟩ Sg.new) := fun W => zRd W ha hb hd
      have HbB := Lib.hid (bclose HbA.out hbB)
      clear hbB HNA HbA ha hb hd
      go_wp2_with fail
      refine (rnew_any _).mono ?_; rintro e wC ⟨rfl, hbC⟩
      have HbC := Lib.hid (bclose HbB.out hbC)
      clear hbC HbB
      go_wp2_with fail
      refine (same15_yes ⟨0, 1, A, 0, a, B, 0, b, C, 0, d⟩ svN Sg.new Sg.new _ (HZ.out _) (rdN _) rfl).mono ?_; rintro e wD ⟨rfl, hbD⟩
      have HBz := Lib.hid (bclose HbC.out hbD)
      clear hbD HbC HZ
      go_wp2_with fail
      go_ret
      exact ⟨rfl, HBz.out⟩
theorem pArr_eq (c : Int) (x : Oz) : pArr (c, x) = stA c x := rfl
theorem walk (c : Int) (x : Oz) (zero : Bool) (w : World) (hx : OzOk w x) : Calls Tryz.prog 12 #[.agg (pArr (c, x)), .bool zero] w fun r w' => r = .returned (.bool true) ∧ Below w.heap.size w w' := by
  rw [pArr_eq]; exact walk0 c x zero w hx
end handoffNil
end Go.Proofs.YtjgojgmgicpgaaaGreat

namespace Go.Proofs.YtjgojgmgicpgaaaGreat.handoffNil
open Go.ChangeShapes Go.WideShapes Go.ChangeAt Go.RowKit
open Go.ChangeMaps (open_string shut_string)
set_option linter.unusedVariables false

theorem own : ownKnob Tryz.prog.godebug = none := by kernel_rfl
theorem laidOut : laidOutB Tryz.prog = true := by kernel_rfl

set_option maxRecDepth 100000 in
theorem contract (H : Type) (enc : TypeId × Value → H) (W : World) (base : Nat) (args : Array Value) (ds gs : List (DataW H)) (before : List MemPlace)
    (hval : ∀ (j : Nat) t v, Tryz.f12.params[j]? = some t → args[j]? = some v → Value.okWide Tryz.prog W .any base t v)
    (hW : DataW.Whole enc Tryz.prog Tryz.f12.params.toList Rows.handoffNilSpec.vars false W args.toList ds gs before) (hsz0 : (DataW.weightsEach Tryz.prog (Tryz.f12.params.toList ++ Rows.handoffNilSpec.plain.varTypes Tryz.prog) (ds ++ gs)).all (· ≤ reachBytes) = true) :
    Calls Tryz.prog 12 args W fun e W' => ∃ v, e = .returned v ∧ Rows.handoffNilSpec.post enc Tryz.prog Tryz.f12 false true false false W args v W' := by
  have hW' := hW
  obtain ⟨p, q, hA0, hV, rfl, hfz, hnd⟩ := hW
  have hA : DataW.TrodAll enc Tryz.prog W 0 (fun _ => true) true Tryz.f12.params.toList args.toList ds p := hA0
  have hsz : (DataW.weightsEach Tryz.prog (Tryz.f12.params.toList ++ Rows.handoffNilSpec.plain.varTypes Tryz.prog) (ds ++ gs)).all (· ≤ reachBytes) = true := hsz0
  clear hsz0
  rw [Tryz.params12] at hA hval hsz
  obtain ⟨v0, vs0, d0, ds0, p0, q0, hargs, rfl, rfl, h0, r0⟩ := trodAll_cons hA
  obtain ⟨v1, vs1, d1, ds1, p1, q1, rfl, rfl, rfl, h1, r1⟩ := trodAll_cons r0
  obtain ⟨rfl, rfl, rfl⟩ := trodAll_nil r1
  obtain rfl : args = #[v0, v1] := by cases args; simp_all
  obtain ⟨rfl, rfl⟩ := trodVars_none hV
  have k0 := h0
  have lt0 : ∀ x ∈ p0, x.block < W.heap.size := by obtain ⟨m, hm⟩ := k0; exact DataW.trod_lt m _ _ _ hm
  obtain ⟨cm0, z0, rfl, hz0⟩ := open_step (hval 0 73 v0 rfl rfl) h0
  obtain ⟨a1, rfl, rfl, rfl⟩ := open_bool Tryz.underlying4 (hval 1 4 v1 rfl rfl) h1
  clear hA0
  refine (walk cm0 z0 a1 W (okStep hsz (j := 0) rfl rfl hz0)).mono fun e W' ⟨he, bel⟩ => ?_
  subst he
  exact ⟨_, rfl, _, _, _, [], _, [], hW', trodAll_mk1 (shut_bool Tryz.underlying4 _), (trodAll_cons_mk (Below.trod laidOut (by kernel_rfl) (of_decide_eq_true (by kernel_rfl)) k0 bel lt0) (trodAll_cons_mk (shut_bool Tryz.underlying4 _) trodAll_mk0)), rfl, bel.frame _, fun h => by cases h⟩

set_option maxRecDepth 100000 in
theorem lifted (os : Os) (started : os.Started) (H : Type) (enc : TypeId × Value → H) :
    ReturnsInHanded {} Tryz.checked os 12 .any (Rows.handoffNilSpec.pre6 enc Tryz.prog Tryz.f12 Rows.handoffNilRow.domain false) (Rows.handoffNilSpec.post enc Tryz.prog Tryz.f12 false true false false) := by
  refine returnsInHanded_of_change_sized (C := Tryz.checked) own started (by kernel_rfl) Tryz.func12
    (ChangeSpec.witness6 (enc := enc) (C := Tryz.checked) false ⟨#[], #[.agg #[.int .i64 0, .int .i64 0, .string ByteArray.empty, .int .i64 0, .int .i64 0, .int .i64 0, .slice none 0 0, .string ByteArray.empty, .int .i64 0, .int .i64 0, .int .i64 0, .string ByteArray.empty, .string ByteArray.empty, .int .i64 0, .int .i64 0, .int .i64 0, .int .i64 0, .slice none 0 0, .string ByteArray.empty, .string ByteArray.empty, .int .i64 0, .string ByteArray.empty], .bool false], []⟩ 8 (by kernel_rfl) (by kernel_rfl) (by kernel_rfl) (by kernel_rfl)) ?_
  intro W base args ds gs before hval hW _ hsz _
  exact contract H enc W base args ds gs before hval hW hsz

end Go.Proofs.YtjgojgmgicpgaaaGreat.handoffNil
