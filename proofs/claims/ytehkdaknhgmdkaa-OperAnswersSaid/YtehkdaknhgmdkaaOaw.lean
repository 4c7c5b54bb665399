/- The statements' own awake: it is true. No condition. -/
import Derived.Test.YtehkdaknhgmdkaaOen
import Derived.Test.YtehkdaknhgmdkaaOtx
namespace Go.Proofs.Ytehkdaknhgmdkaa
open Go.RowKit
set_option linter.unusedSimpArgs false
set_option linter.unusedVariables false

def tick : Ov := ⟨9, ⟨#[]⟩, 0, 0, 0, [], ⟨#[]⟩, 0, 0, 0, ⟨#[]⟩, ⟨#[]⟩, 0, 0, 0, 0, [], ⟨#[]⟩, ⟨#[]⟩, 0, ⟨#[]⟩⟩
theorem opB_tick : opB tick = true := by
  rw [opB_9 rfl]
  unfold Ov.zN Ov.zQ Ov.zT Ov.zS tick
  simp only [blankN_none, blankQ_none, blankT_none, sE_none, Bool.and_self]
theorem opBytes_tick : opBytes tick = [1, 9] := by rw [opBytes_yes opB_tick, opEnc_9 rfl, enc_small (by decide) (by decide)]; rfl
theorem opErr_tick : opErr tick = 0 := opErr_yes opB_tick
theorem textB_tick : textB 1 ⟨#[116]⟩ ⟨#[110]⟩ = ⟨#[98, 105, 110, 100, 32, 116, 32, 110]⟩ := by decide
theorem Sz.none : Hid (Sz []) := fun x hx => by cases hx

set_option maxHeartbeats 3200000 in
set_option maxRecDepth 100000 in
theorem awake_any (w : World) : Calls Try.prog 8 #[] w fun e w' => e = .returned (.bool true) ∧ Below w.heap.size w w' := by
  have ke : ∀ W, Calls Try.prog 10 #[.agg #[.int .i64 9, .string ⟨#[]⟩, .int .i64 0, .int .i64 0, .int .i64 0, .slice none 0 0, .string ⟨#[]⟩, .int .i64 0, .int .i64 0, .int .i64 0, .string ⟨#[]⟩, .string ⟨#[]⟩, .int .i64 0, .int .i64 0, .int .i64 0, .int .i64 0, .slice none 0 0, .string ⟨#[]⟩, .string ⟨#[]⟩, .int .i64 0, .string ⟨#[]⟩]] W (Got2 W 2 [1, 9] 0) := fun W => by
    have h := opEncode_any 9 ⟨#[]⟩ 0 0 0 none 0 0 [] ⟨#[]⟩ 0 0 0 ⟨#[]⟩ ⟨#[]⟩ 0 0 0 0 none 0 0 [] ⟨#[]⟩ ⟨#[]⟩ 0 ⟨#[]⟩ 2 W hid_nil (Nat.le_refl 0) (by decide) hid_nil (Nat.le_refl 0) (by decide) (Lib.hid (RdL.nil _ _)) (Lib.hid (RdL.nil _ _)) Sz.none Sz.none (by decide) (by decide) (by decide) (by decide) (by decide) (by decide) (by decide) (show Hid (2 = (opBytes tick).length) from by show _ = _; rw [opBytes_tick]; rfl)
    rw [show opBytes (⟨9, ⟨#[]⟩, 0, 0, 0, [], ⟨#[]⟩, 0, 0, 0, ⟨#[]⟩, ⟨#[]⟩, 0, 0, 0, 0, [], ⟨#[]⟩, ⟨#[]⟩, 0, ⟨#[]⟩⟩ : Ov) = _ from opBytes_tick, show opErr (⟨9, ⟨#[]⟩, 0, 0, 0, [], ⟨#[]⟩, 0, 0, 0, ⟨#[]⟩, ⟨#[]⟩, 0, 0, 0, 0, [], ⟨#[]⟩, ⟨#[]⟩, 0, ⟨#[]⟩⟩ : Ov) = _ from opErr_tick] at h
    exact h
  have kr : ∀ W, Calls Try.prog 12 #[.agg #[.int .i64 9, .string ⟨#[]⟩, .int .i64 0, .int .i64 0, .int .i64 0, .slice none 0 0, .string ⟨#[]⟩, .int .i64 0, .int .i64 0, .int .i64 0, .string ⟨#[]⟩, .string ⟨#[]⟩, .int .i64 0, .int .i64 0, .int .i64 0, .int .i64 0, .slice none 0 0, .string ⟨#[]⟩, .string ⟨#[]⟩, .int .i64 0, .string ⟨#[]⟩]] W fun e w' => e = .returned (.bool true) ∧ Below W.heap.size W w' := fun W => by
    have h := opRight_any 9 ⟨#[]⟩ 0 0 0 none 0 0 [] ⟨#[]⟩ 0 0 0 ⟨#[]⟩ ⟨#[]⟩ 0 0 0 0 none 0 0 [] ⟨#[]⟩ ⟨#[]⟩ 0 ⟨#[]⟩ W hid_nil (Nat.le_refl 0) (by decide) hid_nil (Nat.le_refl 0) (by decide) (Lib.hid (RdL.nil _ _)) (Lib.hid (RdL.nil _ _)) Sz.none Sz.none (by decide) (by decide) (by decide) (by decide) (by decide) (by decide) (by decide)
    rw [show opB (⟨9, ⟨#[]⟩, 0, 0, 0, [], ⟨#[]⟩, 0, 0, 0, ⟨#[]⟩, ⟨#[]⟩, 0, 0, 0, 0, [], ⟨#[]⟩, ⟨#[]⟩, 0, ⟨#[]⟩⟩ : Ov) = _ from opB_tick] at h
    exact h
  have kt : ∀ W, Calls Try.prog 17 #[.agg #[.int .i64 1, .string ⟨#[116]⟩, .string ⟨#[110]⟩]] W fun e w' => e = .returned (.string ⟨#[98, 105, 110, 100, 32, 116, 32, 110]⟩) ∧ Below W.heap.size W w' := fun W => by
    have h := text_any 1 ⟨#[116]⟩ ⟨#[110]⟩ W (by decide)
    rw [textB_tick] at h
    exact h
  have KE := Lib.hid ke
  have KR := Lib.hid kr
  have KT := Lib.hid kt
  clear ke kr kt
  go_enter Try.func8, Try.ntmps8
  go_wp2_with fail
  refine (KE.out _).mono ?_
  rintro e w1 ⟨A, c, rfl, hr, hc, hc2, hA, hb1⟩
  obtain ⟨g, o, rfl, h1⟩ := hr 1 9 rfl
  have h2 : w1.cell? ⟨g, o + 1, none⟩ = some (.int .u8 9) := h1
  have hb : Hid (Below w.heap.size w w1) := hb1
  clear hb1 hA h1 hr
  go_wp2_with fail
  refine (KR.out _).mono ?_
  rintro e w2 ⟨rfl, hb2⟩
  have hb' : Hid (Below w.heap.size w w2) := hb.out.trans (hb2.mono hb.out.size)
  clear hb2 hb h2
  go_wp2_with fail
  refine (KT.out _).mono ?_
  rintro e w3 ⟨rfl, hb3⟩
  have hb4 := hb'.out.trans (hb3.mono hb'.out.size)
  go_wp2
  go_ret
  exact ⟨rfl, hb4⟩
end Go.Proofs.Ytehkdaknhgmdkaa
