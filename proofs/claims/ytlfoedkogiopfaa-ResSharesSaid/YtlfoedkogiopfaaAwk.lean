/- The contract of 'awake': the program adds as the document says, so awake returns true. No condition. -/
import Derived.Test.YtlfoedkogiopfaaRsh
namespace Go.Proofs.Ytlfoedkogiopfaa
open Go.RowKit
set_option linter.unusedSimpArgs false
set_option linter.unusedVariables false

@[go_sem] theorem build_123 (w : World) : (Instr.build 23 #[(0, .int .i64 1), (1, .int .i64 2), (2, .int .i64 3)]).run Try.prog w = .ok (.agg #[.int .i64 1, .int .i64 2, .int .i64 3]) w := run_build w 23 _ _ (by kernel_rfl)
@[go_sem] theorem build_100 (w : World) : (Instr.build 23 #[(0, .int .i64 1)]).run Try.prog w = .ok (.agg #[.int .i64 1, .int .i64 0, .int .i64 0]) w := run_build w 23 _ _ (by kernel_rfl)
@[go_sem] theorem build_223 (w : World) : (Instr.build 23 #[(0, .int .i64 2), (1, .int .i64 2), (2, .int .i64 3)]).run Try.prog w = .ok (.agg #[.int .i64 2, .int .i64 2, .int .i64 3]) w := run_build w 23 _ _ (by kernel_rfl)
@[go_sem] theorem build_000 (w : World) : (Instr.build 23 #[]).run Try.prog w = .ok (.agg #[.int .i64 0, .int .i64 0, .int .i64 0]) w := run_build w 23 _ _ (by kernel_rfl)

theorem add_first (w : World) : Calls Try.prog 10 #[.agg #[.int .i64 1, .int .i64 2, .int .i64 3], .agg #[.int .i64 1, .int .i64 0, .int .i64 0]] w fun r w' => r = .returned (.tuple #[.agg #[.int .i64 2, .int .i64 2, .int .i64 3], .int .i64 0]) ∧ Below w.heap.size w w' := add_ok 1 2 3 1 0 0 w rfl rfl rfl
theorem fits_first (w : World) : Calls Try.prog 16 #[.agg #[.int .i64 0, .int .i64 0, .int .i64 0], .agg #[.int .i64 2, .int .i64 2, .int .i64 3]] w fun r w' => r = .returned (.bool true) ∧ Below w.heap.size w w' := fits_any 0 0 0 2 2 3 w

set_option maxHeartbeats 400000 in
theorem awake_any (w : World) : Calls Try.prog 9 #[] w fun e w' => e = .returned (.bool true) ∧ Below w.heap.size w w' := by
  go_enter Try.func9, Try.ntmps9
  go_wp2_with fail
  refine (add_first _).mono ?_; rintro r w1 ⟨rfl, hb1⟩; have hs1 := hb1.size
  go_wp2_with fail
  refine (fits_first _).mono ?_; rintro r w2 ⟨rfl, hb2⟩; have hs2 := hb2.size; simp only [World.size_alloc, World.size_setCell] at hs2
  go_wp2
  go_ret
  exact ⟨rfl, by (repeat' (first | (with_reducible exact Below.refl _ _) | (with_reducible refine Below.drew ?_) | (with_reducible refine Below.setCell ?_ ?_ _) | (with_reducible refine Below.alloc ?_ ?_ _) | (with_reducible refine Below.trans ?_ (Below.mono hb1 ?_)) | (with_reducible refine Below.trans ?_ (Below.mono hb2 ?_)) | go_size))⟩
end Go.Proofs.Ytlfoedkogiopfaa
