/- Two queues that are alike aren't unlike. No condition. -/
import Derived.Test.YtgedofggkfmlnaaLwf
namespace Go.Proofs.Ytgedofggkfmlnaa
open Go.RowKit
set_option linter.unusedSimpArgs false
set_option linter.unusedVariables false

theorem eq3_deep (d : Nat) (a b c : Int) (w : World) : (Op.equalIn (d + 2) 23 (.agg #[.int .i64 a, .int .i64 b, .int .i64 c]) (.agg #[.int .i64 a, .int .i64 b, .int .i64 c])).run Try.prog w = .ok true w := by
  have u3 := Try.underlying3
  have a3 := Try.isAgg3
  have z3 := Try.sizeOf3
  rw [Op.equalIn]
  simp only [Sem.run_bind, run_underlying Try.underlying23, Result.andThen_ok]
  simp only [Std.Legacy.Range.forIn_eq_forIn_range', Std.Legacy.Range.size, Nat.sub_zero, Nat.add_sub_cancel, Nat.div_one, List.range'_succ, List.range'_zero, List.forIn_cons, List.forIn_nil]
  go_simp
theorem neq_queue (s : ByteArray) (a b c : Int) (w : World) : (binOp .neq 28 (.agg #[.string s, .int .i64 a, .int .i64 b, .int .i64 c]) (.agg #[.string s, .int .i64 a, .int .i64 b, .int .i64 c])).run Try.prog w = .ok (.bool false) w := by
  have h := eq3_deep 9997 a b c
  have u9 := Try.underlying9
  have u28 := Try.underlying28
  have hs : ∀ w, (Op.equalIn 10000 28 (.agg #[.string s, .int .i64 a, .int .i64 b, .int .i64 c]) (.agg #[.string s, .int .i64 a, .int .i64 b, .int .i64 c])).run Try.prog w = .ok true w := by
    intro w
    rw [show (10000 : Nat) = 9999 + 1 from rfl, run_equalIn_agg w 9999 _ _ _ (by kernel_rfl) (by kernel_rfl)]
    have hf : Try.prog.fieldsOf 28 = #[{ name := "Name", type := 9, offset := 0, embedded := false, tag := "", pkgPath := "", byteOffset := 0 }, { name := "Quota", type := 23, offset := 1, embedded := false, tag := "", pkgPath := "", byteOffset := 16 }] := by kernel_rfl
    rw [hf]
    go_simp
  rw [run_neq_struct, hs]
  rfl
theorem run_guardQ (op : BinOp) (x y : Operand) (xs ys : Array Value) (w : World) : (eqGuard op 28 x y (.agg xs) (.agg ys)).run Try.prog w = .ok () w := run_eqGuard_agg w op 28 x y xs ys (by kernel_rfl)

/-- Labels that read somewhere read on while a block that is newer turns. -/
theorem RdL.stays {w w' : World} {A : Option Addr} {l : List Lb} {R : Nat} (h : RdL w A l) (hA : ∀ g o p, A = some ⟨g, o, p⟩ → g < R) (hg : w.grownBy w' (some R)) : RdL w' A l := fun i x hx => by
  obtain ⟨g, o, ha, h1, h2⟩ := h i x hx
  have hlt := hA g o none ha
  exact ⟨g, o, ha, hg.cell h1 (by simp; omega), hg.cell h2 (by simp; omega)⟩
theorem tNode_no {l : List UInt8} {at_ : Int} (h : ¬ (tNode l at_).2.2 = 0) : (tNode l at_).2.1 = 0 := rEnd_no h
theorem tQueue_no {l : List UInt8} {at_ : Int} (h : ¬ (tQueue l at_).2.2 = 0) : (tQueue l at_).2.1 = 0 := rEnd_no h
theorem tTask_no {l : List UInt8} {at_ : Int} (h : ¬ (tTask l at_).2.2 = 0) : (tTask l at_).2.1 = 0 := rEnd_no h
end Go.Proofs.Ytgedofggkfmlnaa
