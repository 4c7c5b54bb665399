/- The contract of the statements' own first look (awake). No condition. -/
import Derived.Test.YthikdhgkjcdepaaSor
namespace Go.Proofs.Ythikdhgkjcdepaa
open Go.RowKit
set_option linter.unusedSimpArgs false
set_option linter.unusedVariables false

/-- The machine and the task of the first look. -/
def mcB : Mc := ⟨⟨#[110]⟩, 4, 4, 4, none, 0, 0, true, 0⟩
def ktB : Kt := ⟨⟨#[116]⟩, ⟨#[113]⟩, 0, 0, 0, 0, none, 0, 0, ⟨#[]⟩, ⟨#[]⟩, 0⟩
theorem bestB : bestP (srt ktB [] [] [(mcB, [])]) = (⟨#[110]⟩, true) := by kernel_rfl
theorem okB (w : World) : KtOk w ktB [] := ⟨by decide, by decide, by decide, by decide, LbOk.nil w⟩
theorem msB (w : World) : MsOk w [(mcB, [])] := fun x hx => by
  simp at hx; subst hx
  exact ⟨by decide, LbOk.nil w⟩

set_option maxHeartbeats 3200000 in
theorem awake_any (w : World) : Calls Try.prog 7 #[] w fun e w' => e = .returned (.bool true) ∧ Below w.heap.size w w' := by
  have k1 : ∀ (A : Option Addr) (W : World), Hid (RdM W A [mcB]) → Calls Try.prog 11 #[.slice A 1 1, .slice none 0 0, .agg ktB.arr] W fun e w' => e = .returned (.tuple #[.string ⟨#[110]⟩, .bool true]) ∧ Below W.heap.size W w' := fun A W h1 => by
    have := best_any A 1 1 [(mcB, [])] none 0 0 [] ktB [] W (show 1 = 1 from rfl) (by omega) h1 (msB W) (show 0 = 0 from rfl) (by omega) (RdJ.nil W none) (okB W)
    rw [bestB] at this
    exact this
  have K1 := Lib.hid k1; clear k1
  go_enter Try.func7, Try.ntmps7
  go_wp2_with (first | ((with_reducible refine store_bk rfl 36 (.tmp 1) (.tmp 6) rfl w.heap.size 0 mcB.arr rfl rfl 36 _ mcB.arr (Bk.fresh _ _ _) (by kernel_rfl) (by simp) (by kernel_rfl) rfl ?_); intro w1 hM1 hg1 hs1) | (with_reducible refine load_bk rfl 36 _ rfl w.heap.size 0 rfl 36 mcB.arr mcB.arr _ hM1 (Part.whole _) Try.underlying36 rfl (by kernel_rfl) ?_))
  have hJ0 : RdK (w1.alloc (.cells mcB.arr 36)) 7 (some ⟨w.heap.size + 1, 0, none⟩) [mcB.cells] := fresh_k w1 7 mcB.cells 36 (by have := hs1; simp at this; omega)
  have hb1 : Below w.heap.size w (w1.alloc (.cells mcB.arr 36)) := (grown_below ((Below.refl _ _).alloc (Nat.le_refl _) _) hg1 (Nat.le_refl _)).alloc (by have := hs1; simp at this; omega) _
  refine (K1.out _ _ hJ0).mono ?_; rintro r w2 ⟨rfl, hb2⟩
  have hB2 := hb1.trans (hb2.mono hb1.size)
  clear hM1 hJ0 hg1
  go_wp2_with fail
  go_ret
  exact ⟨rfl, hB2⟩
end Go.Proofs.Ythikdhgkjcdepaa
