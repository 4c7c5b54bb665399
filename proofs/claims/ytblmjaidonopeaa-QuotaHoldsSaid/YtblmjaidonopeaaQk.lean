/- The contract of the statements' own first look (awake). No condition. -/
import Derived.Test.YtblmjaidonopeaaQa
namespace Go.Proofs.Ytblmjaidonopeaa
open Go.RowKit
set_option linter.unusedSimpArgs false
set_option linter.unusedVariables false

/-- The job of the first look. -/
def jobA : Jb := ⟨⟨#[116]⟩, ⟨#[113]⟩, 0, 3, 0, 0, none, 0, 0, ⟨#[]⟩, ⟨#[]⟩, 0, 0, ⟨#[]⟩, 0⟩
theorem admA1 : adm ⟨#[113]⟩ 5 5 5 3 0 0 3 0 0 0 = 9 := by kernel_rfl
theorem admA2 : adm ⟨#[113]⟩ 5 5 5 2 5 5 3 0 0 0 = 0 := by kernel_rfl
theorem smA : sm 0 0 0 (ofQ ⟨#[113]⟩ [jobA]) = (3, 0, 0, 0) := by kernel_rfl

set_option maxHeartbeats 3200000 in
theorem awake_any (w : World) : Calls Try.prog 7 #[] w fun e w' => e = .returned (.bool true) ∧ Below w.heap.size w w' := by
  have HS := Lib.hid smA
  have k1 := fun (A : Option Addr) (W : World) (hA : Hid (RdJ W A [jobA])) => admit_any ⟨#[113]⟩ 5 5 5 A 1 1 [jobA] 3 0 0 W (show 1 = 1 from rfl) (by omega) hA (by decide) 3 0 0 0 HS
  have k2 := fun (A : Option Addr) (W : World) (hA : Hid (RdJ W A [jobA])) => admit_any ⟨#[113]⟩ 5 5 5 A 1 1 [jobA] 2 5 5 W (show 1 = 1 from rfl) (by omega) hA (by decide) 3 0 0 0 HS
  have k3 := fun W => waits_any jobA W
  rw [show wB jobA.nd = true from rfl] at k3
  have k4 := fun W => find_any none 0 0 [] ⟨#[116]⟩ W (show 0 = 0 from rfl) (by omega) (show RdJ _ _ _ from RdJ.nil _ _) (-1) (show _ = _ from rfl)
  rw [admA1] at k1
  rw [admA2] at k2
  have K1 := Lib.hid k1; have K2 := Lib.hid k2; have K3 := Lib.hid k3; have K4 := Lib.hid k4
  clear k1 k2 k3 k4 HS
  go_enter Try.func7, Try.ntmps7
  go_wp2_with (first | ((with_reducible refine store_bk rfl 26 (.tmp 1) (.tmp 4) rfl w.heap.size 0 #[.string ⟨#[113]⟩, .int .i64 5, .int .i64 5, .int .i64 5] rfl rfl 26 _ #[.string ⟨#[113]⟩, .int .i64 5, .int .i64 5, .int .i64 5] (Bk.fresh _ _ _) (by kernel_rfl) (by simp) (by kernel_rfl) rfl ?_); intro w1 hQ1 hg1 hs1) | (with_reducible refine load_bk rfl 26 _ rfl w.heap.size 0 rfl 26 #[.string ⟨#[113]⟩, .int .i64 5, .int .i64 5, .int .i64 5] #[.string ⟨#[113]⟩, .int .i64 5, .int .i64 5, .int .i64 5] _ (hQ1.later ((Below.refl _ _).alloc (Nat.le_refl _) _)) (Part.whole _) Try.underlying26 rfl (by kernel_rfl) ?_))
  have hJ0 : RdK (w1.alloc (.cells jobA.arr 41)) 13 (some ⟨w.heap.size + 1, 0, none⟩) [jobA.cells] := fresh_k w1 13 jobA.cells 41 (by have := hs1; simp at this; omega)
  have hQ1' := hQ1.later ((Below.refl _ _).alloc (Nat.le_refl _) (.cells jobA.arr 41))
  have hb1 : Below w.heap.size w (w1.alloc (.cells jobA.arr 41)) := (grown_below ((Below.refl _ _).alloc (Nat.le_refl _) _) hg1 (Nat.le_refl _)).alloc (by have := hs1; simp at this; omega) _
  refine (K1.out _ _ hJ0).mono ?_; rintro r w2 ⟨rfl, hb2⟩
  have hJ2 : RdJ w2 (some ⟨w.heap.size + 1, 0, none⟩) [jobA] := RdJ.later hJ0 hb2
  have hQ2 := hQ1'.later hb2
  have hB2 := hb1.trans (hb2.mono hb1.size)
  clear hQ1 hQ1' hJ0 hg1
  go_wp2_with (with_reducible refine load_bk rfl 26 _ rfl w.heap.size 0 rfl 26 #[.string ⟨#[113]⟩, .int .i64 5, .int .i64 5, .int .i64 5] #[.string ⟨#[113]⟩, .int .i64 5, .int .i64 5, .int .i64 5] _ hQ2 (Part.whole _) Try.underlying26 rfl (by kernel_rfl) ?_)
  refine (K2.out _ _ hJ2).mono ?_; rintro r w3 ⟨rfl, hb3⟩
  have hJ3 : RdJ w3 (some ⟨w.heap.size + 1, 0, none⟩) [jobA] := hJ2.later hb3
  have hB3 := hB2.trans (hb3.mono hB2.size)
  obtain ⟨g, o, he, hg, hJ⟩ := RdJ.at hJ3 (i := 0) (by simp)
  injection he with he; injection he with h1 h2; subst h1 h2
  have HJ := Lib.hid (show w3.rangeAt (w.heap.size + 1) 0 jobA.arr.toList from hJ.rg); clear hJ
  go_wp2_with (with_reducible refine load_rg rfl 41 _ rfl (w.heap.size + 1) 0 rfl jobA.arr _ HJ.out Try.underlying41 rfl (by kernel_rfl) ?_)
  refine (K3.out _).mono ?_; rintro r w4 ⟨rfl, hb4⟩
  have hB4 := hB3.trans (hb4.mono hB3.size)
  go_wp2_with fail
  refine (K4.out _).mono ?_; rintro r w5 ⟨rfl, hb5⟩
  have hB5 := hB4.trans (hb5.mono hB4.size)
  go_wp2_with fail
  go_ret
  exact ⟨rfl, hB5⟩
end Go.Proofs.Ytblmjaidonopeaa
