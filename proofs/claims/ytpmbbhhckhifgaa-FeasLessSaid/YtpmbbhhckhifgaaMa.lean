/- The contract of the statements' own first look (awake). No condition. -/
import Derived.Test.YtpmbbhhckhifgaaWy
namespace Go.Proofs.Ytpmbbhhckhifgaa
open Go.RowKit
set_option linter.unusedSimpArgs false
set_option linter.unusedVariables false

/-- The machine, the job and the task of the first look. -/
def mcA : Mc := ⟨⟨#[110]⟩, 4, 4, 4, none, 0, 0, true, 0⟩
def jbA : Jb := ⟨⟨#[116]⟩, ⟨#[113]⟩, 0, 3, 0, 0, none, 0, 0, ⟨#[]⟩, ⟨#[]⟩, 0, 0, ⟨#[110]⟩, 0⟩
def ktA : Kt := ⟨⟨#[117]⟩, ⟨#[113]⟩, 0, 2, 0, 0, none, 0, 0, ⟨#[]⟩, ⟨#[]⟩, 0⟩
theorem freA : freM mcA [jbA] = (1, 4, 4, 0) := by kernel_rfl
theorem whyA : why mcA [] ktA [] [jbA] = 4 := by kernel_rfl
theorem okA (w : World) : McOk w mcA [] := ⟨by decide, LbOk.nil w⟩
theorem okT (w : World) : KtOk w ktA [] := ⟨by decide, by decide, by decide, by decide, LbOk.nil w⟩

set_option maxHeartbeats 3200000 in
theorem awake_any (w : World) : Calls Try.prog 6 #[] w fun e w' => e = .returned (.bool true) ∧ Below w.heap.size w w' := by
  have k1 := fun (A : Option Addr) (W : World) (hA : Hid (RdJ W A [jbA])) => freeM_any mcA A 1 1 [jbA] W (show 1 = 1 from rfl) (by omega) hA 1 4 4 0 freA
  have k2 := fun (A : Option Addr) (W : World) (hA : Hid (RdJ W A [jbA])) => why_any mcA [] A 1 1 [jbA] ktA [] W (show 1 = 1 from rfl) (by omega) hA (okA W) (okT W) 4 whyA
  have K1 := Lib.hid k1; have K2 := Lib.hid k2
  have hE : eq3 1 4 4 1 4 4 = true := rfl
  clear k1 k2
  go_enter Try.func6, Try.ntmps6
  go_wp2_with (first | ((with_reducible refine store_bk rfl 28 (.tmp 1) (.tmp 7) rfl w.heap.size 0 mcA.arr rfl rfl 28 _ mcA.arr (Bk.fresh _ _ _) (by kernel_rfl) (by simp) (by kernel_rfl) rfl ?_); intro w1 hM1 hg1 hs1) | (with_reducible refine load_bk rfl 28 _ rfl w.heap.size 0 rfl 28 mcA.arr mcA.arr _ (hM1.later ((Below.refl _ _).alloc (Nat.le_refl _) _)) (Part.whole _) Try.underlying28 rfl (by kernel_rfl) ?_))
  have hJ0 : RdK (w1.alloc (.cells jbA.arr 40)) 13 (some ⟨w.heap.size + 1, 0, none⟩) [jbA.cells] := fresh_k w1 13 jbA.cells 40 (by have := hs1; simp at this; omega)
  have hM1' := hM1.later ((Below.refl _ _).alloc (Nat.le_refl _) (.cells jbA.arr 40))
  have hb1 : Below w.heap.size w (w1.alloc (.cells jbA.arr 40)) := (grown_below ((Below.refl _ _).alloc (Nat.le_refl _) _) hg1 (Nat.le_refl _)).alloc (by have := hs1; simp at this; omega) _
  refine (K1.out _ _ hJ0).mono ?_; rintro r w2 ⟨rfl, hb2⟩
  have HJ2 := Lib.hid (show RdJ w2 (some ⟨w.heap.size + 1, 0, none⟩) [jbA] from RdJ.later hJ0 hb2)
  have HM2 := Lib.hid (hM1'.later hb2)
  have hB2 := hb1.trans (hb2.mono hb1.size)
  clear hM1 hM1' hJ0 hg1
  have lt2 : w.heap.size < w2.heap.size := HM2.out.here
  go_wp2_with (first | ((with_reducible refine store_bk rfl 23 (.tmp 3) (.tmp 16) rfl w2.heap.size 0 #[.int .i64 1, .int .i64 4, .int .i64 4] rfl rfl 23 _ #[.int .i64 1, .int .i64 4, .int .i64 4] (Bk.fresh _ _ _) (by kernel_rfl) (by simp) (by kernel_rfl) rfl ?_); intro w3 hX3 hg3 hs3; have HX3 := Lib.hid hX3; clear hX3; have bl3 : Below w2.heap.size w2 w3 := grown_below ((Below.refl _ _).alloc (Nat.le_refl _) _) hg3 (Nat.le_refl _); have HM3 := Lib.hid (HM2.out.later bl3); have hB3 : Below w.heap.size w w3 := hB2.trans (bl3.mono hB2.size)) | (with_reducible refine load_bk rfl 23 _ rfl w2.heap.size 0 rfl 23 #[.int .i64 1, .int .i64 4, .int .i64 4] #[.int .i64 1, .int .i64 4, .int .i64 4] _ HX3.out (Part.whole _) Try.underlying23 rfl (by kernel_rfl) ?_) | (with_reducible refine load_bk rfl 28 _ rfl w.heap.size 0 rfl 28 mcA.arr mcA.arr _ HM3.out (Part.whole _) Try.underlying28 rfl (by kernel_rfl) ?_))
  have HJ3 := Lib.hid (HJ2.out.later bl3)
  refine (K2.out _ _ HJ3).mono ?_; rintro r w4 ⟨rfl, hb4⟩
  go_wp2_with fail
  go_ret
  exact ⟨rfl, hB3.trans (hb4.mono hB3.size)⟩
end Go.Proofs.Ytpmbbhhckhifgaa
