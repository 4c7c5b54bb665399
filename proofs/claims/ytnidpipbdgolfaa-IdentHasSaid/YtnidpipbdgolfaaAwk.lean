/- The statements' own test that the program does something (awake): it is true. No condition. -/
import Derived.Test.YtnidpipbdgolfaaSrw
import Derived.Test.YtnidpipbdgolfaaRgt
namespace Go.Proofs.Ytnidpipbdgolfaa
open Go.RowKit
set_option linter.unusedSimpArgs false
set_option linter.unusedVariables false

theorem sL_data (a b : ByteArray) : sL a b = Op.bytesLess a.data.toList b.data.toList := by unfold sL; rw [ByteArray.toList_eq, ByteArray.toList_eq]
theorem sE_data (a b : ByteArray) : sE a b = (a.data.toList == b.data.toList) := by unfold sE; rw [ByteArray.toList_eq, ByteArray.toList_eq]

/-- The two labels that the test sorts, and what comes of them. -/
def l0 : List Lb := [(⟨#[98]⟩, ⟨#[49]⟩), (⟨#[97]⟩, ⟨#[50]⟩)]
def s0' : List Lb := [(⟨#[97]⟩, ⟨#[50]⟩), (⟨#[98]⟩, ⟨#[49]⟩)]
theorem l0_sorted {s : List Lb} (h : IsSorted l0 s) : s = s0' := by
  rw [sorted_unique h (rSorted_sorted _ l0 rfl)]
  simp [rSorted, l0, s0', insR, insStep, sL_data, sE_data, Op.bytesLess]
theorem s0_right : labelsB s0' = true := by
  simp [labelsB, s0', labAt, nameB, nameL, okI, sL_data, Op.bytesLess, List.range_succ]
theorem gpu_name : nameB ⟨#[103, 112, 117, 45, 49]⟩ = true := by
  simp [nameB, nameL, okI]
theorem sz_l0 : Sz s0' := by
  intro x hx
  simp [s0'] at hx
  rcases hx with rfl | rfl <;> exact ⟨by decide, by decide⟩

set_option maxHeartbeats 4000000 in
set_option maxRecDepth 100000 in
theorem awake_any (w : World) : Calls Try.prog 9 #[] w fun e w' => e = .returned (.bool true) ∧ Below w.heap.size w w' := by
  have hn := fun W => name_any ⟨#[103, 112, 117, 45, 49]⟩ W (by decide)
  rw [gpu_name] at hn
  have HNm := Lib.hid hn
  clear hn
  have hsort := fun W (h : RdL W (some ⟨w.heap.size, 0, none⟩) l0) => sorted_any (some ⟨w.heap.size, 0, none⟩) 2 2 l0 W (Lib.hid rfl) (Lib.hid h) (by omega)
  have HS := Lib.hid hsort
  clear hsort
  go_enter Try.func9, Try.ntmps9
  go_wp2_with fail
  refine (HS.out _ ?rd).mono ?_
  case rd =>
    intro i x hx
    match i, hx with
    | 0, hx => simp [l0] at hx; subst hx; exact ⟨_, _, rfl, by simp, by simp⟩
    | 1, hx => simp [l0] at hx; subst hx; exact ⟨_, _, rfl, by simp, by simp⟩
    | i + 2, hx => simp [l0] at hx
  rintro e w1 ⟨v, s, rfl, hs, _, hO, hb1⟩
  obtain rfl := l0_sorted hs
  obtain ⟨A, c, S⟩ := hO.sl
  have hv := S.val
  subst hv
  obtain ⟨g, o, hA, hg, h1, h2⟩ := S.rd.at (i := 0) (by simp [s0'])
  subst hA
  have hlen : s0'.length = 2 := rfl
  have hcap := S.cap
  have hcap2 := S.cap2
  rw [hlen] at hcap
  simp only [maxLen] at hcap2
  have hlab := fun W (h : RdL W (some ⟨g, o, none⟩) s0') => labels_any (some ⟨g, o, none⟩) 2 c s0' W (Lib.hid rfl) (Lib.hid h) (Lib.hid sz_l0) hcap (by omega)
  rw [s0_right] at hlab
  have HLab := Lib.hid hlab
  have HRd := Lib.hid S.rd
  rw [show s0'.length = 2 from rfl]
  simp only [s0', List.getElem_cons_zero, Nat.zero_mul, Nat.add_zero, Nat.zero_add] at h1 h2
  clear hlab S hO hs hlen
  go_wp2_with (first | (go_at_call 11; refine (HNm.out _).mono ?_; rintro e w' ⟨rfl, rfl⟩) | (go_at_call 13; refine (HLab.out _ HRd.out).mono ?_; rintro e w2 ⟨rfl, hb2⟩))
  go_ret
  have hz := hb1.size
  simp only [World.size_alloc] at hz
  exact ⟨rfl, (by (repeat' (first | (with_reducible exact Below.refl _ _) | (with_reducible refine bdrewN ?_ _) | (with_reducible refine Below.drew ?_) | (with_reducible refine Below.setCell ?_ ?_ _) | (with_reducible refine Below.alloc ?_ ?_ _) | (with_reducible refine Below.trans ?_ (Below.mono hb2 ?_)) | (with_reducible refine Below.trans ?_ (Below.mono hb1 ?_)) | (with_reducible exact Nat.le_refl _) | (with_reducible assumption) | omega | (simp only [World.size_alloc, World.size_setCell, World.size_drew, sz_drewN]; omega))))⟩
end Go.Proofs.Ytnidpipbdgolfaa
