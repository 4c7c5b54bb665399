/- The store's small functions: isBlock, disarm, interrupts, Down, Writes, Power, Arm. No condition but that the store lies there. -/
import Derived.Test.YtnikhlajlhgikaaDv
import Derived.Lib.MinMax
import Derived.Laws.Cover1
namespace Go.Proofs.Ytnikhlajlhgikaa
open Go.RowKit
set_option linter.unusedSimpArgs false
set_option linter.unusedVariables false

def isB (i : Int) : Bool := decide (0 ≤ i) && decide (i < 1024)
theorem isBlock_any (i : Int) (w : World) : Calls Try.prog 24 #[.int .i64 i] w fun e w' => e = .returned (.bool (isB i)) ∧ w = w' := by
  obtain ⟨r, hr⟩ : ∃ r, r = isB i := ⟨_, rfl⟩
  rw [← hr]
  have HR := Lib.hid hr
  clear hr
  by_cases h0 : 0 ≤ i
  · by_cases h1 : i < 1024
    · go_enter Try.func24, Try.ntmps24
      go_wp2
      go_ret
      exact ⟨by rw [HR.out]; unfold isB; simp [h0, h1], rfl⟩
    · go_enter Try.func24, Try.ntmps24
      go_wp2
      go_ret
      exact ⟨by rw [HR.out]; unfold isB; simp [h0, h1], rfl⟩
  · go_enter Try.func24, Try.ntmps24
    go_wp2
    go_ret
    exact ⟨by rw [HR.out]; unfold isB; simp [h0]; omega, rfl⟩

/-- The store is another one now; nothing else has turned. -/
def Became (g : Nat) (d : Dv) (w : World) (w' : World) : Prop := St w' g d ∧ w.grownBy w' (some g) ∧ w'.heap.size = w.heap.size
theorem disarm_any (g : Nat) (d : Dv) (w : World) (h : St w g d) : Calls Try.prog 26 #[.pointer (some ⟨g, 0, none⟩)] w fun e w' => e = .returned (.tuple #[]) ∧ Became g { d with armed := false, cnt := 0, part := 0 } w w' := by
  have hg := h.bk.here
  have H := Lib.hid h
  have f2 := h.bk.free 65538
  have k2 := h.c2
  have f3 := h.bk.free 65539
  have k3 := h.c3
  have f4 := h.bk.free 65540
  have k4 := h.c4
  clear h
  go_enter Try.func26, Try.ntmps26
  go_wp2
  go_returns
  exact ⟨rfl, (((H.out.s2 false).s3 0).s4 0 (by omega) (by omega)), grown_set (grown_set (grown_set (World.grownBy.refl _ _) _) _) _, by simp⟩
/-- Does a write that begins now go down, and what the store is then. -/
def Dv.goesDown (d : Dv) : Bool := d.armed && !decide (0 < d.cnt)
def Dv.counted (d : Dv) : Dv := if d.armed = true ∧ 0 < d.cnt then { d with cnt := wrap64 (d.cnt - 1) } else d
theorem interrupts_any (g : Nat) (d : Dv) (w : World) (h : St w g d) : Calls Try.prog 25 #[.pointer (some ⟨g, 0, none⟩)] w fun e w' => e = .returned (.bool d.goesDown) ∧ Became g d.counted w w' := by
  by_cases ha : d.armed = true
  · by_cases h0 : 0 < d.cnt
    · have e1 : d.goesDown = false := by simp [Dv.goesDown, ha, h0]
      have e2 : d.counted = { d with cnt := wrap64 (d.cnt - 1) } := by simp [Dv.counted, ha, h0]
      rw [e1, e2]
      have hg := h.bk.here
      have H := Lib.hid h
      have f2 := h.bk.free 65538
      have k2 := h.c2
      have f3 := h.bk.free 65539
      have k3 := h.c3
      clear h
      rw [ha] at k2
      clear e1 e2 ha
      go_enter Try.func25, Try.ntmps25
      go_wp2
      go_ret
      exact ⟨rfl, H.out.s3 _, grown_set (World.grownBy.refl _ _) _, by simp⟩
    · have e1 : d.goesDown = true := by simp [Dv.goesDown, ha, h0]
      have e2 : d.counted = d := by simp [Dv.counted, ha, h0]
      rw [e1, e2]
      have hg := h.bk.here
      have H := Lib.hid h
      have f2 := h.bk.free 65538
      have k2 := h.c2
      have f3 := h.bk.free 65539
      have k3 := h.c3
      clear h
      rw [ha] at k2
      clear e1 e2 ha
      go_enter Try.func25, Try.ntmps25
      go_wp2
      go_ret
      exact ⟨rfl, H.out, World.grownBy.refl _ _, rfl⟩
  · have e1 : d.goesDown = false := by simp [Dv.goesDown, ha]
    have e2 : d.counted = d := by simp [Dv.counted, ha]
    rw [e1, e2]
    have hg := h.bk.here
    have H := Lib.hid h
    have f2 := h.bk.free 65538
    have k2 := h.c2
    have f3 := h.bk.free 65539
    have k3 := h.c3
    clear h
    rw [(by simpa using ha : d.armed = false)] at k2
    clear e1 e2 ha
    go_enter Try.func25, Try.ntmps25
    go_wp2
    go_ret
    exact ⟨rfl, H.out, World.grownBy.refl _ _, rfl⟩
theorem down_any (g : Nat) (d : Dv) (w : World) (h : St w g d) : Calls Try.prog 20 #[.pointer (some ⟨g, 0, none⟩)] w fun e w' => e = .returned (.bool d.off) ∧ w = w' := by
  have hg := h.bk.here
  have H := Lib.hid h
  have f0 := h.bk.free 65536
  have k0 := h.c0
  clear h
  go_enter Try.func20, Try.ntmps20
  go_wp2
  go_ret
  exact ⟨rfl, rfl⟩
theorem down_nil (w : World) : Calls Try.prog 20 #[.pointer none] w fun e w' => e = .returned (.bool false) ∧ w = w' := by
  go_enter Try.func20, Try.ntmps20
  go_wp2
  go_ret
  exact ⟨rfl, rfl⟩
theorem writes_any (g : Nat) (d : Dv) (w : World) (h : St w g d) : Calls Try.prog 21 #[.pointer (some ⟨g, 0, none⟩)] w fun e w' => e = .returned (.int .i64 d.wr) ∧ w = w' := by
  have hg := h.bk.here
  have H := Lib.hid h
  have f1 := h.bk.free 65537
  have k1 := h.c1
  clear h
  go_enter Try.func21, Try.ntmps21
  go_wp2
  go_ret
  exact ⟨rfl, rfl⟩
theorem writes_nil (w : World) : Calls Try.prog 21 #[.pointer none] w fun e w' => e = .returned (.int .i64 0) ∧ w = w' := by
  go_enter Try.func21, Try.ntmps21
  go_wp2
  go_ret
  exact ⟨rfl, rfl⟩
theorem power_any (g : Nat) (d : Dv) (w : World) (h : St w g d) : Calls Try.prog 18 #[.pointer (some ⟨g, 0, none⟩)] w fun e w' => e = .returned (.tuple #[]) ∧ Became g { d with off := false, armed := false, cnt := 0, part := 0 } w w' := by
  have hg := h.bk.here
  have H := Lib.hid h
  have f0 := h.bk.free 65536
  have k0 := h.c0
  clear h
  go_enter Try.func18, Try.ntmps18
  go_wp2_with fail
  refine (disarm_any g { d with off := false } _ (H.out.s0 false)).mono ?_
  rintro e w' ⟨rfl, h1, h2, h3⟩
  go_wp2
  go_returns
  exact ⟨rfl, h1, ⟨h2.os, h2.tape, h2.output, by rw [h3]; simp, fun k hk hne => (h2.block k (by simpa using hk) hne).trans (Below.heap_setCell _ _ _ _ (fun e => hne (by rw [e])))⟩, by rw [h3]; simp⟩
theorem power_nil (w : World) : Calls Try.prog 18 #[.pointer none] w fun e w' => e = .returned (.tuple #[]) ∧ w = w' := by
  go_enter Try.func18, Try.ntmps18
  go_wp2
  go_returns
  exact ⟨rfl, rfl⟩
/-- As many bytes as a part names. -/
def clamp (n : Int) : Int := min (max n 0) 64
theorem clamp_low (n : Int) : 0 ≤ clamp n := by unfold clamp; omega
theorem clamp_high (n : Int) : clamp n ≤ 64 := by unfold clamp; omega
def Dv.arm (d : Dv) (n p : Int) : Dv := if 0 ≤ n then { d with armed := true, cnt := n, part := clamp p } else { d with armed := false, cnt := 0, part := 0 }
theorem arm_nil (n p : Int) (w : World) : Calls Try.prog 16 #[.pointer none, .int .i64 n, .int .i64 p] w fun e w' => e = .returned (.tuple #[]) ∧ w = w' := by
  go_enter Try.func16, Try.ntmps16
  go_wp2
  go_returns
  exact ⟨rfl, rfl⟩
theorem arm_any (g : Nat) (d : Dv) (n p : Int) (w : World) (h : St w g d) : Calls Try.prog 16 #[.pointer (some ⟨g, 0, none⟩), .int .i64 n, .int .i64 p] w fun e w' => e = .returned (.tuple #[]) ∧ Became g (d.arm n p) w w' := by
  obtain ⟨c, hc⟩ : ∃ c, c = clamp p := ⟨_, rfl⟩
  obtain ⟨d2, hd2⟩ : ∃ d2, d2 = d.arm n p := ⟨_, rfl⟩
  rw [← hd2]
  have hd := fun W => disarm_any g d W
  have HD := Lib.hid hd
  have hg := h.bk.here
  have H := Lib.hid h
  clear h hd
  by_cases h0 : 0 ≤ n
  · obtain rfl : d2 = { d with armed := true, cnt := n, part := c } := by rw [hd2, hc]; simp [Dv.arm, h0]
    have HC := Lib.hid hc
    clear hc hd2
    go_enter Try.func16, Try.ntmps16
    go_wp2_with fail
    refine (HD.out _ H.out).mono ?_
    rintro e w1 ⟨rfl, hs, hg1, hz⟩
    have f2 := hs.bk.free 65538
    have f3 := hs.bk.free 65539
    have f4 := hs.bk.free 65540
    have k2 := hs.c2
    have k3 := hs.c3
    have k4 := hs.c4
    have hg2 := hs.bk.here
    have HS := Lib.hid hs
    have HG := Lib.hid hg1
    have HZ := Lib.hid hz
    clear hs hg1 hz
    go_wp2
    go_returns
    exact ⟨rfl, by have := (((HS.out.s2 true).s3 n).s4 c (by rw [HC.out]; exact clamp_low p) (by rw [HC.out]; exact clamp_high p)); rw [HC.out] at this ⊢; exact this, grown_set (grown_set (grown_set HG.out _) _) _, by simp [HZ.out]⟩
  · obtain rfl : d2 = { d with armed := false, cnt := 0, part := 0 } := by rw [hd2]; simp [Dv.arm, h0]
    clear hc hd2
    go_enter Try.func16, Try.ntmps16
    go_wp2_with fail
    refine (HD.out _ H.out).mono ?_
    rintro e w1 ⟨rfl, hs, hg1, hz⟩
    go_wp2
    go_returns
    exact ⟨rfl, hs, hg1, hz⟩
end Go.Proofs.Ytnikhlajlhgikaa
