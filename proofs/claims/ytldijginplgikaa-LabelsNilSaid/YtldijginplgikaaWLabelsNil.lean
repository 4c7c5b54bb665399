/- The walk of LabelsNil. No condition beyond the form's own. -/
import Derived.Test.YtldijginplgikaaLni
namespace Go.Proofs.Ytldijginplgikaa
open Go.RowKit
set_option linter.unusedSimpArgs false
set_option linter.unusedVariables false
namespace labelsNil
set_option maxHeartbeats 12800000 in
set_option maxRecDepth 100000 in
theorem walk (x : Oh) (w : World) (hv : OhOk w x) :
    Calls Try.prog 6 #[.agg #[.int .i64 x.k, .string x.s, .slice x.h.a x.h.n x.h.c]] w fun r w' => r = .returned (.bool true) ∧ Below w.heap.size w w' := by
  obtain ⟨k, s, ⟨a0, n0, c0, l0⟩⟩ := x
  have K1 := Lib.hid (fun W => awake18_any W)
  have K2 := Lib.hid (fun W => put_nil s (.slice a0 n0 c0) W)
  have K4 := Lib.hid (fun W => del_nil s W)
  have K5 := Lib.hid (fun W => len_nil W)
  have K6 := Lib.hid (fun (v : Value) W => with_nil v W)
  have K7 := Lib.hid (fun (A : Option Addr) (n c : Nat) (l : List Oh) (W : World) (hn : n = l.length) (hr : RdK W 3 A (l.map eO)) (ho : ∀ x ∈ l, x.h.Ok W) => few18_any A n c l W (Lib.hid hn) (Lib.hid hr) (Lib.hid ho))
  obtain ⟨W0, hW0⟩ : ∃ W0, W0 = w.alloc (.cells #[.int .i64 k, .string s, .slice a0 n0 c0] 38) := ⟨_, rfl⟩
  have hb0 : Below w.heap.size w W0 := by rw [hW0]; exact (Below.refl _ _).alloc (Nat.le_refl _) _
  have HX0 : Hid (Bk W0 w.heap.size 38 #[.int .i64 k, .string s, .slice a0 n0 c0]) := by rw [hW0]; exact Bk.fresh _ _ _
  have HB0 := Lib.hid hb0
  have HOK : Hid ((⟨a0, n0, c0, l0⟩ : Hd).Ok w) := hv.1
  clear hb0
  go_enter Try.func6, Try.ntmps6
  go_wp2_with fail
  rw [← hW0]
  clear hW0
  refine (K1.out _).mono ?_; rintro e w1 ⟨rfl, hb1⟩
  have HB1 := Lib.hid (HB0.out.trans (hb1.mono HB0.out.size))
  have HX1 := Lib.hid (HX0.out.later hb1)
  clear hb1 HB0 HX0
  go_wp2_with (with_reducible refine load_bk rfl 38 _ rfl w.heap.size 0 rfl 38 #[.int .i64 k, .string s, .slice a0 n0 c0] #[.int .i64 k, .string s, .slice a0 n0 c0] _ HX1.out (Part.whole _) Try.underlying38 rfl (by kernel_rfl) ?_)
  have HAL : Hid (Below w1.heap.size w1 (w1.alloc (.cells #[.int .i64 k, .string s, .slice a0 n0 c0] 38))) := (Below.refl _ _).alloc (Nat.le_refl _) _
  refine (K7.out _ _ _ [⟨k, s, ⟨a0, n0, c0, l0⟩⟩] _ rfl (RdK.of_bk (Bk.fresh _ _ _)) (fun x hx => by rw [List.mem_singleton.1 hx]; exact (HOK.out.later HB1.out).later HAL.out)).mono ?_; rintro e w2 ⟨⟨b, rfl, -⟩, hb2⟩
  have HB2 := Lib.hid (HB1.out.trans ((HAL.out.trans (hb2.mono HAL.out.size)).mono HB1.out.size))
  have HX2 := Lib.hid (HX1.out.later (HAL.out.trans (hb2.mono HAL.out.size)))
  clear hb2 HAL HB1 HX1
  cases b with
  | false =>
    go_wp2_with fail
    refine (K1.out _).mono ?_; rintro e w3 ⟨rfl, hb3⟩
    go_wp2_with fail
    go_ret
    exact ⟨rfl, HB2.out.trans (hb3.mono HB2.out.size)⟩
  | true =>
    have c1 : w2.cell? ⟨w.heap.size, 1, none⟩ = some (.string s) := HX2.out.cellAt 1
    have c2 : w2.cell? ⟨w.heap.size, 2, none⟩ = some (.slice a0 n0 c0) := HX2.out.cellAt 2
    go_wp2_with fail
    refine (K2.out _).mono ?_; rintro e w3 ⟨rfl, hb3⟩
    have HB3 := Lib.hid (HB2.out.trans (hb3.mono HB2.out.size))
    have HX3 := Lib.hid (HX2.out.later hb3)
    clear hb3 HB2 HX2 c1 c2
    have c1 : w3.cell? ⟨w.heap.size, 1, none⟩ = some (.string s) := HX3.out.cellAt 1
    go_wp2_with fail
    refine (K4.out _).mono ?_; rintro e w5 ⟨rfl, hb5⟩
    have HB5 := Lib.hid (HB3.out.trans (hb5.mono HB3.out.size))
    have HX5 := Lib.hid (HX3.out.later hb5)
    clear hb5 HB3 HX3 c1
    go_wp2_with fail
    refine (K5.out _).mono ?_; rintro e w6 ⟨rfl, hb6⟩
    have HB6 := Lib.hid (HB5.out.trans (hb6.mono HB5.out.size))
    have HX6 := Lib.hid (HX5.out.later hb6)
    clear hb6 HB5 HX5
    have c2 : w6.cell? ⟨w.heap.size, 2, none⟩ = some (.slice a0 n0 c0) := HX6.out.cellAt 2
    go_wp2_with fail
    refine (K6.out _ _).mono ?_; rintro e w7 ⟨rfl, hb7⟩
    have HB7 := Lib.hid (HB6.out.trans (hb7.mono HB6.out.size))
    clear hb7 HB6 HX6 c2
    go_wp2_with fail
    refine (K6.out _ _).mono ?_; rintro e w8 ⟨rfl, hb8⟩
    have HB8 := Lib.hid (HB7.out.trans (hb8.mono HB7.out.size))
    clear hb8 HB7
    go_wp2_with fail
    go_ret
    exact ⟨rfl, HB8.out⟩
end labelsNil
end Go.Proofs.Ytldijginplgikaa
