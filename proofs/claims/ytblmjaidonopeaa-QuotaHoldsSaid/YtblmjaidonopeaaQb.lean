/- The contract of the document's own Admit. Condition: the slice reads as a list of jobs, of at most 1000000; the queue's name is one that Go can have. -/
import Derived.Test.YtblmjaidonopeaaQa
import Derived.Test.YtblmjaidonopeaaQr
namespace Go.Proofs.Ytblmjaidonopeaa
open Go.RowKit
set_option linter.unusedSimpArgs false
set_option linter.unusedVariables false

set_option maxHeartbeats 3200000 in
theorem radmit_any (nm : ByteArray) (a b c : Int) (A : Option Addr) (n cap : Nat) (l : List Jb) (d e f : Int) (w : World) (hn : Hid (n = l.length)) (hl : n ≤ 1000000) (hA : Hid (RdJ w A l)) (hnm : nm.size ≤ 9223372036854775807) (x y z v : Int) (hs : Hid (sm 0 0 0 (ofQ nm l) = (x, y, z, v))) :
    Calls Try.prog 11 #[.agg #[.string nm, .int .i64 a, .int .i64 b, .int .i64 c], .slice A n cap, .agg #[.int .i64 d, .int .i64 e, .int .i64 f]] w fun r w' => r = .returned (.int .i64 (adm nm a b c d e f x y z v)) ∧ Below w.heap.size w w' := by
  have k1 := fun W => rqueue_any nm a b c W hnm
  have k2 := fun W => rright_any d e f W
  cases c1 : queueB nm a b c
  case false =>
    rw [adm_q c1]
    rw [c1] at k1
    have K1 := Lib.hid k1
    clear k1 k2 c1
    go_enter Try.func11, Try.ntmps11
    have hQ0 : Bk ((w.alloc (.cells #[.string nm, .int .i64 a, .int .i64 b, .int .i64 c] 26)).alloc (.cells #[.int .i64 d, .int .i64 e, .int .i64 f] 24)) w.heap.size 26 #[.string nm, .int .i64 a, .int .i64 b, .int .i64 c] := (Bk.fresh w _ _).later ((Below.refl _ _).alloc (Nat.le_refl _) _)
    have hN0 : Bk ((w.alloc (.cells #[.string nm, .int .i64 a, .int .i64 b, .int .i64 c] 26)).alloc (.cells #[.int .i64 d, .int .i64 e, .int .i64 f] 24)) (w.heap.size + 1) 24 #[.int .i64 d, .int .i64 e, .int .i64 f] := Bk.freshAt _ _ _ (by simp)
    have HQ0 := Lib.hid hQ0; clear hQ0
    have HN0 := Lib.hid hN0; clear hN0
    have hb0 : Below w.heap.size w ((w.alloc (.cells #[.string nm, .int .i64 a, .int .i64 b, .int .i64 c] 26)).alloc (.cells #[.int .i64 d, .int .i64 e, .int .i64 f] 24)) := ((Below.refl _ _).alloc (Nat.le_refl _) _).alloc (by simp) _
    go_wp2_with ((with_reducible refine load_bk rfl 26 _ rfl w.heap.size 0 rfl 26 #[.string nm, .int .i64 a, .int .i64 b, .int .i64 c] #[.string nm, .int .i64 a, .int .i64 b, .int .i64 c] _ HQ0.out (Part.whole _) Try.underlying26 rfl (by kernel_rfl) ?_))
    refine (K1.out _).mono ?_; rintro r w1 ⟨rfl, hb1⟩
    go_wp2_with fail
    go_ret
    exact ⟨rfl, hb0.trans (hb1.mono hb0.size)⟩
  case true =>
    rw [c1] at k1
    have K1 := Lib.hid k1; clear k1
    cases c2 : rB d e f
    case false =>
      rw [adm_n c2]
      rw [c2] at k2
      have K2 := Lib.hid k2; clear k2 c1 c2
      go_enter Try.func11, Try.ntmps11
      have hQ0 : Bk ((w.alloc (.cells #[.string nm, .int .i64 a, .int .i64 b, .int .i64 c] 26)).alloc (.cells #[.int .i64 d, .int .i64 e, .int .i64 f] 24)) w.heap.size 26 #[.string nm, .int .i64 a, .int .i64 b, .int .i64 c] := (Bk.fresh w _ _).later ((Below.refl _ _).alloc (Nat.le_refl _) _)
      have hN0 : Bk ((w.alloc (.cells #[.string nm, .int .i64 a, .int .i64 b, .int .i64 c] 26)).alloc (.cells #[.int .i64 d, .int .i64 e, .int .i64 f] 24)) (w.heap.size + 1) 24 #[.int .i64 d, .int .i64 e, .int .i64 f] := Bk.freshAt _ _ _ (by simp)
      have HQ0 := Lib.hid hQ0; clear hQ0
      have HN0 := Lib.hid hN0; clear hN0
      have hb0 : Below w.heap.size w ((w.alloc (.cells #[.string nm, .int .i64 a, .int .i64 b, .int .i64 c] 26)).alloc (.cells #[.int .i64 d, .int .i64 e, .int .i64 f] 24)) := ((Below.refl _ _).alloc (Nat.le_refl _) _).alloc (by simp) _
      go_wp2_with ((with_reducible refine load_bk rfl 26 _ rfl w.heap.size 0 rfl 26 #[.string nm, .int .i64 a, .int .i64 b, .int .i64 c] #[.string nm, .int .i64 a, .int .i64 b, .int .i64 c] _ HQ0.out (Part.whole _) Try.underlying26 rfl (by kernel_rfl) ?_))
      refine (K1.out _).mono ?_; rintro r w1 ⟨rfl, hb1⟩
      have hB1 : Below w.heap.size w w1 := hb0.trans (hb1.mono hb0.size)
      have HQ1 := Lib.hid (HQ0.out.later hb1); have HN1 := Lib.hid (HN0.out.later hb1); clear HQ0 HN0 hb0
      go_wp2_with ((with_reducible refine load_bk rfl 24 _ rfl (w.heap.size + 1) 0 rfl 24 #[.int .i64 d, .int .i64 e, .int .i64 f] #[.int .i64 d, .int .i64 e, .int .i64 f] _ HN1.out (Part.whole _) Try.underlying24 rfl (by kernel_rfl) ?_))
      refine (K2.out _).mono ?_; rintro r w2 ⟨rfl, hb2⟩
      have hB2 : Below w.heap.size w w2 := hB1.trans (hb2.mono hB1.size)
      have HQ2 := Lib.hid (HQ1.out.later hb2); have HN2 := Lib.hid (HN1.out.later hb2); clear HQ1 HN1
      go_wp2_with fail
      go_ret
      exact ⟨rfl, hB2⟩
    case true =>
      rw [c2] at k2
      have K2 := Lib.hid k2; clear k2
      have hqr := queueB_r c1
      rcases sm_is (by decide) hs.out with ⟨rfl, hx⟩ | ⟨hv, rfl, rfl, rfl⟩
      case inr =>
        rw [adm_v c1 c2 (by omega)]
        clear c1 c2 hqr
        rcases hv with rfl | rfl
        all_goals
          go_enter Try.func11, Try.ntmps11
          have hQ0 : Bk ((w.alloc (.cells #[.string nm, .int .i64 a, .int .i64 b, .int .i64 c] 26)).alloc (.cells #[.int .i64 d, .int .i64 e, .int .i64 f] 24)) w.heap.size 26 #[.string nm, .int .i64 a, .int .i64 b, .int .i64 c] := (Bk.fresh w _ _).later ((Below.refl _ _).alloc (Nat.le_refl _) _)
          have hN0 : Bk ((w.alloc (.cells #[.string nm, .int .i64 a, .int .i64 b, .int .i64 c] 26)).alloc (.cells #[.int .i64 d, .int .i64 e, .int .i64 f] 24)) (w.heap.size + 1) 24 #[.int .i64 d, .int .i64 e, .int .i64 f] := Bk.freshAt _ _ _ (by simp)
          have HQ0 := Lib.hid hQ0; clear hQ0
          have HN0 := Lib.hid hN0; clear hN0
          have hb0 : Below w.heap.size w ((w.alloc (.cells #[.string nm, .int .i64 a, .int .i64 b, .int .i64 c] 26)).alloc (.cells #[.int .i64 d, .int .i64 e, .int .i64 f] 24)) := ((Below.refl _ _).alloc (Nat.le_refl _) _).alloc (by simp) _
          go_wp2_with ((with_reducible refine load_bk rfl 26 _ rfl w.heap.size 0 rfl 26 #[.string nm, .int .i64 a, .int .i64 b, .int .i64 c] #[.string nm, .int .i64 a, .int .i64 b, .int .i64 c] _ HQ0.out (Part.whole _) Try.underlying26 rfl (by kernel_rfl) ?_))
          refine (K1.out _).mono ?_; rintro r w1 ⟨rfl, hb1⟩
          have hB1 : Below w.heap.size w w1 := hb0.trans (hb1.mono hb0.size)
          have HQ1 := Lib.hid (HQ0.out.later hb1); have HN1 := Lib.hid (HN0.out.later hb1); clear HQ0 HN0 hb0
          go_wp2_with ((with_reducible refine load_bk rfl 24 _ rfl (w.heap.size + 1) 0 rfl 24 #[.int .i64 d, .int .i64 e, .int .i64 f] #[.int .i64 d, .int .i64 e, .int .i64 f] _ HN1.out (Part.whole _) Try.underlying24 rfl (by kernel_rfl) ?_))
          refine (K2.out _).mono ?_; rintro r w2 ⟨rfl, hb2⟩
          have hB2 : Below w.heap.size w w2 := hB1.trans (hb2.mono hB1.size)
          have HQ2 := Lib.hid (HQ1.out.later hb2); have HN2 := Lib.hid (HN1.out.later hb2); clear HQ1 HN1
          have H2A := Lib.hid (hA.out.later hB2)
          have cnm : w2.cell? ⟨w.heap.size, 0, none⟩ = some (.string nm) := HQ2.out.cellAt 0
          have hsz2 : w.heap.size < w2.heap.size := HQ2.out.here
          go_wp2_with fail
          refine (rused_any A n cap l nm _ hn hl H2A _ _ _ _ hs).mono ?_; rintro r w3 ⟨rfl, hb3⟩
          have hB3 : Below w.heap.size w w3 := hB2.trans (hb3.mono hB2.size)
          have HQ3 := Lib.hid (HQ2.out.later hb3); have HN3 := Lib.hid (HN2.out.later hb3); clear HQ2 HN2 cnm H2A
          go_wp2_with (((with_reducible refine store_bk rfl 24 (.tmp 7) (.tmp 23) rfl w3.heap.size 0 #[.int .i64 0, .int .i64 0, .int .i64 0] rfl rfl 24 _ #[.int .i64 0, .int .i64 0, .int .i64 0] (Bk.fresh _ _ _) (by kernel_rfl) (by simp) (by kernel_rfl) rfl ?_); intro w4 hU4 hg4 hs4; have HU4 := Lib.hid hU4; clear hU4; have hB4 : Below w.heap.size w w4 := grown_below (hB3.alloc hB3.size _) hg4 hB3.size; have HQ4 := Lib.hid ((HQ3.out.later ((Below.refl _ _).alloc (Nat.le_refl _) _)).stays hg4 (by have := HQ3.out.here; simp; omega)); have HN4 := Lib.hid ((HN3.out.later ((Below.refl _ _).alloc (Nat.le_refl _) _)).stays hg4 (by have := HN3.out.here; simp; omega))))
          go_ret
          exact ⟨rfl, hB4⟩
      case inl =>
        rw [adm_0 c1 c2]
        have kx := rB_bd hx
        have kd := rB_bd c2
        have kq := rB_bd hqr
        obtain ⟨x0, x1, y0, y1, zz0, zz1⟩ := kx
        obtain ⟨d0, d1, e0, e1, f0, f1⟩ := kd
        obtain ⟨a0, a1, b0, b1, cc0, cc1⟩ := kq
        clear c1 c2 hx hqr
        have HF : fB (x + d) (y + e) (z + f) a b c = decide (x + d ≤ a ∧ y + e ≤ b ∧ z + f ≤ c) := rfl
        rcases (show a < x + d ∨ (x + d ≤ a ∧ b < y + e) ∨ (x + d ≤ a ∧ y + e ≤ b ∧ c < z + f) ∨ (x + d ≤ a ∧ y + e ≤ b ∧ z + f ≤ c) by omega) with h1 | ⟨h1, h2⟩ | ⟨h1, h2, h3⟩ | ⟨h1, h2, h3⟩
        · rw [HF, show decide (x + d ≤ a ∧ y + e ≤ b ∧ z + f ≤ c) = false by rw [decide_eq_false_iff_not]; omega]
          clear HF
          go_enter Try.func11, Try.ntmps11
          have hQ0 : Bk ((w.alloc (.cells #[.string nm, .int .i64 a, .int .i64 b, .int .i64 c] 26)).alloc (.cells #[.int .i64 d, .int .i64 e, .int .i64 f] 24)) w.heap.size 26 #[.string nm, .int .i64 a, .int .i64 b, .int .i64 c] := (Bk.fresh w _ _).later ((Below.refl _ _).alloc (Nat.le_refl _) _)
          have hN0 : Bk ((w.alloc (.cells #[.string nm, .int .i64 a, .int .i64 b, .int .i64 c] 26)).alloc (.cells #[.int .i64 d, .int .i64 e, .int .i64 f] 24)) (w.heap.size + 1) 24 #[.int .i64 d, .int .i64 e, .int .i64 f] := Bk.freshAt _ _ _ (by simp)
          have HQ0 := Lib.hid hQ0; clear hQ0
          have HN0 := Lib.hid hN0; clear hN0
          have hb0 : Below w.heap.size w ((w.alloc (.cells #[.string nm, .int .i64 a, .int .i64 b, .int .i64 c] 26)).alloc (.cells #[.int .i64 d, .int .i64 e, .int .i64 f] 24)) := ((Below.refl _ _).alloc (Nat.le_refl _) _).alloc (by simp) _
          go_wp2_with ((with_reducible refine load_bk rfl 26 _ rfl w.heap.size 0 rfl 26 #[.string nm, .int .i64 a, .int .i64 b, .int .i64 c] #[.string nm, .int .i64 a, .int .i64 b, .int .i64 c] _ HQ0.out (Part.whole _) Try.underlying26 rfl (by kernel_rfl) ?_))
          refine (K1.out _).mono ?_; rintro r w1 ⟨rfl, hb1⟩
          have hB1 : Below w.heap.size w w1 := hb0.trans (hb1.mono hb0.size)
          have HQ1 := Lib.hid (HQ0.out.later hb1); have HN1 := Lib.hid (HN0.out.later hb1); clear HQ0 HN0 hb0
          go_wp2_with ((with_reducible refine load_bk rfl 24 _ rfl (w.heap.size + 1) 0 rfl 24 #[.int .i64 d, .int .i64 e, .int .i64 f] #[.int .i64 d, .int .i64 e, .int .i64 f] _ HN1.out (Part.whole _) Try.underlying24 rfl (by kernel_rfl) ?_))
          refine (K2.out _).mono ?_; rintro r w2 ⟨rfl, hb2⟩
          have hB2 : Below w.heap.size w w2 := hB1.trans (hb2.mono hB1.size)
          have HQ2 := Lib.hid (HQ1.out.later hb2); have HN2 := Lib.hid (HN1.out.later hb2); clear HQ1 HN1
          have H2A := Lib.hid (hA.out.later hB2)
          have cnm : w2.cell? ⟨w.heap.size, 0, none⟩ = some (.string nm) := HQ2.out.cellAt 0
          have hsz2 : w.heap.size < w2.heap.size := HQ2.out.here
          go_wp2_with fail
          refine (rused_any A n cap l nm _ hn hl H2A _ _ _ _ hs).mono ?_; rintro r w3 ⟨rfl, hb3⟩
          have hB3 : Below w.heap.size w w3 := hB2.trans (hb3.mono hB2.size)
          have HQ3 := Lib.hid (HQ2.out.later hb3); have HN3 := Lib.hid (HN2.out.later hb3); clear HQ2 HN2 cnm H2A
          go_wp2_with (((with_reducible refine store_bk rfl 24 (.tmp 7) (.tmp 23) rfl w3.heap.size 0 #[.int .i64 x, .int .i64 y, .int .i64 z] rfl rfl 24 _ #[.int .i64 x, .int .i64 y, .int .i64 z] (Bk.fresh _ _ _) (by kernel_rfl) (by simp) (by kernel_rfl) rfl ?_); intro w4 hU4 hg4 hs4; have HU4 := Lib.hid hU4; clear hU4; have hB4 : Below w.heap.size w w4 := grown_below (hB3.alloc hB3.size _) hg4 hB3.size; have HQ4 := Lib.hid ((HQ3.out.later ((Below.refl _ _).alloc (Nat.le_refl _) _)).stays hg4 (by have := HQ3.out.here; simp; omega)); have HN4 := Lib.hid ((HN3.out.later ((Below.refl _ _).alloc (Nat.le_refl _) _)).stays hg4 (by have := HN3.out.here; simp; omega))))
          have u0 : w4.cell? ⟨w3.heap.size, 0, none⟩ = some (.int .i64 x) := HU4.out.cellAt 0
          have u1 : w4.cell? ⟨w3.heap.size, 1, none⟩ = some (.int .i64 y) := HU4.out.cellAt 1
          have u2 : w4.cell? ⟨w3.heap.size, 2, none⟩ = some (.int .i64 z) := HU4.out.cellAt 2
          have n0 : w4.cell? ⟨w.heap.size + 1, 0, none⟩ = some (.int .i64 d) := HN4.out.cellAt 0
          have n1 : w4.cell? ⟨w.heap.size + 1, 1, none⟩ = some (.int .i64 e) := HN4.out.cellAt 1
          have n2 : w4.cell? ⟨w.heap.size + 1, 2, none⟩ = some (.int .i64 f) := HN4.out.cellAt 2
          have q0 : w4.cell? ⟨w.heap.size, 1, none⟩ = some (.int .i64 a) := HQ4.out.cellAt 1
          have q1 : w4.cell? ⟨w.heap.size, 2, none⟩ = some (.int .i64 b) := HQ4.out.cellAt 2
          have q2 : w4.cell? ⟨w.heap.size, 3, none⟩ = some (.int .i64 c) := HQ4.out.cellAt 3
          have z3 : w3.heap.size < w4.heap.size := HU4.out.here
          have z1 : w.heap.size + 1 < w4.heap.size := HN4.out.here
          have z0 : w.heap.size < w4.heap.size := HQ4.out.here
          refine wp_loop_rounds 4 ?_
          rw [rounds_succ]
          go_wp2_with fail
          go_region
          go_wp2_with fail
          go_ret
          exact ⟨rfl, by (repeat (with_reducible refine Below.drew ?_)); exact hB4⟩
        · rw [HF, show decide (x + d ≤ a ∧ y + e ≤ b ∧ z + f ≤ c) = false by rw [decide_eq_false_iff_not]; omega]
          clear HF
          go_enter Try.func11, Try.ntmps11
          have hQ0 : Bk ((w.alloc (.cells #[.string nm, .int .i64 a, .int .i64 b, .int .i64 c] 26)).alloc (.cells #[.int .i64 d, .int .i64 e, .int .i64 f] 24)) w.heap.size 26 #[.string nm, .int .i64 a, .int .i64 b, .int .i64 c] := (Bk.fresh w _ _).later ((Below.refl _ _).alloc (Nat.le_refl _) _)
          have hN0 : Bk ((w.alloc (.cells #[.string nm, .int .i64 a, .int .i64 b, .int .i64 c] 26)).alloc (.cells #[.int .i64 d, .int .i64 e, .int .i64 f] 24)) (w.heap.size + 1) 24 #[.int .i64 d, .int .i64 e, .int .i64 f] := Bk.freshAt _ _ _ (by simp)
          have HQ0 := Lib.hid hQ0; clear hQ0
          have HN0 := Lib.hid hN0; clear hN0
          have hb0 : Below w.heap.size w ((w.alloc (.cells #[.string nm, .int .i64 a, .int .i64 b, .int .i64 c] 26)).alloc (.cells #[.int .i64 d, .int .i64 e, .int .i64 f] 24)) := ((Below.refl _ _).alloc (Nat.le_refl _) _).alloc (by simp) _
          go_wp2_with ((with_reducible refine load_bk rfl 26 _ rfl w.heap.size 0 rfl 26 #[.string nm, .int .i64 a, .int .i64 b, .int .i64 c] #[.string nm, .int .i64 a, .int .i64 b, .int .i64 c] _ HQ0.out (Part.whole _) Try.underlying26 rfl (by kernel_rfl) ?_))
          refine (K1.out _).mono ?_; rintro r w1 ⟨rfl, hb1⟩
          have hB1 : Below w.heap.size w w1 := hb0.trans (hb1.mono hb0.size)
          have HQ1 := Lib.hid (HQ0.out.later hb1); have HN1 := Lib.hid (HN0.out.later hb1); clear HQ0 HN0 hb0
          go_wp2_with ((with_reducible refine load_bk rfl 24 _ rfl (w.heap.size + 1) 0 rfl 24 #[.int .i64 d, .int .i64 e, .int .i64 f] #[.int .i64 d, .int .i64 e, .int .i64 f] _ HN1.out (Part.whole _) Try.underlying24 rfl (by kernel_rfl) ?_))
          refine (K2.out _).mono ?_; rintro r w2 ⟨rfl, hb2⟩
          have hB2 : Below w.heap.size w w2 := hB1.trans (hb2.mono hB1.size)
          have HQ2 := Lib.hid (HQ1.out.later hb2); have HN2 := Lib.hid (HN1.out.later hb2); clear HQ1 HN1
          have H2A := Lib.hid (hA.out.later hB2)
          have cnm : w2.cell? ⟨w.heap.size, 0, none⟩ = some (.string nm) := HQ2.out.cellAt 0
          have hsz2 : w.heap.size < w2.heap.size := HQ2.out.here
          go_wp2_with fail
          refine (rused_any A n cap l nm _ hn hl H2A _ _ _ _ hs).mono ?_; rintro r w3 ⟨rfl, hb3⟩
          have hB3 : Below w.heap.size w w3 := hB2.trans (hb3.mono hB2.size)
          have HQ3 := Lib.hid (HQ2.out.later hb3); have HN3 := Lib.hid (HN2.out.later hb3); clear HQ2 HN2 cnm H2A
          go_wp2_with (((with_reducible refine store_bk rfl 24 (.tmp 7) (.tmp 23) rfl w3.heap.size 0 #[.int .i64 x, .int .i64 y, .int .i64 z] rfl rfl 24 _ #[.int .i64 x, .int .i64 y, .int .i64 z] (Bk.fresh _ _ _) (by kernel_rfl) (by simp) (by kernel_rfl) rfl ?_); intro w4 hU4 hg4 hs4; have HU4 := Lib.hid hU4; clear hU4; have hB4 : Below w.heap.size w w4 := grown_below (hB3.alloc hB3.size _) hg4 hB3.size; have HQ4 := Lib.hid ((HQ3.out.later ((Below.refl _ _).alloc (Nat.le_refl _) _)).stays hg4 (by have := HQ3.out.here; simp; omega)); have HN4 := Lib.hid ((HN3.out.later ((Below.refl _ _).alloc (Nat.le_refl _) _)).stays hg4 (by have := HN3.out.here; simp; omega))))
          have u0 : w4.cell? ⟨w3.heap.size, 0, none⟩ = some (.int .i64 x) := HU4.out.cellAt 0
          have u1 : w4.cell? ⟨w3.heap.size, 1, none⟩ = some (.int .i64 y) := HU4.out.cellAt 1
          have u2 : w4.cell? ⟨w3.heap.size, 2, none⟩ = some (.int .i64 z) := HU4.out.cellAt 2
          have n0 : w4.cell? ⟨w.heap.size + 1, 0, none⟩ = some (.int .i64 d) := HN4.out.cellAt 0
          have n1 : w4.cell? ⟨w.heap.size + 1, 1, none⟩ = some (.int .i64 e) := HN4.out.cellAt 1
          have n2 : w4.cell? ⟨w.heap.size + 1, 2, none⟩ = some (.int .i64 f) := HN4.out.cellAt 2
          have q0 : w4.cell? ⟨w.heap.size, 1, none⟩ = some (.int .i64 a) := HQ4.out.cellAt 1
          have q1 : w4.cell? ⟨w.heap.size, 2, none⟩ = some (.int .i64 b) := HQ4.out.cellAt 2
          have q2 : w4.cell? ⟨w.heap.size, 3, none⟩ = some (.int .i64 c) := HQ4.out.cellAt 3
          have z3 : w3.heap.size < w4.heap.size := HU4.out.here
          have z1 : w.heap.size + 1 < w4.heap.size := HN4.out.here
          have z0 : w.heap.size < w4.heap.size := HQ4.out.here
          refine wp_loop_rounds 4 ?_
          rw [rounds_succ]
          go_wp2_with fail
          go_region
          go_wp2_with fail
          rw [rounds_succ]
          go_wp2_with fail
          go_region
          go_wp2_with fail
          go_ret
          exact ⟨rfl, by (repeat (with_reducible refine Below.drew ?_)); exact hB4⟩
        · rw [HF, show decide (x + d ≤ a ∧ y + e ≤ b ∧ z + f ≤ c) = false by rw [decide_eq_false_iff_not]; omega]
          clear HF
          go_enter Try.func11, Try.ntmps11
          have hQ0 : Bk ((w.alloc (.cells #[.string nm, .int .i64 a, .int .i64 b, .int .i64 c] 26)).alloc (.cells #[.int .i64 d, .int .i64 e, .int .i64 f] 24)) w.heap.size 26 #[.string nm, .int .i64 a, .int .i64 b, .int .i64 c] := (Bk.fresh w _ _).later ((Below.refl _ _).alloc (Nat.le_refl _) _)
          have hN0 : Bk ((w.alloc (.cells #[.string nm, .int .i64 a, .int .i64 b, .int .i64 c] 26)).alloc (.cells #[.int .i64 d, .int .i64 e, .int .i64 f] 24)) (w.heap.size + 1) 24 #[.int .i64 d, .int .i64 e, .int .i64 f] := Bk.freshAt _ _ _ (by simp)
          have HQ0 := Lib.hid hQ0; clear hQ0
          have HN0 := Lib.hid hN0; clear hN0
          have hb0 : Below w.heap.size w ((w.alloc (.cells #[.string nm, .int .i64 a, .int .i64 b, .int .i64 c] 26)).alloc (.cells #[.int .i64 d, .int .i64 e, .int .i64 f] 24)) := ((Below.refl _ _).alloc (Nat.le_refl _) _).alloc (by simp) _
          go_wp2_with ((with_reducible refine load_bk rfl 26 _ rfl w.heap.size 0 rfl 26 #[.string nm, .int .i64 a, .int .i64 b, .int .i64 c] #[.string nm, .int .i64 a, .int .i64 b, .int .i64 c] _ HQ0.out (Part.whole _) Try.underlying26 rfl (by kernel_rfl) ?_))
          refine (K1.out _).mono ?_; rintro r w1 ⟨rfl, hb1⟩
          have hB1 : Below w.heap.size w w1 := hb0.trans (hb1.mono hb0.size)
          have HQ1 := Lib.hid (HQ0.out.later hb1); have HN1 := Lib.hid (HN0.out.later hb1); clear HQ0 HN0 hb0
          go_wp2_with ((with_reducible refine load_bk rfl 24 _ rfl (w.heap.size + 1) 0 rfl 24 #[.int .i64 d, .int .i64 e, .int .i64 f] #[.int .i64 d, .int .i64 e, .int .i64 f] _ HN1.out (Part.whole _) Try.underlying24 rfl (by kernel_rfl) ?_))
          refine (K2.out _).mono ?_; rintro r w2 ⟨rfl, hb2⟩
          have hB2 : Below w.heap.size w w2 := hB1.trans (hb2.mono hB1.size)
          have HQ2 := Lib.hid (HQ1.out.later hb2); have HN2 := Lib.hid (HN1.out.later hb2); clear HQ1 HN1
          have H2A := Lib.hid (hA.out.later hB2)
          have cnm : w2.cell? ⟨w.heap.size, 0, none⟩ = some (.string nm) := HQ2.out.cellAt 0
          have hsz2 : w.heap.size < w2.heap.size := HQ2.out.here
          go_wp2_with fail
          refine (rused_any A n cap l nm _ hn hl H2A _ _ _ _ hs).mono ?_; rintro r w3 ⟨rfl, hb3⟩
          have hB3 : Below w.heap.size w w3 := hB2.trans (hb3.mono hB2.size)
          have HQ3 := Lib.hid (HQ2.out.later hb3); have HN3 := Lib.hid (HN2.out.later hb3); clear HQ2 HN2 cnm H2A
          go_wp2_with (((with_reducible refine store_bk rfl 24 (.tmp 7) (.tmp 23) rfl w3.heap.size 0 #[.int .i64 x, .int .i64 y, .int .i64 z] rfl rfl 24 _ #[.int .i64 x, .int .i64 y, .int .i64 z] (Bk.fresh _ _ _) (by kernel_rfl) (by simp) (by kernel_rfl) rfl ?_); intro w4 hU4 hg4 hs4; have HU4 := Lib.hid hU4; clear hU4; have hB4 : Below w.heap.size w w4 := grown_below (hB3.alloc hB3.size _) hg4 hB3.size; have HQ4 := Lib.hid ((HQ3.out.later ((Below.refl _ _).alloc (Nat.le_refl _) _)).stays hg4 (by have := HQ3.out.here; simp; omega)); have HN4 := Lib.hid ((HN3.out.later ((Below.refl _ _).alloc (Nat.le_refl _) _)).stays hg4 (by have := HN3.out.here; simp; omega))))
          have u0 : w4.cell? ⟨w3.heap.size, 0, none⟩ = some (.int .i64 x) := HU4.out.cellAt 0
          have u1 : w4.cell? ⟨w3.heap.size, 1, none⟩ = some (.int .i64 y) := HU4.out.cellAt 1
          have u2 : w4.cell? ⟨w3.heap.size, 2, none⟩ = some (.int .i64 z) := HU4.out.cellAt 2
          have n0 : w4.cell? ⟨w.heap.size + 1, 0, none⟩ = some (.int .i64 d) := HN4.out.cellAt 0
          have n1 : w4.cell? ⟨w.heap.size + 1, 1, none⟩ = some (.int .i64 e) := HN4.out.cellAt 1
          have n2 : w4.cell? ⟨w.heap.size + 1, 2, none⟩ = some (.int .i64 f) := HN4.out.cellAt 2
          have q0 : w4.cell? ⟨w.heap.size, 1, none⟩ = some (.int .i64 a) := HQ4.out.cellAt 1
          have q1 : w4.cell? ⟨w.heap.size, 2, none⟩ = some (.int .i64 b) := HQ4.out.cellAt 2
          have q2 : w4.cell? ⟨w.heap.size, 3, none⟩ = some (.int .i64 c) := HQ4.out.cellAt 3
          have z3 : w3.heap.size < w4.heap.size := HU4.out.here
          have z1 : w.heap.size + 1 < w4.heap.size := HN4.out.here
          have z0 : w.heap.size < w4.heap.size := HQ4.out.here
          refine wp_loop_rounds 4 ?_
          rw [rounds_succ]
          go_wp2_with fail
          go_region
          go_wp2_with fail
          rw [rounds_succ]
          go_wp2_with fail
          go_region
          go_wp2_with fail
          rw [rounds_succ]
          go_wp2_with fail
          go_region
          go_wp2_with fail
          go_ret
          exact ⟨rfl, by (repeat (with_reducible refine Below.drew ?_)); exact hB4⟩
        · rw [HF, show decide (x + d ≤ a ∧ y + e ≤ b ∧ z + f ≤ c) = true by rw [decide_eq_true_eq]; omega]
          clear HF
          go_enter Try.func11, Try.ntmps11
          have hQ0 : Bk ((w.alloc (.cells #[.string nm, .int .i64 a, .int .i64 b, .int .i64 c] 26)).alloc (.cells #[.int .i64 d, .int .i64 e, .int .i64 f] 24)) w.heap.size 26 #[.string nm, .int .i64 a, .int .i64 b, .int .i64 c] := (Bk.fresh w _ _).later ((Below.refl _ _).alloc (Nat.le_refl _) _)
          have hN0 : Bk ((w.alloc (.cells #[.string nm, .int .i64 a, .int .i64 b, .int .i64 c] 26)).alloc (.cells #[.int .i64 d, .int .i64 e, .int .i64 f] 24)) (w.heap.size + 1) 24 #[.int .i64 d, .int .i64 e, .int .i64 f] := Bk.freshAt _ _ _ (by simp)
          have HQ0 := Lib.hid hQ0; clear hQ0
          have HN0 := Lib.hid hN0; clear hN0
          have hb0 : Below w.heap.size w ((w.alloc (.cells #[.string nm, .int .i64 a, .int .i64 b, .int .i64 c] 26)).alloc (.cells #[.int .i64 d, .int .i64 e, .int .i64 f] 24)) := ((Below.refl _ _).alloc (Nat.le_refl _) _).alloc (by simp) _
          go_wp2_with ((with_reducible refine load_bk rfl 26 _ rfl w.heap.size 0 rfl 26 #[.string nm, .int .i64 a, .int .i64 b, .int .i64 c] #[.string nm, .int .i64 a, .int .i64 b, .int .i64 c] _ HQ0.out (Part.whole _) Try.underlying26 rfl (by kernel_rfl) ?_))
          refine (K1.out _).mono ?_; rintro r w1 ⟨rfl, hb1⟩
          have hB1 : Below w.heap.size w w1 := hb0.trans (hb1.mono hb0.size)
          have HQ1 := Lib.hid (HQ0.out.later hb1); have HN1 := Lib.hid (HN0.out.later hb1); clear HQ0 HN0 hb0
          go_wp2_with ((with_reducible refine load_bk rfl 24 _ rfl (w.heap.size + 1) 0 rfl 24 #[.int .i64 d, .int .i64 e, .int .i64 f] #[.int .i64 d, .int .i64 e, .int .i64 f] _ HN1.out (Part.whole _) Try.underlying24 rfl (by kernel_rfl) ?_))
          refine (K2.out _).mono ?_; rintro r w2 ⟨rfl, hb2⟩
          have hB2 : Below w.heap.size w w2 := hB1.trans (hb2.mono hB1.size)
          have HQ2 := Lib.hid (HQ1.out.later hb2); have HN2 := Lib.hid (HN1.out.later hb2); clear HQ1 HN1
          have H2A := Lib.hid (hA.out.later hB2)
          have cnm : w2.cell? ⟨w.heap.size, 0, none⟩ = some (.string nm) := HQ2.out.cellAt 0
          have hsz2 : w.heap.size < w2.heap.size := HQ2.out.here
          go_wp2_with fail
          refine (rused_any A n cap l nm _ hn hl H2A _ _ _ _ hs).mono ?_; rintro r w3 ⟨rfl, hb3⟩
          have hB3 : Below w.heap.size w w3 := hB2.trans (hb3.mono hB2.size)
          have HQ3 := Lib.hid (HQ2.out.later hb3); have HN3 := Lib.hid (HN2.out.later hb3); clear HQ2 HN2 cnm H2A
          go_wp2_with (((with_reducible refine store_bk rfl 24 (.tmp 7) (.tmp 23) rfl w3.heap.size 0 #[.int .i64 x, .int .i64 y, .int .i64 z] rfl rfl 24 _ #[.int .i64 x, .int .i64 y, .int .i64 z] (Bk.fresh _ _ _) (by kernel_rfl) (by simp) (by kernel_rfl) rfl ?_); intro w4 hU4 hg4 hs4; have HU4 := Lib.hid hU4; clear hU4; have hB4 : Below w.heap.size w w4 := grown_below (hB3.alloc hB3.size _) hg4 hB3.size; have HQ4 := Lib.hid ((HQ3.out.later ((Below.refl _ _).alloc (Nat.le_refl _) _)).stays hg4 (by have := HQ3.out.here; simp; omega)); have HN4 := Lib.hid ((HN3.out.later ((Below.refl _ _).alloc (Nat.le_refl _) _)).stays hg4 (by have := HN3.out.here; simp; omega))))
          have u0 : w4.cell? ⟨w3.heap.size, 0, none⟩ = some (.int .i64 x) := HU4.out.cellAt 0
          have u1 : w4.cell? ⟨w3.heap.size, 1, none⟩ = some (.int .i64 y) := HU4.out.cellAt 1
          have u2 : w4.cell? ⟨w3.heap.size, 2, none⟩ = some (.int .i64 z) := HU4.out.cellAt 2
          have n0 : w4.cell? ⟨w.heap.size + 1, 0, none⟩ = some (.int .i64 d) := HN4.out.cellAt 0
          have n1 : w4.cell? ⟨w.heap.size + 1, 1, none⟩ = some (.int .i64 e) := HN4.out.cellAt 1
          have n2 : w4.cell? ⟨w.heap.size + 1, 2, none⟩ = some (.int .i64 f) := HN4.out.cellAt 2
          have q0 : w4.cell? ⟨w.heap.size, 1, none⟩ = some (.int .i64 a) := HQ4.out.cellAt 1
          have q1 : w4.cell? ⟨w.heap.size, 2, none⟩ = some (.int .i64 b) := HQ4.out.cellAt 2
          have q2 : w4.cell? ⟨w.heap.size, 3, none⟩ = some (.int .i64 c) := HQ4.out.cellAt 3
          have z3 : w3.heap.size < w4.heap.size := HU4.out.here
          have z1 : w.heap.size + 1 < w4.heap.size := HN4.out.here
          have z0 : w.heap.size < w4.heap.size := HQ4.out.here
          refine wp_loop_rounds 4 ?_
          rw [rounds_succ]
          go_wp2_with fail
          go_region
          go_wp2_with fail
          rw [rounds_succ]
          go_wp2_with fail
          go_region
          go_wp2_with fail
          rw [rounds_succ]
          go_wp2_with fail
          go_region
          go_wp2_with fail
          rw [rounds_succ]
          go_wp2_with fail
          go_ret
          exact ⟨rfl, by (repeat (with_reducible refine Below.drew ?_)); exact hB4⟩
end Go.Proofs.Ytblmjaidonopeaa
