/- The walk of QuotaTells. No condition beyond the form's own. -/
import Derived.Test.YtblmjaidonopeaaQb
import Derived.Test.YtblmjaidonopeaaQk
import Derived.Test.YtblmjaidonopeaaLat
import Derived.Deep.RegionHeld3
namespace Go.Proofs.Ytblmjaidonopeaa
open Go.RowKit
set_option linter.unusedSimpArgs false
set_option linter.unusedVariables false
theorem RdJ.at_later {w : World} (x : Later w) {A : Option Addr} {l : List Jb} (h : RdJ w A l) : RdJ x.to A l := h.later x.below
namespace quotaTells

set_option maxHeartbeats 6400000 in
set_option maxRecDepth 100000 in
theorem walk (A : Option Addr) (n cap : Nat) (l : List Jb) (nm : ByteArray) (a b c : Int) (d e f : Int) (s : ByteArray) (w : World) (hn : n = l.length) (hA : RdJ w A l) (hc : n ≤ cap) (hc2 : cap ≤ 9223372036854775807) (hnm : nm.size ≤ 140737488351232) (hs : s.size ≤ 140737488351232) :
    Calls Try.prog 3 #[.slice A n cap, .agg #[.string nm, .int .i64 a, .int .i64 b, .int .i64 c], .agg #[.int .i64 d, .int .i64 e, .int .i64 f], .string s] w fun r w' => r = .returned (.bool true) ∧ Below w.heap.size w w' := by
  obtain ⟨u, hu⟩ : ∃ u, sm 0 0 0 (ofQ nm l) = u := ⟨_, rfl⟩
  obtain ⟨x, y, z, v⟩ := u
  obtain ⟨F, hF⟩ : ∃ F, fnd s 0 l = F := ⟨_, rfl⟩
  have HN := Lib.hid hn; clear hn
  have HA := Lib.hid hA; clear hA
  have HU := Lib.hid hu; clear hu
  have HF := Lib.hid hF; clear hF
  have hE : eq3 x y z x y z = true := by simp [eq3]
  by_cases h1 : 300 < n
  · go_enter Try.func3, Try.ntmps3
    have hQ0 : Bk ((w.alloc (.cells #[.string nm, .int .i64 a, .int .i64 b, .int .i64 c] 26)).alloc (.cells #[.int .i64 d, .int .i64 e, .int .i64 f] 24)) w.heap.size 26 #[.string nm, .int .i64 a, .int .i64 b, .int .i64 c] := (Bk.fresh w _ _).later ((Below.refl _ _).alloc (Nat.le_refl _) _)
    have hN0 : Bk ((w.alloc (.cells #[.string nm, .int .i64 a, .int .i64 b, .int .i64 c] 26)).alloc (.cells #[.int .i64 d, .int .i64 e, .int .i64 f] 24)) (w.heap.size + 1) 24 #[.int .i64 d, .int .i64 e, .int .i64 f] := Bk.freshAt _ _ _ (by simp)
    have HQ0 := Lib.hid hQ0; clear hQ0
    have HN0 := Lib.hid hN0; clear hN0
    have hB0 : Below w.heap.size w ((w.alloc (.cells #[.string nm, .int .i64 a, .int .i64 b, .int .i64 c] 26)).alloc (.cells #[.int .i64 d, .int .i64 e, .int .i64 f] 24)) := ((Below.refl _ _).alloc (Nat.le_refl _) _).alloc (by simp) _
    go_wp2_with fail
    refine (awake_any _).mono ?_; rintro r w1 ⟨rfl, hb1⟩
    have hB1 : Below w.heap.size w w1 := hB0.trans (hb1.mono hB0.size)
    have HQ1 := Lib.hid (HQ0.out.later hb1); clear HQ0
    have HN1 := Lib.hid (HN0.out.later hb1); clear HN0
    have cnm : w1.cell? ⟨w.heap.size, 0, none⟩ = some (.string nm) := HQ1.out.cellAt 0
    have hz1 : w.heap.size < w1.heap.size := HQ1.out.here
    go_wp2_with fail
    refine (awake_any _).mono ?_; rintro r w2 ⟨rfl, hb2⟩
    go_wp2_with fail
    go_ret
    exact ⟨rfl, hB1.trans (hb2.mono hB1.size)⟩
  by_cases h2 : 1000 < nm.size
  · have h1' : decide (300 < (n : Int)) = false := by simp; omega
    go_enter Try.func3, Try.ntmps3
    have hQ0 : Bk ((w.alloc (.cells #[.string nm, .int .i64 a, .int .i64 b, .int .i64 c] 26)).alloc (.cells #[.int .i64 d, .int .i64 e, .int .i64 f] 24)) w.heap.size 26 #[.string nm, .int .i64 a, .int .i64 b, .int .i64 c] := (Bk.fresh w _ _).later ((Below.refl _ _).alloc (Nat.le_refl _) _)
    have hN0 : Bk ((w.alloc (.cells #[.string nm, .int .i64 a, .int .i64 b, .int .i64 c] 26)).alloc (.cells #[.int .i64 d, .int .i64 e, .int .i64 f] 24)) (w.heap.size + 1) 24 #[.int .i64 d, .int .i64 e, .int .i64 f] := Bk.freshAt _ _ _ (by simp)
    have HQ0 := Lib.hid hQ0; clear hQ0
    have HN0 := Lib.hid hN0; clear hN0
    have hB0 : Below w.heap.size w ((w.alloc (.cells #[.string nm, .int .i64 a, .int .i64 b, .int .i64 c] 26)).alloc (.cells #[.int .i64 d, .int .i64 e, .int .i64 f] 24)) := ((Below.refl _ _).alloc (Nat.le_refl _) _).alloc (by simp) _
    go_wp2_with fail
    refine (awake_any _).mono ?_; rintro r w1 ⟨rfl, hb1⟩
    have hB1 : Below w.heap.size w w1 := hB0.trans (hb1.mono hB0.size)
    have HQ1 := Lib.hid (HQ0.out.later hb1); clear HQ0
    have HN1 := Lib.hid (HN0.out.later hb1); clear HN0
    have cnm : w1.cell? ⟨w.heap.size, 0, none⟩ = some (.string nm) := HQ1.out.cellAt 0
    have hz1 : w.heap.size < w1.heap.size := HQ1.out.here
    go_wp2_with fail
    refine (awake_any _).mono ?_; rintro r w2 ⟨rfl, hb2⟩
    go_wp2_with fail
    go_ret
    exact ⟨rfl, hB1.trans (hb2.mono hB1.size)⟩
  have h1' : decide (300 < (n : Int)) = false := by simp; omega
  have h2' : decide (1000 < (nm.size : Int)) = false := by simp; omega
  go_enter Try.func3, Try.ntmps3
  have hQ0 : Bk ((w.alloc (.cells #[.string nm, .int .i64 a, .int .i64 b, .int .i64 c] 26)).alloc (.cells #[.int .i64 d, .int .i64 e, .int .i64 f] 24)) w.heap.size 26 #[.string nm, .int .i64 a, .int .i64 b, .int .i64 c] := (Bk.fresh w _ _).later ((Below.refl _ _).alloc (Nat.le_refl _) _)
  have hN0 : Bk ((w.alloc (.cells #[.string nm, .int .i64 a, .int .i64 b, .int .i64 c] 26)).alloc (.cells #[.int .i64 d, .int .i64 e, .int .i64 f] 24)) (w.heap.size + 1) 24 #[.int .i64 d, .int .i64 e, .int .i64 f] := Bk.freshAt _ _ _ (by simp)
  have HQ0 := Lib.hid hQ0; clear hQ0
  have HN0 := Lib.hid hN0; clear hN0
  have hB0 : Below w.heap.size w ((w.alloc (.cells #[.string nm, .int .i64 a, .int .i64 b, .int .i64 c] 26)).alloc (.cells #[.int .i64 d, .int .i64 e, .int .i64 f] 24)) := ((Below.refl _ _).alloc (Nat.le_refl _) _).alloc (by simp) _
  go_wp2_with fail
  refine (awake_any _).mono ?_; rintro r w1 ⟨rfl, hb1⟩
  have hB1 : Below w.heap.size w w1 := hB0.trans (hb1.mono hB0.size)
  have HQ1 := Lib.hid (HQ0.out.later hb1); clear HQ0
  have HN1 := Lib.hid (HN0.out.later hb1); clear HN0
  have cnm : w1.cell? ⟨w.heap.size, 0, none⟩ = some (.string nm) := HQ1.out.cellAt 0
  have hz1 : w.heap.size < w1.heap.size := HQ1.out.here
  go_wp2_with fail
  have HA1 := Lib.hid (HA.out.later hB1)
  refine (used_any A n cap l nm _ HN (by omega) HA1 x y z v HU).mono ?_; rintro r w2 ⟨rfl, hb2⟩
  clear cnm hz1
  have hB2 : Below w.heap.size w w2 := hB1.trans (hb2.mono hB1.size)
  have HQ2 := Lib.hid (HQ1.out.later hb2); clear HQ1
  have HN2 := Lib.hid (HN1.out.later hb2); clear HN1
  go_wp2_with (((with_reducible refine store_bk rfl 24 (.tmp 9) (.tmp 33) rfl w2.heap.size 0 #[.int .i64 x, .int .i64 y, .int .i64 z] rfl rfl 24 _ #[.int .i64 x, .int .i64 y, .int .i64 z] (Bk.fresh _ _ _) (by kernel_rfl) (by simp) (by kernel_rfl) rfl ?_); intro w3 hX hg3 hs3; clear hs3; have HX3 := Lib.hid hX; clear hX; have hB3 : Below w.heap.size w w3 := grown_below (hB2.alloc hB2.size _) hg3 hB2.size; have HQ3 := Lib.hid ((HQ2.out.later ((Below.refl _ _).alloc (Nat.le_refl _) _)).stays hg3 (by have := HQ2.out.here; simp; omega)); have HN3 := Lib.hid ((HN2.out.later ((Below.refl _ _).alloc (Nat.le_refl _) _)).stays hg3 (by have := HN2.out.here; simp; omega)); have cnm : w3.cell? ⟨w.heap.size, 0, none⟩ = some (.string nm) := HQ3.out.cellAt 0; have hz3 : w.heap.size < w3.heap.size := HQ3.out.here))
  have HA3 := Lib.hid (HA.out.later hB3)
  refine (rused_any A n cap l nm _ HN (by omega) HA3 x y z v HU).mono ?_; rintro r w4 ⟨rfl, hb4⟩
  clear cnm hz3
  have hB4 : Below w.heap.size w w4 := hB3.trans (hb4.mono hB3.size)
  have HQ4 := Lib.hid (HQ3.out.later hb4); clear HQ3
  have HN4 := Lib.hid (HN3.out.later hb4); clear HN3
  have HX4 := Lib.hid (HX3.out.later hb4); clear HX3
  go_wp2_with (((with_reducible refine store_bk rfl 24 (.tmp 11) (.tmp 40) rfl w4.heap.size 0 #[.int .i64 x, .int .i64 y, .int .i64 z] rfl rfl 24 _ #[.int .i64 x, .int .i64 y, .int .i64 z] (Bk.fresh _ _ _) (by kernel_rfl) (by simp) (by kernel_rfl) rfl ?_); intro w5 hX hg5 hs5; clear hs5; have HX5 := Lib.hid hX; clear hX; have hB5 : Below w.heap.size w w5 := grown_below (hB4.alloc hB4.size _) hg5 hB4.size; have HQ5 := Lib.hid ((HQ4.out.later ((Below.refl _ _).alloc (Nat.le_refl _) _)).stays hg5 (by have := HQ4.out.here; simp; omega)); have HN5 := Lib.hid ((HN4.out.later ((Below.refl _ _).alloc (Nat.le_refl _) _)).stays hg5 (by have := HN4.out.here; simp; omega))))
  have HY5 := Lib.hid ((HX4.out.later ((Below.refl _ _).alloc (Nat.le_refl _) _)).stays hg5 (by have := HX4.out.here; simp; omega))
  have HA5 := Lib.hid (HA.out.later hB5)
  have q0 : w5.cell? ⟨w.heap.size, 0, none⟩ = some (.string nm) := HQ5.out.cellAt 0
  have q1 : w5.cell? ⟨w.heap.size, 1, none⟩ = some (.int .i64 a) := HQ5.out.cellAt 1
  have q2 : w5.cell? ⟨w.heap.size, 2, none⟩ = some (.int .i64 b) := HQ5.out.cellAt 2
  have q3 : w5.cell? ⟨w.heap.size, 3, none⟩ = some (.int .i64 c) := HQ5.out.cellAt 3
  have n0 : w5.cell? ⟨w.heap.size + 1, 0, none⟩ = some (.int .i64 d) := HN5.out.cellAt 0
  have n1 : w5.cell? ⟨w.heap.size + 1, 1, none⟩ = some (.int .i64 e) := HN5.out.cellAt 1
  have n2 : w5.cell? ⟨w.heap.size + 1, 2, none⟩ = some (.int .i64 f) := HN5.out.cellAt 2
  have x0 : w5.cell? ⟨w4.heap.size, 0, none⟩ = some (.int .i64 x) := HX5.out.cellAt 0
  have x1 : w5.cell? ⟨w4.heap.size, 1, none⟩ = some (.int .i64 y) := HX5.out.cellAt 1
  have x2 : w5.cell? ⟨w4.heap.size, 2, none⟩ = some (.int .i64 z) := HX5.out.cellAt 2
  have y0 : w5.cell? ⟨w2.heap.size, 0, none⟩ = some (.int .i64 x) := HY5.out.cellAt 0
  have y1 : w5.cell? ⟨w2.heap.size, 1, none⟩ = some (.int .i64 y) := HY5.out.cellAt 1
  have y2 : w5.cell? ⟨w2.heap.size, 2, none⟩ = some (.int .i64 z) := HY5.out.cellAt 2
  have z0 : w.heap.size < w5.heap.size := HQ5.out.here
  have z1 : w.heap.size + 1 < w5.heap.size := HN5.out.here
  have z4 : w4.heap.size < w5.heap.size := HX5.out.here
  have z2 : w2.heap.size < w5.heap.size := HY5.out.here
  obtain ⟨T, hT⟩ : ∃ T, adm nm a b c d e f x y z v = T := ⟨_, rfl⟩
  have k1 : ∀ y : Later w5, Calls Try.prog 10 #[.agg #[.string nm, .int .i64 a, .int .i64 b, .int .i64 c], .slice A n cap, .agg #[.int .i64 d, .int .i64 e, .int .i64 f]] y.to fun r w' => r = .returned (.int .i64 T) ∧ Below y.to.heap.size y.to w' := fun y => hT ▸ admit_any nm a b c A n cap l d e f y.to HN (by omega) (Lib.hid (RdJ.at_later y HA5.out)) (by omega) _ _ _ _ HU
  have k2 : ∀ y : Later w5, Calls Try.prog 11 #[.agg #[.string nm, .int .i64 a, .int .i64 b, .int .i64 c], .slice A n cap, .agg #[.int .i64 d, .int .i64 e, .int .i64 f]] y.to fun r w' => r = .returned (.int .i64 T) ∧ Below y.to.heap.size y.to w' := fun y => hT ▸ radmit_any nm a b c A n cap l d e f y.to HN (by omega) (Lib.hid (RdJ.at_later y HA5.out)) (by omega) _ _ _ _ HU
  have k3 : ∀ y : Later w5, Calls Try.prog 12 #[.slice A n cap, .string s] y.to fun r w' => r = .returned (.int .i64 F) ∧ Below y.to.heap.size y.to w' := fun y => find_any A n cap l s y.to HN (by omega) (Lib.hid (RdJ.at_later y HA5.out)) F HF
  have k4 : ∀ y : Later w5, Calls Try.prog 13 #[.slice A n cap, .string s] y.to fun r w' => r = .returned (.int .i64 F) ∧ Below y.to.heap.size y.to w' := fun y => rfind_any A n cap l s y.to HN (by omega) (Lib.hid (RdJ.at_later y HA5.out)) F HF
  have K1 := Lib.hid k1; have K2 := Lib.hid k2; have K3 := Lib.hid k3; have K4 := Lib.hid k4
  clear k1 k2 k3 k4 hT
  refine wp_region_later (by kernel_rfl) (by kernel_rfl) ?_; have hL : ∀ (w : World) (x : Later w) (b o : Nat), b < w.heap.size → x.to.cell? ⟨b, o, none⟩ = w.cell? ⟨b, o, none⟩ := fun w x b o hb => x.cell hb; have hN := Later.some; (repeat (go_big_quiet_step (((first | (go_at_call 10; (with_reducible exact Later.call (K1.out _))) | (go_at_call 11; (with_reducible exact Later.call (K2.out _))) | (go_at_call 12; (with_reducible exact Later.call (K3.out _))) | (go_at_call 13; (with_reducible exact Later.call (K4.out _)))))))); refine wpQuiet_nil ?_; intro w6 hw6; have hb6 := Later.out hw6; clear hw6 hL hN
  have hB6 : Below w.heap.size w w6 := hB5.trans (hb6.mono hB5.size)
  clear K1 K2 K3 K4 q0 q1 q2 q3 n0 n1 n2 x0 x1 x2 y0 y1 y2 z0 z1 z4 z2 HX5 HY5 HQ5 HN5 HA5 HA3 HA1
  go_wp2_with fail
  go_loopw [72] (fun i wr => ∃ k : Nat, k ≤ n ∧ i = .int .i64 k ∧ Below w.heap.size w wr) (fun i wr => n - (intOf i).toNat)
  case atStart => exact ⟨0, Nat.zero_le _, rfl, hB6⟩
  case round =>
    obtain ⟨k, hk, rfl, hb⟩ := hrel
    by_cases hlt : k < n
    · have hlk : k < l.length := by have := HN.out; omega
      obtain ⟨g, o, rfl, hg, hj⟩ := (HA.out.later hb).at hlk
      obtain ⟨j, hjk⟩ : ∃ j, j = l[k] := ⟨_, rfl⟩
      rw [← hjk] at hj
      obtain ⟨j0, j1, j2, j3, j4, j5, j6, j7, j8, j9, j10, j11, j12, j13, j14⟩ := j
      have c0 := hj.rg 0 _ rfl
      have c1 := hj.rg 1 _ rfl
      have c2 := hj.rg 2 _ rfl
      have c3 := hj.rg 3 _ rfl
      have c4 := hj.rg 4 _ rfl
      have c5 := hj.rg 5 _ rfl
      have c6 := hj.rg 6 _ rfl
      have c7 := hj.rg 7 _ rfl
      have c8 := hj.rg 8 _ rfl
      have c9 := hj.rg 9 _ rfl
      have c10 := hj.rg 10 _ rfl
      have c11 := hj.rg 11 _ rfl
      have c12 := hj.rg 12 _ rfl
      clear hjk hj
      rw [Nat.add_zero] at c0
      by_cases h0 : j13.size = 0
      · obtain rfl := empty_of h0
        have k5 : ∀ W, Calls Try.prog 14 #[.agg #[.string j0, .string j1, .int .i64 j2, .int .i64 j3, .int .i64 j4, .int .i64 j5, .slice j6 j7 j8, .string j9, .string j10, .int .i64 j11, .int .i64 j12, .string ⟨#[]⟩, .int .i64 j14]] W fun r w' => r = .returned (.bool true) ∧ Below W.heap.size W w' := fun W => waits_any ⟨j0, j1, j2, j3, j4, j5, j6, j7, j8, j9, j10, j11, j12, ⟨#[]⟩, j14⟩ W
        have K5 := Lib.hid k5; clear k5 h0
        go_wp2_with fail
        refine wp_region_later (by kernel_rfl) (by kernel_rfl) ?_; have hL : ∀ (w : World) (x : Later w) (b o : Nat), b < w.heap.size → x.to.cell? ⟨b, o, none⟩ = w.cell? ⟨b, o, none⟩ := fun w x b o hb => x.cell hb; have hN := Later.some; (repeat (go_big_quiet_step (((go_at_call 14; (with_reducible exact Later.call (K5.out _))))))); refine wpQuiet_nil ?_; intro w7 hw7; have hb7 := Later.out hw7; clear hw7 hL hN
        have hB7 : Below w.heap.size w w7 := hb.trans (hb7.mono hb.size)
        go_wp2_with fail
        go_round
        case rel => exact ⟨k + 1, by omega, by go_num, hB7⟩
        case measure => simp [intOf]; omega
      · have k5 : ∀ W, Calls Try.prog 14 #[.agg #[.string j0, .string j1, .int .i64 j2, .int .i64 j3, .int .i64 j4, .int .i64 j5, .slice j6 j7 j8, .string j9, .string j10, .int .i64 j11, .int .i64 j12, .string j13, .int .i64 j14]] W fun r w' => r = .returned (.bool false) ∧ Below W.heap.size W w' := fun W => by have h := waits_any ⟨j0, j1, j2, j3, j4, j5, j6, j7, j8, j9, j10, j11, j12, j13, j14⟩ W; rw [show wB (Jb.nd ⟨j0, j1, j2, j3, j4, j5, j6, j7, j8, j9, j10, j11, j12, j13, j14⟩) = false from decide_eq_false h0] at h; exact h
        have K5 := Lib.hid k5; clear k5
        obtain ⟨e1, e2⟩ := full_of h0
        clear h0
        go_wp2_with fail
        refine wp_region_later (by kernel_rfl) (by kernel_rfl) ?_; have hL : ∀ (w : World) (x : Later w) (b o : Nat), b < w.heap.size → x.to.cell? ⟨b, o, none⟩ = w.cell? ⟨b, o, none⟩ := fun w x b o hb => x.cell hb; have hN := Later.some; (repeat (go_big_quiet_step (((go_at_call 14; (with_reducible exact Later.call (K5.out _))))))); refine wpQuiet_nil ?_; intro w7 hw7; have hb7 := Later.out hw7; clear hw7 hL hN
        have hB7 : Below w.heap.size w w7 := hb.trans (hb7.mono hb.size)
        go_wp2_with fail
        go_round
        case rel => exact ⟨k + 1, by omega, by go_num, hB7⟩
        case measure => simp [intOf]; omega
    · have hk' : k = n := by omega
      subst hk'
      go_wp2_with fail
      go_ret
      exact ⟨rfl, hb⟩
end quotaTells
end Go.Proofs.Ytblmjaidonopeaa
