/- The walk of QuotaOrder. No condition beyond the form's own. -/
import Derived.Test.YtblmjaidonopeaaQm
import Derived.Test.YtblmjaidonopeaaQb
import Derived.Test.YtblmjaidonopeaaQk
import Derived.Test.YtblmjaidonopeaaLat
import Derived.Deep.RegionHeld3
namespace Go.Proofs.Ytblmjaidonopeaa
open Go.RowKit
set_option linter.unusedSimpArgs false
set_option linter.unusedVariables false
namespace quotaOrder
theorem RdJ.at_later {w : World} (x : Later w) {A : Option Addr} {l : List Jb} (h : RdJ w A l) : RdJ x.to A l := h.later x.below

set_option maxHeartbeats 6400000 in
set_option maxRecDepth 100000 in
theorem walk (A : Option Addr) (n cap : Nat) (l : List Jb) (nm : ByteArray) (a b c : Int) (d e f : Int) (w : World) (hn : n = l.length) (hA : RdJ w A l) (hc : n ≤ cap) (hc2 : cap ≤ 9223372036854775807) (hnm : nm.size ≤ 140737488351232) :
    Calls Try.prog 6 #[.slice A n cap, .agg #[.string nm, .int .i64 a, .int .i64 b, .int .i64 c], .agg #[.int .i64 d, .int .i64 e, .int .i64 f]] w fun r w' => r = .returned (.bool true) ∧ Below w.heap.size w w' := by
  obtain ⟨u, hu⟩ : ∃ u, sm 0 0 0 (ofQ nm l) = u := ⟨_, rfl⟩
  obtain ⟨x, y, z, v⟩ := u
  obtain ⟨u', hu'⟩ : ∃ u, sm 0 0 0 (ofQ nm l.reverse) = u := ⟨_, rfl⟩
  obtain ⟨x', y', z', v'⟩ := u'
  have hrev := sm_reverse (x' := x') (y' := y') (z' := z') (v' := v') hu (by rw [← ofQ_reverse]; exact hu')
  have HR := Lib.hid hrev; clear hrev
  have HN := Lib.hid hn; clear hn
  have HA := Lib.hid hA; clear hA
  have HU := Lib.hid hu; clear hu
  have HU' := Lib.hid hu'; clear hu'
  have hE : eq3 x y z x y z = true := by simp [eq3]
  by_cases h1 : 300 < n
  · go_enter Try.func6, Try.ntmps6
    have hQ0 : Bk ((w.alloc (.cells #[.string nm, .int .i64 a, .int .i64 b, .int .i64 c] 26)).alloc (.cells #[.int .i64 d, .int .i64 e, .int .i64 f] 24)) w.heap.size 26 #[.string nm, .int .i64 a, .int .i64 b, .int .i64 c] := (Bk.fresh w _ _).later ((Below.refl _ _).alloc (Nat.le_refl _) _)
    have hN0 : Bk ((w.alloc (.cells #[.string nm, .int .i64 a, .int .i64 b, .int .i64 c] 26)).alloc (.cells #[.int .i64 d, .int .i64 e, .int .i64 f] 24)) (w.heap.size + 1) 24 #[.int .i64 d, .int .i64 e, .int .i64 f] := Bk.freshAt _ _ _ (by simp)
    have HQ0 := Lib.hid hQ0; clear hQ0
    have HN0 := Lib.hid hN0; clear hN0
    have hB0 : Below w.heap.size w ((w.alloc (.cells #[.string nm, .int .i64 a, .int .i64 b, .int .i64 c] 26)).alloc (.cells #[.int .i64 d, .int .i64 e, .int .i64 f] 24)) := ((Below.refl _ _).alloc (Nat.le_refl _) _).alloc (by simp) _
    go_wp2_with fail
    refine (awake_any _).mono ?_; rintro r w1 ⟨rfl, hb1⟩
    have hB1 : Below w.heap.size w w1 := hB0.trans (hb1.mono hB0.size)
    have HQ1 := Lib.hid (HQ0.out.later hb1); clear HQ0
    have HN1 := Lib.hid (HN0.out.later hb1); clear HN0
    have cnm : w1.cell? ⟨w.heap.size, 0, none⟩ = some (.string nm) := HQ1.out.cellAt 0
    have hz1 : w.heap.size < w1.heap.size := HQ1.out.here
    go_wp2_with fail
    refine (awake_any _).mono ?_; rintro r w2 ⟨rfl, hb2⟩
    go_wp2_with fail
    go_ret
    exact ⟨rfl, hB1.trans (hb2.mono hB1.size)⟩
  by_cases h2 : 1000 < nm.size
  · have h1' : decide (300 < (n : Int)) = false := by rw [decide_eq_false_iff_not]; omega
    go_enter Try.func6, Try.ntmps6
    have hQ0 : Bk ((w.alloc (.cells #[.string nm, .int .i64 a, .int .i64 b, .int .i64 c] 26)).alloc (.cells #[.int .i64 d, .int .i64 e, .int .i64 f] 24)) w.heap.size 26 #[.string nm, .int .i64 a, .int .i64 b, .int .i64 c] := (Bk.fresh w _ _).later ((Below.refl _ _).alloc (Nat.le_refl _) _)
    have hN0 : Bk ((w.alloc (.cells #[.string nm, .int .i64 a, .int .i64 b, .int .i64 c] 26)).alloc (.cells #[.int .i64 d, .int .i64 e, .int .i64 f] 24)) (w.heap.size + 1) 24 #[.int .i64 d, .int .i64 e, .int .i64 f] := Bk.freshAt _ _ _ (by simp)
    have HQ0 := Lib.hid hQ0; clear hQ0
    have HN0 := Lib.hid hN0; clear hN0
    have hB0 : Below w.heap.size w ((w.alloc (.cells #[.string nm, .int .i64 a, .int .i64 b, .int .i64 c] 26)).alloc (.cells #[.int .i64 d, .int .i64 e, .int .i64 f] 24)) := ((Below.refl _ _).alloc (Nat.le_refl _) _).alloc (by simp) _
    go_wp2_with fail
    refine (awake_any _).mono ?_; rintro r w1 ⟨rfl, hb1⟩
    have hB1 : Below w.heap.size w w1 := hB0.trans (hb1.mono hB0.size)
    have HQ1 := Lib.hid (HQ0.out.later hb1); clear HQ0
    have HN1 := Lib.hid (HN0.out.later hb1); clear HN0
    have cnm : w1.cell? ⟨w.heap.size, 0, none⟩ = some (.string nm) := HQ1.out.cellAt 0
    have hz1 : w.heap.size < w1.heap.size := HQ1.out.here
    go_wp2_with fail
    refine (awake_any _).mono ?_; rintro r w2 ⟨rfl, hb2⟩
    go_wp2_with fail
    go_ret
    exact ⟨rfl, hB1.trans (hb2.mono hB1.size)⟩
  have h1' : decide (300 < (n : Int)) = false := by rw [decide_eq_false_iff_not]; omega
  have h2' : decide (1000 < (nm.size : Int)) = false := by rw [decide_eq_false_iff_not]; omega

  go_enter Try.func6, Try.ntmps6
  have hQ0 : Bk ((w.alloc (.cells #[.string nm, .int .i64 a, .int .i64 b, .int .i64 c] 26)).alloc (.cells #[.int .i64 d, .int .i64 e, .int .i64 f] 24)) w.heap.size 26 #[.string nm, .int .i64 a, .int .i64 b, .int .i64 c] := (Bk.fresh w _ _).later ((Below.refl _ _).alloc (Nat.le_refl _) _)
  have hN0 : Bk ((w.alloc (.cells #[.string nm, .int .i64 a, .int .i64 b, .int .i64 c] 26)).alloc (.cells #[.int .i64 d, .int .i64 e, .int .i64 f] 24)) (w.heap.size + 1) 24 #[.int .i64 d, .int .i64 e, .int .i64 f] := Bk.freshAt _ _ _ (by simp)
  have HQ0 := Lib.hid hQ0; clear hQ0
  have HN0 := Lib.hid hN0; clear hN0
  have hB0 : Below w.heap.size w ((w.alloc (.cells #[.string nm, .int .i64 a, .int .i64 b, .int .i64 c] 26)).alloc (.cells #[.int .i64 d, .int .i64 e, .int .i64 f] 24)) := ((Below.refl _ _).alloc (Nat.le_refl _) _).alloc (by simp) _
  go_wp2_with fail
  refine (awake_any _).mono ?_; rintro r w1 ⟨rfl, hb1⟩
  have hB1 : Below w.heap.size w w1 := hB0.trans (hb1.mono hB0.size)
  have HQ1 := Lib.hid (HQ0.out.later hb1); clear HQ0
  have HN1 := Lib.hid (HN0.out.later hb1); clear HN0
  have cnm : w1.cell? ⟨w.heap.size, 0, none⟩ = some (.string nm) := HQ1.out.cellAt 0
  have hz1 : w.heap.size < w1.heap.size := HQ1.out.here
  go_wp2_with fail
  clear cnm hz1
  go_loopw [7, 8] (fun v i wr => ∃ k : Nat, k ≤ n ∧ i = .int .i64 ((k : Int) - 1) ∧ Hid (OwnK wr (w.heap.size + 2) 41 13 v (cellsJ (l.drop k).reverse)) ∧ Hid (Bk wr w.heap.size 26 #[.string nm, .int .i64 a, .int .i64 b, .int .i64 c]) ∧ Hid (Bk wr (w.heap.size + 1) 24 #[.int .i64 d, .int .i64 e, .int .i64 f]) ∧ Below w.heap.size w wr) (fun _ i wr => (intOf i + 1).toNat)
  case atStart => exact ⟨n, Nat.le_refl _, rfl, (show OwnK _ _ _ _ _ (cellsJ (l.drop n).reverse) by rw [HN.out, List.drop_length]; exact OwnK.nil _ _ _ _), HQ1, HN1, hB1⟩
  case round =>
    clear HQ1 HN1 hB1 hb1
    obtain ⟨k, hk, hi, HO, HQ2, HN2, hb⟩ := hrel
    have lt1 : w.heap.size + 1 < wr.heap.size := HN2.out.here
    rcases k with _ | m
    · rw [show ((0 : Nat) : Int) - 1 = -1 from rfl] at hi
      subst hi
      obtain ⟨w2, hw2⟩ : ∃ w2, w2 = wr := ⟨_, rfl⟩
      subst hw2
      have HO' := HO.out
      rw [List.drop_zero] at HO'
      obtain ⟨A', c', hv, hr, hc', hc2'⟩ := HO'.rdj
      clear HO'
      subst hv
      obtain ⟨n', hn'⟩ : ∃ n', n' = l.reverse.length := ⟨_, rfl⟩
      rw [← hn'] at hc'
      rw [← hn']
      have hnn : n' ≤ 300 := by rw [hn', List.length_reverse]; have := HN.out; omega
      have HN' := Lib.hid hn'; clear hn'
      have HA' := Lib.hid hr; clear hr
      have hB2 := hb
      have HA2 := Lib.hid (HA.out.later hB2)
      have cnm : w2.cell? ⟨w.heap.size, 0, none⟩ = some (.string nm) := HQ2.out.cellAt 0; have hz2 : w.heap.size < w2.heap.size := HQ2.out.here
      clear HO lt1 hk
      go_wp2_with fail
      refine (used_any A n cap l nm _ HN (by omega) HA2 x y z v HU).mono ?_; rintro r w3 ⟨rfl, hb3⟩
      clear cnm hz2
      have hB3 : Below w.heap.size w w3 := hB2.trans (hb3.mono hB2.size)
      have HQ3 := Lib.hid (HQ2.out.later hb3); clear HQ2
      have HN3 := Lib.hid (HN2.out.later hb3); clear HN2
      have HA'3 := Lib.hid (HA'.out.later hb3)
      go_wp2_with (((with_reducible refine store_bk rfl 24 (.tmp 9) (.tmp 46) rfl w3.heap.size 0 #[.int .i64 x, .int .i64 y, .int .i64 z] rfl rfl 24 _ #[.int .i64 x, .int .i64 y, .int .i64 z] (Bk.fresh _ _ _) (by kernel_rfl) (by simp) (by kernel_rfl) rfl ?_); intro w4 hX hg4 hs4; clear hs4; have HX4 := Lib.hid hX; clear hX; have bl4 : Below w3.heap.size w3 w4 := grown_below ((Below.refl _ _).alloc (Nat.le_refl _) _) hg4 (Nat.le_refl _); have hB4 : Below w.heap.size w w4 := hB3.trans (bl4.mono hB3.size); have HQ4 := Lib.hid (HQ3.out.later bl4); clear HQ3; have HN4 := Lib.hid (HN3.out.later bl4); clear HN3; have cnm : w4.cell? ⟨w.heap.size, 0, none⟩ = some (.string nm) := HQ4.out.cellAt 0; have hz4 : w.heap.size < w4.heap.size := HQ4.out.here))
      have HA'4 := Lib.hid (HA'3.out.later bl4)
      refine (used_any A' n' c' l.reverse nm _ HN' (by omega) HA'4 x' y' z' v' HU').mono ?_; rintro r w5 ⟨rfl, hb5⟩
      clear cnm hz4
      have hB5 : Below w.heap.size w w5 := hB4.trans (hb5.mono hB4.size)
      have HQ5 := Lib.hid (HQ4.out.later hb5); clear HQ4
      have HN5 := Lib.hid (HN4.out.later hb5); clear HN4
      have HX5 := Lib.hid (HX4.out.later hb5); clear HX4
      rcases HR.out with ⟨rfl, rfl, rfl, rfl, rfl⟩ | ⟨hv, hv'⟩
      case inr =>
        rcases hv with rfl | rfl <;> rcases hv' with rfl | rfl
        all_goals
          go_wp2_with (((with_reducible refine store_bk rfl 24 (.tmp 11) (.tmp 53) rfl w5.heap.size 0 #[.int .i64 x', .int .i64 y', .int .i64 z'] rfl rfl 24 _ #[.int .i64 x', .int .i64 y', .int .i64 z'] (Bk.fresh _ _ _) (by kernel_rfl) (by simp) (by kernel_rfl) rfl ?_); intro w6 hX hg6 hs6; clear hs6; have HX6 := Lib.hid hX; clear hX; have bl6 : Below w5.heap.size w5 w6 := grown_below ((Below.refl _ _).alloc (Nat.le_refl _) _) hg6 (Nat.le_refl _); have hB6 : Below w.heap.size w w6 := hB5.trans (bl6.mono hB5.size); have HQ6 := Lib.hid (HQ5.out.later bl6); clear HQ5; have HN6 := Lib.hid (HN5.out.later bl6); clear HN5))
          go_ret
          exact ⟨rfl, hB6⟩
      case inl =>
        go_wp2_with (((with_reducible refine store_bk rfl 24 (.tmp 11) (.tmp 53) rfl w5.heap.size 0 #[.int .i64 x', .int .i64 y', .int .i64 z'] rfl rfl 24 _ #[.int .i64 x', .int .i64 y', .int .i64 z'] (Bk.fresh _ _ _) (by kernel_rfl) (by simp) (by kernel_rfl) rfl ?_); intro w6 hX hg6 hs6; clear hs6; have HX6 := Lib.hid hX; clear hX; have bl6 : Below w5.heap.size w5 w6 := grown_below ((Below.refl _ _).alloc (Nat.le_refl _) _) hg6 (Nat.le_refl _); have hB6 : Below w.heap.size w w6 := hB5.trans (bl6.mono hB5.size); have HQ6 := Lib.hid (HQ5.out.later bl6); clear HQ5; have HN6 := Lib.hid (HN5.out.later bl6); clear HN5))
        have HY6 := Lib.hid (HX5.out.later bl6)
        have HA6 := Lib.hid (HA.out.later hB6)
        have HA'6 := Lib.hid ((HA'4.out.later hb5).later bl6)
        have q0 : w6.cell? ⟨w.heap.size, 1, none⟩ = some (.int .i64 a) := HQ6.out.cellAt 1
        have q1 : w6.cell? ⟨w.heap.size, 2, none⟩ = some (.int .i64 b) := HQ6.out.cellAt 2
        have q2 : w6.cell? ⟨w.heap.size, 3, none⟩ = some (.int .i64 c) := HQ6.out.cellAt 3
        have cnm : w6.cell? ⟨w.heap.size, 0, none⟩ = some (.string nm) := HQ6.out.cellAt 0
        have n0 : w6.cell? ⟨w.heap.size + 1, 0, none⟩ = some (.int .i64 d) := HN6.out.cellAt 0
        have n1 : w6.cell? ⟨w.heap.size + 1, 1, none⟩ = some (.int .i64 e) := HN6.out.cellAt 1
        have n2 : w6.cell? ⟨w.heap.size + 1, 2, none⟩ = some (.int .i64 f) := HN6.out.cellAt 2
        have x0 : w6.cell? ⟨w5.heap.size, 0, none⟩ = some (.int .i64 x') := HX6.out.cellAt 0
        have x1 : w6.cell? ⟨w5.heap.size, 1, none⟩ = some (.int .i64 y') := HX6.out.cellAt 1
        have x2 : w6.cell? ⟨w5.heap.size, 2, none⟩ = some (.int .i64 z') := HX6.out.cellAt 2
        have y0 : w6.cell? ⟨w3.heap.size, 0, none⟩ = some (.int .i64 x') := HY6.out.cellAt 0
        have y1 : w6.cell? ⟨w3.heap.size, 1, none⟩ = some (.int .i64 y') := HY6.out.cellAt 1
        have y2 : w6.cell? ⟨w3.heap.size, 2, none⟩ = some (.int .i64 z') := HY6.out.cellAt 2
        have z0 : w.heap.size < w6.heap.size := HQ6.out.here
        have z1 : w.heap.size + 1 < w6.heap.size := HN6.out.here
        have z2 : w5.heap.size < w6.heap.size := HX6.out.here
        have z3 : w3.heap.size < w6.heap.size := HY6.out.here
        obtain ⟨T, hT⟩ : ∃ T, adm nm a b c d e f x' y' z' 0 = T := ⟨_, rfl⟩
        have k1 : ∀ y : Later w6, Calls Try.prog 10 #[.agg #[.string nm, .int .i64 a, .int .i64 b, .int .i64 c], .slice A n cap, .agg #[.int .i64 d, .int .i64 e, .int .i64 f]] y.to fun r w' => r = .returned (.int .i64 T) ∧ Below y.to.heap.size y.to w' := fun y => hT ▸ admit_any nm a b c A n cap l d e f y.to HN (by omega) (Lib.hid (RdJ.at_later y HA6.out)) (by omega) _ _ _ _ HU
        have k2 : ∀ y : Later w6, Calls Try.prog 10 #[.agg #[.string nm, .int .i64 a, .int .i64 b, .int .i64 c], .slice A' n' c', .agg #[.int .i64 d, .int .i64 e, .int .i64 f]] y.to fun r w' => r = .returned (.int .i64 T) ∧ Below y.to.heap.size y.to w' := fun y => hT ▸ admit_any nm a b c A' n' c' l.reverse d e f y.to HN' (by omega) (Lib.hid (RdJ.at_later y HA'6.out)) (by omega) _ _ _ _ HU'
        have K1 := Lib.hid k1; have K2 := Lib.hid k2
        clear k1 k2 hT hB0 hb hB2 hb3 hb5 bl4 bl6 hB3 hB4 hB5 hg4 hg6
        refine wp_region_later (by kernel_rfl) (by kernel_rfl) ?_; have hL : ∀ (w : World) (x : Later w) (b o : Nat), b < w.heap.size → x.to.cell? ⟨b, o, none⟩ = w.cell? ⟨b, o, none⟩ := fun w x b o hb => x.cell hb; have hN := Later.some; (repeat (go_big_quiet_step (((go_at_call 10; first | (with_reducible exact Later.call (K1.out _)) | (with_reducible exact Later.call (K2.out _))))))); refine wpQuiet_nil ?_; intro w7 hw7; have hb7 := Later.out hw7; clear hw7 hL hN
        go_wp2_with fail
        go_ret
        exact ⟨rfl, hB6.trans (hb7.mono hB6.size)⟩
    · rw [show ((m + 1 : Nat) : Int) - 1 = (m : Int) by omega] at hi
      subst hi
      have hlk : m < l.length := by have := HN.out; omega
      have hmn : m < n := by omega
      obtain ⟨g, o, rfl, hg, hj⟩ := (HA.out.later hb).at hlk
      obtain ⟨j, hjk⟩ : ∃ j, j = l[m] := ⟨_, rfl⟩
      rw [← hjk] at hj
      have HJ := Lib.hid hj; clear hj
      have hF : RdK (wr.alloc (.cells j.arr 41)) 13 (some ⟨wr.heap.size, 0, none⟩) (cellsJ [j]) := fresh_k wr 13 j.cells _ rfl
      have hlen : (cellsJ (l.drop (m + 1)).reverse).length + (cellsJ [j]).length ≤ 300 := by rw [cellsJ_length, cellsJ_length, List.length_reverse, List.length_drop]; have := HN.out; simp; omega
      have HD : Hid (cellsJ (l.drop m).reverse = cellsJ (l.drop (m + 1)).reverse ++ cellsJ [j]) := by
        show _ = _
        rw [List.drop_eq_getElem_cons hlk, List.reverse_cons, cellsJ_append, ← hjk]
      have HJK := Lib.hid hjk; clear hjk
      go_wp2_with (first | (with_reducible refine load_rg rfl 41 _ rfl g (o + m * 13) rfl j.arr _ HJ.out.rg Try.underlying41 rfl (by kernel_rfl) ?_) | ((with_reducible refine append_k _ rfl (.tmp 34) (.tmp 39) 22 rfl (w.heap.size + 2) 41 _ 13 160 Try.underlying22 infoJ rfl (by omega) u7 (cellsJ (l.drop (m + 1)).reverse) rfl (HO.out.alloc _) ⟨wr.heap.size, 0, none⟩ 1 1 (cellsJ [j]) rfl hF (cellsJ_k _) (cellsJ_one _) rfl (by unfold maxLen; omega) (by omega) (by simp; omega) ?_); intro u7' w1' hO1 hg1'))
      have hown := HO.out.block
      go_round
      case rel => exact ⟨m, by omega, by go_num, (by show OwnK _ _ _ _ _ _; rw [HD.out]; exact hO1), (HQ2.out.later ((Below.refl _ _).alloc (Nat.le_refl _) _)).stays hg1' (fun e => by have := hown _ e.symm; omega), (HN2.out.later ((Below.refl _ _).alloc (Nat.le_refl _) _)).stays hg1' (fun e => by have := hown _ e.symm; omega), (hb.alloc hb.size _).grown hg1' (by simp; omega) (fun g e => by have := hown _ e; omega)⟩
      case measure => simp [intOf]
end quotaOrder
end Go.Proofs.Ytblmjaidonopeaa
