/- The walk of OperAnswers: any act is told as the document says; any two answers are alike, or not, as it says. Conditions: texts and slices that Go can have. -/
import Derived.Test.YtehkdaknhgmdkaaOac
import Derived.Test.YtehkdaknhgmdkaaOaw
namespace Go.Proofs.Ytehkdaknhgmdkaa.operAnswers
open Go.RowKit
set_option linter.unusedSimpArgs false
set_option linter.unusedVariables false

theorem of_later {w : World} {A : Option Addr} {l : List Ac} (x : Later w) (h : RdA w A l) : RdA x.to A l := h.later x.below
attribute [local go_sem ↓] Go.wp_at_zero Go.wp_at_succ
set_option maxHeartbeats 12800000 in
set_option maxRecDepth 100000 in
theorem walk (e1 : Int) (A : Option Addr) (n c : Nat) (l : List Ac) (e2 : Int) (B : Option Addr) (m d : Nat) (r : List Ac) (k : Int) (t u : ByteArray) (w : World)
    (hn : n = l.length) (hr : RdA w A l) (hc : n ≤ c) (hc2 : c ≤ 9223372036854775807) (hm : m = r.length) (hq : RdA w B r) (hd : m ≤ d) (hd2 : d ≤ 9223372036854775807) (zt : t.size ≤ 140737488351232) (zu : u.size ≤ 140737488351232) :
    Calls Try.prog 7 #[.agg #[.int .i64 e1, .slice A n c], .agg #[.int .i64 e2, .slice B m d], .agg #[.int .i64 k, .string t, .string u]] w fun e w' => e = .returned (.bool true) ∧ Below w.heap.size w w' := by
  have HN := Lib.hid hn
  have HM := Lib.hid hm
  have HR := Lib.hid hr
  have HQ := Lib.hid hq
  clear hn hm hr hq
  by_cases c1 : 1000 < n
  case pos =>
    have T0 : Hid (Below w.heap.size w (((w.alloc (.cells #[.int .i64 e1, .slice A n c] 51)).alloc (.cells #[.int .i64 e2, .slice B m d] 51)).alloc (.cells #[.int .i64 k, .string t, .string u] 53)) ∧ Bk (((w.alloc (.cells #[.int .i64 e1, .slice A n c] 51)).alloc (.cells #[.int .i64 e2, .slice B m d] 51)).alloc (.cells #[.int .i64 k, .string t, .string u] 53)) w.heap.size 51 #[.int .i64 e1, .slice A n c] ∧ Bk (((w.alloc (.cells #[.int .i64 e1, .slice A n c] 51)).alloc (.cells #[.int .i64 e2, .slice B m d] 51)).alloc (.cells #[.int .i64 k, .string t, .string u] 53)) (w.heap.size + 1) 51 #[.int .i64 e2, .slice B m d] ∧ Bk (((w.alloc (.cells #[.int .i64 e1, .slice A n c] 51)).alloc (.cells #[.int .i64 e2, .slice B m d] 51)).alloc (.cells #[.int .i64 k, .string t, .string u] 53)) (w.heap.size + 2) 53 #[.int .i64 k, .string t, .string u]) := ⟨(by (repeat' (first | (with_reducible exact Below.refl _ _) | (with_reducible refine bdrewN ?_ _) | (with_reducible refine Below.drew ?_) | (with_reducible refine Below.setCell ?_ ?_ _) | (with_reducible refine Below.alloc ?_ ?_ _) | (with_reducible exact Nat.le_refl _) | (with_reducible assumption) | omega | (simp only [World.size_alloc, World.size_setCell, World.size_drew, sz_drewN]; omega)))), ((Bk.fresh _ _ _).later ((Below.refl _ _).alloc (Nat.le_refl _) _)).later ((Below.refl _ _).alloc (Nat.le_refl _) _), (Bk.freshAt _ _ _ (by simp)).later ((Below.refl _ _).alloc (Nat.le_refl _) _), Bk.freshAt _ _ _ (by simp)⟩
    go_enter Try.func7, Try.ntmps7
    go_wp2_with fail
    refine (awake_any _).mono ?_
    rintro e w1 ⟨rfl, hb1⟩
    have T1 : Hid (Below w.heap.size w w1 ∧ Bk w1 w.heap.size 51 #[.int .i64 e1, .slice A n c] ∧ Bk w1 (w.heap.size + 1) 51 #[.int .i64 e2, .slice B m d] ∧ Bk w1 (w.heap.size + 2) 53 #[.int .i64 k, .string t, .string u]) := ⟨T0.out.1.trans (hb1.mono T0.out.1.size), T0.out.2.1.later hb1, T0.out.2.2.1.later hb1, T0.out.2.2.2.later hb1⟩
    clear hb1 T0
    have a0 : w1.cell? ⟨w.heap.size, 0, none⟩ = some (.int .i64 e1) := T1.out.2.1.cellAt 0
    have a1 : w1.cell? ⟨w.heap.size, 1, none⟩ = some (.slice A n c) := T1.out.2.1.cellAt 1
    have b0 : w1.cell? ⟨(w.heap.size + 1), 0, none⟩ = some (.int .i64 e2) := T1.out.2.2.1.cellAt 0
    have b1 : w1.cell? ⟨(w.heap.size + 1), 1, none⟩ = some (.slice B m d) := T1.out.2.2.1.cellAt 1
    have x0 : w1.cell? ⟨(w.heap.size + 2), 0, none⟩ = some (.int .i64 k) := T1.out.2.2.2.cellAt 0
    have x1 : w1.cell? ⟨(w.heap.size + 2), 1, none⟩ = some (.string t) := T1.out.2.2.2.cellAt 1
    have x2 : w1.cell? ⟨(w.heap.size + 2), 2, none⟩ = some (.string u) := T1.out.2.2.2.cellAt 2
    have z2 : w.heap.size + 2 < w1.heap.size := T1.out.2.2.2.here
    have z1 : w.heap.size + 1 < w1.heap.size := by omega
    have z0 : w.heap.size < w1.heap.size := by omega
    go_wp2_with fail
    refine (awake_any _).mono ?_
    rintro e w2 ⟨rfl, hb2⟩
    go_wp2
    go_ret
    exact ⟨rfl, T1.out.1.trans (hb2.mono T1.out.1.size)⟩
  case neg =>
  by_cases c2 : 1000 < m
  case pos =>
    have T0 : Hid (Below w.heap.size w (((w.alloc (.cells #[.int .i64 e1, .slice A n c] 51)).alloc (.cells #[.int .i64 e2, .slice B m d] 51)).alloc (.cells #[.int .i64 k, .string t, .string u] 53)) ∧ Bk (((w.alloc (.cells #[.int .i64 e1, .slice A n c] 51)).alloc (.cells #[.int .i64 e2, .slice B m d] 51)).alloc (.cells #[.int .i64 k, .string t, .string u] 53)) w.heap.size 51 #[.int .i64 e1, .slice A n c] ∧ Bk (((w.alloc (.cells #[.int .i64 e1, .slice A n c] 51)).alloc (.cells #[.int .i64 e2, .slice B m d] 51)).alloc (.cells #[.int .i64 k, .string t, .string u] 53)) (w.heap.size + 1) 51 #[.int .i64 e2, .slice B m d] ∧ Bk (((w.alloc (.cells #[.int .i64 e1, .slice A n c] 51)).alloc (.cells #[.int .i64 e2, .slice B m d] 51)).alloc (.cells #[.int .i64 k, .string t, .string u] 53)) (w.heap.size + 2) 53 #[.int .i64 k, .string t, .string u]) := ⟨(by (repeat' (first | (with_reducible exact Below.refl _ _) | (with_reducible refine bdrewN ?_ _) | (with_reducible refine Below.drew ?_) | (with_reducible refine Below.setCell ?_ ?_ _) | (with_reducible refine Below.alloc ?_ ?_ _) | (with_reducible exact Nat.le_refl _) | (with_reducible assumption) | omega | (simp only [World.size_alloc, World.size_setCell, World.size_drew, sz_drewN]; omega)))), ((Bk.fresh _ _ _).later ((Below.refl _ _).alloc (Nat.le_refl _) _)).later ((Below.refl _ _).alloc (Nat.le_refl _) _), (Bk.freshAt _ _ _ (by simp)).later ((Below.refl _ _).alloc (Nat.le_refl _) _), Bk.freshAt _ _ _ (by simp)⟩
    go_enter Try.func7, Try.ntmps7
    go_wp2_with fail
    refine (awake_any _).mono ?_
    rintro e w1 ⟨rfl, hb1⟩
    have T1 : Hid (Below w.heap.size w w1 ∧ Bk w1 w.heap.size 51 #[.int .i64 e1, .slice A n c] ∧ Bk w1 (w.heap.size + 1) 51 #[.int .i64 e2, .slice B m d] ∧ Bk w1 (w.heap.size + 2) 53 #[.int .i64 k, .string t, .string u]) := ⟨T0.out.1.trans (hb1.mono T0.out.1.size), T0.out.2.1.later hb1, T0.out.2.2.1.later hb1, T0.out.2.2.2.later hb1⟩
    clear hb1 T0
    have a0 : w1.cell? ⟨w.heap.size, 0, none⟩ = some (.int .i64 e1) := T1.out.2.1.cellAt 0
    have a1 : w1.cell? ⟨w.heap.size, 1, none⟩ = some (.slice A n c) := T1.out.2.1.cellAt 1
    have b0 : w1.cell? ⟨(w.heap.size + 1), 0, none⟩ = some (.int .i64 e2) := T1.out.2.2.1.cellAt 0
    have b1 : w1.cell? ⟨(w.heap.size + 1), 1, none⟩ = some (.slice B m d) := T1.out.2.2.1.cellAt 1
    have x0 : w1.cell? ⟨(w.heap.size + 2), 0, none⟩ = some (.int .i64 k) := T1.out.2.2.2.cellAt 0
    have x1 : w1.cell? ⟨(w.heap.size + 2), 1, none⟩ = some (.string t) := T1.out.2.2.2.cellAt 1
    have x2 : w1.cell? ⟨(w.heap.size + 2), 2, none⟩ = some (.string u) := T1.out.2.2.2.cellAt 2
    have z2 : w.heap.size + 2 < w1.heap.size := T1.out.2.2.2.here
    have z1 : w.heap.size + 1 < w1.heap.size := by omega
    have z0 : w.heap.size < w1.heap.size := by omega
    go_wp2_with fail
    refine (awake_any _).mono ?_
    rintro e w2 ⟨rfl, hb2⟩
    go_wp2
    go_ret
    exact ⟨rfl, T1.out.1.trans (hb2.mono T1.out.1.size)⟩
  case neg =>
  by_cases c3 : (5000 : Int) < (t.size : Int) + (u.size : Int)
  case pos =>
    have T0 : Hid (Below w.heap.size w (((w.alloc (.cells #[.int .i64 e1, .slice A n c] 51)).alloc (.cells #[.int .i64 e2, .slice B m d] 51)).alloc (.cells #[.int .i64 k, .string t, .string u] 53)) ∧ Bk (((w.alloc (.cells #[.int .i64 e1, .slice A n c] 51)).alloc (.cells #[.int .i64 e2, .slice B m d] 51)).alloc (.cells #[.int .i64 k, .string t, .string u] 53)) w.heap.size 51 #[.int .i64 e1, .slice A n c] ∧ Bk (((w.alloc (.cells #[.int .i64 e1, .slice A n c] 51)).alloc (.cells #[.int .i64 e2, .slice B m d] 51)).alloc (.cells #[.int .i64 k, .string t, .string u] 53)) (w.heap.size + 1) 51 #[.int .i64 e2, .slice B m d] ∧ Bk (((w.alloc (.cells #[.int .i64 e1, .slice A n c] 51)).alloc (.cells #[.int .i64 e2, .slice B m d] 51)).alloc (.cells #[.int .i64 k, .string t, .string u] 53)) (w.heap.size + 2) 53 #[.int .i64 k, .string t, .string u]) := ⟨(by (repeat' (first | (with_reducible exact Below.refl _ _) | (with_reducible refine bdrewN ?_ _) | (with_reducible refine Below.drew ?_) | (with_reducible refine Below.setCell ?_ ?_ _) | (with_reducible refine Below.alloc ?_ ?_ _) | (with_reducible exact Nat.le_refl _) | (with_reducible assumption) | omega | (simp only [World.size_alloc, World.size_setCell, World.size_drew, sz_drewN]; omega)))), ((Bk.fresh _ _ _).later ((Below.refl _ _).alloc (Nat.le_refl _) _)).later ((Below.refl _ _).alloc (Nat.le_refl _) _), (Bk.freshAt _ _ _ (by simp)).later ((Below.refl _ _).alloc (Nat.le_refl _) _), Bk.freshAt _ _ _ (by simp)⟩
    go_enter Try.func7, Try.ntmps7
    go_wp2_with fail
    refine (awake_any _).mono ?_
    rintro e w1 ⟨rfl, hb1⟩
    have T1 : Hid (Below w.heap.size w w1 ∧ Bk w1 w.heap.size 51 #[.int .i64 e1, .slice A n c] ∧ Bk w1 (w.heap.size + 1) 51 #[.int .i64 e2, .slice B m d] ∧ Bk w1 (w.heap.size + 2) 53 #[.int .i64 k, .string t, .string u]) := ⟨T0.out.1.trans (hb1.mono T0.out.1.size), T0.out.2.1.later hb1, T0.out.2.2.1.later hb1, T0.out.2.2.2.later hb1⟩
    clear hb1 T0
    have a0 : w1.cell? ⟨w.heap.size, 0, none⟩ = some (.int .i64 e1) := T1.out.2.1.cellAt 0
    have a1 : w1.cell? ⟨w.heap.size, 1, none⟩ = some (.slice A n c) := T1.out.2.1.cellAt 1
    have b0 : w1.cell? ⟨(w.heap.size + 1), 0, none⟩ = some (.int .i64 e2) := T1.out.2.2.1.cellAt 0
    have b1 : w1.cell? ⟨(w.heap.size + 1), 1, none⟩ = some (.slice B m d) := T1.out.2.2.1.cellAt 1
    have x0 : w1.cell? ⟨(w.heap.size + 2), 0, none⟩ = some (.int .i64 k) := T1.out.2.2.2.cellAt 0
    have x1 : w1.cell? ⟨(w.heap.size + 2), 1, none⟩ = some (.string t) := T1.out.2.2.2.cellAt 1
    have x2 : w1.cell? ⟨(w.heap.size + 2), 2, none⟩ = some (.string u) := T1.out.2.2.2.cellAt 2
    have z2 : w.heap.size + 2 < w1.heap.size := T1.out.2.2.2.here
    have z1 : w.heap.size + 1 < w1.heap.size := by omega
    have z0 : w.heap.size < w1.heap.size := by omega
    go_wp2_with fail
    refine (awake_any _).mono ?_
    rintro e w2 ⟨rfl, hb2⟩
    go_wp2
    go_ret
    exact ⟨rfl, T1.out.1.trans (hb2.mono T1.out.1.size)⟩
  case neg =>
  have c3x : (t.size : Int) + (u.size : Int) ≤ 5000 := by omega
  have kt := fun W => text_any k t u W (by omega)
  have rt := fun W => rtextA_any k t u W (by omega)
  generalize textB k t u = E at kt rt
  have kab := fun W (h : RdA W A l) (g : RdA W B r) => sameAns_any e1 e2 A B n c m d l r W HN HM (Lib.hid h) (Lib.hid g) hc hc2 hd hd2
  have rab := fun W (h : RdA W A l) (g : RdA W B r) => rsameAns_any e1 e2 A B n c m d l r W HN HM (Lib.hid h) (Lib.hid g) hc hc2 hd hd2
  have kba := fun W (h : RdA W A l) (g : RdA W B r) => sameAns_any e2 e1 B A m d n c r l W HM HN (Lib.hid g) (Lib.hid h) hd hd2 hc hc2
  have kaa := fun W (h : RdA W A l) => sameAns_any e1 e1 A A n c n c l l W HN HN (Lib.hid h) (Lib.hid h) hc hc2 hc hc2
  rw [sameAns_comm] at kba
  rw [sameAns_refl] at kaa
  generalize sameAns e1 l e2 r = q at kab rab kba
  have KT := Lib.hid kt
  have RT := Lib.hid rt
  have KAB := Lib.hid kab
  have RAB := Lib.hid rab
  have KBA := Lib.hid kba
  have KAA := Lib.hid kaa
  clear kt rt kab rab kba kaa
  have T0 : Hid (Below w.heap.size w (((w.alloc (.cells #[.int .i64 e1, .slice A n c] 51)).alloc (.cells #[.int .i64 e2, .slice B m d] 51)).alloc (.cells #[.int .i64 k, .string t, .string u] 53)) ∧ Bk (((w.alloc (.cells #[.int .i64 e1, .slice A n c] 51)).alloc (.cells #[.int .i64 e2, .slice B m d] 51)).alloc (.cells #[.int .i64 k, .string t, .string u] 53)) w.heap.size 51 #[.int .i64 e1, .slice A n c] ∧ Bk (((w.alloc (.cells #[.int .i64 e1, .slice A n c] 51)).alloc (.cells #[.int .i64 e2, .slice B m d] 51)).alloc (.cells #[.int .i64 k, .string t, .string u] 53)) (w.heap.size + 1) 51 #[.int .i64 e2, .slice B m d] ∧ Bk (((w.alloc (.cells #[.int .i64 e1, .slice A n c] 51)).alloc (.cells #[.int .i64 e2, .slice B m d] 51)).alloc (.cells #[.int .i64 k, .string t, .string u] 53)) (w.heap.size + 2) 53 #[.int .i64 k, .string t, .string u]) := ⟨(by (repeat' (first | (with_reducible exact Below.refl _ _) | (with_reducible refine bdrewN ?_ _) | (with_reducible refine Below.drew ?_) | (with_reducible refine Below.setCell ?_ ?_ _) | (with_reducible refine Below.alloc ?_ ?_ _) | (with_reducible exact Nat.le_refl _) | (with_reducible assumption) | omega | (simp only [World.size_alloc, World.size_setCell, World.size_drew, sz_drewN]; omega)))), ((Bk.fresh _ _ _).later ((Below.refl _ _).alloc (Nat.le_refl _) _)).later ((Below.refl _ _).alloc (Nat.le_refl _) _), (Bk.freshAt _ _ _ (by simp)).later ((Below.refl _ _).alloc (Nat.le_refl _) _), Bk.freshAt _ _ _ (by simp)⟩
  go_enter Try.func7, Try.ntmps7
  go_wp2_with fail
  refine (awake_any _).mono ?_
  rintro e w1 ⟨rfl, hb1⟩
  have T1 : Hid (Below w.heap.size w w1 ∧ Bk w1 w.heap.size 51 #[.int .i64 e1, .slice A n c] ∧ Bk w1 (w.heap.size + 1) 51 #[.int .i64 e2, .slice B m d] ∧ Bk w1 (w.heap.size + 2) 53 #[.int .i64 k, .string t, .string u]) := ⟨T0.out.1.trans (hb1.mono T0.out.1.size), T0.out.2.1.later hb1, T0.out.2.2.1.later hb1, T0.out.2.2.2.later hb1⟩
  clear hb1 T0
  have a0 : w1.cell? ⟨w.heap.size, 0, none⟩ = some (.int .i64 e1) := T1.out.2.1.cellAt 0
  have a1 : w1.cell? ⟨w.heap.size, 1, none⟩ = some (.slice A n c) := T1.out.2.1.cellAt 1
  have b0 : w1.cell? ⟨(w.heap.size + 1), 0, none⟩ = some (.int .i64 e2) := T1.out.2.2.1.cellAt 0
  have b1 : w1.cell? ⟨(w.heap.size + 1), 1, none⟩ = some (.slice B m d) := T1.out.2.2.1.cellAt 1
  have x0 : w1.cell? ⟨(w.heap.size + 2), 0, none⟩ = some (.int .i64 k) := T1.out.2.2.2.cellAt 0
  have x1 : w1.cell? ⟨(w.heap.size + 2), 1, none⟩ = some (.string t) := T1.out.2.2.2.cellAt 1
  have x2 : w1.cell? ⟨(w.heap.size + 2), 2, none⟩ = some (.string u) := T1.out.2.2.2.cellAt 2
  have z2 : w.heap.size + 2 < w1.heap.size := T1.out.2.2.2.here
  have z1 : w.heap.size + 1 < w1.heap.size := by omega
  have z0 : w.heap.size < w1.heap.size := by omega
  have LA : Hid (RdA w1 A l) := HR.out.later T1.out.1
  have LB : Hid (RdA w1 B r) := HQ.out.later T1.out.1
  go_wp2_with fail
  refine wp_region_later (by kernel_rfl) (by kernel_rfl) ?_; have hL : ∀ (w : World) (x : Later w) (b o : Nat), b < w.heap.size → x.to.cell? ⟨b, o, none⟩ = w.cell? ⟨b, o, none⟩ := fun w x b o hb => x.cell hb; have hN := Later.some; (repeat (go_big_quiet_step (((first | (go_at_call 17; first | (with_reducible exact Later.call (KT.out _))) | (go_at_call 18; first | (with_reducible exact Later.call (RT.out _))) | (go_at_call 19; first | (with_reducible exact Later.call (KAB.out _ (of_later _ LA.out) (of_later _ LB.out))) | (with_reducible exact Later.call (KBA.out _ (of_later _ LA.out) (of_later _ LB.out))) | (with_reducible exact Later.call (KAA.out _ (of_later _ LA.out)))) | (go_at_call 20; first | (with_reducible exact Later.call (RAB.out _ (of_later _ LA.out) (of_later _ LB.out))))))))); refine wpQuiet_nil ?_; intro w2 hw2; have hb2 := Later.out hw2; clear hw2 hL hN
  go_wp2
  go_ret
  exact ⟨by simp, T1.out.1.trans (hb2.mono T1.out.1.size)⟩
end Go.Proofs.Ytehkdaknhgmdkaa.operAnswers
