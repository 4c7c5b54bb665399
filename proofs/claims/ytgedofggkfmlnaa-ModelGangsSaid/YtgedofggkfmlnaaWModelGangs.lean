/- The walk of ModelGangs: a task that can be without a gang can be in one of 2 to MaxGang, and in no other one. Conditions: texts and slices that Go can have. -/
import Derived.Test.YtgedofggkfmlnaaLwf
namespace Go.Proofs.Ytgedofggkfmlnaa.modelGangs
open Go.RowKit
set_option linter.unusedSimpArgs false
set_option linter.unusedVariables false

theorem task_gang {nm qu : ByteArray} {pr a b c : Int} {l : List Lb} {ap ga : ByteArray} {sz : Int} (h : taskB nm qu pr a b c l ap ga sz = true) (g : ByteArray) (k : Int) : taskB nm qu pr a b c l ap g k = gangB g k := by
  unfold taskB at h ⊢
  rw [Bool.and_eq_true] at h
  rw [h.1, Bool.true_and]
theorem queue_gang (g : ByteArray) : queueB g 0 0 0 = nameB g := by unfold queueB; rw [rB_mk (by omega), Bool.and_true]

set_option maxHeartbeats 6400000 in
set_option maxRecDepth 100000 in
theorem walk (nm qu : ByteArray) (pr a b c : Int) (A : Option Addr) (n cp : Nat) (l : List Lb) (ap ga : ByteArray) (sz : Int) (gang : ByteArray) (size : Int) (w : World)
    (zn : nm.size ≤ 140737488351232) (zq : qu.size ≤ 140737488351232) (za : ap.size ≤ 140737488351232) (zg : ga.size ≤ 140737488351232) (hn : n = l.length) (hr : RdL w A l) (hc : n ≤ cp) (hc2 : cp ≤ 9223372036854775807) (hz : Sz l)
    (zx : gang.size ≤ 140737488351232) (ws : (Lit.int .i64 size).wf = true) :
    Calls Try.prog 7 #[.agg #[.string nm, .string qu, .int .i64 pr, .int .i64 a, .int .i64 b, .int .i64 c, .slice A n cp, .string ap, .string ga, .int .i64 sz], .string gang, .int .i64 size] w fun e w' => e = .returned (.bool true) ∧ Below w.heap.size w w' := by
  have HN := Lib.hid hn
  have HR := Lib.hid hr
  have HZ := Lib.hid hz
  have hrl : ∀ W, Below w.heap.size w W → RdL W A l := fun W h => HR.out.later h
  have HL := Lib.hid hrl
  clear hn hr hz hrl ws
  have kf := fun W (h : RdL W A l) => few_law ⟨#[]⟩ 0 0 0 none 0 0 [] ⟨#[]⟩ 0 0 0 nm qu pr a b c A n cp l ap ga sz W (by decide) (by decide) zn zq za zg rfl (Lib.hid (RdL.nil _ _)) (Lib.hid (show Sz [] from fun x hx => by simp at hx)) (by omega) (by omega) HN (Lib.hid h) HZ hc hc2
  have kt := fun g k W (hg : g.size ≤ 9223372036854775807) (h : RdL W A l) => task_any nm qu pr a b c A n cp l ap g k W (by omega) (by omega) HN (Lib.hid h) HZ hc hc2 (by omega) hg
  have kt0 := fun W (h : RdL W A l) => kt ga sz W (by omega) h
  have kq := fun W => queue_any gang 0 0 0 W (by omega)
  rw [queue_gang] at kq
  generalize fewP [] l _ = f at kf
  obtain ⟨v, hv⟩ : ∃ v, v = taskB nm qu pr a b c l ap ga sz := ⟨_, rfl⟩
  rw [← hv] at kt0
  cases f
  case false =>
    have KF := Lib.hid kf
    clear kf kt kt0 kq hv
    go_enter Try.func7, Try.ntmps7
    have T0 : Hid (Below w.heap.size w (w.alloc (.cells #[.string nm, .string qu, .int .i64 pr, .int .i64 a, .int .i64 b, .int .i64 c, .slice A n cp, .string ap, .string ga, .int .i64 sz] 30)) ∧ Bk (w.alloc (.cells #[.string nm, .string qu, .int .i64 pr, .int .i64 a, .int .i64 b, .int .i64 c, .slice A n cp, .string ap, .string ga, .int .i64 sz] 30)) w.heap.size 30 #[.string nm, .string qu, .int .i64 pr, .int .i64 a, .int .i64 b, .int .i64 c, .slice A n cp, .string ap, .string ga, .int .i64 sz]) := ⟨(Below.refl _ _).alloc (Nat.le_refl _) _, Bk.fresh _ _ _⟩
    go_wp2_with fail
    refine (awake_any _).mono ?_
    rintro e w1 ⟨rfl, hb1⟩
    have T1 : Hid (Below w.heap.size w w1 ∧ Bk w1 w.heap.size 30 #[.string nm, .string qu, .int .i64 pr, .int .i64 a, .int .i64 b, .int .i64 c, .slice A n cp, .string ap, .string ga, .int .i64 sz]) := ⟨T0.out.1.trans (hb1.mono T0.out.1.size), T0.out.2.later hb1⟩
    clear hb1 T0
    have c1_0 : w1.cell? ⟨w.heap.size, 0, none⟩ = some (.string nm) := T1.out.2.cellAt 0
    have c1_1 : w1.cell? ⟨w.heap.size, 1, none⟩ = some (.string qu) := T1.out.2.cellAt 1
    have c1_2 : w1.cell? ⟨w.heap.size, 2, none⟩ = some (.int .i64 pr) := T1.out.2.cellAt 2
    have c1_3 : w1.cell? ⟨w.heap.size, 3, none⟩ = some (.int .i64 a) := T1.out.2.cellAt 3
    have c1_4 : w1.cell? ⟨w.heap.size, 4, none⟩ = some (.int .i64 b) := T1.out.2.cellAt 4
    have c1_5 : w1.cell? ⟨w.heap.size, 5, none⟩ = some (.int .i64 c) := T1.out.2.cellAt 5
    have c1_6 : w1.cell? ⟨w.heap.size, 6, none⟩ = some (.slice A n cp) := T1.out.2.cellAt 6
    have c1_7 : w1.cell? ⟨w.heap.size, 7, none⟩ = some (.string ap) := T1.out.2.cellAt 7
    have c1_8 : w1.cell? ⟨w.heap.size, 8, none⟩ = some (.string ga) := T1.out.2.cellAt 8
    have c1_9 : w1.cell? ⟨w.heap.size, 9, none⟩ = some (.int .i64 sz) := T1.out.2.cellAt 9
    have z1 : w.heap.size < w1.heap.size := T1.out.2.here
    go_wp2_with fail
    refine (KF.out _ (HL.out _ T1.out.1)).mono ?_
    rintro e w2 ⟨rfl, hb2⟩
    have T2 : Hid (Below w.heap.size w w2 ∧ Bk w2 w.heap.size 30 #[.string nm, .string qu, .int .i64 pr, .int .i64 a, .int .i64 b, .int .i64 c, .slice A n cp, .string ap, .string ga, .int .i64 sz]) := ⟨T1.out.1.trans (hb2.mono T1.out.1.size), T1.out.2.later hb2⟩
    clear hb2 T1
    have c2_0 : w2.cell? ⟨w.heap.size, 0, none⟩ = some (.string nm) := T2.out.2.cellAt 0
    have c2_1 : w2.cell? ⟨w.heap.size, 1, none⟩ = some (.string qu) := T2.out.2.cellAt 1
    have c2_2 : w2.cell? ⟨w.heap.size, 2, none⟩ = some (.int .i64 pr) := T2.out.2.cellAt 2
    have c2_3 : w2.cell? ⟨w.heap.size, 3, none⟩ = some (.int .i64 a) := T2.out.2.cellAt 3
    have c2_4 : w2.cell? ⟨w.heap.size, 4, none⟩ = some (.int .i64 b) := T2.out.2.cellAt 4
    have c2_5 : w2.cell? ⟨w.heap.size, 5, none⟩ = some (.int .i64 c) := T2.out.2.cellAt 5
    have c2_6 : w2.cell? ⟨w.heap.size, 6, none⟩ = some (.slice A n cp) := T2.out.2.cellAt 6
    have c2_7 : w2.cell? ⟨w.heap.size, 7, none⟩ = some (.string ap) := T2.out.2.cellAt 7
    have c2_8 : w2.cell? ⟨w.heap.size, 8, none⟩ = some (.string ga) := T2.out.2.cellAt 8
    have c2_9 : w2.cell? ⟨w.heap.size, 9, none⟩ = some (.int .i64 sz) := T2.out.2.cellAt 9
    have z2 : w.heap.size < w2.heap.size := T2.out.2.here
    clear c1_0 c1_1 c1_2 c1_3 c1_4 c1_5 c1_6 c1_7 c1_8 c1_9
    go_wp2_with fail
    refine (awake_any _).mono ?_
    rintro e w3 ⟨rfl, hb3⟩
    have T3 : Hid (Below w.heap.size w w3 ∧ Bk w3 w.heap.size 30 #[.string nm, .string qu, .int .i64 pr, .int .i64 a, .int .i64 b, .int .i64 c, .slice A n cp, .string ap, .string ga, .int .i64 sz]) := ⟨T2.out.1.trans (hb3.mono T2.out.1.size), T2.out.2.later hb3⟩
    clear hb3 T2
    have c3_0 : w3.cell? ⟨w.heap.size, 0, none⟩ = some (.string nm) := T3.out.2.cellAt 0
    have c3_1 : w3.cell? ⟨w.heap.size, 1, none⟩ = some (.string qu) := T3.out.2.cellAt 1
    have c3_2 : w3.cell? ⟨w.heap.size, 2, none⟩ = some (.int .i64 pr) := T3.out.2.cellAt 2
    have c3_3 : w3.cell? ⟨w.heap.size, 3, none⟩ = some (.int .i64 a) := T3.out.2.cellAt 3
    have c3_4 : w3.cell? ⟨w.heap.size, 4, none⟩ = some (.int .i64 b) := T3.out.2.cellAt 4
    have c3_5 : w3.cell? ⟨w.heap.size, 5, none⟩ = some (.int .i64 c) := T3.out.2.cellAt 5
    have c3_6 : w3.cell? ⟨w.heap.size, 6, none⟩ = some (.slice A n cp) := T3.out.2.cellAt 6
    have c3_7 : w3.cell? ⟨w.heap.size, 7, none⟩ = some (.string ap) := T3.out.2.cellAt 7
    have c3_8 : w3.cell? ⟨w.heap.size, 8, none⟩ = some (.string ga) := T3.out.2.cellAt 8
    have c3_9 : w3.cell? ⟨w.heap.size, 9, none⟩ = some (.int .i64 sz) := T3.out.2.cellAt 9
    have z3 : w.heap.size < w3.heap.size := T3.out.2.here
    clear c2_0 c2_1 c2_2 c2_3 c2_4 c2_5 c2_6 c2_7 c2_8 c2_9
    go_wp2
    go_ret
    exact ⟨rfl, T3.out.1⟩
  case true =>
  have KF := Lib.hid kf
  clear kf
  by_cases hg : 1000 < gang.size
  case pos =>
    clear kt kt0 kq hv
    go_enter Try.func7, Try.ntmps7
    have T0 : Hid (Below w.heap.size w (w.alloc (.cells #[.string nm, .string qu, .int .i64 pr, .int .i64 a, .int .i64 b, .int .i64 c, .slice A n cp, .string ap, .string ga, .int .i64 sz] 30)) ∧ Bk (w.alloc (.cells #[.string nm, .string qu, .int .i64 pr, .int .i64 a, .int .i64 b, .int .i64 c, .slice A n cp, .string ap, .string ga, .int .i64 sz] 30)) w.heap.size 30 #[.string nm, .string qu, .int .i64 pr, .int .i64 a, .int .i64 b, .int .i64 c, .slice A n cp, .string ap, .string ga, .int .i64 sz]) := ⟨(Below.refl _ _).alloc (Nat.le_refl _) _, Bk.fresh _ _ _⟩
    go_wp2_with fail
    refine (awake_any _).mono ?_
    rintro e w1 ⟨rfl, hb1⟩
    have T1 : Hid (Below w.heap.size w w1 ∧ Bk w1 w.heap.size 30 #[.string nm, .string qu, .int .i64 pr, .int .i64 a, .int .i64 b, .int .i64 c, .slice A n cp, .string ap, .string ga, .int .i64 sz]) := ⟨T0.out.1.trans (hb1.mono T0.out.1.size), T0.out.2.later hb1⟩
    clear hb1 T0
    have c1_0 : w1.cell? ⟨w.heap.size, 0, none⟩ = some (.string nm) := T1.out.2.cellAt 0
    have c1_1 : w1.cell? ⟨w.heap.size, 1, none⟩ = some (.string qu) := T1.out.2.cellAt 1
    have c1_2 : w1.cell? ⟨w.heap.size, 2, none⟩ = some (.int .i64 pr) := T1.out.2.cellAt 2
    have c1_3 : w1.cell? ⟨w.heap.size, 3, none⟩ = some (.int .i64 a) := T1.out.2.cellAt 3
    have c1_4 : w1.cell? ⟨w.heap.size, 4, none⟩ = some (.int .i64 b) := T1.out.2.cellAt 4
    have c1_5 : w1.cell? ⟨w.heap.size, 5, none⟩ = some (.int .i64 c) := T1.out.2.cellAt 5
    have c1_6 : w1.cell? ⟨w.heap.size, 6, none⟩ = some (.slice A n cp) := T1.out.2.cellAt 6
    have c1_7 : w1.cell? ⟨w.heap.size, 7, none⟩ = some (.string ap) := T1.out.2.cellAt 7
    have c1_8 : w1.cell? ⟨w.heap.size, 8, none⟩ = some (.string ga) := T1.out.2.cellAt 8
    have c1_9 : w1.cell? ⟨w.heap.size, 9, none⟩ = some (.int .i64 sz) := T1.out.2.cellAt 9
    have z1 : w.heap.size < w1.heap.size := T1.out.2.here
    go_wp2_with fail
    refine (KF.out _ (HL.out _ T1.out.1)).mono ?_
    rintro e w2 ⟨rfl, hb2⟩
    have T2 : Hid (Below w.heap.size w w2 ∧ Bk w2 w.heap.size 30 #[.string nm, .string qu, .int .i64 pr, .int .i64 a, .int .i64 b, .int .i64 c, .slice A n cp, .string ap, .string ga, .int .i64 sz]) := ⟨T1.out.1.trans (hb2.mono T1.out.1.size), T1.out.2.later hb2⟩
    clear hb2 T1
    have c2_0 : w2.cell? ⟨w.heap.size, 0, none⟩ = some (.string nm) := T2.out.2.cellAt 0
    have c2_1 : w2.cell? ⟨w.heap.size, 1, none⟩ = some (.string qu) := T2.out.2.cellAt 1
    have c2_2 : w2.cell? ⟨w.heap.size, 2, none⟩ = some (.int .i64 pr) := T2.out.2.cellAt 2
    have c2_3 : w2.cell? ⟨w.heap.size, 3, none⟩ = some (.int .i64 a) := T2.out.2.cellAt 3
    have c2_4 : w2.cell? ⟨w.heap.size, 4, none⟩ = some (.int .i64 b) := T2.out.2.cellAt 4
    have c2_5 : w2.cell? ⟨w.heap.size, 5, none⟩ = some (.int .i64 c) := T2.out.2.cellAt 5
    have c2_6 : w2.cell? ⟨w.heap.size, 6, none⟩ = some (.slice A n cp) := T2.out.2.cellAt 6
    have c2_7 : w2.cell? ⟨w.heap.size, 7, none⟩ = some (.string ap) := T2.out.2.cellAt 7
    have c2_8 : w2.cell? ⟨w.heap.size, 8, none⟩ = some (.string ga) := T2.out.2.cellAt 8
    have c2_9 : w2.cell? ⟨w.heap.size, 9, none⟩ = some (.int .i64 sz) := T2.out.2.cellAt 9
    have z2 : w.heap.size < w2.heap.size := T2.out.2.here
    clear c1_0 c1_1 c1_2 c1_3 c1_4 c1_5 c1_6 c1_7 c1_8 c1_9
    go_wp2_with fail
    refine (awake_any _).mono ?_
    rintro e w3 ⟨rfl, hb3⟩
    have T3 : Hid (Below w.heap.size w w3 ∧ Bk w3 w.heap.size 30 #[.string nm, .string qu, .int .i64 pr, .int .i64 a, .int .i64 b, .int .i64 c, .slice A n cp, .string ap, .string ga, .int .i64 sz]) := ⟨T2.out.1.trans (hb3.mono T2.out.1.size), T2.out.2.later hb3⟩
    clear hb3 T2
    have c3_0 : w3.cell? ⟨w.heap.size, 0, none⟩ = some (.string nm) := T3.out.2.cellAt 0
    have c3_1 : w3.cell? ⟨w.heap.size, 1, none⟩ = some (.string qu) := T3.out.2.cellAt 1
    have c3_2 : w3.cell? ⟨w.heap.size, 2, none⟩ = some (.int .i64 pr) := T3.out.2.cellAt 2
    have c3_3 : w3.cell? ⟨w.heap.size, 3, none⟩ = some (.int .i64 a) := T3.out.2.cellAt 3
    have c3_4 : w3.cell? ⟨w.heap.size, 4, none⟩ = some (.int .i64 b) := T3.out.2.cellAt 4
    have c3_5 : w3.cell? ⟨w.heap.size, 5, none⟩ = some (.int .i64 c) := T3.out.2.cellAt 5
    have c3_6 : w3.cell? ⟨w.heap.size, 6, none⟩ = some (.slice A n cp) := T3.out.2.cellAt 6
    have c3_7 : w3.cell? ⟨w.heap.size, 7, none⟩ = some (.string ap) := T3.out.2.cellAt 7
    have c3_8 : w3.cell? ⟨w.heap.size, 8, none⟩ = some (.string ga) := T3.out.2.cellAt 8
    have c3_9 : w3.cell? ⟨w.heap.size, 9, none⟩ = some (.int .i64 sz) := T3.out.2.cellAt 9
    have z3 : w.heap.size < w3.heap.size := T3.out.2.here
    clear c2_0 c2_1 c2_2 c2_3 c2_4 c2_5 c2_6 c2_7 c2_8 c2_9
    go_wp2
    go_ret
    exact ⟨rfl, T3.out.1⟩
  case neg =>
  cases v
  case false =>
    have KT0 := Lib.hid kt0
    clear kt kt0 kq hv
    go_enter Try.func7, Try.ntmps7
    have T0 : Hid (Below w.heap.size w (w.alloc (.cells #[.string nm, .string qu, .int .i64 pr, .int .i64 a, .int .i64 b, .int .i64 c, .slice A n cp, .string ap, .string ga, .int .i64 sz] 30)) ∧ Bk (w.alloc (.cells #[.string nm, .string qu, .int .i64 pr, .int .i64 a, .int .i64 b, .int .i64 c, .slice A n cp, .string ap, .string ga, .int .i64 sz] 30)) w.heap.size 30 #[.string nm, .string qu, .int .i64 pr, .int .i64 a, .int .i64 b, .int .i64 c, .slice A n cp, .string ap, .string ga, .int .i64 sz]) := ⟨(Below.refl _ _).alloc (Nat.le_refl _) _, Bk.fresh _ _ _⟩
    go_wp2_with fail
    refine (awake_any _).mono ?_
    rintro e w1 ⟨rfl, hb1⟩
    have T1 : Hid (Below w.heap.size w w1 ∧ Bk w1 w.heap.size 30 #[.string nm, .string qu, .int .i64 pr, .int .i64 a, .int .i64 b, .int .i64 c, .slice A n cp, .string ap, .string ga, .int .i64 sz]) := ⟨T0.out.1.trans (hb1.mono T0.out.1.size), T0.out.2.later hb1⟩
    clear hb1 T0
    have c1_0 : w1.cell? ⟨w.heap.size, 0, none⟩ = some (.string nm) := T1.out.2.cellAt 0
    have c1_1 : w1.cell? ⟨w.heap.size, 1, none⟩ = some (.string qu) := T1.out.2.cellAt 1
    have c1_2 : w1.cell? ⟨w.heap.size, 2, none⟩ = some (.int .i64 pr) := T1.out.2.cellAt 2
    have c1_3 : w1.cell? ⟨w.heap.size, 3, none⟩ = some (.int .i64 a) := T1.out.2.cellAt 3
    have c1_4 : w1.cell? ⟨w.heap.size, 4, none⟩ = some (.int .i64 b) := T1.out.2.cellAt 4
    have c1_5 : w1.cell? ⟨w.heap.size, 5, none⟩ = some (.int .i64 c) := T1.out.2.cellAt 5
    have c1_6 : w1.cell? ⟨w.heap.size, 6, none⟩ = some (.slice A n cp) := T1.out.2.cellAt 6
    have c1_7 : w1.cell? ⟨w.heap.size, 7, none⟩ = some (.string ap) := T1.out.2.cellAt 7
    have c1_8 : w1.cell? ⟨w.heap.size, 8, none⟩ = some (.string ga) := T1.out.2.cellAt 8
    have c1_9 : w1.cell? ⟨w.heap.size, 9, none⟩ = some (.int .i64 sz) := T1.out.2.cellAt 9
    have z1 : w.heap.size < w1.heap.size := T1.out.2.here
    go_wp2_with fail
    refine (KF.out _ (HL.out _ T1.out.1)).mono ?_
    rintro e w2 ⟨rfl, hb2⟩
    have T2 : Hid (Below w.heap.size w w2 ∧ Bk w2 w.heap.size 30 #[.string nm, .string qu, .int .i64 pr, .int .i64 a, .int .i64 b, .int .i64 c, .slice A n cp, .string ap, .string ga, .int .i64 sz]) := ⟨T1.out.1.trans (hb2.mono T1.out.1.size), T1.out.2.later hb2⟩
    clear hb2 T1
    have c2_0 : w2.cell? ⟨w.heap.size, 0, none⟩ = some (.string nm) := T2.out.2.cellAt 0
    have c2_1 : w2.cell? ⟨w.heap.size, 1, none⟩ = some (.string qu) := T2.out.2.cellAt 1
    have c2_2 : w2.cell? ⟨w.heap.size, 2, none⟩ = some (.int .i64 pr) := T2.out.2.cellAt 2
    have c2_3 : w2.cell? ⟨w.heap.size, 3, none⟩ = some (.int .i64 a) := T2.out.2.cellAt 3
    have c2_4 : w2.cell? ⟨w.heap.size, 4, none⟩ = some (.int .i64 b) := T2.out.2.cellAt 4
    have c2_5 : w2.cell? ⟨w.heap.size, 5, none⟩ = some (.int .i64 c) := T2.out.2.cellAt 5
    have c2_6 : w2.cell? ⟨w.heap.size, 6, none⟩ = some (.slice A n cp) := T2.out.2.cellAt 6
    have c2_7 : w2.cell? ⟨w.heap.size, 7, none⟩ = some (.string ap) := T2.out.2.cellAt 7
    have c2_8 : w2.cell? ⟨w.heap.size, 8, none⟩ = some (.string ga) := T2.out.2.cellAt 8
    have c2_9 : w2.cell? ⟨w.heap.size, 9, none⟩ = some (.int .i64 sz) := T2.out.2.cellAt 9
    have z2 : w.heap.size < w2.heap.size := T2.out.2.here
    clear c1_0 c1_1 c1_2 c1_3 c1_4 c1_5 c1_6 c1_7 c1_8 c1_9
    go_wp2_with fail
    refine (KT0.out _ (HL.out _ T2.out.1)).mono ?_
    rintro e w3 ⟨rfl, hb3⟩
    have T3 : Hid (Below w.heap.size w w3 ∧ Bk w3 w.heap.size 30 #[.string nm, .string qu, .int .i64 pr, .int .i64 a, .int .i64 b, .int .i64 c, .slice A n cp, .string ap, .string ga, .int .i64 sz]) := ⟨T2.out.1.trans (hb3.mono T2.out.1.size), T2.out.2.later hb3⟩
    clear hb3 T2
    have c3_0 : w3.cell? ⟨w.heap.size, 0, none⟩ = some (.string nm) := T3.out.2.cellAt 0
    have c3_1 : w3.cell? ⟨w.heap.size, 1, none⟩ = some (.string qu) := T3.out.2.cellAt 1
    have c3_2 : w3.cell? ⟨w.heap.size, 2, none⟩ = some (.int .i64 pr) := T3.out.2.cellAt 2
    have c3_3 : w3.cell? ⟨w.heap.size, 3, none⟩ = some (.int .i64 a) := T3.out.2.cellAt 3
    have c3_4 : w3.cell? ⟨w.heap.size, 4, none⟩ = some (.int .i64 b) := T3.out.2.cellAt 4
    have c3_5 : w3.cell? ⟨w.heap.size, 5, none⟩ = some (.int .i64 c) := T3.out.2.cellAt 5
    have c3_6 : w3.cell? ⟨w.heap.size, 6, none⟩ = some (.slice A n cp) := T3.out.2.cellAt 6
    have c3_7 : w3.cell? ⟨w.heap.size, 7, none⟩ = some (.string ap) := T3.out.2.cellAt 7
    have c3_8 : w3.cell? ⟨w.heap.size, 8, none⟩ = some (.string ga) := T3.out.2.cellAt 8
    have c3_9 : w3.cell? ⟨w.heap.size, 9, none⟩ = some (.int .i64 sz) := T3.out.2.cellAt 9
    have z3 : w.heap.size < w3.heap.size := T3.out.2.here
    clear c2_0 c2_1 c2_2 c2_3 c2_4 c2_5 c2_6 c2_7 c2_8 c2_9
    go_wp2_with fail
    refine (awake_any _).mono ?_
    rintro e w4 ⟨rfl, hb4⟩
    have T4 : Hid (Below w.heap.size w w4 ∧ Bk w4 w.heap.size 30 #[.string nm, .string qu, .int .i64 pr, .int .i64 a, .int .i64 b, .int .i64 c, .slice A n cp, .string ap, .string ga, .int .i64 sz]) := ⟨T3.out.1.trans (hb4.mono T3.out.1.size), T3.out.2.later hb4⟩
    clear hb4 T3
    have c4_0 : w4.cell? ⟨w.heap.size, 0, none⟩ = some (.string nm) := T4.out.2.cellAt 0
    have c4_1 : w4.cell? ⟨w.heap.size, 1, none⟩ = some (.string qu) := T4.out.2.cellAt 1
    have c4_2 : w4.cell? ⟨w.heap.size, 2, none⟩ = some (.int .i64 pr) := T4.out.2.cellAt 2
    have c4_3 : w4.cell? ⟨w.heap.size, 3, none⟩ = some (.int .i64 a) := T4.out.2.cellAt 3
    have c4_4 : w4.cell? ⟨w.heap.size, 4, none⟩ = some (.int .i64 b) := T4.out.2.cellAt 4
    have c4_5 : w4.cell? ⟨w.heap.size, 5, none⟩ = some (.int .i64 c) := T4.out.2.cellAt 5
    have c4_6 : w4.cell? ⟨w.heap.size, 6, none⟩ = some (.slice A n cp) := T4.out.2.cellAt 6
    have c4_7 : w4.cell? ⟨w.heap.size, 7, none⟩ = some (.string ap) := T4.out.2.cellAt 7
    have c4_8 : w4.cell? ⟨w.heap.size, 8, none⟩ = some (.string ga) := T4.out.2.cellAt 8
    have c4_9 : w4.cell? ⟨w.heap.size, 9, none⟩ = some (.int .i64 sz) := T4.out.2.cellAt 9
    have z4 : w.heap.size < w4.heap.size := T4.out.2.here
    clear c3_0 c3_1 c3_2 c3_3 c3_4 c3_5 c3_6 c3_7 c3_8 c3_9
    go_wp2
    go_ret
    exact ⟨rfl, T4.out.1⟩
  case true =>
  have KT0 := Lib.hid kt0
  clear kt0
  have kt1 := fun W (h : RdL W A l) => kt ⟨#[]⟩ 0 W (by decide) h
  have kt2 := fun W (h : RdL W A l) => kt ⟨#[]⟩ size W (by decide) h
  have kt3 := fun W (h : RdL W A l) => kt gang size W (by omega) h
  rw [task_gang hv.symm, gangB_empty, decide_eq_true rfl] at kt1
  rw [task_gang hv.symm, gangB_empty] at kt2
  rw [task_gang hv.symm] at kt3
  have KT1 := Lib.hid kt1
  clear kt kt1 hv
  by_cases g0 : gang.size = 0
  case pos =>
    obtain rfl := empty_of g0
    rw [gangB_empty] at kt3
    clear g0 hg
    have hgg : nameB ⟨#[]⟩ = false := rfl
    rw [hgg] at kq
    clear hgg
    by_cases s0 : size = 0
    case pos =>
      subst s0
      rw [decide_eq_true rfl] at kt2
      rw [decide_eq_true rfl] at kt3
      have KT2 := Lib.hid kt2
      have KT3 := Lib.hid kt3
      have KQ := Lib.hid kq
      clear kt2 kt3 kq
      go_enter Try.func7, Try.ntmps7
      have T0 : Hid (Below w.heap.size w (w.alloc (.cells #[.string nm, .string qu, .int .i64 pr, .int .i64 a, .int .i64 b, .int .i64 c, .slice A n cp, .string ap, .string ga, .int .i64 sz] 30)) ∧ Bk (w.alloc (.cells #[.string nm, .string qu, .int .i64 pr, .int .i64 a, .int .i64 b, .int .i64 c, .slice A n cp, .string ap, .string ga, .int .i64 sz] 30)) w.heap.size 30 #[.string nm, .string qu, .int .i64 pr, .int .i64 a, .int .i64 b, .int .i64 c, .slice A n cp, .string ap, .string ga, .int .i64 sz]) := ⟨(Below.refl _ _).alloc (Nat.le_refl _) _, Bk.fresh _ _ _⟩
      go_wp2_with fail
      refine (awake_any _).mono ?_
      rintro e w1 ⟨rfl, hb1⟩
      have T1 : Hid (Below w.heap.size w w1 ∧ Bk w1 w.heap.size 30 #[.string nm, .string qu, .int .i64 pr, .int .i64 a, .int .i64 b, .int .i64 c, .slice A n cp, .string ap, .string ga, .int .i64 sz]) := ⟨T0.out.1.trans (hb1.mono T0.out.1.size), T0.out.2.later hb1⟩
      clear hb1 T0
      have c1_0 : w1.cell? ⟨w.heap.size, 0, none⟩ = some (.string nm) := T1.out.2.cellAt 0
      have c1_1 : w1.cell? ⟨w.heap.size, 1, none⟩ = some (.string qu) := T1.out.2.cellAt 1
      have c1_2 : w1.cell? ⟨w.heap.size, 2, none⟩ = some (.int .i64 pr) := T1.out.2.cellAt 2
      have c1_3 : w1.cell? ⟨w.heap.size, 3, none⟩ = some (.int .i64 a) := T1.out.2.cellAt 3
      have c1_4 : w1.cell? ⟨w.heap.size, 4, none⟩ = some (.int .i64 b) := T1.out.2.cellAt 4
      have c1_5 : w1.cell? ⟨w.heap.size, 5, none⟩ = some (.int .i64 c) := T1.out.2.cellAt 5
      have c1_6 : w1.cell? ⟨w.heap.size, 6, none⟩ = some (.slice A n cp) := T1.out.2.cellAt 6
      have c1_7 : w1.cell? ⟨w.heap.size, 7, none⟩ = some (.string ap) := T1.out.2.cellAt 7
      have c1_8 : w1.cell? ⟨w.heap.size, 8, none⟩ = some (.string ga) := T1.out.2.cellAt 8
      have c1_9 : w1.cell? ⟨w.heap.size, 9, none⟩ = some (.int .i64 sz) := T1.out.2.cellAt 9
      have z1 : w.heap.size < w1.heap.size := T1.out.2.here
      go_wp2_with fail
      refine (KF.out _ (HL.out _ T1.out.1)).mono ?_
      rintro e w2 ⟨rfl, hb2⟩
      have T2 : Hid (Below w.heap.size w w2 ∧ Bk w2 w.heap.size 30 #[.string nm, .string qu, .int .i64 pr, .int .i64 a, .int .i64 b, .int .i64 c, .slice A n cp, .string ap, .string ga, .int .i64 sz]) := ⟨T1.out.1.trans (hb2.mono T1.out.1.size), T1.out.2.later hb2⟩
      clear hb2 T1
      have c2_0 : w2.cell? ⟨w.heap.size, 0, none⟩ = some (.string nm) := T2.out.2.cellAt 0
      have c2_1 : w2.cell? ⟨w.heap.size, 1, none⟩ = some (.string qu) := T2.out.2.cellAt 1
      have c2_2 : w2.cell? ⟨w.heap.size, 2, none⟩ = some (.int .i64 pr) := T2.out.2.cellAt 2
      have c2_3 : w2.cell? ⟨w.heap.size, 3, none⟩ = some (.int .i64 a) := T2.out.2.cellAt 3
      have c2_4 : w2.cell? ⟨w.heap.size, 4, none⟩ = some (.int .i64 b) := T2.out.2.cellAt 4
      have c2_5 : w2.cell? ⟨w.heap.size, 5, none⟩ = some (.int .i64 c) := T2.out.2.cellAt 5
      have c2_6 : w2.cell? ⟨w.heap.size, 6, none⟩ = some (.slice A n cp) := T2.out.2.cellAt 6
      have c2_7 : w2.cell? ⟨w.heap.size, 7, none⟩ = some (.string ap) := T2.out.2.cellAt 7
      have c2_8 : w2.cell? ⟨w.heap.size, 8, none⟩ = some (.string ga) := T2.out.2.cellAt 8
      have c2_9 : w2.cell? ⟨w.heap.size, 9, none⟩ = some (.int .i64 sz) := T2.out.2.cellAt 9
      have z2 : w.heap.size < w2.heap.size := T2.out.2.here
      clear c1_0 c1_1 c1_2 c1_3 c1_4 c1_5 c1_6 c1_7 c1_8 c1_9
      go_wp2_with fail
      refine (KT0.out _ (HL.out _ T2.out.1)).mono ?_
      rintro e w3 ⟨rfl, hb3⟩
      have T3 : Hid (Below w.heap.size w w3 ∧ Bk w3 w.heap.size 30 #[.string nm, .string qu, .int .i64 pr, .int .i64 a, .int .i64 b, .int .i64 c, .slice A n cp, .string ap, .string ga, .int .i64 sz]) := ⟨T2.out.1.trans (hb3.mono T2.out.1.size), T2.out.2.later hb3⟩
      clear hb3 T2
      have c3_0 : w3.cell? ⟨w.heap.size, 0, none⟩ = some (.string nm) := T3.out.2.cellAt 0
      have c3_1 : w3.cell? ⟨w.heap.size, 1, none⟩ = some (.string qu) := T3.out.2.cellAt 1
      have c3_2 : w3.cell? ⟨w.heap.size, 2, none⟩ = some (.int .i64 pr) := T3.out.2.cellAt 2
      have c3_3 : w3.cell? ⟨w.heap.size, 3, none⟩ = some (.int .i64 a) := T3.out.2.cellAt 3
      have c3_4 : w3.cell? ⟨w.heap.size, 4, none⟩ = some (.int .i64 b) := T3.out.2.cellAt 4
      have c3_5 : w3.cell? ⟨w.heap.size, 5, none⟩ = some (.int .i64 c) := T3.out.2.cellAt 5
      have c3_6 : w3.cell? ⟨w.heap.size, 6, none⟩ = some (.slice A n cp) := T3.out.2.cellAt 6
      have c3_7 : w3.cell? ⟨w.heap.size, 7, none⟩ = some (.string ap) := T3.out.2.cellAt 7
      have c3_8 : w3.cell? ⟨w.heap.size, 8, none⟩ = some (.string ga) := T3.out.2.cellAt 8
      have c3_9 : w3.cell? ⟨w.heap.size, 9, none⟩ = some (.int .i64 sz) := T3.out.2.cellAt 9
      have f3_8 : w3.frozen? ⟨w.heap.size, 8, none⟩ = false := T3.out.2.free 8
      have f3_9 : w3.frozen? ⟨w.heap.size, 9, none⟩ = false := T3.out.2.free 9
      have z3 : w.heap.size < w3.heap.size := T3.out.2.here
      clear c2_0 c2_1 c2_2 c2_3 c2_4 c2_5 c2_6 c2_7 c2_8 c2_9
      have U3 : Hid (Below w.heap.size w ((w3.setCell ⟨w.heap.size, 8, none⟩ (.string ⟨#[]⟩)).setCell ⟨w.heap.size, 9, none⟩ (.int .i64 0)) ∧ Bk ((w3.setCell ⟨w.heap.size, 8, none⟩ (.string ⟨#[]⟩)).setCell ⟨w.heap.size, 9, none⟩ (.int .i64 0)) w.heap.size 30 #[.string nm, .string qu, .int .i64 pr, .int .i64 a, .int .i64 b, .int .i64 c, .slice A n cp, .string ap, .string ⟨#[]⟩, .int .i64 0]) := ⟨((T3.out.1.setCell (p := ⟨w.heap.size, 8, none⟩) (Nat.le_refl _) _).setCell (p := ⟨w.heap.size, 9, none⟩) (Nat.le_refl _) _), ((T3.out.2.put 8 (.string ⟨#[]⟩)).put 9 (.int .i64 0))⟩
      clear T3
      have T3 := U3
      clear U3
      go_wp2_with fail
      refine (KT1.out _ (HL.out _ T3.out.1)).mono ?_
      rintro e w4 ⟨rfl, hb4⟩
      have T4 : Hid (Below w.heap.size w w4 ∧ Bk w4 w.heap.size 30 #[.string nm, .string qu, .int .i64 pr, .int .i64 a, .int .i64 b, .int .i64 c, .slice A n cp, .string ap, .string ⟨#[]⟩, .int .i64 0]) := ⟨T3.out.1.trans (hb4.mono T3.out.1.size), T3.out.2.later hb4⟩
      clear hb4 T3
      have c4_0 : w4.cell? ⟨w.heap.size, 0, none⟩ = some (.string nm) := T4.out.2.cellAt 0
      have c4_1 : w4.cell? ⟨w.heap.size, 1, none⟩ = some (.string qu) := T4.out.2.cellAt 1
      have c4_2 : w4.cell? ⟨w.heap.size, 2, none⟩ = some (.int .i64 pr) := T4.out.2.cellAt 2
      have c4_3 : w4.cell? ⟨w.heap.size, 3, none⟩ = some (.int .i64 a) := T4.out.2.cellAt 3
      have c4_4 : w4.cell? ⟨w.heap.size, 4, none⟩ = some (.int .i64 b) := T4.out.2.cellAt 4
      have c4_5 : w4.cell? ⟨w.heap.size, 5, none⟩ = some (.int .i64 c) := T4.out.2.cellAt 5
      have c4_6 : w4.cell? ⟨w.heap.size, 6, none⟩ = some (.slice A n cp) := T4.out.2.cellAt 6
      have c4_7 : w4.cell? ⟨w.heap.size, 7, none⟩ = some (.string ap) := T4.out.2.cellAt 7
      have c4_8 : w4.cell? ⟨w.heap.size, 8, none⟩ = some (.string ⟨#[]⟩) := T4.out.2.cellAt 8
      have c4_9 : w4.cell? ⟨w.heap.size, 9, none⟩ = some (.int .i64 0) := T4.out.2.cellAt 9
      have f4_9 : w4.frozen? ⟨w.heap.size, 9, none⟩ = false := T4.out.2.free 9
      have z4 : w.heap.size < w4.heap.size := T4.out.2.here
      clear c3_0 c3_1 c3_2 c3_3 c3_4 c3_5 c3_6 c3_7 c3_8 c3_9 f3_8 f3_9
      have U4 : Hid (Below w.heap.size w (w4.setCell ⟨w.heap.size, 9, none⟩ (.int .i64 0)) ∧ Bk (w4.setCell ⟨w.heap.size, 9, none⟩ (.int .i64 0)) w.heap.size 30 #[.string nm, .string qu, .int .i64 pr, .int .i64 a, .int .i64 b, .int .i64 c, .slice A n cp, .string ap, .string ⟨#[]⟩, .int .i64 0]) := ⟨(T4.out.1.setCell (p := ⟨w.heap.size, 9, none⟩) (Nat.le_refl _) _), (T4.out.2.put 9 (.int .i64 0))⟩
      clear T4
      have T4 := U4
      clear U4
      go_wp2_with fail
      refine (KT2.out _ (HL.out _ T4.out.1)).mono ?_
      rintro e w5 ⟨rfl, hb5⟩
      have T5 : Hid (Below w.heap.size w w5 ∧ Bk w5 w.heap.size 30 #[.string nm, .string qu, .int .i64 pr, .int .i64 a, .int .i64 b, .int .i64 c, .slice A n cp, .string ap, .string ⟨#[]⟩, .int .i64 0]) := ⟨T4.out.1.trans (hb5.mono T4.out.1.size), T4.out.2.later hb5⟩
      clear hb5 T4
      have c5_0 : w5.cell? ⟨w.heap.size, 0, none⟩ = some (.string nm) := T5.out.2.cellAt 0
      have c5_1 : w5.cell? ⟨w.heap.size, 1, none⟩ = some (.string qu) := T5.out.2.cellAt 1
      have c5_2 : w5.cell? ⟨w.heap.size, 2, none⟩ = some (.int .i64 pr) := T5.out.2.cellAt 2
      have c5_3 : w5.cell? ⟨w.heap.size, 3, none⟩ = some (.int .i64 a) := T5.out.2.cellAt 3
      have c5_4 : w5.cell? ⟨w.heap.size, 4, none⟩ = some (.int .i64 b) := T5.out.2.cellAt 4
      have c5_5 : w5.cell? ⟨w.heap.size, 5, none⟩ = some (.int .i64 c) := T5.out.2.cellAt 5
      have c5_6 : w5.cell? ⟨w.heap.size, 6, none⟩ = some (.slice A n cp) := T5.out.2.cellAt 6
      have c5_7 : w5.cell? ⟨w.heap.size, 7, none⟩ = some (.string ap) := T5.out.2.cellAt 7
      have c5_8 : w5.cell? ⟨w.heap.size, 8, none⟩ = some (.string ⟨#[]⟩) := T5.out.2.cellAt 8
      have c5_9 : w5.cell? ⟨w.heap.size, 9, none⟩ = some (.int .i64 0) := T5.out.2.cellAt 9
      have f5_8 : w5.frozen? ⟨w.heap.size, 8, none⟩ = false := T5.out.2.free 8
      have z5 : w.heap.size < w5.heap.size := T5.out.2.here
      clear c4_0 c4_1 c4_2 c4_3 c4_4 c4_5 c4_6 c4_7 c4_8 c4_9 f4_9
      have U5 : Hid (Below w.heap.size w (w5.setCell ⟨w.heap.size, 8, none⟩ (.string ⟨#[]⟩)) ∧ Bk (w5.setCell ⟨w.heap.size, 8, none⟩ (.string ⟨#[]⟩)) w.heap.size 30 #[.string nm, .string qu, .int .i64 pr, .int .i64 a, .int .i64 b, .int .i64 c, .slice A n cp, .string ap, .string ⟨#[]⟩, .int .i64 0]) := ⟨(T5.out.1.setCell (p := ⟨w.heap.size, 8, none⟩) (Nat.le_refl _) _), (T5.out.2.put 8 (.string ⟨#[]⟩))⟩
      clear T5
      have T5 := U5
      clear U5
      go_wp2_with fail
      refine (KQ.out _).mono ?_
      rintro e w6 ⟨rfl, hb6⟩
      have T6 : Hid (Below w.heap.size w w6 ∧ Bk w6 w.heap.size 30 #[.string nm, .string qu, .int .i64 pr, .int .i64 a, .int .i64 b, .int .i64 c, .slice A n cp, .string ap, .string ⟨#[]⟩, .int .i64 0]) := ⟨T5.out.1.trans (hb6.mono T5.out.1.size), T5.out.2.later hb6⟩
      clear hb6 T5
      have c6_0 : w6.cell? ⟨w.heap.size, 0, none⟩ = some (.string nm) := T6.out.2.cellAt 0
      have c6_1 : w6.cell? ⟨w.heap.size, 1, none⟩ = some (.string qu) := T6.out.2.cellAt 1
      have c6_2 : w6.cell? ⟨w.heap.size, 2, none⟩ = some (.int .i64 pr) := T6.out.2.cellAt 2
      have c6_3 : w6.cell? ⟨w.heap.size, 3, none⟩ = some (.int .i64 a) := T6.out.2.cellAt 3
      have c6_4 : w6.cell? ⟨w.heap.size, 4, none⟩ = some (.int .i64 b) := T6.out.2.cellAt 4
      have c6_5 : w6.cell? ⟨w.heap.size, 5, none⟩ = some (.int .i64 c) := T6.out.2.cellAt 5
      have c6_6 : w6.cell? ⟨w.heap.size, 6, none⟩ = some (.slice A n cp) := T6.out.2.cellAt 6
      have c6_7 : w6.cell? ⟨w.heap.size, 7, none⟩ = some (.string ap) := T6.out.2.cellAt 7
      have c6_8 : w6.cell? ⟨w.heap.size, 8, none⟩ = some (.string ⟨#[]⟩) := T6.out.2.cellAt 8
      have c6_9 : w6.cell? ⟨w.heap.size, 9, none⟩ = some (.int .i64 0) := T6.out.2.cellAt 9
      have z6 : w.heap.size < w6.heap.size := T6.out.2.here
      clear c5_0 c5_1 c5_2 c5_3 c5_4 c5_5 c5_6 c5_7 c5_8 c5_9 f5_8
      go_wp2_with fail
      refine (KT3.out _ (HL.out _ T6.out.1)).mono ?_
      rintro e w7 ⟨rfl, hb7⟩
      have T7 : Hid (Below w.heap.size w w7 ∧ Bk w7 w.heap.size 30 #[.string nm, .string qu, .int .i64 pr, .int .i64 a, .int .i64 b, .int .i64 c, .slice A n cp, .string ap, .string ⟨#[]⟩, .int .i64 0]) := ⟨T6.out.1.trans (hb7.mono T6.out.1.size), T6.out.2.later hb7⟩
      clear hb7 T6
      have c7_0 : w7.cell? ⟨w.heap.size, 0, none⟩ = some (.string nm) := T7.out.2.cellAt 0
      have c7_1 : w7.cell? ⟨w.heap.size, 1, none⟩ = some (.string qu) := T7.out.2.cellAt 1
      have c7_2 : w7.cell? ⟨w.heap.size, 2, none⟩ = some (.int .i64 pr) := T7.out.2.cellAt 2
      have c7_3 : w7.cell? ⟨w.heap.size, 3, none⟩ = some (.int .i64 a) := T7.out.2.cellAt 3
      have c7_4 : w7.cell? ⟨w.heap.size, 4, none⟩ = some (.int .i64 b) := T7.out.2.cellAt 4
      have c7_5 : w7.cell? ⟨w.heap.size, 5, none⟩ = some (.int .i64 c) := T7.out.2.cellAt 5
      have c7_6 : w7.cell? ⟨w.heap.size, 6, none⟩ = some (.slice A n cp) := T7.out.2.cellAt 6
      have c7_7 : w7.cell? ⟨w.heap.size, 7, none⟩ = some (.string ap) := T7.out.2.cellAt 7
      have c7_8 : w7.cell? ⟨w.heap.size, 8, none⟩ = some (.string ⟨#[]⟩) := T7.out.2.cellAt 8
      have c7_9 : w7.cell? ⟨w.heap.size, 9, none⟩ = some (.int .i64 0) := T7.out.2.cellAt 9
      have z7 : w.heap.size < w7.heap.size := T7.out.2.here
      clear c6_0 c6_1 c6_2 c6_3 c6_4 c6_5 c6_6 c6_7 c6_8 c6_9
      go_wp2
      go_ret
      exact ⟨rfl, T7.out.1⟩
    case neg =>
      have s1 : (size == 0) = false := by simpa using s0
      rw [decide_eq_false s0] at kt2
      rw [decide_eq_false s0] at kt3
      clear s0
      have KT2 := Lib.hid kt2
      have KT3 := Lib.hid kt3
      have KQ := Lib.hid kq
      clear kt2 kt3 kq
      go_enter Try.func7, Try.ntmps7
      have T0 : Hid (Below w.heap.size w (w.alloc (.cells #[.string nm, .string qu, .int .i64 pr, .int .i64 a, .int .i64 b, .int .i64 c, .slice A n cp, .string ap, .string ga, .int .i64 sz] 30)) ∧ Bk (w.alloc (.cells #[.string nm, .string qu, .int .i64 pr, .int .i64 a, .int .i64 b, .int .i64 c, .slice A n cp, .string ap, .string ga, .int .i64 sz] 30)) w.heap.size 30 #[.string nm, .string qu, .int .i64 pr, .int .i64 a, .int .i64 b, .int .i64 c, .slice A n cp, .string ap, .string ga, .int .i64 sz]) := ⟨(Below.refl _ _).alloc (Nat.le_refl _) _, Bk.fresh _ _ _⟩
      go_wp2_with fail
      refine (awake_any _).mono ?_
      rintro e w1 ⟨rfl, hb1⟩
      have T1 : Hid (Below w.heap.size w w1 ∧ Bk w1 w.heap.size 30 #[.string nm, .string qu, .int .i64 pr, .int .i64 a, .int .i64 b, .int .i64 c, .slice A n cp, .string ap, .string ga, .int .i64 sz]) := ⟨T0.out.1.trans (hb1.mono T0.out.1.size), T0.out.2.later hb1⟩
      clear hb1 T0
      have c1_0 : w1.cell? ⟨w.heap.size, 0, none⟩ = some (.string nm) := T1.out.2.cellAt 0
      have c1_1 : w1.cell? ⟨w.heap.size, 1, none⟩ = some (.string qu) := T1.out.2.cellAt 1
      have c1_2 : w1.cell? ⟨w.heap.size, 2, none⟩ = some (.int .i64 pr) := T1.out.2.cellAt 2
      have c1_3 : w1.cell? ⟨w.heap.size, 3, none⟩ = some (.int .i64 a) := T1.out.2.cellAt 3
      have c1_4 : w1.cell? ⟨w.heap.size, 4, none⟩ = some (.int .i64 b) := T1.out.2.cellAt 4
      have c1_5 : w1.cell? ⟨w.heap.size, 5, none⟩ = some (.int .i64 c) := T1.out.2.cellAt 5
      have c1_6 : w1.cell? ⟨w.heap.size, 6, none⟩ = some (.slice A n cp) := T1.out.2.cellAt 6
      have c1_7 : w1.cell? ⟨w.heap.size, 7, none⟩ = some (.string ap) := T1.out.2.cellAt 7
      have c1_8 : w1.cell? ⟨w.heap.size, 8, none⟩ = some (.string ga) := T1.out.2.cellAt 8
      have c1_9 : w1.cell? ⟨w.heap.size, 9, none⟩ = some (.int .i64 sz) := T1.out.2.cellAt 9
      have z1 : w.heap.size < w1.heap.size := T1.out.2.here
      go_wp2_with fail
      refine (KF.out _ (HL.out _ T1.out.1)).mono ?_
      rintro e w2 ⟨rfl, hb2⟩
      have T2 : Hid (Below w.heap.size w w2 ∧ Bk w2 w.heap.size 30 #[.string nm, .string qu, .int .i64 pr, .int .i64 a, .int .i64 b, .int .i64 c, .slice A n cp, .string ap, .string ga, .int .i64 sz]) := ⟨T1.out.1.trans (hb2.mono T1.out.1.size), T1.out.2.later hb2⟩
      clear hb2 T1
      have c2_0 : w2.cell? ⟨w.heap.size, 0, none⟩ = some (.string nm) := T2.out.2.cellAt 0
      have c2_1 : w2.cell? ⟨w.heap.size, 1, none⟩ = some (.string qu) := T2.out.2.cellAt 1
      have c2_2 : w2.cell? ⟨w.heap.size, 2, none⟩ = some (.int .i64 pr) := T2.out.2.cellAt 2
      have c2_3 : w2.cell? ⟨w.heap.size, 3, none⟩ = some (.int .i64 a) := T2.out.2.cellAt 3
      have c2_4 : w2.cell? ⟨w.heap.size, 4, none⟩ = some (.int .i64 b) := T2.out.2.cellAt 4
      have c2_5 : w2.cell? ⟨w.heap.size, 5, none⟩ = some (.int .i64 c) := T2.out.2.cellAt 5
      have c2_6 : w2.cell? ⟨w.heap.size, 6, none⟩ = some (.slice A n cp) := T2.out.2.cellAt 6
      have c2_7 : w2.cell? ⟨w.heap.size, 7, none⟩ = some (.string ap) := T2.out.2.cellAt 7
      have c2_8 : w2.cell? ⟨w.heap.size, 8, none⟩ = some (.string ga) := T2.out.2.cellAt 8
      have c2_9 : w2.cell? ⟨w.heap.size, 9, none⟩ = some (.int .i64 sz) := T2.out.2.cellAt 9
      have z2 : w.heap.size < w2.heap.size := T2.out.2.here
      clear c1_0 c1_1 c1_2 c1_3 c1_4 c1_5 c1_6 c1_7 c1_8 c1_9
      go_wp2_with fail
      refine (KT0.out _ (HL.out _ T2.out.1)).mono ?_
      rintro e w3 ⟨rfl, hb3⟩
      have T3 : Hid (Below w.heap.size w w3 ∧ Bk w3 w.heap.size 30 #[.string nm, .string qu, .int .i64 pr, .int .i64 a, .int .i64 b, .int .i64 c, .slice A n cp, .string ap, .string ga, .int .i64 sz]) := ⟨T2.out.1.trans (hb3.mono T2.out.1.size), T2.out.2.later hb3⟩
      clear hb3 T2
      have c3_0 : w3.cell? ⟨w.heap.size, 0, none⟩ = some (.string nm) := T3.out.2.cellAt 0
      have c3_1 : w3.cell? ⟨w.heap.size, 1, none⟩ = some (.string qu) := T3.out.2.cellAt 1
      have c3_2 : w3.cell? ⟨w.heap.size, 2, none⟩ = some (.int .i64 pr) := T3.out.2.cellAt 2
      have c3_3 : w3.cell? ⟨w.heap.size, 3, none⟩ = some (.int .i64 a) := T3.out.2.cellAt 3
      have c3_4 : w3.cell? ⟨w.heap.size, 4, none⟩ = some (.int .i64 b) := T3.out.2.cellAt 4
      have c3_5 : w3.cell? ⟨w.heap.size, 5, none⟩ = some (.int .i64 c) := T3.out.2.cellAt 5
      have c3_6 : w3.cell? ⟨w.heap.size, 6, none⟩ = some (.slice A n cp) := T3.out.2.cellAt 6
      have c3_7 : w3.cell? ⟨w.heap.size, 7, none⟩ = some (.string ap) := T3.out.2.cellAt 7
      have c3_8 : w3.cell? ⟨w.heap.size, 8, none⟩ = some (.string ga) := T3.out.2.cellAt 8
      have c3_9 : w3.cell? ⟨w.heap.size, 9, none⟩ = some (.int .i64 sz) := T3.out.2.cellAt 9
      have f3_8 : w3.frozen? ⟨w.heap.size, 8, none⟩ = false := T3.out.2.free 8
      have f3_9 : w3.frozen? ⟨w.heap.size, 9, none⟩ = false := T3.out.2.free 9
      have z3 : w.heap.size < w3.heap.size := T3.out.2.here
      clear c2_0 c2_1 c2_2 c2_3 c2_4 c2_5 c2_6 c2_7 c2_8 c2_9
      have U3 : Hid (Below w.heap.size w ((w3.setCell ⟨w.heap.size, 8, none⟩ (.string ⟨#[]⟩)).setCell ⟨w.heap.size, 9, none⟩ (.int .i64 0)) ∧ Bk ((w3.setCell ⟨w.heap.size, 8, none⟩ (.string ⟨#[]⟩)).setCell ⟨w.heap.size, 9, none⟩ (.int .i64 0)) w.heap.size 30 #[.string nm, .string qu, .int .i64 pr, .int .i64 a, .int .i64 b, .int .i64 c, .slice A n cp, .string ap, .string ⟨#[]⟩, .int .i64 0]) := ⟨((T3.out.1.setCell (p := ⟨w.heap.size, 8, none⟩) (Nat.le_refl _) _).setCell (p := ⟨w.heap.size, 9, none⟩) (Nat.le_refl _) _), ((T3.out.2.put 8 (.string ⟨#[]⟩)).put 9 (.int .i64 0))⟩
      clear T3
      have T3 := U3
      clear U3
      go_wp2_with fail
      refine (KT1.out _ (HL.out _ T3.out.1)).mono ?_
      rintro e w4 ⟨rfl, hb4⟩
      have T4 : Hid (Below w.heap.size w w4 ∧ Bk w4 w.heap.size 30 #[.string nm, .string qu, .int .i64 pr, .int .i64 a, .int .i64 b, .int .i64 c, .slice A n cp, .string ap, .string ⟨#[]⟩, .int .i64 0]) := ⟨T3.out.1.trans (hb4.mono T3.out.1.size), T3.out.2.later hb4⟩
      clear hb4 T3
      have c4_0 : w4.cell? ⟨w.heap.size, 0, none⟩ = some (.string nm) := T4.out.2.cellAt 0
      have c4_1 : w4.cell? ⟨w.heap.size, 1, none⟩ = some (.string qu) := T4.out.2.cellAt 1
      have c4_2 : w4.cell? ⟨w.heap.size, 2, none⟩ = some (.int .i64 pr) := T4.out.2.cellAt 2
      have c4_3 : w4.cell? ⟨w.heap.size, 3, none⟩ = some (.int .i64 a) := T4.out.2.cellAt 3
      have c4_4 : w4.cell? ⟨w.heap.size, 4, none⟩ = some (.int .i64 b) := T4.out.2.cellAt 4
      have c4_5 : w4.cell? ⟨w.heap.size, 5, none⟩ = some (.int .i64 c) := T4.out.2.cellAt 5
      have c4_6 : w4.cell? ⟨w.heap.size, 6, none⟩ = some (.slice A n cp) := T4.out.2.cellAt 6
      have c4_7 : w4.cell? ⟨w.heap.size, 7, none⟩ = some (.string ap) := T4.out.2.cellAt 7
      have c4_8 : w4.cell? ⟨w.heap.size, 8, none⟩ = some (.string ⟨#[]⟩) := T4.out.2.cellAt 8
      have c4_9 : w4.cell? ⟨w.heap.size, 9, none⟩ = some (.int .i64 0) := T4.out.2.cellAt 9
      have f4_9 : w4.frozen? ⟨w.heap.size, 9, none⟩ = false := T4.out.2.free 9
      have z4 : w.heap.size < w4.heap.size := T4.out.2.here
      clear c3_0 c3_1 c3_2 c3_3 c3_4 c3_5 c3_6 c3_7 c3_8 c3_9 f3_8 f3_9
      have U4 : Hid (Below w.heap.size w (w4.setCell ⟨w.heap.size, 9, none⟩ (.int .i64 size)) ∧ Bk (w4.setCell ⟨w.heap.size, 9, none⟩ (.int .i64 size)) w.heap.size 30 #[.string nm, .string qu, .int .i64 pr, .int .i64 a, .int .i64 b, .int .i64 c, .slice A n cp, .string ap, .string ⟨#[]⟩, .int .i64 size]) := ⟨(T4.out.1.setCell (p := ⟨w.heap.size, 9, none⟩) (Nat.le_refl _) _), (T4.out.2.put 9 (.int .i64 size))⟩
      clear T4
      have T4 := U4
      clear U4
      go_wp2_with fail
      refine (KT2.out _ (HL.out _ T4.out.1)).mono ?_
      rintro e w5 ⟨rfl, hb5⟩
      have T5 : Hid (Below w.heap.size w w5 ∧ Bk w5 w.heap.size 30 #[.string nm, .string qu, .int .i64 pr, .int .i64 a, .int .i64 b, .int .i64 c, .slice A n cp, .string ap, .string ⟨#[]⟩, .int .i64 size]) := ⟨T4.out.1.trans (hb5.mono T4.out.1.size), T4.out.2.later hb5⟩
      clear hb5 T4
      have c5_0 : w5.cell? ⟨w.heap.size, 0, none⟩ = some (.string nm) := T5.out.2.cellAt 0
      have c5_1 : w5.cell? ⟨w.heap.size, 1, none⟩ = some (.string qu) := T5.out.2.cellAt 1
      have c5_2 : w5.cell? ⟨w.heap.size, 2, none⟩ = some (.int .i64 pr) := T5.out.2.cellAt 2
      have c5_3 : w5.cell? ⟨w.heap.size, 3, none⟩ = some (.int .i64 a) := T5.out.2.cellAt 3
      have c5_4 : w5.cell? ⟨w.heap.size, 4, none⟩ = some (.int .i64 b) := T5.out.2.cellAt 4
      have c5_5 : w5.cell? ⟨w.heap.size, 5, none⟩ = some (.int .i64 c) := T5.out.2.cellAt 5
      have c5_6 : w5.cell? ⟨w.heap.size, 6, none⟩ = some (.slice A n cp) := T5.out.2.cellAt 6
      have c5_7 : w5.cell? ⟨w.heap.size, 7, none⟩ = some (.string ap) := T5.out.2.cellAt 7
      have c5_8 : w5.cell? ⟨w.heap.size, 8, none⟩ = some (.string ⟨#[]⟩) := T5.out.2.cellAt 8
      have c5_9 : w5.cell? ⟨w.heap.size, 9, none⟩ = some (.int .i64 size) := T5.out.2.cellAt 9
      have f5_8 : w5.frozen? ⟨w.heap.size, 8, none⟩ = false := T5.out.2.free 8
      have z5 : w.heap.size < w5.heap.size := T5.out.2.here
      clear c4_0 c4_1 c4_2 c4_3 c4_4 c4_5 c4_6 c4_7 c4_8 c4_9 f4_9
      have U5 : Hid (Below w.heap.size w (w5.setCell ⟨w.heap.size, 8, none⟩ (.string ⟨#[]⟩)) ∧ Bk (w5.setCell ⟨w.heap.size, 8, none⟩ (.string ⟨#[]⟩)) w.heap.size 30 #[.string nm, .string qu, .int .i64 pr, .int .i64 a, .int .i64 b, .int .i64 c, .slice A n cp, .string ap, .string ⟨#[]⟩, .int .i64 size]) := ⟨(T5.out.1.setCell (p := ⟨w.heap.size, 8, none⟩) (Nat.le_refl _) _), (T5.out.2.put 8 (.string ⟨#[]⟩))⟩
      clear T5
      have T5 := U5
      clear U5
      go_wp2_with fail
      refine (KQ.out _).mono ?_
      rintro e w6 ⟨rfl, hb6⟩
      have T6 : Hid (Below w.heap.size w w6 ∧ Bk w6 w.heap.size 30 #[.string nm, .string qu, .int .i64 pr, .int .i64 a, .int .i64 b, .int .i64 c, .slice A n cp, .string ap, .string ⟨#[]⟩, .int .i64 size]) := ⟨T5.out.1.trans (hb6.mono T5.out.1.size), T5.out.2.later hb6⟩
      clear hb6 T5
      have c6_0 : w6.cell? ⟨w.heap.size, 0, none⟩ = some (.string nm) := T6.out.2.cellAt 0
      have c6_1 : w6.cell? ⟨w.heap.size, 1, none⟩ = some (.string qu) := T6.out.2.cellAt 1
      have c6_2 : w6.cell? ⟨w.heap.size, 2, none⟩ = some (.int .i64 pr) := T6.out.2.cellAt 2
      have c6_3 : w6.cell? ⟨w.heap.size, 3, none⟩ = some (.int .i64 a) := T6.out.2.cellAt 3
      have c6_4 : w6.cell? ⟨w.heap.size, 4, none⟩ = some (.int .i64 b) := T6.out.2.cellAt 4
      have c6_5 : w6.cell? ⟨w.heap.size, 5, none⟩ = some (.int .i64 c) := T6.out.2.cellAt 5
      have c6_6 : w6.cell? ⟨w.heap.size, 6, none⟩ = some (.slice A n cp) := T6.out.2.cellAt 6
      have c6_7 : w6.cell? ⟨w.heap.size, 7, none⟩ = some (.string ap) := T6.out.2.cellAt 7
      have c6_8 : w6.cell? ⟨w.heap.size, 8, none⟩ = some (.string ⟨#[]⟩) := T6.out.2.cellAt 8
      have c6_9 : w6.cell? ⟨w.heap.size, 9, none⟩ = some (.int .i64 size) := T6.out.2.cellAt 9
      have z6 : w.heap.size < w6.heap.size := T6.out.2.here
      clear c5_0 c5_1 c5_2 c5_3 c5_4 c5_5 c5_6 c5_7 c5_8 c5_9 f5_8
      go_wp2_with fail
      refine (KT3.out _ (HL.out _ T6.out.1)).mono ?_
      rintro e w7 ⟨rfl, hb7⟩
      have T7 : Hid (Below w.heap.size w w7 ∧ Bk w7 w.heap.size 30 #[.string nm, .string qu, .int .i64 pr, .int .i64 a, .int .i64 b, .int .i64 c, .slice A n cp, .string ap, .string ⟨#[]⟩, .int .i64 size]) := ⟨T6.out.1.trans (hb7.mono T6.out.1.size), T6.out.2.later hb7⟩
      clear hb7 T6
      have c7_0 : w7.cell? ⟨w.heap.size, 0, none⟩ = some (.string nm) := T7.out.2.cellAt 0
      have c7_1 : w7.cell? ⟨w.heap.size, 1, none⟩ = some (.string qu) := T7.out.2.cellAt 1
      have c7_2 : w7.cell? ⟨w.heap.size, 2, none⟩ = some (.int .i64 pr) := T7.out.2.cellAt 2
      have c7_3 : w7.cell? ⟨w.heap.size, 3, none⟩ = some (.int .i64 a) := T7.out.2.cellAt 3
      have c7_4 : w7.cell? ⟨w.heap.size, 4, none⟩ = some (.int .i64 b) := T7.out.2.cellAt 4
      have c7_5 : w7.cell? ⟨w.heap.size, 5, none⟩ = some (.int .i64 c) := T7.out.2.cellAt 5
      have c7_6 : w7.cell? ⟨w.heap.size, 6, none⟩ = some (.slice A n cp) := T7.out.2.cellAt 6
      have c7_7 : w7.cell? ⟨w.heap.size, 7, none⟩ = some (.string ap) := T7.out.2.cellAt 7
      have c7_8 : w7.cell? ⟨w.heap.size, 8, none⟩ = some (.string ⟨#[]⟩) := T7.out.2.cellAt 8
      have c7_9 : w7.cell? ⟨w.heap.size, 9, none⟩ = some (.int .i64 size) := T7.out.2.cellAt 9
      have z7 : w.heap.size < w7.heap.size := T7.out.2.here
      clear c6_0 c6_1 c6_2 c6_3 c6_4 c6_5 c6_6 c6_7 c6_8 c6_9
      go_wp2
      go_ret
      exact ⟨rfl, T7.out.1⟩
  case neg =>
    obtain ⟨g1, g2⟩ := full_of g0
    rw [gangB_full g0] at kt3
    clear g0
    by_cases hN : nameB gang = true
    case neg =>
      have hN' : nameB gang = false := by simpa using hN
      rw [hN'] at kt3 kq
      simp only [Bool.false_and] at kt3
      clear hN hN'
      by_cases s0 : size = 0
      case pos =>
        subst s0
        rw [decide_eq_true rfl] at kt2
        have KT2 := Lib.hid kt2
        have KT3 := Lib.hid kt3
        have KQ := Lib.hid kq
        clear kt2 kt3 kq
        go_enter Try.func7, Try.ntmps7
        have T0 : Hid (Below w.heap.size w (w.alloc (.cells #[.string nm, .string qu, .int .i64 pr, .int .i64 a, .int .i64 b, .int .i64 c, .slice A n cp, .string ap, .string ga, .int .i64 sz] 30)) ∧ Bk (w.alloc (.cells #[.string nm, .string qu, .int .i64 pr, .int .i64 a, .int .i64 b, .int .i64 c, .slice A n cp, .string ap, .string ga, .int .i64 sz] 30)) w.heap.size 30 #[.string nm, .string qu, .int .i64 pr, .int .i64 a, .int .i64 b, .int .i64 c, .slice A n cp, .string ap, .string ga, .int .i64 sz]) := ⟨(Below.refl _ _).alloc (Nat.le_refl _) _, Bk.fresh _ _ _⟩
        go_wp2_with fail
        refine (awake_any _).mono ?_
        rintro e w1 ⟨rfl, hb1⟩
        have T1 : Hid (Below w.heap.size w w1 ∧ Bk w1 w.heap.size 30 #[.string nm, .string qu, .int .i64 pr, .int .i64 a, .int .i64 b, .int .i64 c, .slice A n cp, .string ap, .string ga, .int .i64 sz]) := ⟨T0.out.1.trans (hb1.mono T0.out.1.size), T0.out.2.later hb1⟩
        clear hb1 T0
        have c1_0 : w1.cell? ⟨w.heap.size, 0, none⟩ = some (.string nm) := T1.out.2.cellAt 0
        have c1_1 : w1.cell? ⟨w.heap.size, 1, none⟩ = some (.string qu) := T1.out.2.cellAt 1
        have c1_2 : w1.cell? ⟨w.heap.size, 2, none⟩ = some (.int .i64 pr) := T1.out.2.cellAt 2
        have c1_3 : w1.cell? ⟨w.heap.size, 3, none⟩ = some (.int .i64 a) := T1.out.2.cellAt 3
        have c1_4 : w1.cell? ⟨w.heap.size, 4, none⟩ = some (.int .i64 b) := T1.out.2.cellAt 4
        have c1_5 : w1.cell? ⟨w.heap.size, 5, none⟩ = some (.int .i64 c) := T1.out.2.cellAt 5
        have c1_6 : w1.cell? ⟨w.heap.size, 6, none⟩ = some (.slice A n cp) := T1.out.2.cellAt 6
        have c1_7 : w1.cell? ⟨w.heap.size, 7, none⟩ = some (.string ap) := T1.out.2.cellAt 7
        have c1_8 : w1.cell? ⟨w.heap.size, 8, none⟩ = some (.string ga) := T1.out.2.cellAt 8
        have c1_9 : w1.cell? ⟨w.heap.size, 9, none⟩ = some (.int .i64 sz) := T1.out.2.cellAt 9
        have z1 : w.heap.size < w1.heap.size := T1.out.2.here
        go_wp2_with fail
        refine (KF.out _ (HL.out _ T1.out.1)).mono ?_
        rintro e w2 ⟨rfl, hb2⟩
        have T2 : Hid (Below w.heap.size w w2 ∧ Bk w2 w.heap.size 30 #[.string nm, .string qu, .int .i64 pr, .int .i64 a, .int .i64 b, .int .i64 c, .slice A n cp, .string ap, .string ga, .int .i64 sz]) := ⟨T1.out.1.trans (hb2.mono T1.out.1.size), T1.out.2.later hb2⟩
        clear hb2 T1
        have c2_0 : w2.cell? ⟨w.heap.size, 0, none⟩ = some (.string nm) := T2.out.2.cellAt 0
        have c2_1 : w2.cell? ⟨w.heap.size, 1, none⟩ = some (.string qu) := T2.out.2.cellAt 1
        have c2_2 : w2.cell? ⟨w.heap.size, 2, none⟩ = some (.int .i64 pr) := T2.out.2.cellAt 2
        have c2_3 : w2.cell? ⟨w.heap.size, 3, none⟩ = some (.int .i64 a) := T2.out.2.cellAt 3
        have c2_4 : w2.cell? ⟨w.heap.size, 4, none⟩ = some (.int .i64 b) := T2.out.2.cellAt 4
        have c2_5 : w2.cell? ⟨w.heap.size, 5, none⟩ = some (.int .i64 c) := T2.out.2.cellAt 5
        have c2_6 : w2.cell? ⟨w.heap.size, 6, none⟩ = some (.slice A n cp) := T2.out.2.cellAt 6
        have c2_7 : w2.cell? ⟨w.heap.size, 7, none⟩ = some (.string ap) := T2.out.2.cellAt 7
        have c2_8 : w2.cell? ⟨w.heap.size, 8, none⟩ = some (.string ga) := T2.out.2.cellAt 8
        have c2_9 : w2.cell? ⟨w.heap.size, 9, none⟩ = some (.int .i64 sz) := T2.out.2.cellAt 9
        have z2 : w.heap.size < w2.heap.size := T2.out.2.here
        clear c1_0 c1_1 c1_2 c1_3 c1_4 c1_5 c1_6 c1_7 c1_8 c1_9
        go_wp2_with fail
        refine (KT0.out _ (HL.out _ T2.out.1)).mono ?_
        rintro e w3 ⟨rfl, hb3⟩
        have T3 : Hid (Below w.heap.size w w3 ∧ Bk w3 w.heap.size 30 #[.string nm, .string qu, .int .i64 pr, .int .i64 a, .int .i64 b, .int .i64 c, .slice A n cp, .string ap, .string ga, .int .i64 sz]) := ⟨T2.out.1.trans (hb3.mono T2.out.1.size), T2.out.2.later hb3⟩
        clear hb3 T2
        have c3_0 : w3.cell? ⟨w.heap.size, 0, none⟩ = some (.string nm) := T3.out.2.cellAt 0
        have c3_1 : w3.cell? ⟨w.heap.size, 1, none⟩ = some (.string qu) := T3.out.2.cellAt 1
        have c3_2 : w3.cell? ⟨w.heap.size, 2, none⟩ = some (.int .i64 pr) := T3.out.2.cellAt 2
        have c3_3 : w3.cell? ⟨w.heap.size, 3, none⟩ = some (.int .i64 a) := T3.out.2.cellAt 3
        have c3_4 : w3.cell? ⟨w.heap.size, 4, none⟩ = some (.int .i64 b) := T3.out.2.cellAt 4
        have c3_5 : w3.cell? ⟨w.heap.size, 5, none⟩ = some (.int .i64 c) := T3.out.2.cellAt 5
        have c3_6 : w3.cell? ⟨w.heap.size, 6, none⟩ = some (.slice A n cp) := T3.out.2.cellAt 6
        have c3_7 : w3.cell? ⟨w.heap.size, 7, none⟩ = some (.string ap) := T3.out.2.cellAt 7
        have c3_8 : w3.cell? ⟨w.heap.size, 8, none⟩ = some (.string ga) := T3.out.2.cellAt 8
        have c3_9 : w3.cell? ⟨w.heap.size, 9, none⟩ = some (.int .i64 sz) := T3.out.2.cellAt 9
        have f3_8 : w3.frozen? ⟨w.heap.size, 8, none⟩ = false := T3.out.2.free 8
        have f3_9 : w3.frozen? ⟨w.heap.size, 9, none⟩ = false := T3.out.2.free 9
        have z3 : w.heap.size < w3.heap.size := T3.out.2.here
        clear c2_0 c2_1 c2_2 c2_3 c2_4 c2_5 c2_6 c2_7 c2_8 c2_9
        have U3 : Hid (Below w.heap.size w ((w3.setCell ⟨w.heap.size, 8, none⟩ (.string ⟨#[]⟩)).setCell ⟨w.heap.size, 9, none⟩ (.int .i64 0)) ∧ Bk ((w3.setCell ⟨w.heap.size, 8, none⟩ (.string ⟨#[]⟩)).setCell ⟨w.heap.size, 9, none⟩ (.int .i64 0)) w.heap.size 30 #[.string nm, .string qu, .int .i64 pr, .int .i64 a, .int .i64 b, .int .i64 c, .slice A n cp, .string ap, .string ⟨#[]⟩, .int .i64 0]) := ⟨((T3.out.1.setCell (p := ⟨w.heap.size, 8, none⟩) (Nat.le_refl _) _).setCell (p := ⟨w.heap.size, 9, none⟩) (Nat.le_refl _) _), ((T3.out.2.put 8 (.string ⟨#[]⟩)).put 9 (.int .i64 0))⟩
        clear T3
        have T3 := U3
        clear U3
        go_wp2_with fail
        refine (KT1.out _ (HL.out _ T3.out.1)).mono ?_
        rintro e w4 ⟨rfl, hb4⟩
        have T4 : Hid (Below w.heap.size w w4 ∧ Bk w4 w.heap.size 30 #[.string nm, .string qu, .int .i64 pr, .int .i64 a, .int .i64 b, .int .i64 c, .slice A n cp, .string ap, .string ⟨#[]⟩, .int .i64 0]) := ⟨T3.out.1.trans (hb4.mono T3.out.1.size), T3.out.2.later hb4⟩
        clear hb4 T3
        have c4_0 : w4.cell? ⟨w.heap.size, 0, none⟩ = some (.string nm) := T4.out.2.cellAt 0
        have c4_1 : w4.cell? ⟨w.heap.size, 1, none⟩ = some (.string qu) := T4.out.2.cellAt 1
        have c4_2 : w4.cell? ⟨w.heap.size, 2, none⟩ = some (.int .i64 pr) := T4.out.2.cellAt 2
        have c4_3 : w4.cell? ⟨w.heap.size, 3, none⟩ = some (.int .i64 a) := T4.out.2.cellAt 3
        have c4_4 : w4.cell? ⟨w.heap.size, 4, none⟩ = some (.int .i64 b) := T4.out.2.cellAt 4
        have c4_5 : w4.cell? ⟨w.heap.size, 5, none⟩ = some (.int .i64 c) := T4.out.2.cellAt 5
        have c4_6 : w4.cell? ⟨w.heap.size, 6, none⟩ = some (.slice A n cp) := T4.out.2.cellAt 6
        have c4_7 : w4.cell? ⟨w.heap.size, 7, none⟩ = some (.string ap) := T4.out.2.cellAt 7
        have c4_8 : w4.cell? ⟨w.heap.size, 8, none⟩ = some (.string ⟨#[]⟩) := T4.out.2.cellAt 8
        have c4_9 : w4.cell? ⟨w.heap.size, 9, none⟩ = some (.int .i64 0) := T4.out.2.cellAt 9
        have f4_9 : w4.frozen? ⟨w.heap.size, 9, none⟩ = false := T4.out.2.free 9
        have z4 : w.heap.size < w4.heap.size := T4.out.2.here
        clear c3_0 c3_1 c3_2 c3_3 c3_4 c3_5 c3_6 c3_7 c3_8 c3_9 f3_8 f3_9
        have U4 : Hid (Below w.heap.size w (w4.setCell ⟨w.heap.size, 9, none⟩ (.int .i64 0)) ∧ Bk (w4.setCell ⟨w.heap.size, 9, none⟩ (.int .i64 0)) w.heap.size 30 #[.string nm, .string qu, .int .i64 pr, .int .i64 a, .int .i64 b, .int .i64 c, .slice A n cp, .string ap, .string ⟨#[]⟩, .int .i64 0]) := ⟨(T4.out.1.setCell (p := ⟨w.heap.size, 9, none⟩) (Nat.le_refl _) _), (T4.out.2.put 9 (.int .i64 0))⟩
        clear T4
        have T4 := U4
        clear U4
        go_wp2_with fail
        refine (KT2.out _ (HL.out _ T4.out.1)).mono ?_
        rintro e w5 ⟨rfl, hb5⟩
        have T5 : Hid (Below w.heap.size w w5 ∧ Bk w5 w.heap.size 30 #[.string nm, .string qu, .int .i64 pr, .int .i64 a, .int .i64 b, .int .i64 c, .slice A n cp, .string ap, .string ⟨#[]⟩, .int .i64 0]) := ⟨T4.out.1.trans (hb5.mono T4.out.1.size), T4.out.2.later hb5⟩
        clear hb5 T4
        have c5_0 : w5.cell? ⟨w.heap.size, 0, none⟩ = some (.string nm) := T5.out.2.cellAt 0
        have c5_1 : w5.cell? ⟨w.heap.size, 1, none⟩ = some (.string qu) := T5.out.2.cellAt 1
        have c5_2 : w5.cell? ⟨w.heap.size, 2, none⟩ = some (.int .i64 pr) := T5.out.2.cellAt 2
        have c5_3 : w5.cell? ⟨w.heap.size, 3, none⟩ = some (.int .i64 a) := T5.out.2.cellAt 3
        have c5_4 : w5.cell? ⟨w.heap.size, 4, none⟩ = some (.int .i64 b) := T5.out.2.cellAt 4
        have c5_5 : w5.cell? ⟨w.heap.size, 5, none⟩ = some (.int .i64 c) := T5.out.2.cellAt 5
        have c5_6 : w5.cell? ⟨w.heap.size, 6, none⟩ = some (.slice A n cp) := T5.out.2.cellAt 6
        have c5_7 : w5.cell? ⟨w.heap.size, 7, none⟩ = some (.string ap) := T5.out.2.cellAt 7
        have c5_8 : w5.cell? ⟨w.heap.size, 8, none⟩ = some (.string ⟨#[]⟩) := T5.out.2.cellAt 8
        have c5_9 : w5.cell? ⟨w.heap.size, 9, none⟩ = some (.int .i64 0) := T5.out.2.cellAt 9
        have f5_8 : w5.frozen? ⟨w.heap.size, 8, none⟩ = false := T5.out.2.free 8
        have z5 : w.heap.size < w5.heap.size := T5.out.2.here
        clear c4_0 c4_1 c4_2 c4_3 c4_4 c4_5 c4_6 c4_7 c4_8 c4_9 f4_9
        have U5 : Hid (Below w.heap.size w (w5.setCell ⟨w.heap.size, 8, none⟩ (.string gang)) ∧ Bk (w5.setCell ⟨w.heap.size, 8, none⟩ (.string gang)) w.heap.size 30 #[.string nm, .string qu, .int .i64 pr, .int .i64 a, .int .i64 b, .int .i64 c, .slice A n cp, .string ap, .string gang, .int .i64 0]) := ⟨(T5.out.1.setCell (p := ⟨w.heap.size, 8, none⟩) (Nat.le_refl _) _), (T5.out.2.put 8 (.string gang))⟩
        clear T5
        have T5 := U5
        clear U5
        go_wp2_with fail
        refine (KQ.out _).mono ?_
        rintro e w6 ⟨rfl, hb6⟩
        have T6 : Hid (Below w.heap.size w w6 ∧ Bk w6 w.heap.size 30 #[.string nm, .string qu, .int .i64 pr, .int .i64 a, .int .i64 b, .int .i64 c, .slice A n cp, .string ap, .string gang, .int .i64 0]) := ⟨T5.out.1.trans (hb6.mono T5.out.1.size), T5.out.2.later hb6⟩
        clear hb6 T5
        have c6_0 : w6.cell? ⟨w.heap.size, 0, none⟩ = some (.string nm) := T6.out.2.cellAt 0
        have c6_1 : w6.cell? ⟨w.heap.size, 1, none⟩ = some (.string qu) := T6.out.2.cellAt 1
        have c6_2 : w6.cell? ⟨w.heap.size, 2, none⟩ = some (.int .i64 pr) := T6.out.2.cellAt 2
        have c6_3 : w6.cell? ⟨w.heap.size, 3, none⟩ = some (.int .i64 a) := T6.out.2.cellAt 3
        have c6_4 : w6.cell? ⟨w.heap.size, 4, none⟩ = some (.int .i64 b) := T6.out.2.cellAt 4
        have c6_5 : w6.cell? ⟨w.heap.size, 5, none⟩ = some (.int .i64 c) := T6.out.2.cellAt 5
        have c6_6 : w6.cell? ⟨w.heap.size, 6, none⟩ = some (.slice A n cp) := T6.out.2.cellAt 6
        have c6_7 : w6.cell? ⟨w.heap.size, 7, none⟩ = some (.string ap) := T6.out.2.cellAt 7
        have c6_8 : w6.cell? ⟨w.heap.size, 8, none⟩ = some (.string gang) := T6.out.2.cellAt 8
        have c6_9 : w6.cell? ⟨w.heap.size, 9, none⟩ = some (.int .i64 0) := T6.out.2.cellAt 9
        have z6 : w.heap.size < w6.heap.size := T6.out.2.here
        clear c5_0 c5_1 c5_2 c5_3 c5_4 c5_5 c5_6 c5_7 c5_8 c5_9 f5_8
        go_wp2_with fail
        refine (KT3.out _ (HL.out _ T6.out.1)).mono ?_
        rintro e w7 ⟨rfl, hb7⟩
        have T7 : Hid (Below w.heap.size w w7 ∧ Bk w7 w.heap.size 30 #[.string nm, .string qu, .int .i64 pr, .int .i64 a, .int .i64 b, .int .i64 c, .slice A n cp, .string ap, .string gang, .int .i64 0]) := ⟨T6.out.1.trans (hb7.mono T6.out.1.size), T6.out.2.later hb7⟩
        clear hb7 T6
        have c7_0 : w7.cell? ⟨w.heap.size, 0, none⟩ = some (.string nm) := T7.out.2.cellAt 0
        have c7_1 : w7.cell? ⟨w.heap.size, 1, none⟩ = some (.string qu) := T7.out.2.cellAt 1
        have c7_2 : w7.cell? ⟨w.heap.size, 2, none⟩ = some (.int .i64 pr) := T7.out.2.cellAt 2
        have c7_3 : w7.cell? ⟨w.heap.size, 3, none⟩ = some (.int .i64 a) := T7.out.2.cellAt 3
        have c7_4 : w7.cell? ⟨w.heap.size, 4, none⟩ = some (.int .i64 b) := T7.out.2.cellAt 4
        have c7_5 : w7.cell? ⟨w.heap.size, 5, none⟩ = some (.int .i64 c) := T7.out.2.cellAt 5
        have c7_6 : w7.cell? ⟨w.heap.size, 6, none⟩ = some (.slice A n cp) := T7.out.2.cellAt 6
        have c7_7 : w7.cell? ⟨w.heap.size, 7, none⟩ = some (.string ap) := T7.out.2.cellAt 7
        have c7_8 : w7.cell? ⟨w.heap.size, 8, none⟩ = some (.string gang) := T7.out.2.cellAt 8
        have c7_9 : w7.cell? ⟨w.heap.size, 9, none⟩ = some (.int .i64 0) := T7.out.2.cellAt 9
        have z7 : w.heap.size < w7.heap.size := T7.out.2.here
        clear c6_0 c6_1 c6_2 c6_3 c6_4 c6_5 c6_6 c6_7 c6_8 c6_9
        go_wp2
        go_ret
        exact ⟨rfl, T7.out.1⟩
      case neg =>
        have s1 : (size == 0) = false := by simpa using s0
        rw [decide_eq_false s0] at kt2
        clear s0
        have KT2 := Lib.hid kt2
        have KT3 := Lib.hid kt3
        have KQ := Lib.hid kq
        clear kt2 kt3 kq
        go_enter Try.func7, Try.ntmps7
        have T0 : Hid (Below w.heap.size w (w.alloc (.cells #[.string nm, .string qu, .int .i64 pr, .int .i64 a, .int .i64 b, .int .i64 c, .slice A n cp, .string ap, .string ga, .int .i64 sz] 30)) ∧ Bk (w.alloc (.cells #[.string nm, .string qu, .int .i64 pr, .int .i64 a, .int .i64 b, .int .i64 c, .slice A n cp, .string ap, .string ga, .int .i64 sz] 30)) w.heap.size 30 #[.string nm, .string qu, .int .i64 pr, .int .i64 a, .int .i64 b, .int .i64 c, .slice A n cp, .string ap, .string ga, .int .i64 sz]) := ⟨(Below.refl _ _).alloc (Nat.le_refl _) _, Bk.fresh _ _ _⟩
        go_wp2_with fail
        refine (awake_any _).mono ?_
        rintro e w1 ⟨rfl, hb1⟩
        have T1 : Hid (Below w.heap.size w w1 ∧ Bk w1 w.heap.size 30 #[.string nm, .string qu, .int .i64 pr, .int .i64 a, .int .i64 b, .int .i64 c, .slice A n cp, .string ap, .string ga, .int .i64 sz]) := ⟨T0.out.1.trans (hb1.mono T0.out.1.size), T0.out.2.later hb1⟩
        clear hb1 T0
        have c1_0 : w1.cell? ⟨w.heap.size, 0, none⟩ = some (.string nm) := T1.out.2.cellAt 0
        have c1_1 : w1.cell? ⟨w.heap.size, 1, none⟩ = some (.string qu) := T1.out.2.cellAt 1
        have c1_2 : w1.cell? ⟨w.heap.size, 2, none⟩ = some (.int .i64 pr) := T1.out.2.cellAt 2
        have c1_3 : w1.cell? ⟨w.heap.size, 3, none⟩ = some (.int .i64 a) := T1.out.2.cellAt 3
        have c1_4 : w1.cell? ⟨w.heap.size, 4, none⟩ = some (.int .i64 b) := T1.out.2.cellAt 4
        have c1_5 : w1.cell? ⟨w.heap.size, 5, none⟩ = some (.int .i64 c) := T1.out.2.cellAt 5
        have c1_6 : w1.cell? ⟨w.heap.size, 6, none⟩ = some (.slice A n cp) := T1.out.2.cellAt 6
        have c1_7 : w1.cell? ⟨w.heap.size, 7, none⟩ = some (.string ap) := T1.out.2.cellAt 7
        have c1_8 : w1.cell? ⟨w.heap.size, 8, none⟩ = some (.string ga) := T1.out.2.cellAt 8
        have c1_9 : w1.cell? ⟨w.heap.size, 9, none⟩ = some (.int .i64 sz) := T1.out.2.cellAt 9
        have z1 : w.heap.size < w1.heap.size := T1.out.2.here
        go_wp2_with fail
        refine (KF.out _ (HL.out _ T1.out.1)).mono ?_
        rintro e w2 ⟨rfl, hb2⟩
        have T2 : Hid (Below w.heap.size w w2 ∧ Bk w2 w.heap.size 30 #[.string nm, .string qu, .int .i64 pr, .int .i64 a, .int .i64 b, .int .i64 c, .slice A n cp, .string ap, .string ga, .int .i64 sz]) := ⟨T1.out.1.trans (hb2.mono T1.out.1.size), T1.out.2.later hb2⟩
        clear hb2 T1
        have c2_0 : w2.cell? ⟨w.heap.size, 0, none⟩ = some (.string nm) := T2.out.2.cellAt 0
        have c2_1 : w2.cell? ⟨w.heap.size, 1, none⟩ = some (.string qu) := T2.out.2.cellAt 1
        have c2_2 : w2.cell? ⟨w.heap.size, 2, none⟩ = some (.int .i64 pr) := T2.out.2.cellAt 2
        have c2_3 : w2.cell? ⟨w.heap.size, 3, none⟩ = some (.int .i64 a) := T2.out.2.cellAt 3
        have c2_4 : w2.cell? ⟨w.heap.size, 4, none⟩ = some (.int .i64 b) := T2.out.2.cellAt 4
        have c2_5 : w2.cell? ⟨w.heap.size, 5, none⟩ = some (.int .i64 c) := T2.out.2.cellAt 5
        have c2_6 : w2.cell? ⟨w.heap.size, 6, none⟩ = some (.slice A n cp) := T2.out.2.cellAt 6
        have c2_7 : w2.cell? ⟨w.heap.size, 7, none⟩ = some (.string ap) := T2.out.2.cellAt 7
        have c2_8 : w2.cell? ⟨w.heap.size, 8, none⟩ = some (.string ga) := T2.out.2.cellAt 8
        have c2_9 : w2.cell? ⟨w.heap.size, 9, none⟩ = some (.int .i64 sz) := T2.out.2.cellAt 9
        have z2 : w.heap.size < w2.heap.size := T2.out.2.here
        clear c1_0 c1_1 c1_2 c1_3 c1_4 c1_5 c1_6 c1_7 c1_8 c1_9
        go_wp2_with fail
        refine (KT0.out _ (HL.out _ T2.out.1)).mono ?_
        rintro e w3 ⟨rfl, hb3⟩
        have T3 : Hid (Below w.heap.size w w3 ∧ Bk w3 w.heap.size 30 #[.string nm, .string qu, .int .i64 pr, .int .i64 a, .int .i64 b, .int .i64 c, .slice A n cp, .string ap, .string ga, .int .i64 sz]) := ⟨T2.out.1.trans (hb3.mono T2.out.1.size), T2.out.2.later hb3⟩
        clear hb3 T2
        have c3_0 : w3.cell? ⟨w.heap.size, 0, none⟩ = some (.string nm) := T3.out.2.cellAt 0
        have c3_1 : w3.cell? ⟨w.heap.size, 1, none⟩ = some (.string qu) := T3.out.2.cellAt 1
        have c3_2 : w3.cell? ⟨w.heap.size, 2, none⟩ = some (.int .i64 pr) := T3.out.2.cellAt 2
        have c3_3 : w3.cell? ⟨w.heap.size, 3, none⟩ = some (.int .i64 a) := T3.out.2.cellAt 3
        have c3_4 : w3.cell? ⟨w.heap.size, 4, none⟩ = some (.int .i64 b) := T3.out.2.cellAt 4
        have c3_5 : w3.cell? ⟨w.heap.size, 5, none⟩ = some (.int .i64 c) := T3.out.2.cellAt 5
        have c3_6 : w3.cell? ⟨w.heap.size, 6, none⟩ = some (.slice A n cp) := T3.out.2.cellAt 6
        have c3_7 : w3.cell? ⟨w.heap.size, 7, none⟩ = some (.string ap) := T3.out.2.cellAt 7
        have c3_8 : w3.cell? ⟨w.heap.size, 8, none⟩ = some (.string ga) := T3.out.2.cellAt 8
        have c3_9 : w3.cell? ⟨w.heap.size, 9, none⟩ = some (.int .i64 sz) := T3.out.2.cellAt 9
        have f3_8 : w3.frozen? ⟨w.heap.size, 8, none⟩ = false := T3.out.2.free 8
        have f3_9 : w3.frozen? ⟨w.heap.size, 9, none⟩ = false := T3.out.2.free 9
        have z3 : w.heap.size < w3.heap.size := T3.out.2.here
        clear c2_0 c2_1 c2_2 c2_3 c2_4 c2_5 c2_6 c2_7 c2_8 c2_9
        have U3 : Hid (Below w.heap.size w ((w3.setCell ⟨w.heap.size, 8, none⟩ (.string ⟨#[]⟩)).setCell ⟨w.heap.size, 9, none⟩ (.int .i64 0)) ∧ Bk ((w3.setCell ⟨w.heap.size, 8, none⟩ (.string ⟨#[]⟩)).setCell ⟨w.heap.size, 9, none⟩ (.int .i64 0)) w.heap.size 30 #[.string nm, .string qu, .int .i64 pr, .int .i64 a, .int .i64 b, .int .i64 c, .slice A n cp, .string ap, .string ⟨#[]⟩, .int .i64 0]) := ⟨((T3.out.1.setCell (p := ⟨w.heap.size, 8, none⟩) (Nat.le_refl _) _).setCell (p := ⟨w.heap.size, 9, none⟩) (Nat.le_refl _) _), ((T3.out.2.put 8 (.string ⟨#[]⟩)).put 9 (.int .i64 0))⟩
        clear T3
        have T3 := U3
        clear U3
        go_wp2_with fail
        refine (KT1.out _ (HL.out _ T3.out.1)).mono ?_
        rintro e w4 ⟨rfl, hb4⟩
        have T4 : Hid (Below w.heap.size w w4 ∧ Bk w4 w.heap.size 30 #[.string nm, .string qu, .int .i64 pr, .int .i64 a, .int .i64 b, .int .i64 c, .slice A n cp, .string ap, .string ⟨#[]⟩, .int .i64 0]) := ⟨T3.out.1.trans (hb4.mono T3.out.1.size), T3.out.2.later hb4⟩
        clear hb4 T3
        have c4_0 : w4.cell? ⟨w.heap.size, 0, none⟩ = some (.string nm) := T4.out.2.cellAt 0
        have c4_1 : w4.cell? ⟨w.heap.size, 1, none⟩ = some (.string qu) := T4.out.2.cellAt 1
        have c4_2 : w4.cell? ⟨w.heap.size, 2, none⟩ = some (.int .i64 pr) := T4.out.2.cellAt 2
        have c4_3 : w4.cell? ⟨w.heap.size, 3, none⟩ = some (.int .i64 a) := T4.out.2.cellAt 3
        have c4_4 : w4.cell? ⟨w.heap.size, 4, none⟩ = some (.int .i64 b) := T4.out.2.cellAt 4
        have c4_5 : w4.cell? ⟨w.heap.size, 5, none⟩ = some (.int .i64 c) := T4.out.2.cellAt 5
        have c4_6 : w4.cell? ⟨w.heap.size, 6, none⟩ = some (.slice A n cp) := T4.out.2.cellAt 6
        have c4_7 : w4.cell? ⟨w.heap.size, 7, none⟩ = some (.string ap) := T4.out.2.cellAt 7
        have c4_8 : w4.cell? ⟨w.heap.size, 8, none⟩ = some (.string ⟨#[]⟩) := T4.out.2.cellAt 8
        have c4_9 : w4.cell? ⟨w.heap.size, 9, none⟩ = some (.int .i64 0) := T4.out.2.cellAt 9
        have f4_9 : w4.frozen? ⟨w.heap.size, 9, none⟩ = false := T4.out.2.free 9
        have z4 : w.heap.size < w4.heap.size := T4.out.2.here
        clear c3_0 c3_1 c3_2 c3_3 c3_4 c3_5 c3_6 c3_7 c3_8 c3_9 f3_8 f3_9
        have U4 : Hid (Below w.heap.size w (w4.setCell ⟨w.heap.size, 9, none⟩ (.int .i64 size)) ∧ Bk (w4.setCell ⟨w.heap.size, 9, none⟩ (.int .i64 size)) w.heap.size 30 #[.string nm, .string qu, .int .i64 pr, .int .i64 a, .int .i64 b, .int .i64 c, .slice A n cp, .string ap, .string ⟨#[]⟩, .int .i64 size]) := ⟨(T4.out.1.setCell (p := ⟨w.heap.size, 9, none⟩) (Nat.le_refl _) _), (T4.out.2.put 9 (.int .i64 size))⟩
        clear T4
        have T4 := U4
        clear U4
        go_wp2_with fail
        refine (KT2.out _ (HL.out _ T4.out.1)).mono ?_
        rintro e w5 ⟨rfl, hb5⟩
        have T5 : Hid (Below w.heap.size w w5 ∧ Bk w5 w.heap.size 30 #[.string nm, .string qu, .int .i64 pr, .int .i64 a, .int .i64 b, .int .i64 c, .slice A n cp, .string ap, .string ⟨#[]⟩, .int .i64 size]) := ⟨T4.out.1.trans (hb5.mono T4.out.1.size), T4.out.2.later hb5⟩
        clear hb5 T4
        have c5_0 : w5.cell? ⟨w.heap.size, 0, none⟩ = some (.string nm) := T5.out.2.cellAt 0
        have c5_1 : w5.cell? ⟨w.heap.size, 1, none⟩ = some (.string qu) := T5.out.2.cellAt 1
        have c5_2 : w5.cell? ⟨w.heap.size, 2, none⟩ = some (.int .i64 pr) := T5.out.2.cellAt 2
        have c5_3 : w5.cell? ⟨w.heap.size, 3, none⟩ = some (.int .i64 a) := T5.out.2.cellAt 3
        have c5_4 : w5.cell? ⟨w.heap.size, 4, none⟩ = some (.int .i64 b) := T5.out.2.cellAt 4
        have c5_5 : w5.cell? ⟨w.heap.size, 5, none⟩ = some (.int .i64 c) := T5.out.2.cellAt 5
        have c5_6 : w5.cell? ⟨w.heap.size, 6, none⟩ = some (.slice A n cp) := T5.out.2.cellAt 6
        have c5_7 : w5.cell? ⟨w.heap.size, 7, none⟩ = some (.string ap) := T5.out.2.cellAt 7
        have c5_8 : w5.cell? ⟨w.heap.size, 8, none⟩ = some (.string ⟨#[]⟩) := T5.out.2.cellAt 8
        have c5_9 : w5.cell? ⟨w.heap.size, 9, none⟩ = some (.int .i64 size) := T5.out.2.cellAt 9
        have f5_8 : w5.frozen? ⟨w.heap.size, 8, none⟩ = false := T5.out.2.free 8
        have z5 : w.heap.size < w5.heap.size := T5.out.2.here
        clear c4_0 c4_1 c4_2 c4_3 c4_4 c4_5 c4_6 c4_7 c4_8 c4_9 f4_9
        have U5 : Hid (Below w.heap.size w (w5.setCell ⟨w.heap.size, 8, none⟩ (.string gang)) ∧ Bk (w5.setCell ⟨w.heap.size, 8, none⟩ (.string gang)) w.heap.size 30 #[.string nm, .string qu, .int .i64 pr, .int .i64 a, .int .i64 b, .int .i64 c, .slice A n cp, .string ap, .string gang, .int .i64 size]) := ⟨(T5.out.1.setCell (p := ⟨w.heap.size, 8, none⟩) (Nat.le_refl _) _), (T5.out.2.put 8 (.string gang))⟩
        clear T5
        have T5 := U5
        clear U5
        go_wp2_with fail
        refine (KQ.out _).mono ?_
        rintro e w6 ⟨rfl, hb6⟩
        have T6 : Hid (Below w.heap.size w w6 ∧ Bk w6 w.heap.size 30 #[.string nm, .string qu, .int .i64 pr, .int .i64 a, .int .i64 b, .int .i64 c, .slice A n cp, .string ap, .string gang, .int .i64 size]) := ⟨T5.out.1.trans (hb6.mono T5.out.1.size), T5.out.2.later hb6⟩
        clear hb6 T5
        have c6_0 : w6.cell? ⟨w.heap.size, 0, none⟩ = some (.string nm) := T6.out.2.cellAt 0
        have c6_1 : w6.cell? ⟨w.heap.size, 1, none⟩ = some (.string qu) := T6.out.2.cellAt 1
        have c6_2 : w6.cell? ⟨w.heap.size, 2, none⟩ = some (.int .i64 pr) := T6.out.2.cellAt 2
        have c6_3 : w6.cell? ⟨w.heap.size, 3, none⟩ = some (.int .i64 a) := T6.out.2.cellAt 3
        have c6_4 : w6.cell? ⟨w.heap.size, 4, none⟩ = some (.int .i64 b) := T6.out.2.cellAt 4
        have c6_5 : w6.cell? ⟨w.heap.size, 5, none⟩ = some (.int .i64 c) := T6.out.2.cellAt 5
        have c6_6 : w6.cell? ⟨w.heap.size, 6, none⟩ = some (.slice A n cp) := T6.out.2.cellAt 6
        have c6_7 : w6.cell? ⟨w.heap.size, 7, none⟩ = some (.string ap) := T6.out.2.cellAt 7
        have c6_8 : w6.cell? ⟨w.heap.size, 8, none⟩ = some (.string gang) := T6.out.2.cellAt 8
        have c6_9 : w6.cell? ⟨w.heap.size, 9, none⟩ = some (.int .i64 size) := T6.out.2.cellAt 9
        have z6 : w.heap.size < w6.heap.size := T6.out.2.here
        clear c5_0 c5_1 c5_2 c5_3 c5_4 c5_5 c5_6 c5_7 c5_8 c5_9 f5_8
        go_wp2_with fail
        refine (KT3.out _ (HL.out _ T6.out.1)).mono ?_
        rintro e w7 ⟨rfl, hb7⟩
        have T7 : Hid (Below w.heap.size w w7 ∧ Bk w7 w.heap.size 30 #[.string nm, .string qu, .int .i64 pr, .int .i64 a, .int .i64 b, .int .i64 c, .slice A n cp, .string ap, .string gang, .int .i64 size]) := ⟨T6.out.1.trans (hb7.mono T6.out.1.size), T6.out.2.later hb7⟩
        clear hb7 T6
        have c7_0 : w7.cell? ⟨w.heap.size, 0, none⟩ = some (.string nm) := T7.out.2.cellAt 0
        have c7_1 : w7.cell? ⟨w.heap.size, 1, none⟩ = some (.string qu) := T7.out.2.cellAt 1
        have c7_2 : w7.cell? ⟨w.heap.size, 2, none⟩ = some (.int .i64 pr) := T7.out.2.cellAt 2
        have c7_3 : w7.cell? ⟨w.heap.size, 3, none⟩ = some (.int .i64 a) := T7.out.2.cellAt 3
        have c7_4 : w7.cell? ⟨w.heap.size, 4, none⟩ = some (.int .i64 b) := T7.out.2.cellAt 4
        have c7_5 : w7.cell? ⟨w.heap.size, 5, none⟩ = some (.int .i64 c) := T7.out.2.cellAt 5
        have c7_6 : w7.cell? ⟨w.heap.size, 6, none⟩ = some (.slice A n cp) := T7.out.2.cellAt 6
        have c7_7 : w7.cell? ⟨w.heap.size, 7, none⟩ = some (.string ap) := T7.out.2.cellAt 7
        have c7_8 : w7.cell? ⟨w.heap.size, 8, none⟩ = some (.string gang) := T7.out.2.cellAt 8
        have c7_9 : w7.cell? ⟨w.heap.size, 9, none⟩ = some (.int .i64 size) := T7.out.2.cellAt 9
        have z7 : w.heap.size < w7.heap.size := T7.out.2.here
        clear c6_0 c6_1 c6_2 c6_3 c6_4 c6_5 c6_6 c6_7 c6_8 c6_9
        go_wp2
        go_ret
        exact ⟨rfl, T7.out.1⟩
    case pos =>
      rw [hN] at kt3 kq
      simp only [Bool.true_and] at kt3
      clear hN
      by_cases b2 : 2 ≤ size
      case pos =>
        have s0 : ¬ size = 0 := by omega
        have s1 : (size == 0) = false := by simpa using s0
        rw [decide_eq_false s0] at kt2
        rw [decide_eq_true b2, Bool.true_and] at kt3
        clear s0
        by_cases b4 : size ≤ 4
        case pos =>
          rw [decide_eq_true b4] at kt3
          have KT2 := Lib.hid kt2
          have KT3 := Lib.hid kt3
          have KQ := Lib.hid kq
          clear kt2 kt3 kq
          go_enter Try.func7, Try.ntmps7
          have T0 : Hid (Below w.heap.size w (w.alloc (.cells #[.string nm, .string qu, .int .i64 pr, .int .i64 a, .int .i64 b, .int .i64 c, .slice A n cp, .string ap, .string ga, .int .i64 sz] 30)) ∧ Bk (w.alloc (.cells #[.string nm, .string qu, .int .i64 pr, .int .i64 a, .int .i64 b, .int .i64 c, .slice A n cp, .string ap, .string ga, .int .i64 sz] 30)) w.heap.size 30 #[.string nm, .string qu, .int .i64 pr, .int .i64 a, .int .i64 b, .int .i64 c, .slice A n cp, .string ap, .string ga, .int .i64 sz]) := ⟨(Below.refl _ _).alloc (Nat.le_refl _) _, Bk.fresh _ _ _⟩
          go_wp2_with fail
          refine (awake_any _).mono ?_
          rintro e w1 ⟨rfl, hb1⟩
          have T1 : Hid (Below w.heap.size w w1 ∧ Bk w1 w.heap.size 30 #[.string nm, .string qu, .int .i64 pr, .int .i64 a, .int .i64 b, .int .i64 c, .slice A n cp, .string ap, .string ga, .int .i64 sz]) := ⟨T0.out.1.trans (hb1.mono T0.out.1.size), T0.out.2.later hb1⟩
          clear hb1 T0
          have c1_0 : w1.cell? ⟨w.heap.size, 0, none⟩ = some (.string nm) := T1.out.2.cellAt 0
          have c1_1 : w1.cell? ⟨w.heap.size, 1, none⟩ = some (.string qu) := T1.out.2.cellAt 1
          have c1_2 : w1.cell? ⟨w.heap.size, 2, none⟩ = some (.int .i64 pr) := T1.out.2.cellAt 2
          have c1_3 : w1.cell? ⟨w.heap.size, 3, none⟩ = some (.int .i64 a) := T1.out.2.cellAt 3
          have c1_4 : w1.cell? ⟨w.heap.size, 4, none⟩ = some (.int .i64 b) := T1.out.2.cellAt 4
          have c1_5 : w1.cell? ⟨w.heap.size, 5, none⟩ = some (.int .i64 c) := T1.out.2.cellAt 5
          have c1_6 : w1.cell? ⟨w.heap.size, 6, none⟩ = some (.slice A n cp) := T1.out.2.cellAt 6
          have c1_7 : w1.cell? ⟨w.heap.size, 7, none⟩ = some (.string ap) := T1.out.2.cellAt 7
          have c1_8 : w1.cell? ⟨w.heap.size, 8, none⟩ = some (.string ga) := T1.out.2.cellAt 8
          have c1_9 : w1.cell? ⟨w.heap.size, 9, none⟩ = some (.int .i64 sz) := T1.out.2.cellAt 9
          have z1 : w.heap.size < w1.heap.size := T1.out.2.here
          go_wp2_with fail
          refine (KF.out _ (HL.out _ T1.out.1)).mono ?_
          rintro e w2 ⟨rfl, hb2⟩
          have T2 : Hid (Below w.heap.size w w2 ∧ Bk w2 w.heap.size 30 #[.string nm, .string qu, .int .i64 pr, .int .i64 a, .int .i64 b, .int .i64 c, .slice A n cp, .string ap, .string ga, .int .i64 sz]) := ⟨T1.out.1.trans (hb2.mono T1.out.1.size), T1.out.2.later hb2⟩
          clear hb2 T1
          have c2_0 : w2.cell? ⟨w.heap.size, 0, none⟩ = some (.string nm) := T2.out.2.cellAt 0
          have c2_1 : w2.cell? ⟨w.heap.size, 1, none⟩ = some (.string qu) := T2.out.2.cellAt 1
          have c2_2 : w2.cell? ⟨w.heap.size, 2, none⟩ = some (.int .i64 pr) := T2.out.2.cellAt 2
          have c2_3 : w2.cell? ⟨w.heap.size, 3, none⟩ = some (.int .i64 a) := T2.out.2.cellAt 3
          have c2_4 : w2.cell? ⟨w.heap.size, 4, none⟩ = some (.int .i64 b) := T2.out.2.cellAt 4
          have c2_5 : w2.cell? ⟨w.heap.size, 5, none⟩ = some (.int .i64 c) := T2.out.2.cellAt 5
          have c2_6 : w2.cell? ⟨w.heap.size, 6, none⟩ = some (.slice A n cp) := T2.out.2.cellAt 6
          have c2_7 : w2.cell? ⟨w.heap.size, 7, none⟩ = some (.string ap) := T2.out.2.cellAt 7
          have c2_8 : w2.cell? ⟨w.heap.size, 8, none⟩ = some (.string ga) := T2.out.2.cellAt 8
          have c2_9 : w2.cell? ⟨w.heap.size, 9, none⟩ = some (.int .i64 sz) := T2.out.2.cellAt 9
          have z2 : w.heap.size < w2.heap.size := T2.out.2.here
          clear c1_0 c1_1 c1_2 c1_3 c1_4 c1_5 c1_6 c1_7 c1_8 c1_9
          go_wp2_with fail
          refine (KT0.out _ (HL.out _ T2.out.1)).mono ?_
          rintro e w3 ⟨rfl, hb3⟩
          have T3 : Hid (Below w.heap.size w w3 ∧ Bk w3 w.heap.size 30 #[.string nm, .string qu, .int .i64 pr, .int .i64 a, .int .i64 b, .int .i64 c, .slice A n cp, .string ap, .string ga, .int .i64 sz]) := ⟨T2.out.1.trans (hb3.mono T2.out.1.size), T2.out.2.later hb3⟩
          clear hb3 T2
          have c3_0 : w3.cell? ⟨w.heap.size, 0, none⟩ = some (.string nm) := T3.out.2.cellAt 0
          have c3_1 : w3.cell? ⟨w.heap.size, 1, none⟩ = some (.string qu) := T3.out.2.cellAt 1
          have c3_2 : w3.cell? ⟨w.heap.size, 2, none⟩ = some (.int .i64 pr) := T3.out.2.cellAt 2
          have c3_3 : w3.cell? ⟨w.heap.size, 3, none⟩ = some (.int .i64 a) := T3.out.2.cellAt 3
          have c3_4 : w3.cell? ⟨w.heap.size, 4, none⟩ = some (.int .i64 b) := T3.out.2.cellAt 4
          have c3_5 : w3.cell? ⟨w.heap.size, 5, none⟩ = some (.int .i64 c) := T3.out.2.cellAt 5
          have c3_6 : w3.cell? ⟨w.heap.size, 6, none⟩ = some (.slice A n cp) := T3.out.2.cellAt 6
          have c3_7 : w3.cell? ⟨w.heap.size, 7, none⟩ = some (.string ap) := T3.out.2.cellAt 7
          have c3_8 : w3.cell? ⟨w.heap.size, 8, none⟩ = some (.string ga) := T3.out.2.cellAt 8
          have c3_9 : w3.cell? ⟨w.heap.size, 9, none⟩ = some (.int .i64 sz) := T3.out.2.cellAt 9
          have f3_8 : w3.frozen? ⟨w.heap.size, 8, none⟩ = false := T3.out.2.free 8
          have f3_9 : w3.frozen? ⟨w.heap.size, 9, none⟩ = false := T3.out.2.free 9
          have z3 : w.heap.size < w3.heap.size := T3.out.2.here
          clear c2_0 c2_1 c2_2 c2_3 c2_4 c2_5 c2_6 c2_7 c2_8 c2_9
          have U3 : Hid (Below w.heap.size w ((w3.setCell ⟨w.heap.size, 8, none⟩ (.string ⟨#[]⟩)).setCell ⟨w.heap.size, 9, none⟩ (.int .i64 0)) ∧ Bk ((w3.setCell ⟨w.heap.size, 8, none⟩ (.string ⟨#[]⟩)).setCell ⟨w.heap.size, 9, none⟩ (.int .i64 0)) w.heap.size 30 #[.string nm, .string qu, .int .i64 pr, .int .i64 a, .int .i64 b, .int .i64 c, .slice A n cp, .string ap, .string ⟨#[]⟩, .int .i64 0]) := ⟨((T3.out.1.setCell (p := ⟨w.heap.size, 8, none⟩) (Nat.le_refl _) _).setCell (p := ⟨w.heap.size, 9, none⟩) (Nat.le_refl _) _), ((T3.out.2.put 8 (.string ⟨#[]⟩)).put 9 (.int .i64 0))⟩
          clear T3
          have T3 := U3
          clear U3
          go_wp2_with fail
          refine (KT1.out _ (HL.out _ T3.out.1)).mono ?_
          rintro e w4 ⟨rfl, hb4⟩
          have T4 : Hid (Below w.heap.size w w4 ∧ Bk w4 w.heap.size 30 #[.string nm, .string qu, .int .i64 pr, .int .i64 a, .int .i64 b, .int .i64 c, .slice A n cp, .string ap, .string ⟨#[]⟩, .int .i64 0]) := ⟨T3.out.1.trans (hb4.mono T3.out.1.size), T3.out.2.later hb4⟩
          clear hb4 T3
          have c4_0 : w4.cell? ⟨w.heap.size, 0, none⟩ = some (.string nm) := T4.out.2.cellAt 0
          have c4_1 : w4.cell? ⟨w.heap.size, 1, none⟩ = some (.string qu) := T4.out.2.cellAt 1
          have c4_2 : w4.cell? ⟨w.heap.size, 2, none⟩ = some (.int .i64 pr) := T4.out.2.cellAt 2
          have c4_3 : w4.cell? ⟨w.heap.size, 3, none⟩ = some (.int .i64 a) := T4.out.2.cellAt 3
          have c4_4 : w4.cell? ⟨w.heap.size, 4, none⟩ = some (.int .i64 b) := T4.out.2.cellAt 4
          have c4_5 : w4.cell? ⟨w.heap.size, 5, none⟩ = some (.int .i64 c) := T4.out.2.cellAt 5
          have c4_6 : w4.cell? ⟨w.heap.size, 6, none⟩ = some (.slice A n cp) := T4.out.2.cellAt 6
          have c4_7 : w4.cell? ⟨w.heap.size, 7, none⟩ = some (.string ap) := T4.out.2.cellAt 7
          have c4_8 : w4.cell? ⟨w.heap.size, 8, none⟩ = some (.string ⟨#[]⟩) := T4.out.2.cellAt 8
          have c4_9 : w4.cell? ⟨w.heap.size, 9, none⟩ = some (.int .i64 0) := T4.out.2.cellAt 9
          have f4_9 : w4.frozen? ⟨w.heap.size, 9, none⟩ = false := T4.out.2.free 9
          have z4 : w.heap.size < w4.heap.size := T4.out.2.here
          clear c3_0 c3_1 c3_2 c3_3 c3_4 c3_5 c3_6 c3_7 c3_8 c3_9 f3_8 f3_9
          have U4 : Hid (Below w.heap.size w (w4.setCell ⟨w.heap.size, 9, none⟩ (.int .i64 size)) ∧ Bk (w4.setCell ⟨w.heap.size, 9, none⟩ (.int .i64 size)) w.heap.size 30 #[.string nm, .string qu, .int .i64 pr, .int .i64 a, .int .i64 b, .int .i64 c, .slice A n cp, .string ap, .string ⟨#[]⟩, .int .i64 size]) := ⟨(T4.out.1.setCell (p := ⟨w.heap.size, 9, none⟩) (Nat.le_refl _) _), (T4.out.2.put 9 (.int .i64 size))⟩
          clear T4
          have T4 := U4
          clear U4
          go_wp2_with fail
          refine (KT2.out _ (HL.out _ T4.out.1)).mono ?_
          rintro e w5 ⟨rfl, hb5⟩
          have T5 : Hid (Below w.heap.size w w5 ∧ Bk w5 w.heap.size 30 #[.string nm, .string qu, .int .i64 pr, .int .i64 a, .int .i64 b, .int .i64 c, .slice A n cp, .string ap, .string ⟨#[]⟩, .int .i64 size]) := ⟨T4.out.1.trans (hb5.mono T4.out.1.size), T4.out.2.later hb5⟩
          clear hb5 T4
          have c5_0 : w5.cell? ⟨w.heap.size, 0, none⟩ = some (.string nm) := T5.out.2.cellAt 0
          have c5_1 : w5.cell? ⟨w.heap.size, 1, none⟩ = some (.string qu) := T5.out.2.cellAt 1
          have c5_2 : w5.cell? ⟨w.heap.size, 2, none⟩ = some (.int .i64 pr) := T5.out.2.cellAt 2
          have c5_3 : w5.cell? ⟨w.heap.size, 3, none⟩ = some (.int .i64 a) := T5.out.2.cellAt 3
          have c5_4 : w5.cell? ⟨w.heap.size, 4, none⟩ = some (.int .i64 b) := T5.out.2.cellAt 4
          have c5_5 : w5.cell? ⟨w.heap.size, 5, none⟩ = some (.int .i64 c) := T5.out.2.cellAt 5
          have c5_6 : w5.cell? ⟨w.heap.size, 6, none⟩ = some (.slice A n cp) := T5.out.2.cellAt 6
          have c5_7 : w5.cell? ⟨w.heap.size, 7, none⟩ = some (.string ap) := T5.out.2.cellAt 7
          have c5_8 : w5.cell? ⟨w.heap.size, 8, none⟩ = some (.string ⟨#[]⟩) := T5.out.2.cellAt 8
          have c5_9 : w5.cell? ⟨w.heap.size, 9, none⟩ = some (.int .i64 size) := T5.out.2.cellAt 9
          have f5_8 : w5.frozen? ⟨w.heap.size, 8, none⟩ = false := T5.out.2.free 8
          have z5 : w.heap.size < w5.heap.size := T5.out.2.here
          clear c4_0 c4_1 c4_2 c4_3 c4_4 c4_5 c4_6 c4_7 c4_8 c4_9 f4_9
          have U5 : Hid (Below w.heap.size w (w5.setCell ⟨w.heap.size, 8, none⟩ (.string gang)) ∧ Bk (w5.setCell ⟨w.heap.size, 8, none⟩ (.string gang)) w.heap.size 30 #[.string nm, .string qu, .int .i64 pr, .int .i64 a, .int .i64 b, .int .i64 c, .slice A n cp, .string ap, .string gang, .int .i64 size]) := ⟨(T5.out.1.setCell (p := ⟨w.heap.size, 8, none⟩) (Nat.le_refl _) _), (T5.out.2.put 8 (.string gang))⟩
          clear T5
          have T5 := U5
          clear U5
          go_wp2_with fail
          refine (KQ.out _).mono ?_
          rintro e w6 ⟨rfl, hb6⟩
          have T6 : Hid (Below w.heap.size w w6 ∧ Bk w6 w.heap.size 30 #[.string nm, .string qu, .int .i64 pr, .int .i64 a, .int .i64 b, .int .i64 c, .slice A n cp, .string ap, .string gang, .int .i64 size]) := ⟨T5.out.1.trans (hb6.mono T5.out.1.size), T5.out.2.later hb6⟩
          clear hb6 T5
          have c6_0 : w6.cell? ⟨w.heap.size, 0, none⟩ = some (.string nm) := T6.out.2.cellAt 0
          have c6_1 : w6.cell? ⟨w.heap.size, 1, none⟩ = some (.string qu) := T6.out.2.cellAt 1
          have c6_2 : w6.cell? ⟨w.heap.size, 2, none⟩ = some (.int .i64 pr) := T6.out.2.cellAt 2
          have c6_3 : w6.cell? ⟨w.heap.size, 3, none⟩ = some (.int .i64 a) := T6.out.2.cellAt 3
          have c6_4 : w6.cell? ⟨w.heap.size, 4, none⟩ = some (.int .i64 b) := T6.out.2.cellAt 4
          have c6_5 : w6.cell? ⟨w.heap.size, 5, none⟩ = some (.int .i64 c) := T6.out.2.cellAt 5
          have c6_6 : w6.cell? ⟨w.heap.size, 6, none⟩ = some (.slice A n cp) := T6.out.2.cellAt 6
          have c6_7 : w6.cell? ⟨w.heap.size, 7, none⟩ = some (.string ap) := T6.out.2.cellAt 7
          have c6_8 : w6.cell? ⟨w.heap.size, 8, none⟩ = some (.string gang) := T6.out.2.cellAt 8
          have c6_9 : w6.cell? ⟨w.heap.size, 9, none⟩ = some (.int .i64 size) := T6.out.2.cellAt 9
          have z6 : w.heap.size < w6.heap.size := T6.out.2.here
          clear c5_0 c5_1 c5_2 c5_3 c5_4 c5_5 c5_6 c5_7 c5_8 c5_9 f5_8
          go_wp2_with fail
          refine (KT3.out _ (HL.out _ T6.out.1)).mono ?_
          rintro e w7 ⟨rfl, hb7⟩
          have T7 : Hid (Below w.heap.size w w7 ∧ Bk w7 w.heap.size 30 #[.string nm, .string qu, .int .i64 pr, .int .i64 a, .int .i64 b, .int .i64 c, .slice A n cp, .string ap, .string gang, .int .i64 size]) := ⟨T6.out.1.trans (hb7.mono T6.out.1.size), T6.out.2.later hb7⟩
          clear hb7 T6
          have c7_0 : w7.cell? ⟨w.heap.size, 0, none⟩ = some (.string nm) := T7.out.2.cellAt 0
          have c7_1 : w7.cell? ⟨w.heap.size, 1, none⟩ = some (.string qu) := T7.out.2.cellAt 1
          have c7_2 : w7.cell? ⟨w.heap.size, 2, none⟩ = some (.int .i64 pr) := T7.out.2.cellAt 2
          have c7_3 : w7.cell? ⟨w.heap.size, 3, none⟩ = some (.int .i64 a) := T7.out.2.cellAt 3
          have c7_4 : w7.cell? ⟨w.heap.size, 4, none⟩ = some (.int .i64 b) := T7.out.2.cellAt 4
          have c7_5 : w7.cell? ⟨w.heap.size, 5, none⟩ = some (.int .i64 c) := T7.out.2.cellAt 5
          have c7_6 : w7.cell? ⟨w.heap.size, 6, none⟩ = some (.slice A n cp) := T7.out.2.cellAt 6
          have c7_7 : w7.cell? ⟨w.heap.size, 7, none⟩ = some (.string ap) := T7.out.2.cellAt 7
          have c7_8 : w7.cell? ⟨w.heap.size, 8, none⟩ = some (.string gang) := T7.out.2.cellAt 8
          have c7_9 : w7.cell? ⟨w.heap.size, 9, none⟩ = some (.int .i64 size) := T7.out.2.cellAt 9
          have z7 : w.heap.size < w7.heap.size := T7.out.2.here
          clear c6_0 c6_1 c6_2 c6_3 c6_4 c6_5 c6_6 c6_7 c6_8 c6_9
          go_wp2
          go_ret
          exact ⟨rfl, T7.out.1⟩
        case neg =>
          rw [decide_eq_false b4] at kt3
          have b5 : decide (size ≤ 4) = false := decide_eq_false b4
          have KT2 := Lib.hid kt2
          have KT3 := Lib.hid kt3
          have KQ := Lib.hid kq
          clear kt2 kt3 kq
          go_enter Try.func7, Try.ntmps7
          have T0 : Hid (Below w.heap.size w (w.alloc (.cells #[.string nm, .string qu, .int .i64 pr, .int .i64 a, .int .i64 b, .int .i64 c, .slice A n cp, .string ap, .string ga, .int .i64 sz] 30)) ∧ Bk (w.alloc (.cells #[.string nm, .string qu, .int .i64 pr, .int .i64 a, .int .i64 b, .int .i64 c, .slice A n cp, .string ap, .string ga, .int .i64 sz] 30)) w.heap.size 30 #[.string nm, .string qu, .int .i64 pr, .int .i64 a, .int .i64 b, .int .i64 c, .slice A n cp, .string ap, .string ga, .int .i64 sz]) := ⟨(Below.refl _ _).alloc (Nat.le_refl _) _, Bk.fresh _ _ _⟩
          go_wp2_with fail
          refine (awake_any _).mono ?_
          rintro e w1 ⟨rfl, hb1⟩
          have T1 : Hid (Below w.heap.size w w1 ∧ Bk w1 w.heap.size 30 #[.string nm, .string qu, .int .i64 pr, .int .i64 a, .int .i64 b, .int .i64 c, .slice A n cp, .string ap, .string ga, .int .i64 sz]) := ⟨T0.out.1.trans (hb1.mono T0.out.1.size), T0.out.2.later hb1⟩
          clear hb1 T0
          have c1_0 : w1.cell? ⟨w.heap.size, 0, none⟩ = some (.string nm) := T1.out.2.cellAt 0
          have c1_1 : w1.cell? ⟨w.heap.size, 1, none⟩ = some (.string qu) := T1.out.2.cellAt 1
          have c1_2 : w1.cell? ⟨w.heap.size, 2, none⟩ = some (.int .i64 pr) := T1.out.2.cellAt 2
          have c1_3 : w1.cell? ⟨w.heap.size, 3, none⟩ = some (.int .i64 a) := T1.out.2.cellAt 3
          have c1_4 : w1.cell? ⟨w.heap.size, 4, none⟩ = some (.int .i64 b) := T1.out.2.cellAt 4
          have c1_5 : w1.cell? ⟨w.heap.size, 5, none⟩ = some (.int .i64 c) := T1.out.2.cellAt 5
          have c1_6 : w1.cell? ⟨w.heap.size, 6, none⟩ = some (.slice A n cp) := T1.out.2.cellAt 6
          have c1_7 : w1.cell? ⟨w.heap.size, 7, none⟩ = some (.string ap) := T1.out.2.cellAt 7
          have c1_8 : w1.cell? ⟨w.heap.size, 8, none⟩ = some (.string ga) := T1.out.2.cellAt 8
          have c1_9 : w1.cell? ⟨w.heap.size, 9, none⟩ = some (.int .i64 sz) := T1.out.2.cellAt 9
          have z1 : w.heap.size < w1.heap.size := T1.out.2.here
          go_wp2_with fail
          refine (KF.out _ (HL.out _ T1.out.1)).mono ?_
          rintro e w2 ⟨rfl, hb2⟩
          have T2 : Hid (Below w.heap.size w w2 ∧ Bk w2 w.heap.size 30 #[.string nm, .string qu, .int .i64 pr, .int .i64 a, .int .i64 b, .int .i64 c, .slice A n cp, .string ap, .string ga, .int .i64 sz]) := ⟨T1.out.1.trans (hb2.mono T1.out.1.size), T1.out.2.later hb2⟩
          clear hb2 T1
          have c2_0 : w2.cell? ⟨w.heap.size, 0, none⟩ = some (.string nm) := T2.out.2.cellAt 0
          have c2_1 : w2.cell? ⟨w.heap.size, 1, none⟩ = some (.string qu) := T2.out.2.cellAt 1
          have c2_2 : w2.cell? ⟨w.heap.size, 2, none⟩ = some (.int .i64 pr) := T2.out.2.cellAt 2
          have c2_3 : w2.cell? ⟨w.heap.size, 3, none⟩ = some (.int .i64 a) := T2.out.2.cellAt 3
          have c2_4 : w2.cell? ⟨w.heap.size, 4, none⟩ = some (.int .i64 b) := T2.out.2.cellAt 4
          have c2_5 : w2.cell? ⟨w.heap.size, 5, none⟩ = some (.int .i64 c) := T2.out.2.cellAt 5
          have c2_6 : w2.cell? ⟨w.heap.size, 6, none⟩ = some (.slice A n cp) := T2.out.2.cellAt 6
          have c2_7 : w2.cell? ⟨w.heap.size, 7, none⟩ = some (.string ap) := T2.out.2.cellAt 7
          have c2_8 : w2.cell? ⟨w.heap.size, 8, none⟩ = some (.string ga) := T2.out.2.cellAt 8
          have c2_9 : w2.cell? ⟨w.heap.size, 9, none⟩ = some (.int .i64 sz) := T2.out.2.cellAt 9
          have z2 : w.heap.size < w2.heap.size := T2.out.2.here
          clear c1_0 c1_1 c1_2 c1_3 c1_4 c1_5 c1_6 c1_7 c1_8 c1_9
          go_wp2_with fail
          refine (KT0.out _ (HL.out _ T2.out.1)).mono ?_
          rintro e w3 ⟨rfl, hb3⟩
          have T3 : Hid (Below w.heap.size w w3 ∧ Bk w3 w.heap.size 30 #[.string nm, .string qu, .int .i64 pr, .int .i64 a, .int .i64 b, .int .i64 c, .slice A n cp, .string ap, .string ga, .int .i64 sz]) := ⟨T2.out.1.trans (hb3.mono T2.out.1.size), T2.out.2.later hb3⟩
          clear hb3 T2
          have c3_0 : w3.cell? ⟨w.heap.size, 0, none⟩ = some (.string nm) := T3.out.2.cellAt 0
          have c3_1 : w3.cell? ⟨w.heap.size, 1, none⟩ = some (.string qu) := T3.out.2.cellAt 1
          have c3_2 : w3.cell? ⟨w.heap.size, 2, none⟩ = some (.int .i64 pr) := T3.out.2.cellAt 2
          have c3_3 : w3.cell? ⟨w.heap.size, 3, none⟩ = some (.int .i64 a) := T3.out.2.cellAt 3
          have c3_4 : w3.cell? ⟨w.heap.size, 4, none⟩ = some (.int .i64 b) := T3.out.2.cellAt 4
          have c3_5 : w3.cell? ⟨w.heap.size, 5, none⟩ = some (.int .i64 c) := T3.out.2.cellAt 5
          have c3_6 : w3.cell? ⟨w.heap.size, 6, none⟩ = some (.slice A n cp) := T3.out.2.cellAt 6
          have c3_7 : w3.cell? ⟨w.heap.size, 7, none⟩ = some (.string ap) := T3.out.2.cellAt 7
          have c3_8 : w3.cell? ⟨w.heap.size, 8, none⟩ = some (.string ga) := T3.out.2.cellAt 8
          have c3_9 : w3.cell? ⟨w.heap.size, 9, none⟩ = some (.int .i64 sz) := T3.out.2.cellAt 9
          have f3_8 : w3.frozen? ⟨w.heap.size, 8, none⟩ = false := T3.out.2.free 8
          have f3_9 : w3.frozen? ⟨w.heap.size, 9, none⟩ = false := T3.out.2.free 9
          have z3 : w.heap.size < w3.heap.size := T3.out.2.here
          clear c2_0 c2_1 c2_2 c2_3 c2_4 c2_5 c2_6 c2_7 c2_8 c2_9
          have U3 : Hid (Below w.heap.size w ((w3.setCell ⟨w.heap.size, 8, none⟩ (.string ⟨#[]⟩)).setCell ⟨w.heap.size, 9, none⟩ (.int .i64 0)) ∧ Bk ((w3.setCell ⟨w.heap.size, 8, none⟩ (.string ⟨#[]⟩)).setCell ⟨w.heap.size, 9, none⟩ (.int .i64 0)) w.heap.size 30 #[.string nm, .string qu, .int .i64 pr, .int .i64 a, .int .i64 b, .int .i64 c, .slice A n cp, .string ap, .string ⟨#[]⟩, .int .i64 0]) := ⟨((T3.out.1.setCell (p := ⟨w.heap.size, 8, none⟩) (Nat.le_refl _) _).setCell (p := ⟨w.heap.size, 9, none⟩) (Nat.le_refl _) _), ((T3.out.2.put 8 (.string ⟨#[]⟩)).put 9 (.int .i64 0))⟩
          clear T3
          have T3 := U3
          clear U3
          go_wp2_with fail
          refine (KT1.out _ (HL.out _ T3.out.1)).mono ?_
          rintro e w4 ⟨rfl, hb4⟩
          have T4 : Hid (Below w.heap.size w w4 ∧ Bk w4 w.heap.size 30 #[.string nm, .string qu, .int .i64 pr, .int .i64 a, .int .i64 b, .int .i64 c, .slice A n cp, .string ap, .string ⟨#[]⟩, .int .i64 0]) := ⟨T3.out.1.trans (hb4.mono T3.out.1.size), T3.out.2.later hb4⟩
          clear hb4 T3
          have c4_0 : w4.cell? ⟨w.heap.size, 0, none⟩ = some (.string nm) := T4.out.2.cellAt 0
          have c4_1 : w4.cell? ⟨w.heap.size, 1, none⟩ = some (.string qu) := T4.out.2.cellAt 1
          have c4_2 : w4.cell? ⟨w.heap.size, 2, none⟩ = some (.int .i64 pr) := T4.out.2.cellAt 2
          have c4_3 : w4.cell? ⟨w.heap.size, 3, none⟩ = some (.int .i64 a) := T4.out.2.cellAt 3
          have c4_4 : w4.cell? ⟨w.heap.size, 4, none⟩ = some (.int .i64 b) := T4.out.2.cellAt 4
          have c4_5 : w4.cell? ⟨w.heap.size, 5, none⟩ = some (.int .i64 c) := T4.out.2.cellAt 5
          have c4_6 : w4.cell? ⟨w.heap.size, 6, none⟩ = some (.slice A n cp) := T4.out.2.cellAt 6
          have c4_7 : w4.cell? ⟨w.heap.size, 7, none⟩ = some (.string ap) := T4.out.2.cellAt 7
          have c4_8 : w4.cell? ⟨w.heap.size, 8, none⟩ = some (.string ⟨#[]⟩) := T4.out.2.cellAt 8
          have c4_9 : w4.cell? ⟨w.heap.size, 9, none⟩ = some (.int .i64 0) := T4.out.2.cellAt 9
          have f4_9 : w4.frozen? ⟨w.heap.size, 9, none⟩ = false := T4.out.2.free 9
          have z4 : w.heap.size < w4.heap.size := T4.out.2.here
          clear c3_0 c3_1 c3_2 c3_3 c3_4 c3_5 c3_6 c3_7 c3_8 c3_9 f3_8 f3_9
          have U4 : Hid (Below w.heap.size w (w4.setCell ⟨w.heap.size, 9, none⟩ (.int .i64 size)) ∧ Bk (w4.setCell ⟨w.heap.size, 9, none⟩ (.int .i64 size)) w.heap.size 30 #[.string nm, .string qu, .int .i64 pr, .int .i64 a, .int .i64 b, .int .i64 c, .slice A n cp, .string ap, .string ⟨#[]⟩, .int .i64 size]) := ⟨(T4.out.1.setCell (p := ⟨w.heap.size, 9, none⟩) (Nat.le_refl _) _), (T4.out.2.put 9 (.int .i64 size))⟩
          clear T4
          have T4 := U4
          clear U4
          go_wp2_with fail
          refine (KT2.out _ (HL.out _ T4.out.1)).mono ?_
          rintro e w5 ⟨rfl, hb5⟩
          have T5 : Hid (Below w.heap.size w w5 ∧ Bk w5 w.heap.size 30 #[.string nm, .string qu, .int .i64 pr, .int .i64 a, .int .i64 b, .int .i64 c, .slice A n cp, .string ap, .string ⟨#[]⟩, .int .i64 size]) := ⟨T4.out.1.trans (hb5.mono T4.out.1.size), T4.out.2.later hb5⟩
          clear hb5 T4
          have c5_0 : w5.cell? ⟨w.heap.size, 0, none⟩ = some (.string nm) := T5.out.2.cellAt 0
          have c5_1 : w5.cell? ⟨w.heap.size, 1, none⟩ = some (.string qu) := T5.out.2.cellAt 1
          have c5_2 : w5.cell? ⟨w.heap.size, 2, none⟩ = some (.int .i64 pr) := T5.out.2.cellAt 2
          have c5_3 : w5.cell? ⟨w.heap.size, 3, none⟩ = some (.int .i64 a) := T5.out.2.cellAt 3
          have c5_4 : w5.cell? ⟨w.heap.size, 4, none⟩ = some (.int .i64 b) := T5.out.2.cellAt 4
          have c5_5 : w5.cell? ⟨w.heap.size, 5, none⟩ = some (.int .i64 c) := T5.out.2.cellAt 5
          have c5_6 : w5.cell? ⟨w.heap.size, 6, none⟩ = some (.slice A n cp) := T5.out.2.cellAt 6
          have c5_7 : w5.cell? ⟨w.heap.size, 7, none⟩ = some (.string ap) := T5.out.2.cellAt 7
          have c5_8 : w5.cell? ⟨w.heap.size, 8, none⟩ = some (.string ⟨#[]⟩) := T5.out.2.cellAt 8
          have c5_9 : w5.cell? ⟨w.heap.size, 9, none⟩ = some (.int .i64 size) := T5.out.2.cellAt 9
          have f5_8 : w5.frozen? ⟨w.heap.size, 8, none⟩ = false := T5.out.2.free 8
          have z5 : w.heap.size < w5.heap.size := T5.out.2.here
          clear c4_0 c4_1 c4_2 c4_3 c4_4 c4_5 c4_6 c4_7 c4_8 c4_9 f4_9
          have U5 : Hid (Below w.heap.size w (w5.setCell ⟨w.heap.size, 8, none⟩ (.string gang)) ∧ Bk (w5.setCell ⟨w.heap.size, 8, none⟩ (.string gang)) w.heap.size 30 #[.string nm, .string qu, .int .i64 pr, .int .i64 a, .int .i64 b, .int .i64 c, .slice A n cp, .string ap, .string gang, .int .i64 size]) := ⟨(T5.out.1.setCell (p := ⟨w.heap.size, 8, none⟩) (Nat.le_refl _) _), (T5.out.2.put 8 (.string gang))⟩
          clear T5
          have T5 := U5
          clear U5
          go_wp2_with fail
          refine (KQ.out _).mono ?_
          rintro e w6 ⟨rfl, hb6⟩
          have T6 : Hid (Below w.heap.size w w6 ∧ Bk w6 w.heap.size 30 #[.string nm, .string qu, .int .i64 pr, .int .i64 a, .int .i64 b, .int .i64 c, .slice A n cp, .string ap, .string gang, .int .i64 size]) := ⟨T5.out.1.trans (hb6.mono T5.out.1.size), T5.out.2.later hb6⟩
          clear hb6 T5
          have c6_0 : w6.cell? ⟨w.heap.size, 0, none⟩ = some (.string nm) := T6.out.2.cellAt 0
          have c6_1 : w6.cell? ⟨w.heap.size, 1, none⟩ = some (.string qu) := T6.out.2.cellAt 1
          have c6_2 : w6.cell? ⟨w.heap.size, 2, none⟩ = some (.int .i64 pr) := T6.out.2.cellAt 2
          have c6_3 : w6.cell? ⟨w.heap.size, 3, none⟩ = some (.int .i64 a) := T6.out.2.cellAt 3
          have c6_4 : w6.cell? ⟨w.heap.size, 4, none⟩ = some (.int .i64 b) := T6.out.2.cellAt 4
          have c6_5 : w6.cell? ⟨w.heap.size, 5, none⟩ = some (.int .i64 c) := T6.out.2.cellAt 5
          have c6_6 : w6.cell? ⟨w.heap.size, 6, none⟩ = some (.slice A n cp) := T6.out.2.cellAt 6
          have c6_7 : w6.cell? ⟨w.heap.size, 7, none⟩ = some (.string ap) := T6.out.2.cellAt 7
          have c6_8 : w6.cell? ⟨w.heap.size, 8, none⟩ = some (.string gang) := T6.out.2.cellAt 8
          have c6_9 : w6.cell? ⟨w.heap.size, 9, none⟩ = some (.int .i64 size) := T6.out.2.cellAt 9
          have z6 : w.heap.size < w6.heap.size := T6.out.2.here
          clear c5_0 c5_1 c5_2 c5_3 c5_4 c5_5 c5_6 c5_7 c5_8 c5_9 f5_8
          go_wp2_with fail
          refine (KT3.out _ (HL.out _ T6.out.1)).mono ?_
          rintro e w7 ⟨rfl, hb7⟩
          have T7 : Hid (Below w.heap.size w w7 ∧ Bk w7 w.heap.size 30 #[.string nm, .string qu, .int .i64 pr, .int .i64 a, .int .i64 b, .int .i64 c, .slice A n cp, .string ap, .string gang, .int .i64 size]) := ⟨T6.out.1.trans (hb7.mono T6.out.1.size), T6.out.2.later hb7⟩
          clear hb7 T6
          have c7_0 : w7.cell? ⟨w.heap.size, 0, none⟩ = some (.string nm) := T7.out.2.cellAt 0
          have c7_1 : w7.cell? ⟨w.heap.size, 1, none⟩ = some (.string qu) := T7.out.2.cellAt 1
          have c7_2 : w7.cell? ⟨w.heap.size, 2, none⟩ = some (.int .i64 pr) := T7.out.2.cellAt 2
          have c7_3 : w7.cell? ⟨w.heap.size, 3, none⟩ = some (.int .i64 a) := T7.out.2.cellAt 3
          have c7_4 : w7.cell? ⟨w.heap.size, 4, none⟩ = some (.int .i64 b) := T7.out.2.cellAt 4
          have c7_5 : w7.cell? ⟨w.heap.size, 5, none⟩ = some (.int .i64 c) := T7.out.2.cellAt 5
          have c7_6 : w7.cell? ⟨w.heap.size, 6, none⟩ = some (.slice A n cp) := T7.out.2.cellAt 6
          have c7_7 : w7.cell? ⟨w.heap.size, 7, none⟩ = some (.string ap) := T7.out.2.cellAt 7
          have c7_8 : w7.cell? ⟨w.heap.size, 8, none⟩ = some (.string gang) := T7.out.2.cellAt 8
          have c7_9 : w7.cell? ⟨w.heap.size, 9, none⟩ = some (.int .i64 size) := T7.out.2.cellAt 9
          have z7 : w.heap.size < w7.heap.size := T7.out.2.here
          clear c6_0 c6_1 c6_2 c6_3 c6_4 c6_5 c6_6 c6_7 c6_8 c6_9
          go_wp2
          go_ret
          exact ⟨rfl, T7.out.1⟩
      case neg =>
        rw [decide_eq_false b2, Bool.false_and] at kt3
        by_cases s0 : size = 0
        case pos =>
          subst s0
          rw [decide_eq_true rfl] at kt2
          clear b2
          have KT2 := Lib.hid kt2
          have KT3 := Lib.hid kt3
          have KQ := Lib.hid kq
          clear kt2 kt3 kq
          go_enter Try.func7, Try.ntmps7
          have T0 : Hid (Below w.heap.size w (w.alloc (.cells #[.string nm, .string qu, .int .i64 pr, .int .i64 a, .int .i64 b, .int .i64 c, .slice A n cp, .string ap, .string ga, .int .i64 sz] 30)) ∧ Bk (w.alloc (.cells #[.string nm, .string qu, .int .i64 pr, .int .i64 a, .int .i64 b, .int .i64 c, .slice A n cp, .string ap, .string ga, .int .i64 sz] 30)) w.heap.size 30 #[.string nm, .string qu, .int .i64 pr, .int .i64 a, .int .i64 b, .int .i64 c, .slice A n cp, .string ap, .string ga, .int .i64 sz]) := ⟨(Below.refl _ _).alloc (Nat.le_refl _) _, Bk.fresh _ _ _⟩
          go_wp2_with fail
          refine (awake_any _).mono ?_
          rintro e w1 ⟨rfl, hb1⟩
          have T1 : Hid (Below w.heap.size w w1 ∧ Bk w1 w.heap.size 30 #[.string nm, .string qu, .int .i64 pr, .int .i64 a, .int .i64 b, .int .i64 c, .slice A n cp, .string ap, .string ga, .int .i64 sz]) := ⟨T0.out.1.trans (hb1.mono T0.out.1.size), T0.out.2.later hb1⟩
          clear hb1 T0
          have c1_0 : w1.cell? ⟨w.heap.size, 0, none⟩ = some (.string nm) := T1.out.2.cellAt 0
          have c1_1 : w1.cell? ⟨w.heap.size, 1, none⟩ = some (.string qu) := T1.out.2.cellAt 1
          have c1_2 : w1.cell? ⟨w.heap.size, 2, none⟩ = some (.int .i64 pr) := T1.out.2.cellAt 2
          have c1_3 : w1.cell? ⟨w.heap.size, 3, none⟩ = some (.int .i64 a) := T1.out.2.cellAt 3
          have c1_4 : w1.cell? ⟨w.heap.size, 4, none⟩ = some (.int .i64 b) := T1.out.2.cellAt 4
          have c1_5 : w1.cell? ⟨w.heap.size, 5, none⟩ = some (.int .i64 c) := T1.out.2.cellAt 5
          have c1_6 : w1.cell? ⟨w.heap.size, 6, none⟩ = some (.slice A n cp) := T1.out.2.cellAt 6
          have c1_7 : w1.cell? ⟨w.heap.size, 7, none⟩ = some (.string ap) := T1.out.2.cellAt 7
          have c1_8 : w1.cell? ⟨w.heap.size, 8, none⟩ = some (.string ga) := T1.out.2.cellAt 8
          have c1_9 : w1.cell? ⟨w.heap.size, 9, none⟩ = some (.int .i64 sz) := T1.out.2.cellAt 9
          have z1 : w.heap.size < w1.heap.size := T1.out.2.here
          go_wp2_with fail
          refine (KF.out _ (HL.out _ T1.out.1)).mono ?_
          rintro e w2 ⟨rfl, hb2⟩
          have T2 : Hid (Below w.heap.size w w2 ∧ Bk w2 w.heap.size 30 #[.string nm, .string qu, .int .i64 pr, .int .i64 a, .int .i64 b, .int .i64 c, .slice A n cp, .string ap, .string ga, .int .i64 sz]) := ⟨T1.out.1.trans (hb2.mono T1.out.1.size), T1.out.2.later hb2⟩
          clear hb2 T1
          have c2_0 : w2.cell? ⟨w.heap.size, 0, none⟩ = some (.string nm) := T2.out.2.cellAt 0
          have c2_1 : w2.cell? ⟨w.heap.size, 1, none⟩ = some (.string qu) := T2.out.2.cellAt 1
          have c2_2 : w2.cell? ⟨w.heap.size, 2, none⟩ = some (.int .i64 pr) := T2.out.2.cellAt 2
          have c2_3 : w2.cell? ⟨w.heap.size, 3, none⟩ = some (.int .i64 a) := T2.out.2.cellAt 3
          have c2_4 : w2.cell? ⟨w.heap.size, 4, none⟩ = some (.int .i64 b) := T2.out.2.cellAt 4
          have c2_5 : w2.cell? ⟨w.heap.size, 5, none⟩ = some (.int .i64 c) := T2.out.2.cellAt 5
          have c2_6 : w2.cell? ⟨w.heap.size, 6, none⟩ = some (.slice A n cp) := T2.out.2.cellAt 6
          have c2_7 : w2.cell? ⟨w.heap.size, 7, none⟩ = some (.string ap) := T2.out.2.cellAt 7
          have c2_8 : w2.cell? ⟨w.heap.size, 8, none⟩ = some (.string ga) := T2.out.2.cellAt 8
          have c2_9 : w2.cell? ⟨w.heap.size, 9, none⟩ = some (.int .i64 sz) := T2.out.2.cellAt 9
          have z2 : w.heap.size < w2.heap.size := T2.out.2.here
          clear c1_0 c1_1 c1_2 c1_3 c1_4 c1_5 c1_6 c1_7 c1_8 c1_9
          go_wp2_with fail
          refine (KT0.out _ (HL.out _ T2.out.1)).mono ?_
          rintro e w3 ⟨rfl, hb3⟩
          have T3 : Hid (Below w.heap.size w w3 ∧ Bk w3 w.heap.size 30 #[.string nm, .string qu, .int .i64 pr, .int .i64 a, .int .i64 b, .int .i64 c, .slice A n cp, .string ap, .string ga, .int .i64 sz]) := ⟨T2.out.1.trans (hb3.mono T2.out.1.size), T2.out.2.later hb3⟩
          clear hb3 T2
          have c3_0 : w3.cell? ⟨w.heap.size, 0, none⟩ = some (.string nm) := T3.out.2.cellAt 0
          have c3_1 : w3.cell? ⟨w.heap.size, 1, none⟩ = some (.string qu) := T3.out.2.cellAt 1
          have c3_2 : w3.cell? ⟨w.heap.size, 2, none⟩ = some (.int .i64 pr) := T3.out.2.cellAt 2
          have c3_3 : w3.cell? ⟨w.heap.size, 3, none⟩ = some (.int .i64 a) := T3.out.2.cellAt 3
          have c3_4 : w3.cell? ⟨w.heap.size, 4, none⟩ = some (.int .i64 b) := T3.out.2.cellAt 4
          have c3_5 : w3.cell? ⟨w.heap.size, 5, none⟩ = some (.int .i64 c) := T3.out.2.cellAt 5
          have c3_6 : w3.cell? ⟨w.heap.size, 6, none⟩ = some (.slice A n cp) := T3.out.2.cellAt 6
          have c3_7 : w3.cell? ⟨w.heap.size, 7, none⟩ = some (.string ap) := T3.out.2.cellAt 7
          have c3_8 : w3.cell? ⟨w.heap.size, 8, none⟩ = some (.string ga) := T3.out.2.cellAt 8
          have c3_9 : w3.cell? ⟨w.heap.size, 9, none⟩ = some (.int .i64 sz) := T3.out.2.cellAt 9
          have f3_8 : w3.frozen? ⟨w.heap.size, 8, none⟩ = false := T3.out.2.free 8
          have f3_9 : w3.frozen? ⟨w.heap.size, 9, none⟩ = false := T3.out.2.free 9
          have z3 : w.heap.size < w3.heap.size := T3.out.2.here
          clear c2_0 c2_1 c2_2 c2_3 c2_4 c2_5 c2_6 c2_7 c2_8 c2_9
          have U3 : Hid (Below w.heap.size w ((w3.setCell ⟨w.heap.size, 8, none⟩ (.string ⟨#[]⟩)).setCell ⟨w.heap.size, 9, none⟩ (.int .i64 0)) ∧ Bk ((w3.setCell ⟨w.heap.size, 8, none⟩ (.string ⟨#[]⟩)).setCell ⟨w.heap.size, 9, none⟩ (.int .i64 0)) w.heap.size 30 #[.string nm, .string qu, .int .i64 pr, .int .i64 a, .int .i64 b, .int .i64 c, .slice A n cp, .string ap, .string ⟨#[]⟩, .int .i64 0]) := ⟨((T3.out.1.setCell (p := ⟨w.heap.size, 8, none⟩) (Nat.le_refl _) _).setCell (p := ⟨w.heap.size, 9, none⟩) (Nat.le_refl _) _), ((T3.out.2.put 8 (.string ⟨#[]⟩)).put 9 (.int .i64 0))⟩
          clear T3
          have T3 := U3
          clear U3
          go_wp2_with fail
          refine (KT1.out _ (HL.out _ T3.out.1)).mono ?_
          rintro e w4 ⟨rfl, hb4⟩
          have T4 : Hid (Below w.heap.size w w4 ∧ Bk w4 w.heap.size 30 #[.string nm, .string qu, .int .i64 pr, .int .i64 a, .int .i64 b, .int .i64 c, .slice A n cp, .string ap, .string ⟨#[]⟩, .int .i64 0]) := ⟨T3.out.1.trans (hb4.mono T3.out.1.size), T3.out.2.later hb4⟩
          clear hb4 T3
          have c4_0 : w4.cell? ⟨w.heap.size, 0, none⟩ = some (.string nm) := T4.out.2.cellAt 0
          have c4_1 : w4.cell? ⟨w.heap.size, 1, none⟩ = some (.string qu) := T4.out.2.cellAt 1
          have c4_2 : w4.cell? ⟨w.heap.size, 2, none⟩ = some (.int .i64 pr) := T4.out.2.cellAt 2
          have c4_3 : w4.cell? ⟨w.heap.size, 3, none⟩ = some (.int .i64 a) := T4.out.2.cellAt 3
          have c4_4 : w4.cell? ⟨w.heap.size, 4, none⟩ = some (.int .i64 b) := T4.out.2.cellAt 4
          have c4_5 : w4.cell? ⟨w.heap.size, 5, none⟩ = some (.int .i64 c) := T4.out.2.cellAt 5
          have c4_6 : w4.cell? ⟨w.heap.size, 6, none⟩ = some (.slice A n cp) := T4.out.2.cellAt 6
          have c4_7 : w4.cell? ⟨w.heap.size, 7, none⟩ = some (.string ap) := T4.out.2.cellAt 7
          have c4_8 : w4.cell? ⟨w.heap.size, 8, none⟩ = some (.string ⟨#[]⟩) := T4.out.2.cellAt 8
          have c4_9 : w4.cell? ⟨w.heap.size, 9, none⟩ = some (.int .i64 0) := T4.out.2.cellAt 9
          have f4_9 : w4.frozen? ⟨w.heap.size, 9, none⟩ = false := T4.out.2.free 9
          have z4 : w.heap.size < w4.heap.size := T4.out.2.here
          clear c3_0 c3_1 c3_2 c3_3 c3_4 c3_5 c3_6 c3_7 c3_8 c3_9 f3_8 f3_9
          have U4 : Hid (Below w.heap.size w (w4.setCell ⟨w.heap.size, 9, none⟩ (.int .i64 0)) ∧ Bk (w4.setCell ⟨w.heap.size, 9, none⟩ (.int .i64 0)) w.heap.size 30 #[.string nm, .string qu, .int .i64 pr, .int .i64 a, .int .i64 b, .int .i64 c, .slice A n cp, .string ap, .string ⟨#[]⟩, .int .i64 0]) := ⟨(T4.out.1.setCell (p := ⟨w.heap.size, 9, none⟩) (Nat.le_refl _) _), (T4.out.2.put 9 (.int .i64 0))⟩
          clear T4
          have T4 := U4
          clear U4
          go_wp2_with fail
          refine (KT2.out _ (HL.out _ T4.out.1)).mono ?_
          rintro e w5 ⟨rfl, hb5⟩
          have T5 : Hid (Below w.heap.size w w5 ∧ Bk w5 w.heap.size 30 #[.string nm, .string qu, .int .i64 pr, .int .i64 a, .int .i64 b, .int .i64 c, .slice A n cp, .string ap, .string ⟨#[]⟩, .int .i64 0]) := ⟨T4.out.1.trans (hb5.mono T4.out.1.size), T4.out.2.later hb5⟩
          clear hb5 T4
          have c5_0 : w5.cell? ⟨w.heap.size, 0, none⟩ = some (.string nm) := T5.out.2.cellAt 0
          have c5_1 : w5.cell? ⟨w.heap.size, 1, none⟩ = some (.string qu) := T5.out.2.cellAt 1
          have c5_2 : w5.cell? ⟨w.heap.size, 2, none⟩ = some (.int .i64 pr) := T5.out.2.cellAt 2
          have c5_3 : w5.cell? ⟨w.heap.size, 3, none⟩ = some (.int .i64 a) := T5.out.2.cellAt 3
          have c5_4 : w5.cell? ⟨w.heap.size, 4, none⟩ = some (.int .i64 b) := T5.out.2.cellAt 4
          have c5_5 : w5.cell? ⟨w.heap.size, 5, none⟩ = some (.int .i64 c) := T5.out.2.cellAt 5
          have c5_6 : w5.cell? ⟨w.heap.size, 6, none⟩ = some (.slice A n cp) := T5.out.2.cellAt 6
          have c5_7 : w5.cell? ⟨w.heap.size, 7, none⟩ = some (.string ap) := T5.out.2.cellAt 7
          have c5_8 : w5.cell? ⟨w.heap.size, 8, none⟩ = some (.string ⟨#[]⟩) := T5.out.2.cellAt 8
          have c5_9 : w5.cell? ⟨w.heap.size, 9, none⟩ = some (.int .i64 0) := T5.out.2.cellAt 9
          have f5_8 : w5.frozen? ⟨w.heap.size, 8, none⟩ = false := T5.out.2.free 8
          have z5 : w.heap.size < w5.heap.size := T5.out.2.here
          clear c4_0 c4_1 c4_2 c4_3 c4_4 c4_5 c4_6 c4_7 c4_8 c4_9 f4_9
          have U5 : Hid (Below w.heap.size w (w5.setCell ⟨w.heap.size, 8, none⟩ (.string gang)) ∧ Bk (w5.setCell ⟨w.heap.size, 8, none⟩ (.string gang)) w.heap.size 30 #[.string nm, .string qu, .int .i64 pr, .int .i64 a, .int .i64 b, .int .i64 c, .slice A n cp, .string ap, .string gang, .int .i64 0]) := ⟨(T5.out.1.setCell (p := ⟨w.heap.size, 8, none⟩) (Nat.le_refl _) _), (T5.out.2.put 8 (.string gang))⟩
          clear T5
          have T5 := U5
          clear U5
          go_wp2_with fail
          refine (KQ.out _).mono ?_
          rintro e w6 ⟨rfl, hb6⟩
          have T6 : Hid (Below w.heap.size w w6 ∧ Bk w6 w.heap.size 30 #[.string nm, .string qu, .int .i64 pr, .int .i64 a, .int .i64 b, .int .i64 c, .slice A n cp, .string ap, .string gang, .int .i64 0]) := ⟨T5.out.1.trans (hb6.mono T5.out.1.size), T5.out.2.later hb6⟩
          clear hb6 T5
          have c6_0 : w6.cell? ⟨w.heap.size, 0, none⟩ = some (.string nm) := T6.out.2.cellAt 0
          have c6_1 : w6.cell? ⟨w.heap.size, 1, none⟩ = some (.string qu) := T6.out.2.cellAt 1
          have c6_2 : w6.cell? ⟨w.heap.size, 2, none⟩ = some (.int .i64 pr) := T6.out.2.cellAt 2
          have c6_3 : w6.cell? ⟨w.heap.size, 3, none⟩ = some (.int .i64 a) := T6.out.2.cellAt 3
          have c6_4 : w6.cell? ⟨w.heap.size, 4, none⟩ = some (.int .i64 b) := T6.out.2.cellAt 4
          have c6_5 : w6.cell? ⟨w.heap.size, 5, none⟩ = some (.int .i64 c) := T6.out.2.cellAt 5
          have c6_6 : w6.cell? ⟨w.heap.size, 6, none⟩ = some (.slice A n cp) := T6.out.2.cellAt 6
          have c6_7 : w6.cell? ⟨w.heap.size, 7, none⟩ = some (.string ap) := T6.out.2.cellAt 7
          have c6_8 : w6.cell? ⟨w.heap.size, 8, none⟩ = some (.string gang) := T6.out.2.cellAt 8
          have c6_9 : w6.cell? ⟨w.heap.size, 9, none⟩ = some (.int .i64 0) := T6.out.2.cellAt 9
          have z6 : w.heap.size < w6.heap.size := T6.out.2.here
          clear c5_0 c5_1 c5_2 c5_3 c5_4 c5_5 c5_6 c5_7 c5_8 c5_9 f5_8
          go_wp2_with fail
          refine (KT3.out _ (HL.out _ T6.out.1)).mono ?_
          rintro e w7 ⟨rfl, hb7⟩
          have T7 : Hid (Below w.heap.size w w7 ∧ Bk w7 w.heap.size 30 #[.string nm, .string qu, .int .i64 pr, .int .i64 a, .int .i64 b, .int .i64 c, .slice A n cp, .string ap, .string gang, .int .i64 0]) := ⟨T6.out.1.trans (hb7.mono T6.out.1.size), T6.out.2.later hb7⟩
          clear hb7 T6
          have c7_0 : w7.cell? ⟨w.heap.size, 0, none⟩ = some (.string nm) := T7.out.2.cellAt 0
          have c7_1 : w7.cell? ⟨w.heap.size, 1, none⟩ = some (.string qu) := T7.out.2.cellAt 1
          have c7_2 : w7.cell? ⟨w.heap.size, 2, none⟩ = some (.int .i64 pr) := T7.out.2.cellAt 2
          have c7_3 : w7.cell? ⟨w.heap.size, 3, none⟩ = some (.int .i64 a) := T7.out.2.cellAt 3
          have c7_4 : w7.cell? ⟨w.heap.size, 4, none⟩ = some (.int .i64 b) := T7.out.2.cellAt 4
          have c7_5 : w7.cell? ⟨w.heap.size, 5, none⟩ = some (.int .i64 c) := T7.out.2.cellAt 5
          have c7_6 : w7.cell? ⟨w.heap.size, 6, none⟩ = some (.slice A n cp) := T7.out.2.cellAt 6
          have c7_7 : w7.cell? ⟨w.heap.size, 7, none⟩ = some (.string ap) := T7.out.2.cellAt 7
          have c7_8 : w7.cell? ⟨w.heap.size, 8, none⟩ = some (.string gang) := T7.out.2.cellAt 8
          have c7_9 : w7.cell? ⟨w.heap.size, 9, none⟩ = some (.int .i64 0) := T7.out.2.cellAt 9
          have z7 : w.heap.size < w7.heap.size := T7.out.2.here
          clear c6_0 c6_1 c6_2 c6_3 c6_4 c6_5 c6_6 c6_7 c6_8 c6_9
          go_wp2
          go_ret
          exact ⟨rfl, T7.out.1⟩
        case neg =>
          have s1 : (size == 0) = false := by simpa using s0
          rw [decide_eq_false s0] at kt2
          clear s0
          have KT2 := Lib.hid kt2
          have KT3 := Lib.hid kt3
          have KQ := Lib.hid kq
          clear kt2 kt3 kq
          go_enter Try.func7, Try.ntmps7
          have T0 : Hid (Below w.heap.size w (w.alloc (.cells #[.string nm, .string qu, .int .i64 pr, .int .i64 a, .int .i64 b, .int .i64 c, .slice A n cp, .string ap, .string ga, .int .i64 sz] 30)) ∧ Bk (w.alloc (.cells #[.string nm, .string qu, .int .i64 pr, .int .i64 a, .int .i64 b, .int .i64 c, .slice A n cp, .string ap, .string ga, .int .i64 sz] 30)) w.heap.size 30 #[.string nm, .string qu, .int .i64 pr, .int .i64 a, .int .i64 b, .int .i64 c, .slice A n cp, .string ap, .string ga, .int .i64 sz]) := ⟨(Below.refl _ _).alloc (Nat.le_refl _) _, Bk.fresh _ _ _⟩
          go_wp2_with fail
          refine (awake_any _).mono ?_
          rintro e w1 ⟨rfl, hb1⟩
          have T1 : Hid (Below w.heap.size w w1 ∧ Bk w1 w.heap.size 30 #[.string nm, .string qu, .int .i64 pr, .int .i64 a, .int .i64 b, .int .i64 c, .slice A n cp, .string ap, .string ga, .int .i64 sz]) := ⟨T0.out.1.trans (hb1.mono T0.out.1.size), T0.out.2.later hb1⟩
          clear hb1 T0
          have c1_0 : w1.cell? ⟨w.heap.size, 0, none⟩ = some (.string nm) := T1.out.2.cellAt 0
          have c1_1 : w1.cell? ⟨w.heap.size, 1, none⟩ = some (.string qu) := T1.out.2.cellAt 1
          have c1_2 : w1.cell? ⟨w.heap.size, 2, none⟩ = some (.int .i64 pr) := T1.out.2.cellAt 2
          have c1_3 : w1.cell? ⟨w.heap.size, 3, none⟩ = some (.int .i64 a) := T1.out.2.cellAt 3
          have c1_4 : w1.cell? ⟨w.heap.size, 4, none⟩ = some (.int .i64 b) := T1.out.2.cellAt 4
          have c1_5 : w1.cell? ⟨w.heap.size, 5, none⟩ = some (.int .i64 c) := T1.out.2.cellAt 5
          have c1_6 : w1.cell? ⟨w.heap.size, 6, none⟩ = some (.slice A n cp) := T1.out.2.cellAt 6
          have c1_7 : w1.cell? ⟨w.heap.size, 7, none⟩ = some (.string ap) := T1.out.2.cellAt 7
          have c1_8 : w1.cell? ⟨w.heap.size, 8, none⟩ = some (.string ga) := T1.out.2.cellAt 8
          have c1_9 : w1.cell? ⟨w.heap.size, 9, none⟩ = some (.int .i64 sz) := T1.out.2.cellAt 9
          have z1 : w.heap.size < w1.heap.size := T1.out.2.here
          go_wp2_with fail
          refine (KF.out _ (HL.out _ T1.out.1)).mono ?_
          rintro e w2 ⟨rfl, hb2⟩
          have T2 : Hid (Below w.heap.size w w2 ∧ Bk w2 w.heap.size 30 #[.string nm, .string qu, .int .i64 pr, .int .i64 a, .int .i64 b, .int .i64 c, .slice A n cp, .string ap, .string ga, .int .i64 sz]) := ⟨T1.out.1.trans (hb2.mono T1.out.1.size), T1.out.2.later hb2⟩
          clear hb2 T1
          have c2_0 : w2.cell? ⟨w.heap.size, 0, none⟩ = some (.string nm) := T2.out.2.cellAt 0
          have c2_1 : w2.cell? ⟨w.heap.size, 1, none⟩ = some (.string qu) := T2.out.2.cellAt 1
          have c2_2 : w2.cell? ⟨w.heap.size, 2, none⟩ = some (.int .i64 pr) := T2.out.2.cellAt 2
          have c2_3 : w2.cell? ⟨w.heap.size, 3, none⟩ = some (.int .i64 a) := T2.out.2.cellAt 3
          have c2_4 : w2.cell? ⟨w.heap.size, 4, none⟩ = some (.int .i64 b) := T2.out.2.cellAt 4
          have c2_5 : w2.cell? ⟨w.heap.size, 5, none⟩ = some (.int .i64 c) := T2.out.2.cellAt 5
          have c2_6 : w2.cell? ⟨w.heap.size, 6, none⟩ = some (.slice A n cp) := T2.out.2.cellAt 6
          have c2_7 : w2.cell? ⟨w.heap.size, 7, none⟩ = some (.string ap) := T2.out.2.cellAt 7
          have c2_8 : w2.cell? ⟨w.heap.size, 8, none⟩ = some (.string ga) := T2.out.2.cellAt 8
          have c2_9 : w2.cell? ⟨w.heap.size, 9, none⟩ = some (.int .i64 sz) := T2.out.2.cellAt 9
          have z2 : w.heap.size < w2.heap.size := T2.out.2.here
          clear c1_0 c1_1 c1_2 c1_3 c1_4 c1_5 c1_6 c1_7 c1_8 c1_9
          go_wp2_with fail
          refine (KT0.out _ (HL.out _ T2.out.1)).mono ?_
          rintro e w3 ⟨rfl, hb3⟩
          have T3 : Hid (Below w.heap.size w w3 ∧ Bk w3 w.heap.size 30 #[.string nm, .string qu, .int .i64 pr, .int .i64 a, .int .i64 b, .int .i64 c, .slice A n cp, .string ap, .string ga, .int .i64 sz]) := ⟨T2.out.1.trans (hb3.mono T2.out.1.size), T2.out.2.later hb3⟩
          clear hb3 T2
          have c3_0 : w3.cell? ⟨w.heap.size, 0, none⟩ = some (.string nm) := T3.out.2.cellAt 0
          have c3_1 : w3.cell? ⟨w.heap.size, 1, none⟩ = some (.string qu) := T3.out.2.cellAt 1
          have c3_2 : w3.cell? ⟨w.heap.size, 2, none⟩ = some (.int .i64 pr) := T3.out.2.cellAt 2
          have c3_3 : w3.cell? ⟨w.heap.size, 3, none⟩ = some (.int .i64 a) := T3.out.2.cellAt 3
          have c3_4 : w3.cell? ⟨w.heap.size, 4, none⟩ = some (.int .i64 b) := T3.out.2.cellAt 4
          have c3_5 : w3.cell? ⟨w.heap.size, 5, none⟩ = some (.int .i64 c) := T3.out.2.cellAt 5
          have c3_6 : w3.cell? ⟨w.heap.size, 6, none⟩ = some (.slice A n cp) := T3.out.2.cellAt 6
          have c3_7 : w3.cell? ⟨w.heap.size, 7, none⟩ = some (.string ap) := T3.out.2.cellAt 7
          have c3_8 : w3.cell? ⟨w.heap.size, 8, none⟩ = some (.string ga) := T3.out.2.cellAt 8
          have c3_9 : w3.cell? ⟨w.heap.size, 9, none⟩ = some (.int .i64 sz) := T3.out.2.cellAt 9
          have f3_8 : w3.frozen? ⟨w.heap.size, 8, none⟩ = false := T3.out.2.free 8
          have f3_9 : w3.frozen? ⟨w.heap.size, 9, none⟩ = false := T3.out.2.free 9
          have z3 : w.heap.size < w3.heap.size := T3.out.2.here
          clear c2_0 c2_1 c2_2 c2_3 c2_4 c2_5 c2_6 c2_7 c2_8 c2_9
          have U3 : Hid (Below w.heap.size w ((w3.setCell ⟨w.heap.size, 8, none⟩ (.string ⟨#[]⟩)).setCell ⟨w.heap.size, 9, none⟩ (.int .i64 0)) ∧ Bk ((w3.setCell ⟨w.heap.size, 8, none⟩ (.string ⟨#[]⟩)).setCell ⟨w.heap.size, 9, none⟩ (.int .i64 0)) w.heap.size 30 #[.string nm, .string qu, .int .i64 pr, .int .i64 a, .int .i64 b, .int .i64 c, .slice A n cp, .string ap, .string ⟨#[]⟩, .int .i64 0]) := ⟨((T3.out.1.setCell (p := ⟨w.heap.size, 8, none⟩) (Nat.le_refl _) _).setCell (p := ⟨w.heap.size, 9, none⟩) (Nat.le_refl _) _), ((T3.out.2.put 8 (.string ⟨#[]⟩)).put 9 (.int .i64 0))⟩
          clear T3
          have T3 := U3
          clear U3
          go_wp2_with fail
          refine (KT1.out _ (HL.out _ T3.out.1)).mono ?_
          rintro e w4 ⟨rfl, hb4⟩
          have T4 : Hid (Below w.heap.size w w4 ∧ Bk w4 w.heap.size 30 #[.string nm, .string qu, .int .i64 pr, .int .i64 a, .int .i64 b, .int .i64 c, .slice A n cp, .string ap, .string ⟨#[]⟩, .int .i64 0]) := ⟨T3.out.1.trans (hb4.mono T3.out.1.size), T3.out.2.later hb4⟩
          clear hb4 T3
          have c4_0 : w4.cell? ⟨w.heap.size, 0, none⟩ = some (.string nm) := T4.out.2.cellAt 0
          have c4_1 : w4.cell? ⟨w.heap.size, 1, none⟩ = some (.string qu) := T4.out.2.cellAt 1
          have c4_2 : w4.cell? ⟨w.heap.size, 2, none⟩ = some (.int .i64 pr) := T4.out.2.cellAt 2
          have c4_3 : w4.cell? ⟨w.heap.size, 3, none⟩ = some (.int .i64 a) := T4.out.2.cellAt 3
          have c4_4 : w4.cell? ⟨w.heap.size, 4, none⟩ = some (.int .i64 b) := T4.out.2.cellAt 4
          have c4_5 : w4.cell? ⟨w.heap.size, 5, none⟩ = some (.int .i64 c) := T4.out.2.cellAt 5
          have c4_6 : w4.cell? ⟨w.heap.size, 6, none⟩ = some (.slice A n cp) := T4.out.2.cellAt 6
          have c4_7 : w4.cell? ⟨w.heap.size, 7, none⟩ = some (.string ap) := T4.out.2.cellAt 7
          have c4_8 : w4.cell? ⟨w.heap.size, 8, none⟩ = some (.string ⟨#[]⟩) := T4.out.2.cellAt 8
          have c4_9 : w4.cell? ⟨w.heap.size, 9, none⟩ = some (.int .i64 0) := T4.out.2.cellAt 9
          have f4_9 : w4.frozen? ⟨w.heap.size, 9, none⟩ = false := T4.out.2.free 9
          have z4 : w.heap.size < w4.heap.size := T4.out.2.here
          clear c3_0 c3_1 c3_2 c3_3 c3_4 c3_5 c3_6 c3_7 c3_8 c3_9 f3_8 f3_9
          have U4 : Hid (Below w.heap.size w (w4.setCell ⟨w.heap.size, 9, none⟩ (.int .i64 size)) ∧ Bk (w4.setCell ⟨w.heap.size, 9, none⟩ (.int .i64 size)) w.heap.size 30 #[.string nm, .string qu, .int .i64 pr, .int .i64 a, .int .i64 b, .int .i64 c, .slice A n cp, .string ap, .string ⟨#[]⟩, .int .i64 size]) := ⟨(T4.out.1.setCell (p := ⟨w.heap.size, 9, none⟩) (Nat.le_refl _) _), (T4.out.2.put 9 (.int .i64 size))⟩
          clear T4
          have T4 := U4
          clear U4
          go_wp2_with fail
          refine (KT2.out _ (HL.out _ T4.out.1)).mono ?_
          rintro e w5 ⟨rfl, hb5⟩
          have T5 : Hid (Below w.heap.size w w5 ∧ Bk w5 w.heap.size 30 #[.string nm, .string qu, .int .i64 pr, .int .i64 a, .int .i64 b, .int .i64 c, .slice A n cp, .string ap, .string ⟨#[]⟩, .int .i64 size]) := ⟨T4.out.1.trans (hb5.mono T4.out.1.size), T4.out.2.later hb5⟩
          clear hb5 T4
          have c5_0 : w5.cell? ⟨w.heap.size, 0, none⟩ = some (.string nm) := T5.out.2.cellAt 0
          have c5_1 : w5.cell? ⟨w.heap.size, 1, none⟩ = some (.string qu) := T5.out.2.cellAt 1
          have c5_2 : w5.cell? ⟨w.heap.size, 2, none⟩ = some (.int .i64 pr) := T5.out.2.cellAt 2
          have c5_3 : w5.cell? ⟨w.heap.size, 3, none⟩ = some (.int .i64 a) := T5.out.2.cellAt 3
          have c5_4 : w5.cell? ⟨w.heap.size, 4, none⟩ = some (.int .i64 b) := T5.out.2.cellAt 4
          have c5_5 : w5.cell? ⟨w.heap.size, 5, none⟩ = some (.int .i64 c) := T5.out.2.cellAt 5
          have c5_6 : w5.cell? ⟨w.heap.size, 6, none⟩ = some (.slice A n cp) := T5.out.2.cellAt 6
          have c5_7 : w5.cell? ⟨w.heap.size, 7, none⟩ = some (.string ap) := T5.out.2.cellAt 7
          have c5_8 : w5.cell? ⟨w.heap.size, 8, none⟩ = some (.string ⟨#[]⟩) := T5.out.2.cellAt 8
          have c5_9 : w5.cell? ⟨w.heap.size, 9, none⟩ = some (.int .i64 size) := T5.out.2.cellAt 9
          have f5_8 : w5.frozen? ⟨w.heap.size, 8, none⟩ = false := T5.out.2.free 8
          have z5 : w.heap.size < w5.heap.size := T5.out.2.here
          clear c4_0 c4_1 c4_2 c4_3 c4_4 c4_5 c4_6 c4_7 c4_8 c4_9 f4_9
          have U5 : Hid (Below w.heap.size w (w5.setCell ⟨w.heap.size, 8, none⟩ (.string gang)) ∧ Bk (w5.setCell ⟨w.heap.size, 8, none⟩ (.string gang)) w.heap.size 30 #[.string nm, .string qu, .int .i64 pr, .int .i64 a, .int .i64 b, .int .i64 c, .slice A n cp, .string ap, .string gang, .int .i64 size]) := ⟨(T5.out.1.setCell (p := ⟨w.heap.size, 8, none⟩) (Nat.le_refl _) _), (T5.out.2.put 8 (.string gang))⟩
          clear T5
          have T5 := U5
          clear U5
          go_wp2_with fail
          refine (KQ.out _).mono ?_
          rintro e w6 ⟨rfl, hb6⟩
          have T6 : Hid (Below w.heap.size w w6 ∧ Bk w6 w.heap.size 30 #[.string nm, .string qu, .int .i64 pr, .int .i64 a, .int .i64 b, .int .i64 c, .slice A n cp, .string ap, .string gang, .int .i64 size]) := ⟨T5.out.1.trans (hb6.mono T5.out.1.size), T5.out.2.later hb6⟩
          clear hb6 T5
          have c6_0 : w6.cell? ⟨w.heap.size, 0, none⟩ = some (.string nm) := T6.out.2.cellAt 0
          have c6_1 : w6.cell? ⟨w.heap.size, 1, none⟩ = some (.string qu) := T6.out.2.cellAt 1
          have c6_2 : w6.cell? ⟨w.heap.size, 2, none⟩ = some (.int .i64 pr) := T6.out.2.cellAt 2
          have c6_3 : w6.cell? ⟨w.heap.size, 3, none⟩ = some (.int .i64 a) := T6.out.2.cellAt 3
          have c6_4 : w6.cell? ⟨w.heap.size, 4, none⟩ = some (.int .i64 b) := T6.out.2.cellAt 4
          have c6_5 : w6.cell? ⟨w.heap.size, 5, none⟩ = some (.int .i64 c) := T6.out.2.cellAt 5
          have c6_6 : w6.cell? ⟨w.heap.size, 6, none⟩ = some (.slice A n cp) := T6.out.2.cellAt 6
          have c6_7 : w6.cell? ⟨w.heap.size, 7, none⟩ = some (.string ap) := T6.out.2.cellAt 7
          have c6_8 : w6.cell? ⟨w.heap.size, 8, none⟩ = some (.string gang) := T6.out.2.cellAt 8
          have c6_9 : w6.cell? ⟨w.heap.size, 9, none⟩ = some (.int .i64 size) := T6.out.2.cellAt 9
          have z6 : w.heap.size < w6.heap.size := T6.out.2.here
          clear c5_0 c5_1 c5_2 c5_3 c5_4 c5_5 c5_6 c5_7 c5_8 c5_9 f5_8
          go_wp2_with fail
          refine (KT3.out _ (HL.out _ T6.out.1)).mono ?_
          rintro e w7 ⟨rfl, hb7⟩
          have T7 : Hid (Below w.heap.size w w7 ∧ Bk w7 w.heap.size 30 #[.string nm, .string qu, .int .i64 pr, .int .i64 a, .int .i64 b, .int .i64 c, .slice A n cp, .string ap, .string gang, .int .i64 size]) := ⟨T6.out.1.trans (hb7.mono T6.out.1.size), T6.out.2.later hb7⟩
          clear hb7 T6
          have c7_0 : w7.cell? ⟨w.heap.size, 0, none⟩ = some (.string nm) := T7.out.2.cellAt 0
          have c7_1 : w7.cell? ⟨w.heap.size, 1, none⟩ = some (.string qu) := T7.out.2.cellAt 1
          have c7_2 : w7.cell? ⟨w.heap.size, 2, none⟩ = some (.int .i64 pr) := T7.out.2.cellAt 2
          have c7_3 : w7.cell? ⟨w.heap.size, 3, none⟩ = some (.int .i64 a) := T7.out.2.cellAt 3
          have c7_4 : w7.cell? ⟨w.heap.size, 4, none⟩ = some (.int .i64 b) := T7.out.2.cellAt 4
          have c7_5 : w7.cell? ⟨w.heap.size, 5, none⟩ = some (.int .i64 c) := T7.out.2.cellAt 5
          have c7_6 : w7.cell? ⟨w.heap.size, 6, none⟩ = some (.slice A n cp) := T7.out.2.cellAt 6
          have c7_7 : w7.cell? ⟨w.heap.size, 7, none⟩ = some (.string ap) := T7.out.2.cellAt 7
          have c7_8 : w7.cell? ⟨w.heap.size, 8, none⟩ = some (.string gang) := T7.out.2.cellAt 8
          have c7_9 : w7.cell? ⟨w.heap.size, 9, none⟩ = some (.int .i64 size) := T7.out.2.cellAt 9
          have z7 : w.heap.size < w7.heap.size := T7.out.2.here
          clear c6_0 c6_1 c6_2 c6_3 c6_4 c6_5 c6_6 c6_7 c6_8 c6_9
          go_wp2
          go_ret
          exact ⟨rfl, T7.out.1⟩
end Go.Proofs.Ytgedofggkfmlnaa.modelGangs
