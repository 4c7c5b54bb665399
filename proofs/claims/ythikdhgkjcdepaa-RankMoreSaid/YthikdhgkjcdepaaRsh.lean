/- Vectors: Share, the document's own. No condition. -/
import Derived.Test.YthikdhgkjcdepaaShr
import Derived.RegionTactic
import Derived.BigRegion
namespace Go.Proofs.Ythikdhgkjcdepaa
open Go.RowKit
set_option linter.unusedSimpArgs false
set_option linter.unusedVariables false

set_option maxHeartbeats 400000 in
theorem rshare_no (a b c d e f : Int) (w : World) (h : (rB a b c && rB d e f) = false) :
    Calls Try.prog 23 #[.agg #[.int .i64 a, .int .i64 b, .int .i64 c], .agg #[.int .i64 d, .int .i64 e, .int .i64 f]] w fun r w' => r = .returned (.int .i64 0) ∧ Below w.heap.size w w' := by
  cases h1 : rB a b c
  · clear h
    go_enter Try.func23, Try.ntmps23
    go_wp2_with (go_at_call 44; refine (rright_any _ _ _ _).mono ?_; rintro e w1 ⟨rfl, hb1⟩; obtain ⟨hc1, hf1⟩ := bcell hb1; have hz1a : w.heap.size < w1.heap.size := (by have h := hb1.size; (try simp only [World.size_alloc, World.size_setCell, World.size_drew] at h); omega); have hz1b : w.heap.size + 1 < w1.heap.size := (by have h := hb1.size; (try simp only [World.size_alloc, World.size_setCell, World.size_drew] at h); omega))
    go_ret
    exact ⟨rfl, by (repeat' (first | (with_reducible exact Below.refl _ _) | (with_reducible refine Below.drew ?_) | (with_reducible refine Below.setCell ?_ ?_ _) | (with_reducible refine Below.alloc ?_ ?_ _) | (with_reducible refine Below.trans ?_ (Below.mono hb1 ?_)) | go_size))⟩
  · cases h2 : rB d e f
    · clear h
      go_enter Try.func23, Try.ntmps23
      go_wp2_with fail
      refine (rright_any _ _ _ _).mono ?_; rintro r w1 ⟨rfl, hb1⟩; obtain ⟨hc1, hf1⟩ := bcell hb1; have hz1a : w.heap.size < w1.heap.size := (by have h := hb1.size; (try simp only [World.size_alloc, World.size_setCell, World.size_drew] at h); omega); have hz1b : w.heap.size + 1 < w1.heap.size := (by have h := hb1.size; (try simp only [World.size_alloc, World.size_setCell, World.size_drew] at h); omega)
      go_wp2_with fail
      refine (rright_any _ _ _ _).mono ?_; rintro r w2 ⟨rfl, hb2⟩; obtain ⟨hc2, hf2⟩ := bcell hb2; have hz2a : w.heap.size < w2.heap.size := (by have h := hb2.size; (try simp only [World.size_alloc, World.size_setCell, World.size_drew] at h); omega); have hz2b : w.heap.size + 1 < w2.heap.size := (by have h := hb2.size; (try simp only [World.size_alloc, World.size_setCell, World.size_drew] at h); omega)
      go_wp2
      go_ret
      exact ⟨rfl, by (repeat' (first | (with_reducible exact Below.refl _ _) | (with_reducible refine Below.drew ?_) | (with_reducible refine Below.setCell ?_ ?_ _) | (with_reducible refine Below.alloc ?_ ?_ _) | (with_reducible refine Below.trans ?_ (Below.mono hb1 ?_)) | (with_reducible refine Below.trans ?_ (Below.mono hb2 ?_)) | go_size))⟩
    · simp [h1, h2] at h

set_option maxHeartbeats 3200000 in
theorem rshare_in (a b c d e f : Int) (w : World) (h : rB a b c = true) (h2 : rB d e f = true) :
    Calls Try.prog 23 #[.agg #[.int .i64 a, .int .i64 b, .int .i64 c], .agg #[.int .i64 d, .int .i64 e, .int .i64 f]] w fun r w' => r = .returned (.int .i64 (qt a d + qt b e + qt c f)) ∧ Below w.heap.size w w' := by
  obtain ⟨a0, a1, b0, b1, c0, c1⟩ := rB_bd h
  obtain ⟨d0, d1, e0, e1, f0, f1⟩ := rB_bd h2
  obtain ⟨v, hv⟩ : ∃ v, v = qt a d + qt b e + qt c f := ⟨_, rfl⟩
  rw [← hv]
  have HV := Lib.hid hv; clear hv
  rcases (show 0 < d ∨ d ≤ 0 by omega) with g1 | g1 <;> rcases (show 0 < e ∨ e ≤ 0 by omega) with g2 | g2 <;> rcases (show 0 < f ∨ f ≤ 0 by omega) with g3 | g3
  all_goals
    first | (obtain ⟨p1, p1'⟩ := qd_bd g1 a0 a1) | skip
    first | (obtain ⟨p2, p2'⟩ := qd_bd g2 b0 b1) | skip
    first | (obtain ⟨p3, p3'⟩ := qd_bd g3 c0 c1) | skip
    go_enter Try.func23, Try.ntmps23
    go_wp2_with fail
    refine (rright_any _ _ _ _).mono ?_; rintro r w1 ⟨rfl, hb1⟩; have hz1a : w.heap.size < w1.heap.size := (by have h := hb1.size; (try simp only [World.size_alloc, World.size_setCell, World.size_drew] at h); omega); have hz1b : w.heap.size + 1 < w1.heap.size := (by have h := hb1.size; (try simp only [World.size_alloc, World.size_setCell, World.size_drew] at h); omega); have k1_00 : w1.cell? ⟨w.heap.size, 0, none⟩ = some (.int .i64 a) := (hb1.cell (p := ⟨w.heap.size, 0, none⟩) (by go_size)).trans (by go_cell); have m1_00 : w1.frozen? ⟨w.heap.size, 0, none⟩ = false := (hb1.frozen (p := ⟨w.heap.size, 0, none⟩) (by go_size)).trans (by first | assumption | (go_simp; done)); have k1_01 : w1.cell? ⟨w.heap.size, 1, none⟩ = some (.int .i64 b) := (hb1.cell (p := ⟨w.heap.size, 1, none⟩) (by go_size)).trans (by go_cell); have m1_01 : w1.frozen? ⟨w.heap.size, 1, none⟩ = false := (hb1.frozen (p := ⟨w.heap.size, 1, none⟩) (by go_size)).trans (by first | assumption | (go_simp; done)); have k1_02 : w1.cell? ⟨w.heap.size, 2, none⟩ = some (.int .i64 c) := (hb1.cell (p := ⟨w.heap.size, 2, none⟩) (by go_size)).trans (by go_cell); have m1_02 : w1.frozen? ⟨w.heap.size, 2, none⟩ = false := (hb1.frozen (p := ⟨w.heap.size, 2, none⟩) (by go_size)).trans (by first | assumption | (go_simp; done)); have k1_10 : w1.cell? ⟨w.heap.size + 1, 0, none⟩ = some (.int .i64 d) := (hb1.cell (p := ⟨w.heap.size + 1, 0, none⟩) (by go_size)).trans (by go_cell); have m1_10 : w1.frozen? ⟨w.heap.size + 1, 0, none⟩ = false := (hb1.frozen (p := ⟨w.heap.size + 1, 0, none⟩) (by go_size)).trans (by first | assumption | (go_simp; done)); have k1_11 : w1.cell? ⟨w.heap.size + 1, 1, none⟩ = some (.int .i64 e) := (hb1.cell (p := ⟨w.heap.size + 1, 1, none⟩) (by go_size)).trans (by go_cell); have m1_11 : w1.frozen? ⟨w.heap.size + 1, 1, none⟩ = false := (hb1.frozen (p := ⟨w.heap.size + 1, 1, none⟩) (by go_size)).trans (by first | assumption | (go_simp; done)); have k1_12 : w1.cell? ⟨w.heap.size + 1, 2, none⟩ = some (.int .i64 f) := (hb1.cell (p := ⟨w.heap.size + 1, 2, none⟩) (by go_size)).trans (by go_cell); have m1_12 : w1.frozen? ⟨w.heap.size + 1, 2, none⟩ = false := (hb1.frozen (p := ⟨w.heap.size + 1, 2, none⟩) (by go_size)).trans (by first | assumption | (go_simp; done))
    go_wp2_with fail
    refine (rright_any _ _ _ _).mono ?_; rintro r w2 ⟨rfl, hb2⟩; have hz2a : w.heap.size < w2.heap.size := (by have h := hb2.size; (try simp only [World.size_alloc, World.size_setCell, World.size_drew] at h); omega); have hz2b : w.heap.size + 1 < w2.heap.size := (by have h := hb2.size; (try simp only [World.size_alloc, World.size_setCell, World.size_drew] at h); omega); have k2_00 : w2.cell? ⟨w.heap.size, 0, none⟩ = some (.int .i64 a) := (hb2.cell (p := ⟨w.heap.size, 0, none⟩) (by go_size)).trans (by go_cell); have m2_00 : w2.frozen? ⟨w.heap.size, 0, none⟩ = false := (hb2.frozen (p := ⟨w.heap.size, 0, none⟩) (by go_size)).trans (by first | assumption | (go_simp; done)); have k2_01 : w2.cell? ⟨w.heap.size, 1, none⟩ = some (.int .i64 b) := (hb2.cell (p := ⟨w.heap.size, 1, none⟩) (by go_size)).trans (by go_cell); have m2_01 : w2.frozen? ⟨w.heap.size, 1, none⟩ = false := (hb2.frozen (p := ⟨w.heap.size, 1, none⟩) (by go_size)).trans (by first | assumption | (go_simp; done)); have k2_02 : w2.cell? ⟨w.heap.size, 2, none⟩ = some (.int .i64 c) := (hb2.cell (p := ⟨w.heap.size, 2, none⟩) (by go_size)).trans (by go_cell); have m2_02 : w2.frozen? ⟨w.heap.size, 2, none⟩ = false := (hb2.frozen (p := ⟨w.heap.size, 2, none⟩) (by go_size)).trans (by first | assumption | (go_simp; done)); have k2_10 : w2.cell? ⟨w.heap.size + 1, 0, none⟩ = some (.int .i64 d) := (hb2.cell (p := ⟨w.heap.size + 1, 0, none⟩) (by go_size)).trans (by go_cell); have m2_10 : w2.frozen? ⟨w.heap.size + 1, 0, none⟩ = false := (hb2.frozen (p := ⟨w.heap.size + 1, 0, none⟩) (by go_size)).trans (by first | assumption | (go_simp; done)); have k2_11 : w2.cell? ⟨w.heap.size + 1, 1, none⟩ = some (.int .i64 e) := (hb2.cell (p := ⟨w.heap.size + 1, 1, none⟩) (by go_size)).trans (by go_cell); have m2_11 : w2.frozen? ⟨w.heap.size + 1, 1, none⟩ = false := (hb2.frozen (p := ⟨w.heap.size + 1, 1, none⟩) (by go_size)).trans (by first | assumption | (go_simp; done)); have k2_12 : w2.cell? ⟨w.heap.size + 1, 2, none⟩ = some (.int .i64 f) := (hb2.cell (p := ⟨w.heap.size + 1, 2, none⟩) (by go_size)).trans (by go_cell); have m2_12 : w2.frozen? ⟨w.heap.size + 1, 2, none⟩ = false := (hb2.frozen (p := ⟨w.heap.size + 1, 2, none⟩) (by go_size)).trans (by first | assumption | (go_simp; done)); clear k1_00 k1_01 k1_02 k1_10 k1_11 k1_12 m1_00 m1_01 m1_02 m1_10 m1_11 m1_12
    go_wp2_with fail
    refine wp_loop_rounds 4 ?_
    rw [rounds_succ]
    go_wp2_with fail
    first | (go_region; go_wp2_with fail) | skip
    rw [rounds_succ]
    go_wp2_with fail
    first | (go_region; go_wp2_with fail) | skip
    rw [rounds_succ]
    go_wp2_with fail
    first | (go_region; go_wp2_with fail) | skip
    rw [rounds_succ]
    go_wp2_with fail
    all_goals go_ret
    all_goals refine ⟨?_, by (repeat' (first | (with_reducible exact Below.refl _ _) | (with_reducible refine Below.drew ?_) | (with_reducible refine Below.setCell ?_ ?_ _) | (with_reducible refine Below.alloc ?_ ?_ _) | (with_reducible refine Below.trans ?_ (Below.mono hb1 ?_)) | (with_reducible refine Below.trans ?_ (Below.mono hb2 ?_)) | go_size))⟩
    all_goals rw [HV.out]
    first | rw [qt_pos g1] | rw [qt_no g1]
    first | rw [qt_pos g2] | rw [qt_no g2]
    first | rw [qt_pos g3] | rw [qt_no g3]
    simp

theorem rshare_any (a b c d e f : Int) (w : World) :
    Calls Try.prog 23 #[.agg #[.int .i64 a, .int .i64 b, .int .i64 c], .agg #[.int .i64 d, .int .i64 e, .int .i64 f]] w fun r w' => r = .returned (.int .i64 (shN a b c d e f)) ∧ Below w.heap.size w w' := by
  cases h : rB a b c && rB d e f
  · exact (rshare_no a b c d e f w h).mono fun _ _ ⟨he, hw⟩ => ⟨by rw [he]; simp [shN, h], hw⟩
  · simp only [Bool.and_eq_true] at h
    exact (rshare_in a b c d e f w h.1 h.2).mono fun _ _ ⟨he, hw⟩ => ⟨by rw [he, shN_in h.1 h.2], hw⟩

end Go.Proofs.Ythikdhgkjcdepaa
