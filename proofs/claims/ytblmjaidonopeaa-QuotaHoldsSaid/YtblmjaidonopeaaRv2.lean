/- Vectors: the document's own Add, Sub, Fits. No condition beyond those that each contract bears. -/
import Derived.Test.YtblmjaidonopeaaVec2
import Derived.RegionTactic
import Derived.BigRegion
namespace Go.Proofs.Ytblmjaidonopeaa
open Go.RowKit
set_option linter.unusedSimpArgs false
set_option linter.unusedVariables false

set_option maxHeartbeats 400000 in
theorem radd_arg1 (a b c d e f : Int) (w : World) (h : rB a b c = false) :
    Calls Try.prog 23 #[.agg #[.int .i64 a, .int .i64 b, .int .i64 c], .agg #[.int .i64 d, .int .i64 e, .int .i64 f]] w fun e w' => e = .returned (.tuple #[.agg #[.int .i64 0, .int .i64 0, .int .i64 0], .int .i64 1]) ∧ Below w.heap.size w w' := by
  go_enter Try.func23, Try.ntmps23
  go_wp2_with (go_at_call 21; refine (rright_any _ _ _ _).mono ?_; rintro e w1 ⟨rfl, hb1⟩; obtain ⟨hc1, hf1⟩ := bcell hb1; have hz1a : w.heap.size < w1.heap.size := (by have h := hb1.size; (try simp only [World.size_alloc, World.size_setCell, World.size_drew] at h); omega); have hz1b : w.heap.size + 1 < w1.heap.size := (by have h := hb1.size; (try simp only [World.size_alloc, World.size_setCell, World.size_drew] at h); omega); have hz1c : w.heap.size + 1 + 1 < w1.heap.size := (by have h := hb1.size; (try simp only [World.size_alloc, World.size_setCell, World.size_drew] at h); omega))
  exact bodyPost_ret (v := .tuple #[.agg #[.int .i64 0, .int .i64 0, .int .i64 0], .int .i64 1]) (by simp [results, Try.results23, go_sem, hc1, hz1a, hz1b, hz1c]) rfl ⟨rfl, by (repeat' (first | (with_reducible exact Below.refl _ _) | (with_reducible refine Below.drew ?_) | (with_reducible refine Below.setCell ?_ ?_ _) | (with_reducible refine Below.alloc ?_ ?_ _) | (with_reducible refine Below.trans ?_ (Below.mono hb1 ?_)) | go_size))⟩

set_option maxHeartbeats 400000 in
theorem radd_arg2 (a b c d e f : Int) (w : World) (h : rB a b c = true) (h2 : rB d e f = false) :
    Calls Try.prog 23 #[.agg #[.int .i64 a, .int .i64 b, .int .i64 c], .agg #[.int .i64 d, .int .i64 e, .int .i64 f]] w fun e w' => e = .returned (.tuple #[.agg #[.int .i64 0, .int .i64 0, .int .i64 0], .int .i64 1]) ∧ Below w.heap.size w w' := by
  go_enter Try.func23, Try.ntmps23
  go_wp2_with fail
  refine (rright_any _ _ _ _).mono ?_; rintro r w1 ⟨rfl, hb1⟩; obtain ⟨hc1, hf1⟩ := bcell hb1; have hz1a : w.heap.size < w1.heap.size := (by have h := hb1.size; (try simp only [World.size_alloc, World.size_setCell, World.size_drew] at h); omega); have hz1b : w.heap.size + 1 < w1.heap.size := (by have h := hb1.size; (try simp only [World.size_alloc, World.size_setCell, World.size_drew] at h); omega); have hz1c : w.heap.size + 1 + 1 < w1.heap.size := (by have h := hb1.size; (try simp only [World.size_alloc, World.size_setCell, World.size_drew] at h); omega)
  go_wp2_with fail
  refine (rright_any _ _ _ _).mono ?_; rintro r w2 ⟨rfl, hb2⟩; obtain ⟨hc2, hf2⟩ := bcell hb2; have hz2a : w.heap.size < w2.heap.size := (by have h := hb2.size; (try simp only [World.size_alloc, World.size_setCell, World.size_drew] at h); omega); have hz2b : w.heap.size + 1 < w2.heap.size := (by have h := hb2.size; (try simp only [World.size_alloc, World.size_setCell, World.size_drew] at h); omega); have hz2c : w.heap.size + 1 + 1 < w2.heap.size := (by have h := hb2.size; (try simp only [World.size_alloc, World.size_setCell, World.size_drew] at h); omega)
  go_wp2
  exact bodyPost_ret (v := .tuple #[.agg #[.int .i64 0, .int .i64 0, .int .i64 0], .int .i64 1]) (by simp [results, Try.results23, go_sem, hc1, hc2, hz1a, hz1b, hz1c, hz2a, hz2b, hz2c]) rfl ⟨rfl, by (repeat' (first | (with_reducible exact Below.refl _ _) | (with_reducible refine Below.drew ?_) | (with_reducible refine Below.setCell ?_ ?_ _) | (with_reducible refine Below.alloc ?_ ?_ _) | (with_reducible refine Below.trans ?_ (Below.mono hb1 ?_)) | (with_reducible refine Below.trans ?_ (Below.mono hb2 ?_)) | go_size))⟩

set_option maxHeartbeats 1600000 in
theorem radd_ok (a b c d e f : Int) (w : World) (h : rB a b c = true) (h2 : rB d e f = true) (h3 : rB (a + d) (b + e) (c + f) = true) :
    Calls Try.prog 23 #[.agg #[.int .i64 a, .int .i64 b, .int .i64 c], .agg #[.int .i64 d, .int .i64 e, .int .i64 f]] w fun r w' => r = .returned (.tuple #[.agg #[.int .i64 (a + d), .int .i64 (b + e), .int .i64 (c + f)], .int .i64 0]) ∧ Below w.heap.size w w' := by
  obtain ⟨a0, a1, b0, b1, c0, c1⟩ := rB_bd h
  obtain ⟨d0, d1, e0, e1, f0, f1⟩ := rB_bd h2
  have H3 := Lib.hid h3; clear h3
  go_enter Try.func23, Try.ntmps23
  go_wp2_with fail
  refine (rright_any _ _ _ _).mono ?_; rintro r w1 ⟨rfl, hb1⟩; have hz1a : w.heap.size < w1.heap.size := (by have h := hb1.size; (try simp only [World.size_alloc, World.size_setCell, World.size_drew] at h); omega); have hz1b : w.heap.size + 1 < w1.heap.size := (by have h := hb1.size; (try simp only [World.size_alloc, World.size_setCell, World.size_drew] at h); omega); have hz1c : w.heap.size + 1 + 1 < w1.heap.size := (by have h := hb1.size; (try simp only [World.size_alloc, World.size_setCell, World.size_drew] at h); omega); have k1_00 : w1.cell? ⟨w.heap.size, 0, none⟩ = some (.int .i64 a) := (hb1.cell (p := ⟨w.heap.size, 0, none⟩) (by go_size)).trans (by go_cell); have m1_00 : w1.frozen? ⟨w.heap.size, 0, none⟩ = false := (hb1.frozen (p := ⟨w.heap.size, 0, none⟩) (by go_size)).trans (by first | assumption | (go_simp; done)); have k1_01 : w1.cell? ⟨w.heap.size, 1, none⟩ = some (.int .i64 b) := (hb1.cell (p := ⟨w.heap.size, 1, none⟩) (by go_size)).trans (by go_cell); have m1_01 : w1.frozen? ⟨w.heap.size, 1, none⟩ = false := (hb1.frozen (p := ⟨w.heap.size, 1, none⟩) (by go_size)).trans (by first | assumption | (go_simp; done)); have k1_02 : w1.cell? ⟨w.heap.size, 2, none⟩ = some (.int .i64 c) := (hb1.cell (p := ⟨w.heap.size, 2, none⟩) (by go_size)).trans (by go_cell); have m1_02 : w1.frozen? ⟨w.heap.size, 2, none⟩ = false := (hb1.frozen (p := ⟨w.heap.size, 2, none⟩) (by go_size)).trans (by first | assumption | (go_simp; done)); have k1_10 : w1.cell? ⟨w.heap.size + 1, 0, none⟩ = some (.int .i64 d) := (hb1.cell (p := ⟨w.heap.size + 1, 0, none⟩) (by go_size)).trans (by go_cell); have m1_10 : w1.frozen? ⟨w.heap.size + 1, 0, none⟩ = false := (hb1.frozen (p := ⟨w.heap.size + 1, 0, none⟩) (by go_size)).trans (by first | assumption | (go_simp; done)); have k1_11 : w1.cell? ⟨w.heap.size + 1, 1, none⟩ = some (.int .i64 e) := (hb1.cell (p := ⟨w.heap.size + 1, 1, none⟩) (by go_size)).trans (by go_cell); have m1_11 : w1.frozen? ⟨w.heap.size + 1, 1, none⟩ = false := (hb1.frozen (p := ⟨w.heap.size + 1, 1, none⟩) (by go_size)).trans (by first | assumption | (go_simp; done)); have k1_12 : w1.cell? ⟨w.heap.size + 1, 2, none⟩ = some (.int .i64 f) := (hb1.cell (p := ⟨w.heap.size + 1, 2, none⟩) (by go_size)).trans (by go_cell); have m1_12 : w1.frozen? ⟨w.heap.size + 1, 2, none⟩ = false := (hb1.frozen (p := ⟨w.heap.size + 1, 2, none⟩) (by go_size)).trans (by first | assumption | (go_simp; done)); have k1_20 : w1.cell? ⟨w.heap.size + 1 + 1, 0, none⟩ = some (.int .i64 0) := (hb1.cell (p := ⟨w.heap.size + 1 + 1, 0, none⟩) (by go_size)).trans (by go_cell); have m1_20 : w1.frozen? ⟨w.heap.size + 1 + 1, 0, none⟩ = false := (hb1.frozen (p := ⟨w.heap.size + 1 + 1, 0, none⟩) (by go_size)).trans (by first | assumption | (go_simp; done)); have k1_21 : w1.cell? ⟨w.heap.size + 1 + 1, 1, none⟩ = some (.int .i64 0) := (hb1.cell (p := ⟨w.heap.size + 1 + 1, 1, none⟩) (by go_size)).trans (by go_cell); have m1_21 : w1.frozen? ⟨w.heap.size + 1 + 1, 1, none⟩ = false := (hb1.frozen (p := ⟨w.heap.size + 1 + 1, 1, none⟩) (by go_size)).trans (by first | assumption | (go_simp; done)); have k1_22 : w1.cell? ⟨w.heap.size + 1 + 1, 2, none⟩ = some (.int .i64 0) := (hb1.cell (p := ⟨w.heap.size + 1 + 1, 2, none⟩) (by go_size)).trans (by go_cell); have m1_22 : w1.frozen? ⟨w.heap.size + 1 + 1, 2, none⟩ = false := (hb1.frozen (p := ⟨w.heap.size + 1 + 1, 2, none⟩) (by go_size)).trans (by first | assumption | (go_simp; done))
  go_wp2_with fail
  refine (rright_any _ _ _ _).mono ?_; rintro r w2 ⟨rfl, hb2⟩; have hz2a : w.heap.size < w2.heap.size := (by have h := hb2.size; (try simp only [World.size_alloc, World.size_setCell, World.size_drew] at h); omega); have hz2b : w.heap.size + 1 < w2.heap.size := (by have h := hb2.size; (try simp only [World.size_alloc, World.size_setCell, World.size_drew] at h); omega); have hz2c : w.heap.size + 1 + 1 < w2.heap.size := (by have h := hb2.size; (try simp only [World.size_alloc, World.size_setCell, World.size_drew] at h); omega); have k2_00 : w2.cell? ⟨w.heap.size, 0, none⟩ = some (.int .i64 a) := (hb2.cell (p := ⟨w.heap.size, 0, none⟩) (by go_size)).trans (by go_cell); have m2_00 : w2.frozen? ⟨w.heap.size, 0, none⟩ = false := (hb2.frozen (p := ⟨w.heap.size, 0, none⟩) (by go_size)).trans (by first | assumption | (go_simp; done)); have k2_01 : w2.cell? ⟨w.heap.size, 1, none⟩ = some (.int .i64 b) := (hb2.cell (p := ⟨w.heap.size, 1, none⟩) (by go_size)).trans (by go_cell); have m2_01 : w2.frozen? ⟨w.heap.size, 1, none⟩ = false := (hb2.frozen (p := ⟨w.heap.size, 1, none⟩) (by go_size)).trans (by first | assumption | (go_simp; done)); have k2_02 : w2.cell? ⟨w.heap.size, 2, none⟩ = some (.int .i64 c) := (hb2.cell (p := ⟨w.heap.size, 2, none⟩) (by go_size)).trans (by go_cell); have m2_02 : w2.frozen? ⟨w.heap.size, 2, none⟩ = false := (hb2.frozen (p := ⟨w.heap.size, 2, none⟩) (by go_size)).trans (by first | assumption | (go_simp; done)); have k2_10 : w2.cell? ⟨w.heap.size + 1, 0, none⟩ = some (.int .i64 d) := (hb2.cell (p := ⟨w.heap.size + 1, 0, none⟩) (by go_size)).trans (by go_cell); have m2_10 : w2.frozen? ⟨w.heap.size + 1, 0, none⟩ = false := (hb2.frozen (p := ⟨w.heap.size + 1, 0, none⟩) (by go_size)).trans (by first | assumption | (go_simp; done)); have k2_11 : w2.cell? ⟨w.heap.size + 1, 1, none⟩ = some (.int .i64 e) := (hb2.cell (p := ⟨w.heap.size + 1, 1, none⟩) (by go_size)).trans (by go_cell); have m2_11 : w2.frozen? ⟨w.heap.size + 1, 1, none⟩ = false := (hb2.frozen (p := ⟨w.heap.size + 1, 1, none⟩) (by go_size)).trans (by first | assumption | (go_simp; done)); have k2_12 : w2.cell? ⟨w.heap.size + 1, 2, none⟩ = some (.int .i64 f) := (hb2.cell (p := ⟨w.heap.size + 1, 2, none⟩) (by go_size)).trans (by go_cell); have m2_12 : w2.frozen? ⟨w.heap.size + 1, 2, none⟩ = false := (hb2.frozen (p := ⟨w.heap.size + 1, 2, none⟩) (by go_size)).trans (by first | assumption | (go_simp; done)); have k2_20 : w2.cell? ⟨w.heap.size + 1 + 1, 0, none⟩ = some (.int .i64 0) := (hb2.cell (p := ⟨w.heap.size + 1 + 1, 0, none⟩) (by go_size)).trans (by go_cell); have m2_20 : w2.frozen? ⟨w.heap.size + 1 + 1, 0, none⟩ = false := (hb2.frozen (p := ⟨w.heap.size + 1 + 1, 0, none⟩) (by go_size)).trans (by first | assumption | (go_simp; done)); have k2_21 : w2.cell? ⟨w.heap.size + 1 + 1, 1, none⟩ = some (.int .i64 0) := (hb2.cell (p := ⟨w.heap.size + 1 + 1, 1, none⟩) (by go_size)).trans (by go_cell); have m2_21 : w2.frozen? ⟨w.heap.size + 1 + 1, 1, none⟩ = false := (hb2.frozen (p := ⟨w.heap.size + 1 + 1, 1, none⟩) (by go_size)).trans (by first | assumption | (go_simp; done)); have k2_22 : w2.cell? ⟨w.heap.size + 1 + 1, 2, none⟩ = some (.int .i64 0) := (hb2.cell (p := ⟨w.heap.size + 1 + 1, 2, none⟩) (by go_size)).trans (by go_cell); have m2_22 : w2.frozen? ⟨w.heap.size + 1 + 1, 2, none⟩ = false := (hb2.frozen (p := ⟨w.heap.size + 1 + 1, 2, none⟩) (by go_size)).trans (by first | assumption | (go_simp; done)); clear k1_00 k1_01 k1_02 k1_10 k1_11 k1_12 k1_20 k1_21 k1_22 m1_00 m1_01 m1_02 m1_10 m1_11 m1_12 m1_20 m1_21 m1_22
  go_wp2_with fail
  refine wp_loop_rounds 4 ?_
  rw [rounds_succ]
  go_wp2_with fail
  go_region
  go_wp2_with fail
  rw [rounds_succ]
  go_wp2_with fail
  go_region
  go_wp2_with fail
  rw [rounds_succ]
  go_wp2_with fail
  go_region
  go_wp2_with fail
  rw [rounds_succ]
  go_wp2_with fail
  refine (rright_any _ _ _ _).mono ?_; rintro r w3 ⟨rfl, hb3⟩
  obtain ⟨hc3, hf3⟩ := bcell hb3
  have h3 := H3.out
  go_wp2
  exact bodyPost_ret (v := .tuple #[.agg #[.int .i64 (a + d), .int .i64 (b + e), .int .i64 (c + f)], .int .i64 0]) (by simp [results, Try.results23, go_sem, hc3, hz2a, hz2b, hz2c, k2_20, k2_21, k2_22]) rfl ⟨rfl, by (repeat' (first | (with_reducible exact Below.refl _ _) | (with_reducible refine Below.drew ?_) | (with_reducible refine Below.setCell ?_ ?_ _) | (with_reducible refine Below.alloc ?_ ?_ _) | (with_reducible refine Below.trans ?_ (Below.mono hb1 ?_)) | (with_reducible refine Below.trans ?_ (Below.mono hb2 ?_)) | (with_reducible refine Below.trans ?_ (Below.mono hb3 ?_)) | go_size))⟩

set_option maxHeartbeats 1600000 in
theorem radd_over (a b c d e f : Int) (w : World) (h : rB a b c = true) (h2 : rB d e f = true) (h3 : rB (a + d) (b + e) (c + f) = false) :
    Calls Try.prog 23 #[.agg #[.int .i64 a, .int .i64 b, .int .i64 c], .agg #[.int .i64 d, .int .i64 e, .int .i64 f]] w fun r w' => r = .returned (.tuple #[.agg #[.int .i64 0, .int .i64 0, .int .i64 0], .int .i64 6]) ∧ Below w.heap.size w w' := by
  obtain ⟨a0, a1, b0, b1, c0, c1⟩ := rB_bd h
  obtain ⟨d0, d1, e0, e1, f0, f1⟩ := rB_bd h2
  have H3 := Lib.hid h3; clear h3
  go_enter Try.func23, Try.ntmps23
  go_wp2_with fail
  refine (rright_any _ _ _ _).mono ?_; rintro r w1 ⟨rfl, hb1⟩; have hz1a : w.heap.size < w1.heap.size := (by have h := hb1.size; (try simp only [World.size_alloc, World.size_setCell, World.size_drew] at h); omega); have hz1b : w.heap.size + 1 < w1.heap.size := (by have h := hb1.size; (try simp only [World.size_alloc, World.size_setCell, World.size_drew] at h); omega); have hz1c : w.heap.size + 1 + 1 < w1.heap.size := (by have h := hb1.size; (try simp only [World.size_alloc, World.size_setCell, World.size_drew] at h); omega); have k1_00 : w1.cell? ⟨w.heap.size, 0, none⟩ = some (.int .i64 a) := (hb1.cell (p := ⟨w.heap.size, 0, none⟩) (by go_size)).trans (by go_cell); have m1_00 : w1.frozen? ⟨w.heap.size, 0, none⟩ = false := (hb1.frozen (p := ⟨w.heap.size, 0, none⟩) (by go_size)).trans (by first | assumption | (go_simp; done)); have k1_01 : w1.cell? ⟨w.heap.size, 1, none⟩ = some (.int .i64 b) := (hb1.cell (p := ⟨w.heap.size, 1, none⟩) (by go_size)).trans (by go_cell); have m1_01 : w1.frozen? ⟨w.heap.size, 1, none⟩ = false := (hb1.frozen (p := ⟨w.heap.size, 1, none⟩) (by go_size)).trans (by first | assumption | (go_simp; done)); have k1_02 : w1.cell? ⟨w.heap.size, 2, none⟩ = some (.int .i64 c) := (hb1.cell (p := ⟨w.heap.size, 2, none⟩) (by go_size)).trans (by go_cell); have m1_02 : w1.frozen? ⟨w.heap.size, 2, none⟩ = false := (hb1.frozen (p := ⟨w.heap.size, 2, none⟩) (by go_size)).trans (by first | assumption | (go_simp; done)); have k1_10 : w1.cell? ⟨w.heap.size + 1, 0, none⟩ = some (.int .i64 d) := (hb1.cell (p := ⟨w.heap.size + 1, 0, none⟩) (by go_size)).trans (by go_cell); have m1_10 : w1.frozen? ⟨w.heap.size + 1, 0, none⟩ = false := (hb1.frozen (p := ⟨w.heap.size + 1, 0, none⟩) (by go_size)).trans (by first | assumption | (go_simp; done)); have k1_11 : w1.cell? ⟨w.heap.size + 1, 1, none⟩ = some (.int .i64 e) := (hb1.cell (p := ⟨w.heap.size + 1, 1, none⟩) (by go_size)).trans (by go_cell); have m1_11 : w1.frozen? ⟨w.heap.size + 1, 1, none⟩ = false := (hb1.frozen (p := ⟨w.heap.size + 1, 1, none⟩) (by go_size)).trans (by first | assumption | (go_simp; done)); have k1_12 : w1.cell? ⟨w.heap.size + 1, 2, none⟩ = some (.int .i64 f) := (hb1.cell (p := ⟨w.heap.size + 1, 2, none⟩) (by go_size)).trans (by go_cell); have m1_12 : w1.frozen? ⟨w.heap.size + 1, 2, none⟩ = false := (hb1.frozen (p := ⟨w.heap.size + 1, 2, none⟩) (by go_size)).trans (by first | assumption | (go_simp; done)); have k1_20 : w1.cell? ⟨w.heap.size + 1 + 1, 0, none⟩ = some (.int .i64 0) := (hb1.cell (p := ⟨w.heap.size + 1 + 1, 0, none⟩) (by go_size)).trans (by go_cell); have m1_20 : w1.frozen? ⟨w.heap.size + 1 + 1, 0, none⟩ = false := (hb1.frozen (p := ⟨w.heap.size + 1 + 1, 0, none⟩) (by go_size)).trans (by first | assumption | (go_simp; done)); have k1_21 : w1.cell? ⟨w.heap.size + 1 + 1, 1, none⟩ = some (.int .i64 0) := (hb1.cell (p := ⟨w.heap.size + 1 + 1, 1, none⟩) (by go_size)).trans (by go_cell); have m1_21 : w1.frozen? ⟨w.heap.size + 1 + 1, 1, none⟩ = false := (hb1.frozen (p := ⟨w.heap.size + 1 + 1, 1, none⟩) (by go_size)).trans (by first | assumption | (go_simp; done)); have k1_22 : w1.cell? ⟨w.heap.size + 1 + 1, 2, none⟩ = some (.int .i64 0) := (hb1.cell (p := ⟨w.heap.size + 1 + 1, 2, none⟩) (by go_size)).trans (by go_cell); have m1_22 : w1.frozen? ⟨w.heap.size + 1 + 1, 2, none⟩ = false := (hb1.frozen (p := ⟨w.heap.size + 1 + 1, 2, none⟩) (by go_size)).trans (by first | assumption | (go_simp; done))
  go_wp2_with fail
  refine (rright_any _ _ _ _).mono ?_; rintro r w2 ⟨rfl, hb2⟩; have hz2a : w.heap.size < w2.heap.size := (by have h := hb2.size; (try simp only [World.size_alloc, World.size_setCell, World.size_drew] at h); omega); have hz2b : w.heap.size + 1 < w2.heap.size := (by have h := hb2.size; (try simp only [World.size_alloc, World.size_setCell, World.size_drew] at h); omega); have hz2c : w.heap.size + 1 + 1 < w2.heap.size := (by have h := hb2.size; (try simp only [World.size_alloc, World.size_setCell, World.size_drew] at h); omega); have k2_00 : w2.cell? ⟨w.heap.size, 0, none⟩ = some (.int .i64 a) := (hb2.cell (p := ⟨w.heap.size, 0, none⟩) (by go_size)).trans (by go_cell); have m2_00 : w2.frozen? ⟨w.heap.size, 0, none⟩ = false := (hb2.frozen (p := ⟨w.heap.size, 0, none⟩) (by go_size)).trans (by first | assumption | (go_simp; done)); have k2_01 : w2.cell? ⟨w.heap.size, 1, none⟩ = some (.int .i64 b) := (hb2.cell (p := ⟨w.heap.size, 1, none⟩) (by go_size)).trans (by go_cell); have m2_01 : w2.frozen? ⟨w.heap.size, 1, none⟩ = false := (hb2.frozen (p := ⟨w.heap.size, 1, none⟩) (by go_size)).trans (by first | assumption | (go_simp; done)); have k2_02 : w2.cell? ⟨w.heap.size, 2, none⟩ = some (.int .i64 c) := (hb2.cell (p := ⟨w.heap.size, 2, none⟩) (by go_size)).trans (by go_cell); have m2_02 : w2.frozen? ⟨w.heap.size, 2, none⟩ = false := (hb2.frozen (p := ⟨w.heap.size, 2, none⟩) (by go_size)).trans (by first | assumption | (go_simp; done)); have k2_10 : w2.cell? ⟨w.heap.size + 1, 0, none⟩ = some (.int .i64 d) := (hb2.cell (p := ⟨w.heap.size + 1, 0, none⟩) (by go_size)).trans (by go_cell); have m2_10 : w2.frozen? ⟨w.heap.size + 1, 0, none⟩ = false := (hb2.frozen (p := ⟨w.heap.size + 1, 0, none⟩) (by go_size)).trans (by first | assumption | (go_simp; done)); have k2_11 : w2.cell? ⟨w.heap.size + 1, 1, none⟩ = some (.int .i64 e) := (hb2.cell (p := ⟨w.heap.size + 1, 1, none⟩) (by go_size)).trans (by go_cell); have m2_11 : w2.frozen? ⟨w.heap.size + 1, 1, none⟩ = false := (hb2.frozen (p := ⟨w.heap.size + 1, 1, none⟩) (by go_size)).trans (by first | assumption | (go_simp; done)); have k2_12 : w2.cell? ⟨w.heap.size + 1, 2, none⟩ = some (.int .i64 f) := (hb2.cell (p := ⟨w.heap.size + 1, 2, none⟩) (by go_size)).trans (by go_cell); have m2_12 : w2.frozen? ⟨w.heap.size + 1, 2, none⟩ = false := (hb2.frozen (p := ⟨w.heap.size + 1, 2, none⟩) (by go_size)).trans (by first | assumption | (go_simp; done)); have k2_20 : w2.cell? ⟨w.heap.size + 1 + 1, 0, none⟩ = some (.int .i64 0) := (hb2.cell (p := ⟨w.heap.size + 1 + 1, 0, none⟩) (by go_size)).trans (by go_cell); have m2_20 : w2.frozen? ⟨w.heap.size + 1 + 1, 0, none⟩ = false := (hb2.frozen (p := ⟨w.heap.size + 1 + 1, 0, none⟩) (by go_size)).trans (by first | assumption | (go_simp; done)); have k2_21 : w2.cell? ⟨w.heap.size + 1 + 1, 1, none⟩ = some (.int .i64 0) := (hb2.cell (p := ⟨w.heap.size + 1 + 1, 1, none⟩) (by go_size)).trans (by go_cell); have m2_21 : w2.frozen? ⟨w.heap.size + 1 + 1, 1, none⟩ = false := (hb2.frozen (p := ⟨w.heap.size + 1 + 1, 1, none⟩) (by go_size)).trans (by first | assumption | (go_simp; done)); have k2_22 : w2.cell? ⟨w.heap.size + 1 + 1, 2, none⟩ = some (.int .i64 0) := (hb2.cell (p := ⟨w.heap.size + 1 + 1, 2, none⟩) (by go_size)).trans (by go_cell); have m2_22 : w2.frozen? ⟨w.heap.size + 1 + 1, 2, none⟩ = false := (hb2.frozen (p := ⟨w.heap.size + 1 + 1, 2, none⟩) (by go_size)).trans (by first | assumption | (go_simp; done)); clear k1_00 k1_01 k1_02 k1_10 k1_11 k1_12 k1_20 k1_21 k1_22 m1_00 m1_01 m1_02 m1_10 m1_11 m1_12 m1_20 m1_21 m1_22
  go_wp2_with fail
  refine wp_loop_rounds 4 ?_
  rw [rounds_succ]
  go_wp2_with fail
  go_region
  go_wp2_with fail
  rw [rounds_succ]
  go_wp2_with fail
  go_region
  go_wp2_with fail
  rw [rounds_succ]
  go_wp2_with fail
  go_region
  go_wp2_with fail
  rw [rounds_succ]
  go_wp2_with fail
  refine (rright_any _ _ _ _).mono ?_; rintro r w3 ⟨rfl, hb3⟩
  obtain ⟨hc3, hf3⟩ := bcell hb3
  have h3 := H3.out
  go_wp2
  exact bodyPost_ret (v := .tuple #[.agg #[.int .i64 0, .int .i64 0, .int .i64 0], .int .i64 6]) (by simp [results, Try.results23, go_sem, hc3, hz2a, hz2b, hz2c, k2_20, k2_21, k2_22]) rfl ⟨rfl, by (repeat' (first | (with_reducible exact Below.refl _ _) | (with_reducible refine Below.drew ?_) | (with_reducible refine Below.setCell ?_ ?_ _) | (with_reducible refine Below.alloc ?_ ?_ _) | (with_reducible refine Below.trans ?_ (Below.mono hb1 ?_)) | (with_reducible refine Below.trans ?_ (Below.mono hb2 ?_)) | (with_reducible refine Below.trans ?_ (Below.mono hb3 ?_)) | go_size))⟩

theorem radd_any (a b c d e f : Int) (w : World) :
    Calls Try.prog 23 #[.agg #[.int .i64 a, .int .i64 b, .int .i64 c], .agg #[.int .i64 d, .int .i64 e, .int .i64 f]] w fun r w' => r = .returned (.tuple #[.agg #[.int .i64 (kp (adB a b c d e f) (a + d)), .int .i64 (kp (adB a b c d e f) (b + e)), .int .i64 (kp (adB a b c d e f) (c + f))], .int .i64 (adE a b c d e f)]) ∧ Below w.heap.size w w' := by
  cases h1 : rB a b c
  · exact (radd_arg1 a b c d e f w h1).mono fun _ _ ⟨he, hw⟩ => ⟨by rw [he]; simp [kp, adB, adE, h1], hw⟩
  · cases h2 : rB d e f
    · exact (radd_arg2 a b c d e f w h1 h2).mono fun _ _ ⟨he, hw⟩ => ⟨by rw [he]; simp [kp, adB, adE, h1, h2], hw⟩
    · cases h3 : rB (a + d) (b + e) (c + f)
      · exact (radd_over a b c d e f w h1 h2 h3).mono fun _ _ ⟨he, hw⟩ => ⟨by rw [he]; simp [kp, adB, adE, h1, h2, h3], hw⟩
      · exact (radd_ok a b c d e f w h1 h2 h3).mono fun _ _ ⟨he, hw⟩ => ⟨by rw [he]; simp [kp, adB, adE, h1, h2, h3], hw⟩







    all_goals first | (simp; done) | (simp; omega) | (simp [h1, h2]; done)
end Go.Proofs.Ytblmjaidonopeaa
