/- The contract of gen1.Right at a state without machines, queues and jobs, its lists being nil or not. No condition. · The contracts of slices.Clone at machines, queues, jobs and labels. Condition: the slice reads as such elements, of at most 1000. · Single cells that are stored into a row that the call owns, and loads out of one. No condition; it serves any seat. -/
import Derived.Test.YtjgojgmgicpgaaaGreatTGs0
import Derived.Deep.RegionHeld3
namespace Go.Proofs.YtjgojgmgicpgaaaGreat
open Go.RowKit
set_option linter.unusedSimpArgs false
set_option linter.unusedVariables false

set_option maxHeartbeats 1600000 in
theorem within_z (n a b : Int) (w : World) : Calls Tryz.prog 51 #[.int .i64 n, .int .i64 a, .int .i64 b] w fun e w' => e = .returned (.bool (decide (a ≤ n) && decide (n ≤ b))) ∧ w = w' := by
  cases h1 : decide (a ≤ n)
  · go_enter Tryz.func51, Tryz.ntmps51
    go_wp2
    go_ret
    exact ⟨rfl, rfl⟩
  · go_enter Tryz.func51, Tryz.ntmps51
    go_wp2
    go_ret
    exact ⟨rfl, rfl⟩

set_option maxHeartbeats 1600000 in
theorem ascM_z (A : Option Addr) (c : Nat) (w : World) : Calls Tryz.prog 119 #[.slice A 0 c, .func (.func 120) #[] #[]] w fun e w' => e = .returned (.bool true) ∧ Below w.heap.size w w' := by
  go_enter Tryz.func119, Tryz.ntmps119
  go_wp2
  refine wp_loop_rounds 1 ?_
  rw [rounds_succ]
  go_wp2
  go_ret
  exact ⟨rfl, (by (repeat' (first | (with_reducible exact Below.refl _ _) | (with_reducible refine bdrewN ?_ _) | (with_reducible refine Below.drew ?_) | (with_reducible refine Below.setCell ?_ ?_ _) | (with_reducible refine Below.alloc ?_ ?_ _) | (with_reducible exact Nat.le_refl _) | (with_reducible assumption) | omega | (simp only [World.size_alloc, World.size_setCell, World.size_drew, sz_drewN]; omega))))⟩

set_option maxHeartbeats 1600000 in
theorem ascQ_z (A : Option Addr) (c : Nat) (w : World) : Calls Tryz.prog 122 #[.slice A 0 c, .func (.func 123) #[] #[]] w fun e w' => e = .returned (.bool true) ∧ Below w.heap.size w w' := by
  go_enter Tryz.func122, Tryz.ntmps122
  go_wp2
  refine wp_loop_rounds 1 ?_
  rw [rounds_succ]
  go_wp2
  go_ret
  exact ⟨rfl, (by (repeat' (first | (with_reducible exact Below.refl _ _) | (with_reducible refine bdrewN ?_ _) | (with_reducible refine Below.drew ?_) | (with_reducible refine Below.setCell ?_ ?_ _) | (with_reducible refine Below.alloc ?_ ?_ _) | (with_reducible exact Nat.le_refl _) | (with_reducible assumption) | omega | (simp only [World.size_alloc, World.size_setCell, World.size_drew, sz_drewN]; omega))))⟩

set_option maxHeartbeats 1600000 in
theorem ascJ_z (A : Option Addr) (c : Nat) (w : World) : Calls Tryz.prog 125 #[.slice A 0 c, .func (.func 126) #[] #[]] w fun e w' => e = .returned (.bool true) ∧ Below w.heap.size w w' := by
  go_enter Tryz.func125, Tryz.ntmps125
  go_wp2
  refine wp_loop_rounds 1 ?_
  rw [rounds_succ]
  go_wp2
  go_ret
  exact ⟨rfl, (by (repeat' (first | (with_reducible exact Below.refl _ _) | (with_reducible refine bdrewN ?_ _) | (with_reducible refine Below.drew ?_) | (with_reducible refine Below.setCell ?_ ?_ _) | (with_reducible refine Below.alloc ?_ ?_ _) | (with_reducible exact Nat.le_refl _) | (with_reducible assumption) | omega | (simp only [World.size_alloc, World.size_setCell, World.size_drew, sz_drewN]; omega))))⟩

set_option maxHeartbeats 1600000 in
theorem areM_z (A : Option Addr) (c : Nat) (w : World) : Calls Tryz.prog 52 #[.slice A 0 c] w fun e w' => e = .returned (.bool true) ∧ Below w.heap.size w w' := by
  have K1 := Lib.hid (fun W => ascM_z A c W)
  go_enter Tryz.func52, Tryz.ntmps52
  go_wp2_with fail
  refine (K1.out _).mono ?_; rintro e w1 ⟨rfl, hb1⟩
  go_wp2_with fail
  refine wp_loop_rounds 1 ?_
  rw [rounds_succ]
  go_wp2
  go_ret
  exact ⟨rfl, (by (repeat' (first | (with_reducible exact Below.refl _ _) | (with_reducible refine bdrewN ?_ _) | (with_reducible refine Below.drew ?_) | (with_reducible refine Below.setCell ?_ ?_ _) | (with_reducible refine Below.alloc ?_ ?_ _) | (with_reducible refine Below.trans ?_ (Below.mono hb1 ?_)) | (with_reducible exact Nat.le_refl _) | (with_reducible assumption) | omega | (simp only [World.size_alloc, World.size_setCell, World.size_drew, sz_drewN]; omega))))⟩

set_option maxHeartbeats 1600000 in
theorem areQ_z (A : Option Addr) (c : Nat) (w : World) : Calls Tryz.prog 53 #[.slice A 0 c] w fun e w' => e = .returned (.bool true) ∧ Below w.heap.size w w' := by
  have K1 := Lib.hid (fun W => ascQ_z A c W)
  go_enter Tryz.func53, Tryz.ntmps53
  go_wp2_with fail
  refine (K1.out _).mono ?_; rintro e w1 ⟨rfl, hb1⟩
  go_wp2_with fail
  refine wp_loop_rounds 1 ?_
  rw [rounds_succ]
  go_wp2
  go_ret
  exact ⟨rfl, (by (repeat' (first | (with_reducible exact Below.refl _ _) | (with_reducible refine bdrewN ?_ _) | (with_reducible refine Below.drew ?_) | (with_reducible refine Below.setCell ?_ ?_ _) | (with_reducible refine Below.alloc ?_ ?_ _) | (with_reducible refine Below.trans ?_ (Below.mono hb1 ?_)) | (with_reducible exact Nat.le_refl _) | (with_reducible assumption) | omega | (simp only [World.size_alloc, World.size_setCell, World.size_drew, sz_drewN]; omega))))⟩

set_option maxHeartbeats 1600000 in
theorem areJ_z (A : Option Addr) (c : Nat) (nx : Int) (w : World) : Calls Tryz.prog 54 #[.slice A 0 c, .int .i64 nx] w fun e w' => e = .returned (.bool true) ∧ Below w.heap.size w w' := by
  have K1 := Lib.hid (fun W => ascJ_z A c W)
  go_enter Tryz.func54, Tryz.ntmps54
  go_wp2_with fail
  refine (K1.out _).mono ?_; rintro e w1 ⟨rfl, hb1⟩
  go_wp2_with fail
  refine wp_loop_rounds 1 ?_
  rw [rounds_succ]
  go_wp2
  go_ret
  exact ⟨rfl, (by (repeat' (first | (with_reducible exact Below.refl _ _) | (with_reducible refine bdrewN ?_ _) | (with_reducible refine Below.drew ?_) | (with_reducible refine Below.setCell ?_ ?_ _) | (with_reducible refine Below.alloc ?_ ?_ _) | (with_reducible refine Below.trans ?_ (Below.mono hb1 ?_)) | (with_reducible exact Nat.le_refl _) | (with_reducible assumption) | omega | (simp only [World.size_alloc, World.size_setCell, World.size_drew, sz_drewN]; omega))))⟩

set_option maxHeartbeats 1600000 in
theorem keepQ_z (A : Option Addr) (c : Nat) (B : Option Addr) (d : Nat) (w : World) : Calls Tryz.prog 55 #[.slice A 0 c, .slice B 0 d] w fun e w' => e = .returned (.bool true) ∧ Below w.heap.size w w' := by
  go_enter Tryz.func55, Tryz.ntmps55
  go_wp2
  refine wp_loop_rounds 1 ?_
  rw [rounds_succ]
  go_wp2
  refine wp_loop_rounds 1 ?_
  rw [rounds_succ]
  go_wp2
  go_ret
  exact ⟨rfl, (by (repeat' (first | (with_reducible exact Below.refl _ _) | (with_reducible refine bdrewN ?_ _) | (with_reducible refine Below.drew ?_) | (with_reducible refine Below.setCell ?_ ?_ _) | (with_reducible refine Below.alloc ?_ ?_ _) | (with_reducible exact Nat.le_refl _) | (with_reducible assumption) | omega | (simp only [World.size_alloc, World.size_setCell, World.size_drew, sz_drewN]; omega))))⟩

set_option maxHeartbeats 1600000 in
theorem atHome_z (A : Option Addr) (c : Nat) (B : Option Addr) (d : Nat) (w : World) : Calls Tryz.prog 56 #[.slice A 0 c, .slice B 0 d] w fun e w' => e = .returned (.bool true) ∧ Below w.heap.size w w' := by
  go_enter Tryz.func56, Tryz.ntmps56
  go_wp2
  refine wp_loop_rounds 1 ?_
  rw [rounds_succ]
  go_wp2
  refine wp_loop_rounds 1 ?_
  rw [rounds_succ]
  go_wp2
  go_ret
  exact ⟨rfl, (by (repeat' (first | (with_reducible exact Below.refl _ _) | (with_reducible refine bdrewN ?_ _) | (with_reducible refine Below.drew ?_) | (with_reducible refine Below.setCell ?_ ?_ _) | (with_reducible refine Below.alloc ?_ ?_ _) | (with_reducible exact Nat.le_refl _) | (with_reducible assumption) | omega | (simp only [World.size_alloc, World.size_setCell, World.size_drew, sz_drewN]; omega))))⟩

set_option maxHeartbeats 6400000 in
set_option maxRecDepth 100000 in
theorem right_z (A : Option Addr) (a : Nat) (B : Option Addr) (b : Nat) (C : Option Addr) (c : Nat) (w : World) : Calls Tryz.prog 19 #[.agg #[.int .i64 0, .int .i64 1, .slice A 0 a, .slice B 0 b, .slice C 0 c]] w fun e w' => e = .returned (.bool true) ∧ Below w.heap.size w w' := by
  have k1 : ∀ W, Calls Tryz.prog 51 #[.int .i64 0, .int .i64 0, .int .i64 1073741824] W fun e w' => e = .returned (.bool true) ∧ W = w' := fun W => within_z 0 0 1073741824 W
  have k2 : ∀ W, Calls Tryz.prog 51 #[.int .i64 1, .int .i64 1, .int .i64 1073741824] W fun e w' => e = .returned (.bool true) ∧ W = w' := fun W => within_z 1 1 1073741824 W
  have K1 := Lib.hid k1; have K2 := Lib.hid k2; clear k1 k2
  have K3 := Lib.hid (fun W => areM_z A a W); have K4 := Lib.hid (fun W => areQ_z B b W); have K5 := Lib.hid (fun W => areJ_z C c 1 W); have K6 := Lib.hid (fun W => keepQ_z C c B b W); have K7 := Lib.hid (fun W => atHome_z C c A a W)
  obtain ⟨W0, hW0⟩ : ∃ W0, W0 = w.alloc (.cells #[.int .i64 0, .int .i64 1, .slice A 0 a, .slice B 0 b, .slice C 0 c] 26) := ⟨_, rfl⟩
  have HB0 : Hid (Bk W0 w.heap.size 26 #[.int .i64 0, .int .i64 1, .slice A 0 a, .slice B 0 b, .slice C 0 c]) := by rw [hW0]; exact Bk.fresh _ _ _
  have hb0 : Below w.heap.size w W0 := by rw [hW0]; exact (Below.refl _ _).alloc (Nat.le_refl _) _
  subst hW0
  go_enter Tryz.func19, Tryz.ntmps19
  go_wp2_with fail
  refine (K1.out _).mono ?_; rintro e w1 ⟨rfl, rfl⟩
  go_wp2_with fail
  refine (K2.out _).mono ?_; rintro e w1 ⟨rfl, rfl⟩
  go_wp2_with fail
  refine (K3.out _).mono ?_; rintro e w1 ⟨rfl, hb1⟩
  have HB1 := Lib.hid (HB0.out.later hb1)
  have c1 : w1.cell? ⟨w.heap.size, 3, none⟩ = some (.slice B 0 b) := HB1.out.cellAt 3
  go_wp2_with fail
  refine (K4.out _).mono ?_; rintro e w2 ⟨rfl, hb2⟩
  have HB2 := Lib.hid (HB1.out.later hb2)
  clear c1
  have c1 : w2.cell? ⟨w.heap.size, 4, none⟩ = some (.slice C 0 c) := HB2.out.cellAt 4
  have c2 : w2.cell? ⟨w.heap.size, 1, none⟩ = some (.int .i64 1) := HB2.out.cellAt 1
  go_wp2_with fail
  refine (K5.out _).mono ?_; rintro e w3 ⟨rfl, hb3⟩
  have HB3 := Lib.hid (HB2.out.later hb3)
  clear c1 c2
  have c1 : w3.cell? ⟨w.heap.size, 4, none⟩ = some (.slice C 0 c) := HB3.out.cellAt 4
  have c2 : w3.cell? ⟨w.heap.size, 3, none⟩ = some (.slice B 0 b) := HB3.out.cellAt 3
  go_wp2_with fail
  refine (K6.out _).mono ?_; rintro e w4 ⟨rfl, hb4⟩
  have HB4 := Lib.hid (HB3.out.later hb4)
  clear c1 c2
  have c1 : w4.cell? ⟨w.heap.size, 4, none⟩ = some (.slice C 0 c) := HB4.out.cellAt 4
  have c2 : w4.cell? ⟨w.heap.size, 2, none⟩ = some (.slice A 0 a) := HB4.out.cellAt 2
  go_wp2_with fail
  refine (K7.out _).mono ?_; rintro e w5 ⟨rfl, hb5⟩
  have hc1 := hb0.trans (hb1.mono hb0.size)
  have hc2 := hc1.trans (hb2.mono hc1.size)
  have hc3 := hc2.trans (hb3.mono hc2.size)
  have hc4 := hc3.trans (hb4.mono hc3.size)
  have hc5 := hc4.trans (hb5.mono hc4.size)
  go_wp2_with fail
  go_ret
  exact ⟨rfl, hc5⟩
end Go.Proofs.YtjgojgmgicpgaaaGreat

namespace Go.Proofs.YtjgojgmgicpgaaaGreat
open Go.RowKit
set_option linter.unusedSimpArgs false
set_option linter.unusedVariables false

theorem infoM15 : (Tryz.prog.info? 93).map (fun i => (i.zero, i.size, i.bytes)) = some (some (.agg #[.string ⟨#[]⟩, .int .i64 0, .int .i64 0, .int .i64 0, .slice none 0 0, .bool false, .int .i64 0]), 7, 80) := by kernel_rfl
theorem infoQ15 : (Tryz.prog.info? 55).map (fun i => (i.zero, i.size, i.bytes)) = some (some (.agg #[.string ⟨#[]⟩, .int .i64 0, .int .i64 0, .int .i64 0]), 4, 40) := by kernel_rfl
theorem infoJ15 : (Tryz.prog.info? 95).map (fun i => (i.zero, i.size, i.bytes)) = some (some (.agg #[.string ⟨#[]⟩, .string ⟨#[]⟩, .int .i64 0, .int .i64 0, .int .i64 0, .int .i64 0, .slice none 0 0, .string ⟨#[]⟩, .string ⟨#[]⟩, .int .i64 0, .int .i64 0, .string ⟨#[]⟩, .int .i64 0]), 13, 160) := by kernel_rfl
theorem infoL15 : (Tryz.prog.info? 220).map (fun i => (i.zero, i.size, i.bytes)) = some (some (.agg #[.string ⟨#[]⟩, .string ⟨#[]⟩]), 2, 32) := by kernel_rfl
theorem infoA15 : (Tryz.prog.info? 233).map (fun i => (i.zero, i.size, i.bytes)) = some (some (.agg #[.int .i64 0, .string ⟨#[]⟩, .string ⟨#[]⟩]), 3, 40) := by kernel_rfl

set_option maxHeartbeats 2000000 in
set_option maxRecDepth 100000 in
theorem cloneM_any (A : Option Addr) (n c : Nat) (l : List Mc) (w : World) (hn : Hid (n = l.length)) (hr : Hid (RdK w 7 A (cellsM l))) (hbig : n ≤ 1000) :
    Calls Tryz.prog 152 #[.slice A n c] w fun e w' => ∃ v, e = .returned v ∧ OwnK w' w.heap.size 93 7 v (cellsM l) ∧ Below w.heap.size w w' := by
  have q22 : ∀ (w : World) (a : Option Addr) (n c n' c' : Nat), (binOp .eql 22 (.slice a n c) (.slice none n' c')).run Tryz.prog w = .ok (.bool a.isNone) w := fun w a n c n' c' => Lib.run_eql_slice_nil w _ _ a n c n' c' Tryz.underlying22
  cases A with
  | none =>
    have hl : l = [] := by
      cases l with
      | nil => rfl
      | cons x r => obtain ⟨_, _, ha, _⟩ := hr.out 0 _ (by simp [cellsM]; rfl); cases ha
    have HL := Lib.hid hl
    clear hl
    go_enter Tryz.func152, Tryz.ntmps152
    go_wp2
    go_ret
    exact ⟨_, rfl, by rw [HL.out]; exact OwnK.nil _ _ _ _, Below.refl _ _⟩
  | some a =>
    have hr2 := Lib.hid (hr.out.later ((Below.refl w.heap.size w).alloc (Nat.le_refl _) (.cells #[] 93)))
    have hlen : (cellsM l).length = n := by rw [cellsM_length, hn.out]
    have HLen := Lib.hid hlen
    clear hlen
    go_enter Tryz.func152, Tryz.ntmps152
    go_wp2_with ((with_reducible refine append_k _ rfl (.tmp 5) (.tmp 6) 22 rfl w.heap.size 93 _ 7 80 Tryz.underlying22 infoM15 rfl (by omega) (.slice (some ⟨w.heap.size, 0, none⟩) 0 0) [] rfl (OwnK.empty w w.heap.size 93 7 (Nat.le_refl _) rfl) a c n (cellsM l) rfl hr2.out (cellsM_k l) (cellsM_one l) HLen.out.symm (by have := HLen.out; simp only [List.length_nil, maxLen]; omega) (by have := HLen.out; simp only [List.length_nil]; omega) (by simp) ?_); intro v' w1 hown hgrow)
    go_ret
    refine ⟨v', rfl, by simpa using hown, ?_⟩
    exact ((Below.refl _ w).alloc (Nat.le_refl _) _).grown hgrow (by simp) (by intro k hk; simp [Value.ownBlock] at hk; omega)

set_option maxHeartbeats 2000000 in
set_option maxRecDepth 100000 in
theorem cloneQ_any (A : Option Addr) (n c : Nat) (l : List Qx) (w : World) (hn : Hid (n = l.length)) (hr : Hid (RdK w 4 A (cellsQ l))) (hbig : n ≤ 1000) :
    Calls Tryz.prog 153 #[.slice A n c] w fun e w' => ∃ v, e = .returned v ∧ OwnK w' w.heap.size 55 4 v (cellsQ l) ∧ Below w.heap.size w w' := by
  have q22 : ∀ (w : World) (a : Option Addr) (n c n' c' : Nat), (binOp .eql 23 (.slice a n c) (.slice none n' c')).run Tryz.prog w = .ok (.bool a.isNone) w := fun w a n c n' c' => Lib.run_eql_slice_nil w _ _ a n c n' c' Tryz.underlying23
  cases A with
  | none =>
    have hl : l = [] := by
      cases l with
      | nil => rfl
      | cons x r => obtain ⟨_, _, ha, _⟩ := hr.out 0 _ (by simp [cellsQ]; rfl); cases ha
    have HL := Lib.hid hl
    clear hl
    go_enter Tryz.func153, Tryz.ntmps153
    go_wp2
    go_ret
    exact ⟨_, rfl, by rw [HL.out]; exact OwnK.nil _ _ _ _, Below.refl _ _⟩
  | some a =>
    have hr2 := Lib.hid (hr.out.later ((Below.refl w.heap.size w).alloc (Nat.le_refl _) (.cells #[] 55)))
    have hlen : (cellsQ l).length = n := by rw [cellsQ_length, hn.out]
    have HLen := Lib.hid hlen
    clear hlen
    go_enter Tryz.func153, Tryz.ntmps153
    go_wp2_with ((with_reducible refine append_k _ rfl (.tmp 5) (.tmp 6) 23 rfl w.heap.size 55 _ 4 40 Tryz.underlying23 infoQ15 rfl (by omega) (.slice (some ⟨w.heap.size, 0, none⟩) 0 0) [] rfl (OwnK.empty w w.heap.size 55 4 (Nat.le_refl _) rfl) a c n (cellsQ l) rfl hr2.out (cellsQ_k l) (cellsQ_one l) HLen.out.symm (by have := HLen.out; simp only [List.length_nil, maxLen]; omega) (by have := HLen.out; simp only [List.length_nil]; omega) (by simp) ?_); intro v' w1 hown hgrow)
    go_ret
    refine ⟨v', rfl, by simpa using hown, ?_⟩
    exact ((Below.refl _ w).alloc (Nat.le_refl _) _).grown hgrow (by simp) (by intro k hk; simp [Value.ownBlock] at hk; omega)

set_option maxHeartbeats 2000000 in
set_option maxRecDepth 100000 in
theorem cloneJ_any (A : Option Addr) (n c : Nat) (l : List Jb) (w : World) (hn : Hid (n = l.length)) (hr : Hid (RdK w 13 A (cellsJ l))) (hbig : n ≤ 1000) :
    Calls Tryz.prog 154 #[.slice A n c] w fun e w' => ∃ v, e = .returned v ∧ OwnK w' w.heap.size 95 13 v (cellsJ l) ∧ Below w.heap.size w w' := by
  have q22 : ∀ (w : World) (a : Option Addr) (n c n' c' : Nat), (binOp .eql 24 (.slice a n c) (.slice none n' c')).run Tryz.prog w = .ok (.bool a.isNone) w := fun w a n c n' c' => Lib.run_eql_slice_nil w _ _ a n c n' c' Tryz.underlying24
  cases A with
  | none =>
    have hl : l = [] := by
      cases l with
      | nil => rfl
      | cons x r => obtain ⟨_, _, ha, _⟩ := hr.out 0 _ (by simp [cellsJ]; rfl); cases ha
    have HL := Lib.hid hl
    clear hl
    go_enter Tryz.func154, Tryz.ntmps154
    go_wp2
    go_ret
    exact ⟨_, rfl, by rw [HL.out]; exact OwnK.nil _ _ _ _, Below.refl _ _⟩
  | some a =>
    have hr2 := Lib.hid (hr.out.later ((Below.refl w.heap.size w).alloc (Nat.le_refl _) (.cells #[] 95)))
    have hlen : (cellsJ l).length = n := by rw [cellsJ_length, hn.out]
    have HLen := Lib.hid hlen
    clear hlen
    go_enter Tryz.func154, Tryz.ntmps154
    go_wp2_with ((with_reducible refine append_k _ rfl (.tmp 5) (.tmp 6) 24 rfl w.heap.size 95 _ 13 160 Tryz.underlying24 infoJ15 rfl (by omega) (.slice (some ⟨w.heap.size, 0, none⟩) 0 0) [] rfl (OwnK.empty w w.heap.size 95 13 (Nat.le_refl _) rfl) a c n (cellsJ l) rfl hr2.out (cellsJ_k l) (cellsJ_one l) HLen.out.symm (by have := HLen.out; simp only [List.length_nil, maxLen]; omega) (by have := HLen.out; simp only [List.length_nil]; omega) (by simp) ?_); intro v' w1 hown hgrow)
    go_ret
    refine ⟨v', rfl, by simpa using hown, ?_⟩
    exact ((Below.refl _ w).alloc (Nat.le_refl _) _).grown hgrow (by simp) (by intro k hk; simp [Value.ownBlock] at hk; omega)

set_option maxHeartbeats 2000000 in
set_option maxRecDepth 100000 in
theorem cloneL_any (A : Option Addr) (n c : Nat) (l : List Lb) (w : World) (hn : Hid (n = l.length)) (hr : Hid (RdK w 2 A (cellsLb l))) (hbig : n ≤ 1000) :
    Calls Tryz.prog 155 #[.slice A n c] w fun e w' => ∃ v, e = .returned v ∧ OwnK w' w.heap.size 220 2 v (cellsLb l) ∧ Below w.heap.size w w' := by
  have q22 : ∀ (w : World) (a : Option Addr) (n c n' c' : Nat), (binOp .eql 51 (.slice a n c) (.slice none n' c')).run Tryz.prog w = .ok (.bool a.isNone) w := fun w a n c n' c' => Lib.run_eql_slice_nil w _ _ a n c n' c' Tryz.underlying51
  cases A with
  | none =>
    have hl : l = [] := by
      cases l with
      | nil => rfl
      | cons x r => obtain ⟨_, _, ha, _⟩ := hr.out 0 _ (by simp [cellsLb]; rfl); cases ha
    have HL := Lib.hid hl
    clear hl
    go_enter Tryz.func155, Tryz.ntmps155
    go_wp2
    go_ret
    exact ⟨_, rfl, by rw [HL.out]; exact OwnK.nil _ _ _ _, Below.refl _ _⟩
  | some a =>
    have hr2 := Lib.hid (hr.out.later ((Below.refl w.heap.size w).alloc (Nat.le_refl _) (.cells #[] 220)))
    have hlen : (cellsLb l).length = n := by rw [cellsLb_length, hn.out]
    have HLen := Lib.hid hlen
    clear hlen
    go_enter Tryz.func155, Tryz.ntmps155
    go_wp2_with ((with_reducible refine append_k _ rfl (.tmp 5) (.tmp 6) 51 rfl w.heap.size 220 _ 2 32 Tryz.underlying51 infoL15 rfl (by omega) (.slice (some ⟨w.heap.size, 0, none⟩) 0 0) [] rfl (OwnK.empty w w.heap.size 220 2 (Nat.le_refl _) rfl) a c n (cellsLb l) rfl hr2.out (cellsLb_k l) (cellsLb_one l) HLen.out.symm (by have := HLen.out; simp only [List.length_nil, maxLen]; omega) (by have := HLen.out; simp only [List.length_nil]; omega) (by simp) ?_); intro v' w1 hown hgrow)
    go_ret
    refine ⟨v', rfl, by simpa using hown, ?_⟩
    exact ((Below.refl _ w).alloc (Nat.le_refl _) _).grown hgrow (by simp) (by intro k hk; simp [Value.ownBlock] at hk; omega)
end Go.Proofs.YtjgojgmgicpgaaaGreat

namespace Go.Proofs.YtjgojgmgicpgaaaGreat
open Go.RowKit
set_option linter.unusedSimpArgs false
set_option linter.unusedVariables false

theorem flat_set {k : Nat} : ∀ {l : List (List Value)}, (∀ x ∈ l, x.length = k) → ∀ {p j : Nat} {u : Value} (hp : p < l.length), j < k → (l.set p (l[p].set j u)).flatten = l.flatten.set (p * k + j) u
  | [], _, p, j, u, hp, _ => by simp at hp
  | y :: l, hk, 0, j, u, hp, hj => by
    have hy : y.length = k := hk y (by simp)
    simp only [List.set_cons_zero, List.flatten_cons, List.getElem_cons_zero, Nat.zero_mul, Nat.zero_add]
    rw [List.set_append_left _ _ (by omega)]
  | y :: l, hk, p + 1, j, u, hp, hj => by
    have hy : y.length = k := hk y (by simp)
    simp only [List.set_cons_succ, List.flatten_cons, List.getElem_cons_succ]
    rw [flat_set (fun z hz => hk z (by simp [hz])) (by simpa using hp) hj, List.set_append_right _ _ (by rw [hy, Nat.add_mul]; omega)]
    congr 2
    rw [hy, Nat.add_mul]; omega

section
variable {P : Program} {w : World} {base k g n c p j : Nat} {e : TypeId} {l : List (List Value)} {u : Value}
/-- A cell of such a row is stored. -/
theorem OwnK.put (h : OwnK w base e k (.slice (some ⟨g, 0, none⟩) n c) l) (hp : p < l.length) (hj : j < k) (u : Value) :
    OwnK (w.setCell ⟨g, p * k + j, none⟩ u) base e k (.slice (some ⟨g, 0, none⟩) n c) (l.set p (l[p].set j u)) ∧ (w.cell? ⟨g, p * k + j, none⟩).isSome ∧ w.frozen? ⟨g, p * k + j, none⟩ = false := by
  obtain ⟨hk, hlen, hr⟩ := h
  rcases hr with ⟨h1, _⟩ | ⟨g', cap, cur, h1, hb, hg, hn, hm, hc, ht⟩
  · cases h1
  · injection h1 with e1 e2 e3
    injection e1 with e1
    injection e1 with e1
    subst e1 e3
    have hlt : p * k + j < l.length * k := by
      have := Nat.mul_le_mul_right k (show p + 1 ≤ l.length from hp)
      rw [Nat.add_mul] at this; omega
    have hsz : p * k + j < cur.size := by rw [hc]; exact Nat.lt_of_lt_of_le hlt (Nat.mul_le_mul_right k hn)
    refine ⟨⟨fun x hx => ?_, ?_, .inr ⟨g, c, cur.setIfInBounds (p * k + j) u, by rw [List.length_set, e2], hb, heap_setCell_same w g _ cur e u hg, by rw [List.length_set]; exact hn, hm, by simpa using hc, ?_⟩⟩, ?_, ?_⟩
    · rcases List.mem_or_eq_of_mem_set hx with hx | rfl
      · exact hk x hx
      · rw [List.length_set]; exact hk _ (List.getElem_mem hp)
    · rw [flat_set hk hp hj, List.length_set, List.length_set]; exact hlen
    · rw [flat_set hk hp hj, List.length_set, Array.toList_setIfInBounds, List.take_set, ht]
    · rw [cell_of_row w g _ cur e (0, 0) hg]; simp [hsz]
    · exact Bk.free hg _
/-- A whole element of such a row is loaded: its cells lie there. -/
theorem OwnK.range (h : OwnK w base e k (.slice (some ⟨g, 0, none⟩) n c) l) (hp : p < l.length) : w.rangeAt g (p * k) l[p] := by
  obtain ⟨A, c', hv, hr, _⟩ := h.sl
  injection hv with e1
  subst e1
  obtain ⟨g', o, ha, hx⟩ := hr.at hp
  injection ha with ha
  injection ha with e1 e2
  subst e1 e2
  simpa using hx
/-- A single cell is stored into a row that the call owns. -/
theorem store_own {ops : Array Oper} {rest : List Oper} {o : Oper} {a : Act} {Q : Exit → Act → World → Prop} (hw : Region.wanted o (yielded ops a.tmps) = true) (ty : TypeId) (x y : Operand) (ho : o.op = .store ty x y)
    (off : Nat) (u : Value) (hx : a.eval x = .pointer (some ⟨g, off, none⟩)) (hy : a.eval y = u) (hown : OwnK w base e k (.slice (some ⟨g, 0, none⟩) n c) l) (p j : Nat) (hoff : off = p * k + j) (hp : p < l.length) (hj : j < k)
    (hi : (P.info? ty).map (·.size) = some 1) (h1 : u.oneCell' = true) (hu : u.cells = #[u])
    (h : ∀ w', OwnK w' base e k (.slice (some ⟨g, 0, none⟩) n c) (l.set p (l[p].set j u)) → w.grownBy w' (some g) → w'.heap.size = w.heap.size → wpList P ops Q rest (a.put o.dst undef) w') : wpList P ops Q (o :: rest) a w :=
  BigFrame.wpList_want hw fun K hKK => by
    subst hoff
    obtain ⟨q1, q2, q3⟩ := hown.put hp hj u
    have hsv : (storeVar ty ⟨g, p * k + j, none⟩ u).run P w = .ok () (w.setCell ⟨g, p * k + j, none⟩ u) := by
      cases hq : P.info? ty with
      | none => simp [hq] at hi
      | some i =>
        have hs : i.size = 1 := by simpa [hq] using hi
        obtain ⟨v, hv⟩ := Option.isSome_iff_exists.1 q2
        simp [storeVar, sizeOf, typeInfo, hq, hu, hs, storeCells]
        rw [run_store P w _ _ _ h1]
        simp [stored, hv, q3, Addr.add]
    unfold Oper.wp execOp
    simp only [ho, hx, hy, Instr.storeAt, Instr.sureAddr, Sem.run_bind, Sem.run_pure, Result.andThen_ok, hsv]
    exact hKK _ _ (h _ q1 ⟨rfl, rfl, rfl, by simp, fun i hi hne => Below.heap_setCell w _ u i (fun e => hne (by rw [e]))⟩ (by simp))
end
section
variable {P : Program}
/-- A single struct that is handed back out of a cell. -/
theorem results_bk1 {fn : Func} {p : Tmp} {ty : TypeId} (h : fn.results = #[.cell p ty]) (tmps : Array Value) (w : World) (g : Nat) (t : TypeId) (cs : Array Value) (d : TypeDesc)
    (hp : tmps.getD p undef = .pointer (some ⟨g, 0, none⟩)) (hg : Bk w g t cs) (hu : P.underlying ty = some d) (hd : d.isRow = true) (hi : (P.info? ty).map (·.size) = some cs.size) :
    (results fn tmps).run P w = .ok (.agg cs) w := by
  have hp' : tmps[p]?.getD undef = .pointer (some ⟨g, 0, none⟩) := by simpa using hp
  simp [results, h, hp', asAddr, loadVar_bk hg hu hd hi]
end
/-- A row of another type stays where a row turns. -/
theorem OwnK.beside {w w' : World} {b b' k k' g : Nat} {e e' : TypeId} {v v' : Value} {l l' : List (List Value)} (h : OwnK w b e k v l) (h' : OwnK w b' e' k' v' l') (hne : e ≠ e') (hv : v'.ownBlock = some g) (hg : w.grownBy w' (some g)) : OwnK w' b e k v l :=
  h.grp (GrP.of hg) fun i hi e => by injection e with e; subst e; exact h.parted h' hne hi hv
theorem LbNew.beside {w w' : World} {b b' n cp k' g : Nat} {A : Option Addr} {l : List Lb} {e' : TypeId} {v' : Value} {l' : List (List Value)} (h : LbNew w b A n cp l) (h' : OwnK w b' e' k' v' l') (hne : 220 ≠ e') (hv : v'.ownBlock = some g) (hg : w.grownBy w' (some g)) : LbNew w' b A n cp l := ⟨h.own.beside h' hne hv hg, h.sz⟩
/-- Labels lie in no row of another type. -/
theorem LbNew.off {w : World} {b b' n cp k' g : Nat} {A : Option Addr} {l : List Lb} {e' : TypeId} {v' : Value} {l' : List (List Value)} (h : LbNew w b A n cp l) (h' : OwnK w b' e' k' v' l') (hne : 220 ≠ e') (hg : blkA A g) (hv : v'.ownBlock = some g) : False := by
  obtain ⟨a, rfl, rfl⟩ := hg
  exact h.own.parted h' hne rfl hv
/-- A row stays where a cell of an elder block is stored. -/
theorem OwnK.far {w : World} {b k : Nat} {e : TypeId} {v : Value} {l : List (List Value)} (h : OwnK w b e k v l) {p : Addr} (hp : p.block < b) (u : Value) : OwnK (w.setCell p u) b e k v l :=
  h.grp (p := fun k => k = p.block) ⟨rfl, rfl, rfl, by simp, fun k _ hn => Below.heap_setCell w p u k hn⟩ fun i hi e => by have := h.block i hi; omega
theorem Bk.set {w : World} {g : Nat} {t : TypeId} {cs : Array Value} (h : Bk w g t cs) {p : Addr} (hp : g ≠ p.block) (u : Value) : Bk (w.setCell p u) g t cs := h.other hp u
end Go.Proofs.YtjgojgmgicpgaaaGreat
