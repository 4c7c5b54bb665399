/- The contract of gen1.Right at a state without machines, queues and jobs. No condition. · The contract of the statements' own first look (awake). No condition. · gen1.Load of a blank state; the first generation over any blank lists. No condition. -/
import Derived.Test.YtjgojgmgicpgaaaGreatTGs0
import Derived.Test.YtjgojgmgicpgaaaGreatTGdq
import Derived.Test.YtjgojgmgicpgaaaGreatTQ05
namespace Go.Proofs.YtjgojgmgicpgaaaGreat
open Go.RowKit
set_option linter.unusedSimpArgs false
set_option linter.unusedVariables false

set_option maxHeartbeats 1600000 in
theorem within_any (n a b : Int) (w : World) : Calls Tryz.prog 51 #[.int .i64 n, .int .i64 a, .int .i64 b] w fun e w' => e = .returned (.bool (decide (a ≤ n) && decide (n ≤ b))) ∧ w = w' := by
  cases h1 : decide (a ≤ n)
  · go_enter Tryz.func51, Tryz.ntmps51
    go_wp2
    go_ret
    exact ⟨rfl, rfl⟩
  · go_enter Tryz.func51, Tryz.ntmps51
    go_wp2
    go_ret
    exact ⟨rfl, rfl⟩

set_option maxHeartbeats 1600000 in
theorem ascM_nil (w : World) : Calls Tryz.prog 119 #[.slice none 0 0, .func (.func 120) #[] #[]] w fun e w' => e = .returned (.bool true) ∧ Below w.heap.size w w' := by
  go_enter Tryz.func119, Tryz.ntmps119
  go_wp2
  refine wp_loop_rounds 1 ?_
  rw [rounds_succ]
  go_wp2
  go_ret
  exact ⟨rfl, (by (repeat' (first | (with_reducible exact Below.refl _ _) | (with_reducible refine bdrewN ?_ _) | (with_reducible refine Below.drew ?_) | (with_reducible refine Below.setCell ?_ ?_ _) | (with_reducible refine Below.alloc ?_ ?_ _) | (with_reducible exact Nat.le_refl _) | (with_reducible assumption) | omega | (simp only [World.size_alloc, World.size_setCell, World.size_drew, sz_drewN]; omega))))⟩

set_option maxHeartbeats 1600000 in
theorem ascQ_nil (w : World) : Calls Tryz.prog 122 #[.slice none 0 0, .func (.func 123) #[] #[]] w fun e w' => e = .returned (.bool true) ∧ Below w.heap.size w w' := by
  go_enter Tryz.func122, Tryz.ntmps122
  go_wp2
  refine wp_loop_rounds 1 ?_
  rw [rounds_succ]
  go_wp2
  go_ret
  exact ⟨rfl, (by (repeat' (first | (with_reducible exact Below.refl _ _) | (with_reducible refine bdrewN ?_ _) | (with_reducible refine Below.drew ?_) | (with_reducible refine Below.setCell ?_ ?_ _) | (with_reducible refine Below.alloc ?_ ?_ _) | (with_reducible exact Nat.le_refl _) | (with_reducible assumption) | omega | (simp only [World.size_alloc, World.size_setCell, World.size_drew, sz_drewN]; omega))))⟩

set_option maxHeartbeats 1600000 in
theorem ascJ_nil (w : World) : Calls Tryz.prog 125 #[.slice none 0 0, .func (.func 126) #[] #[]] w fun e w' => e = .returned (.bool true) ∧ Below w.heap.size w w' := by
  go_enter Tryz.func125, Tryz.ntmps125
  go_wp2
  refine wp_loop_rounds 1 ?_
  rw [rounds_succ]
  go_wp2
  go_ret
  exact ⟨rfl, (by (repeat' (first | (with_reducible exact Below.refl _ _) | (with_reducible refine bdrewN ?_ _) | (with_reducible refine Below.drew ?_) | (with_reducible refine Below.setCell ?_ ?_ _) | (with_reducible refine Below.alloc ?_ ?_ _) | (with_reducible exact Nat.le_refl _) | (with_reducible assumption) | omega | (simp only [World.size_alloc, World.size_setCell, World.size_drew, sz_drewN]; omega))))⟩

set_option maxHeartbeats 1600000 in
theorem areM_nil (w : World) : Calls Tryz.prog 52 #[.slice none 0 0] w fun e w' => e = .returned (.bool true) ∧ Below w.heap.size w w' := by
  have K1 := Lib.hid (fun W => ascM_nil W)
  go_enter Tryz.func52, Tryz.ntmps52
  go_wp2_with fail
  refine (K1.out _).mono ?_; rintro e w1 ⟨rfl, hb1⟩
  go_wp2_with fail
  refine wp_loop_rounds 1 ?_
  rw [rounds_succ]
  go_wp2
  go_ret
  exact ⟨rfl, (by (repeat' (first | (with_reducible exact Below.refl _ _) | (with_reducible refine bdrewN ?_ _) | (with_reducible refine Below.drew ?_) | (with_reducible refine Below.setCell ?_ ?_ _) | (with_reducible refine Below.alloc ?_ ?_ _) | (with_reducible refine Below.trans ?_ (Below.mono hb1 ?_)) | (with_reducible exact Nat.le_refl _) | (with_reducible assumption) | omega | (simp only [World.size_alloc, World.size_setCell, World.size_drew, sz_drewN]; omega))))⟩

set_option maxHeartbeats 1600000 in
theorem areQ_nil (w : World) : Calls Tryz.prog 53 #[.slice none 0 0] w fun e w' => e = .returned (.bool true) ∧ Below w.heap.size w w' := by
  have K1 := Lib.hid (fun W => ascQ_nil W)
  go_enter Tryz.func53, Tryz.ntmps53
  go_wp2_with fail
  refine (K1.out _).mono ?_; rintro e w1 ⟨rfl, hb1⟩
  go_wp2_with fail
  refine wp_loop_rounds 1 ?_
  rw [rounds_succ]
  go_wp2
  go_ret
  exact ⟨rfl, (by (repeat' (first | (with_reducible exact Below.refl _ _) | (with_reducible refine bdrewN ?_ _) | (with_reducible refine Below.drew ?_) | (with_reducible refine Below.setCell ?_ ?_ _) | (with_reducible refine Below.alloc ?_ ?_ _) | (with_reducible refine Below.trans ?_ (Below.mono hb1 ?_)) | (with_reducible exact Nat.le_refl _) | (with_reducible assumption) | omega | (simp only [World.size_alloc, World.size_setCell, World.size_drew, sz_drewN]; omega))))⟩

set_option maxHeartbeats 1600000 in
theorem areJ_nil (nx : Int) (w : World) : Calls Tryz.prog 54 #[.slice none 0 0, .int .i64 nx] w fun e w' => e = .returned (.bool true) ∧ Below w.heap.size w w' := by
  have K1 := Lib.hid (fun W => ascJ_nil W)
  go_enter Tryz.func54, Tryz.ntmps54
  go_wp2_with fail
  refine (K1.out _).mono ?_; rintro e w1 ⟨rfl, hb1⟩
  go_wp2_with fail
  refine wp_loop_rounds 1 ?_
  rw [rounds_succ]
  go_wp2
  go_ret
  exact ⟨rfl, (by (repeat' (first | (with_reducible exact Below.refl _ _) | (with_reducible refine bdrewN ?_ _) | (with_reducible refine Below.drew ?_) | (with_reducible refine Below.setCell ?_ ?_ _) | (with_reducible refine Below.alloc ?_ ?_ _) | (with_reducible refine Below.trans ?_ (Below.mono hb1 ?_)) | (with_reducible exact Nat.le_refl _) | (with_reducible assumption) | omega | (simp only [World.size_alloc, World.size_setCell, World.size_drew, sz_drewN]; omega))))⟩

set_option maxHeartbeats 1600000 in
theorem keepQ_nil (w : World) : Calls Tryz.prog 55 #[.slice none 0 0, .slice none 0 0] w fun e w' => e = .returned (.bool true) ∧ Below w.heap.size w w' := by
  go_enter Tryz.func55, Tryz.ntmps55
  go_wp2
  refine wp_loop_rounds 1 ?_
  rw [rounds_succ]
  go_wp2
  refine wp_loop_rounds 1 ?_
  rw [rounds_succ]
  go_wp2
  go_ret
  exact ⟨rfl, (by (repeat' (first | (with_reducible exact Below.refl _ _) | (with_reducible refine bdrewN ?_ _) | (with_reducible refine Below.drew ?_) | (with_reducible refine Below.setCell ?_ ?_ _) | (with_reducible refine Below.alloc ?_ ?_ _) | (with_reducible exact Nat.le_refl _) | (with_reducible assumption) | omega | (simp only [World.size_alloc, World.size_setCell, World.size_drew, sz_drewN]; omega))))⟩

set_option maxHeartbeats 1600000 in
theorem atHome_nil (w : World) : Calls Tryz.prog 56 #[.slice none 0 0, .slice none 0 0] w fun e w' => e = .returned (.bool true) ∧ Below w.heap.size w w' := by
  go_enter Tryz.func56, Tryz.ntmps56
  go_wp2
  refine wp_loop_rounds 1 ?_
  rw [rounds_succ]
  go_wp2
  refine wp_loop_rounds 1 ?_
  rw [rounds_succ]
  go_wp2
  go_ret
  exact ⟨rfl, (by (repeat' (first | (with_reducible exact Below.refl _ _) | (with_reducible refine bdrewN ?_ _) | (with_reducible refine Below.drew ?_) | (with_reducible refine Below.setCell ?_ ?_ _) | (with_reducible refine Below.alloc ?_ ?_ _) | (with_reducible exact Nat.le_refl _) | (with_reducible assumption) | omega | (simp only [World.size_alloc, World.size_setCell, World.size_drew, sz_drewN]; omega))))⟩

set_option maxHeartbeats 6400000 in
set_option maxRecDepth 100000 in
theorem right_blank (w : World) : Calls Tryz.prog 19 #[.agg #[.int .i64 0, .int .i64 1, .slice none 0 0, .slice none 0 0, .slice none 0 0]] w fun e w' => e = .returned (.bool true) ∧ Below w.heap.size w w' := by
  have k1 : ∀ W, Calls Tryz.prog 51 #[.int .i64 0, .int .i64 0, .int .i64 1073741824] W fun e w' => e = .returned (.bool true) ∧ W = w' := fun W => within_any 0 0 1073741824 W
  have k2 : ∀ W, Calls Tryz.prog 51 #[.int .i64 1, .int .i64 1, .int .i64 1073741824] W fun e w' => e = .returned (.bool true) ∧ W = w' := fun W => within_any 1 1 1073741824 W
  have K1 := Lib.hid k1; have K2 := Lib.hid k2; clear k1 k2
  have K3 := Lib.hid (fun W => areM_nil W); have K4 := Lib.hid (fun W => areQ_nil W); have K5 := Lib.hid (fun W => areJ_nil 1 W); have K6 := Lib.hid (fun W => keepQ_nil W); have K7 := Lib.hid (fun W => atHome_nil W)
  obtain ⟨W0, hW0⟩ : ∃ W0, W0 = w.alloc (.cells #[.int .i64 0, .int .i64 1, .slice none 0 0, .slice none 0 0, .slice none 0 0] 26) := ⟨_, rfl⟩
  have HB0 : Hid (Bk W0 w.heap.size 26 #[.int .i64 0, .int .i64 1, .slice none 0 0, .slice none 0 0, .slice none 0 0]) := by rw [hW0]; exact Bk.fresh _ _ _
  have hb0 : Below w.heap.size w W0 := by rw [hW0]; exact (Below.refl _ _).alloc (Nat.le_refl _) _
  subst hW0
  go_enter Tryz.func19, Tryz.ntmps19
  go_wp2_with fail
  refine (K1.out _).mono ?_; rintro e w1 ⟨rfl, rfl⟩
  go_wp2_with fail
  refine (K2.out _).mono ?_; rintro e w1 ⟨rfl, rfl⟩
  go_wp2_with fail
  refine (K3.out _).mono ?_; rintro e w1 ⟨rfl, hb1⟩
  have HB1 := Lib.hid (HB0.out.later hb1)
  have c1 : w1.cell? ⟨w.heap.size, 3, none⟩ = some (.slice none 0 0) := HB1.out.cellAt 3
  go_wp2_with fail
  refine (K4.out _).mono ?_; rintro e w2 ⟨rfl, hb2⟩
  have HB2 := Lib.hid (HB1.out.later hb2)
  clear c1
  have c1 : w2.cell? ⟨w.heap.size, 4, none⟩ = some (.slice none 0 0) := HB2.out.cellAt 4
  have c2 : w2.cell? ⟨w.heap.size, 1, none⟩ = some (.int .i64 1) := HB2.out.cellAt 1
  go_wp2_with fail
  refine (K5.out _).mono ?_; rintro e w3 ⟨rfl, hb3⟩
  have HB3 := Lib.hid (HB2.out.later hb3)
  clear c1 c2
  have c1 : w3.cell? ⟨w.heap.size, 4, none⟩ = some (.slice none 0 0) := HB3.out.cellAt 4
  have c2 : w3.cell? ⟨w.heap.size, 3, none⟩ = some (.slice none 0 0) := HB3.out.cellAt 3
  go_wp2_with fail
  refine (K6.out _).mono ?_; rintro e w4 ⟨rfl, hb4⟩
  have HB4 := Lib.hid (HB3.out.later hb4)
  clear c1 c2
  have c1 : w4.cell? ⟨w.heap.size, 4, none⟩ = some (.slice none 0 0) := HB4.out.cellAt 4
  have c2 : w4.cell? ⟨w.heap.size, 2, none⟩ = some (.slice none 0 0) := HB4.out.cellAt 2
  go_wp2_with fail
  refine (K7.out _).mono ?_; rintro e w5 ⟨rfl, hb5⟩
  have hc1 := hb0.trans (hb1.mono hb0.size)
  have hc2 := hc1.trans (hb2.mono hc1.size)
  have hc3 := hc2.trans (hb3.mono hc2.size)
  have hc4 := hc3.trans (hb4.mono hc3.size)
  have hc5 := hc4.trans (hb5.mono hc4.size)
  go_wp2_with fail
  go_ret
  exact ⟨rfl, hc5⟩
end Go.Proofs.YtjgojgmgicpgaaaGreat

namespace Go.Proofs.YtjgojgmgicpgaaaGreat
open Go.RowKit
set_option linter.unusedSimpArgs false
set_option linter.unusedVariables false

theorem insQ_end {q : Qx} {Q : List Qx} (h : lbK q.1 (Q.map fun q => q.1) = Q.length) : insQ q Q = Q ++ [q] := by
  unfold insQ
  rw [h, List.take_length, List.drop_length]
/-- Insert at the end. -/
theorem InsQ.end {b : Nat} {vQ : Value} {Q : List Qx} {q : Qx} (h : lbK q.1 (Q.map fun q => q.1) = Q.length) (hQ : Q.length ≤ 1000) : InsQ b vQ Q q := by
  intro ad c w hO hr hb _ _ _
  rw [insQ_end h, h]
  refine (insertQ_end b vQ Q q ad c Q.length w (show _ = _ from rfl) hQ hO hr hb).mono ?_
  rintro e w' ⟨⟨v', rfl, h1, h2⟩, h3⟩
  refine ⟨⟨v', rfl, h1, h2.imp id fun e k hk => ?_⟩, ?_⟩
  · rw [e] at hk; injection hk with hk; omega
  · exact (GrP.of h3)
theorem bare_alone {S T : Sg} (h : S.bare = T.bare) (hM : T.M = []) (hJ : T.J = []) : S = T := by
  obtain ⟨a, b, M, Q, J⟩ := S
  obtain ⟨a', b', M', Q', J'⟩ := T
  simp only at hM hJ
  subst hM hJ
  unfold Sg.bare at h
  injection h with h1 h2 h3 h4 h5
  have e1 : M = [] := List.map_eq_nil_iff.1 h3
  have e2 : J = [] := List.map_eq_nil_iff.1 h5
  have h1' : a = a' := h1
  have h2' : b = b' := h2
  have h4' : Q = Q' := h4
  rw [h1', h2', e1, h4', e2]
/-- The operation of the first look. -/
def ozA : Oz := ⟨{ Ov.zero with k := 3, qn := ⟨#[113]⟩ }, none, 0, 0, none, 0, 0⟩
def sgA : Sg := { Sg.new with Q := [(⟨#[113]⟩, 0, 0, 0)] }
theorem ozA_ok (w : World) : OzOk w ozA := ⟨LbOk.nil w, LbOk.nil w, by decide, by decide, by decide, by decide, by decide, by decide, by decide⟩
theorem ozA_B : opB ozA.v = true := by kernel_rfl
theorem addA : addQ Sg.new ozA.que = (sgA, 0, []) := by kernel_rfl
theorem addB : addQ sgA ozA.que = (sgA, 8, []) := by kernel_rfl
theorem smA : Sm sgA := ⟨by decide, by decide, by decide, fun x hx => (by cases hx), fun x hx => (by cases hx), by decide, by decide⟩
theorem ascA0 : AscK (Sg.new.Q.map fun q => q.1) := fun i j hi hj h => by simp [Sg.new] at hj
theorem ascA1 : AscK (sgA.Q.map fun q => q.1) := fun i j hi hj h => by
  have : j < 1 := hj
  omega
theorem hasA1 : hasK ozA.que.1 (sgA.Q.map fun q => q.1) = true := by kernel_rfl
theorem doA (b g : Nat) (vM vQ vJ : Value) (w : World) (hG : ∃ lst, Gs w b g lst vM vQ vJ Sg.new) : Calls Tryz.prog 24 #[.pointer (some ⟨g, 0, none⟩), .agg ozA.arr] w fun e w' =>
      (∃ A n c, e = .returned (.agg #[.int .i64 0, .slice A n c])) ∧ Went w w' b g vM vQ vJ Sg.new sgA := by
  have h := do_any b g vM vQ vJ Sg.new ozA (sgA, 0, []) w hG (ozA_ok w) (fun _ => by rw [← addA]; exact perform_3 b g vM vQ vJ Sg.new ozA rfl sm_new ascA0 (fun _ => InsQ.end (by rfl) (by decide)))
  rw [ozA_B] at h
  refine h.mono ?_
  rintro e w' ⟨⟨A, n, c, rfl, _⟩, hW⟩
  exact ⟨⟨A, n, c, rfl⟩, hW⟩
theorem doB (b g : Nat) (vM vQ vJ : Value) (w : World) (hG : ∃ lst, Gs w b g lst vM vQ vJ sgA) : Calls Tryz.prog 24 #[.pointer (some ⟨g, 0, none⟩), .agg ozA.arr] w fun e w' =>
      (∃ A n c, e = .returned (.agg #[.int .i64 8, .slice A n c])) ∧ Went w w' b g vM vQ vJ sgA sgA := by
  have h := do_any b g vM vQ vJ sgA ozA (sgA, 8, []) w hG (ozA_ok w) (fun _ => by rw [← addB]; exact perform_3 b g vM vQ vJ sgA ozA rfl smA ascA1 (fun h => by rw [hasA1] at h; cases h))
  rw [ozA_B] at h
  refine h.mono ?_
  rintro e w' ⟨⟨A, n, c, rfl, _⟩, hW⟩
  exact ⟨⟨A, n, c, rfl⟩, hW⟩
/-- Where a step began with blocks of its own alone, all elder ones are as they were. -/
theorem Went.below {w w' : World} {b g : Nat} {lst : Int} {vM vQ vJ : Value} {S T : Sg} (hG : Gs w b g lst vM vQ vJ S) (hb : b ≤ w.heap.size) (h : Went w w' b g vM vQ vJ S T) : Below b w w' := by
  obtain ⟨_, _, _, _, _, _, _, h3, _⟩ := h
  exact h3.below hb fun k hk => (hG.blk hk).1

theorem stateA (b g : Nat) (lst : Int) (vM vQ vJ : Value) (w : World) (hG : Gs w b g lst vM vQ vJ sgA) : Calls Tryz.prog 25 #[.pointer (some ⟨g, 0, none⟩)] w fun e w' =>
    (∃ A N c B d C n f, e = .returned (.agg #[.int .i64 0, .int .i64 1, .slice A N c, .slice B 1 d, .slice C n f])) ∧ Below w.heap.size w w' := by
  refine (state_any b g lst vM vQ vJ sgA w hG smA).mono ?_
  rintro e w' ⟨⟨vM6, vQ6, vJ6, S6, rfl, hO6, hS6⟩, hb6⟩
  obtain rfl : S6 = sgA := bare_alone hS6 rfl rfl
  obtain ⟨B6, c6, hv6, _, _, _, _⟩ := hO6.Q.sl
  have hv7 : vQ6 = .slice B6 1 c6 := hv6
  obtain ⟨A6, d6, hv8, _, _, _, _⟩ := hO6.M.sl
  obtain ⟨C6, f6, hv9, _, _, _, _⟩ := hO6.J.sl
  subst hv7 hv8 hv9
  exact ⟨⟨_, _, _, _, _, _, _, _, rfl⟩, hb6⟩
theorem fieldA (A : Option Addr) (N c : Nat) (B : Option Addr) (d : Nat) (C : Option Addr) (n f : Nat) (w : World) : (Instr.field 26 (.agg #[.int .i64 0, .int .i64 1, .slice A N c, .slice B 1 d, .slice C n f]) 3).run Tryz.prog w = .ok (.slice B 1 d) w := by kernel_rfl
end Go.Proofs.YtjgojgmgicpgaaaGreat

namespace Go.Proofs.YtjgojgmgicpgaaaGreat
open Go.RowKit
set_option linter.unusedSimpArgs false
set_option linter.unusedVariables false

set_option maxHeartbeats 6400000 in
set_option maxRecDepth 100000 in
theorem g1load_z {v : Value} (hv : ZSt v) (w : World) :
    Calls Tryz.prog 281 #[v] w fun e w' => (∃ g vM vQ vJ, e = .returned (.tuple #[.pointer (some ⟨g, 0, none⟩), .int .i64 0]) ∧ Gs w' w.heap.size g 0 vM vQ vJ Sg.new) ∧ Below w.heap.size w w' := by
  obtain ⟨A, a, B, b, C, c, rfl, ha, hb, hc⟩ := hv
  have KR := Lib.hid (fun (W : World) => right_z A a B b C c W)
  have KC := Lib.hid (fun (W : World) => copy_any ⟨0, 1, A, 0, a, B, 0, b, C, 0, c⟩ Sg.new W (Lib.hid (zRd W ha hb hc)) (Nat.zero_le _) (Nat.zero_le _) (Nat.zero_le _) (Lib.hid fun x hx => (by cases hx)) (Lib.hid fun x hx => (by cases hx)))
  clear ha hb hc
  have HB0 : Hid (Bk (w.alloc (.cells (zV A a B b C c) 26)) w.heap.size 26 (zV A a B b C c)) := Bk.fresh _ _ _
  have hb0 : Below w.heap.size w (w.alloc (.cells (zV A a B b C c) 26)) := (Below.refl _ _).alloc (Nat.le_refl _) _
  go_enter Tryz.func281, Tryz.ntmps281
  go_wp2_with (with_reducible refine load_bk rfl 26 _ rfl w.heap.size 0 rfl 26 (zV A a B b C c) (zV A a B b C c) _ HB0.out (Part.whole _) Tryz.underlying26 rfl (by kernel_rfl) ?_)
  refine (KR.out _).mono ?_; rintro e w1 ⟨rfl, hb1⟩
  have HB1 := Lib.hid (HB0.out.later hb1)
  have hbb1 : Below w.heap.size w w1 := hb0.trans (hb1.mono hb0.size)
  clear hb1 hb0 HB0
  go_wp2_with (with_reducible refine load_bk rfl 26 _ rfl w.heap.size 0 rfl 26 (zV A a B b C c) (zV A a B b C c) _ HB1.out (Part.whole _) Tryz.underlying26 rfl (by kernel_rfl) ?_)
  refine (KC.out _).mono ?_
  rintro e w2 ⟨⟨uM, uQ, uJ, T, rfl, hO, hbr⟩, hb2⟩
  obtain rfl : T = Sg.new := bare_alone hbr rfl rfl
  obtain ⟨⟨ck2, nx2, A2, N2, cA2, B2, K2, cB2, C2, n2, cC2⟩, hva, hvr⟩ := hO.rd
  have hv1 : .slice A2 N2 cA2 = uM := congrArg (fun a : Array Value => a.getD 2 undef) hva
  have hv2 : .slice B2 K2 cB2 = uQ := congrArg (fun a : Array Value => a.getD 3 undef) hva
  have hv3 : .slice C2 n2 cC2 = uJ := congrArg (fun a : Array Value => a.getD 4 undef) hva
  subst hv1 hv2 hv3
  clear hva hvr
  have hbb2 : Below w.heap.size w w2 := hbb1.trans (hb2.mono hbb1.size)
  have HO := Lib.hid (hO.base hbb1.size)
  have HBR := Lib.hid hbr
  clear hO hbr hb2 HB1
  go_wp2_with (first | ((with_reducible refine store_bk rfl 26 (.tmp 4) (.tmp 9) rfl w2.heap.size 0 #[.int .i64 0, .int .i64 1, (.slice A2 N2 cA2), (.slice B2 K2 cB2), (.slice C2 n2 cC2)] rfl rfl 26 _ #[.int .i64 0, .int .i64 1, (.slice A2 N2 cA2), (.slice B2 K2 cB2), (.slice C2 n2 cC2)] (Bk.fresh _ _ _) (by kernel_rfl) (by simp) (by kernel_rfl) rfl ?_); intro w3 hB3 hg3 hs3; have hb3 : Below w2.heap.size w2 w3 := ((Below.refl _ _).alloc (Nat.le_refl _) _).grown hg3 (by simp) (by intro k hk; injection hk with hk; omega); have HL3 : Hid (w2.heap.size < w3.heap.size) := hB3.here; have c0 := hB3.cellAt 0; have c1 := hB3.cellAt 1; have c2 := hB3.cellAt 2; have c3 := hB3.cellAt 3; have c4 := hB3.cellAt 4; clear hB3 hg3 hs3))
  have hbb3 : Below w.heap.size w w3 := hbb2.trans (hb3.mono hbb2.size)
  have hbW : Below w3.heap.size w3 (w3.alloc (.cells #[.int .i64 0, .int .i64 0, (.slice A2 N2 cA2), (.slice B2 K2 cB2), (.slice C2 n2 cC2)] 111)) := (Below.refl _ _).alloc (Nat.le_refl _) _
  have HG : Gs (w3.alloc (.cells #[.int .i64 0, .int .i64 0, (.slice A2 N2 cA2), (.slice B2 K2 cB2), (.slice C2 n2 cC2)] 111)) w.heap.size w3.heap.size 0 (.slice A2 N2 cA2) (.slice B2 K2 cB2) (.slice C2 n2 cC2) Sg.new := by
    refine ⟨Bk.fresh _ _ _, rfl, (HO.out.below hb3).below hbW, hbb3.size, fun k hk => ?_⟩
    have h1 := (HO.out.blk hk).2; have h2 := HL3.out; omega
  have HF : Hid (Below w.heap.size w (w3.alloc (.cells #[.int .i64 0, .int .i64 0, (.slice A2 N2 cA2), (.slice B2 K2 cB2), (.slice C2 n2 cC2)] 111))) := hbb3.trans (hbW.mono hbb3.size)
  exact bodyPost_ret (v := .tuple #[.pointer (some ⟨w3.heap.size, 0, none⟩), .int .i64 0]) (by simp [results, Tryz.results281, go_sem]) rfl ⟨⟨w3.heap.size, _, _, _, rfl, HG⟩, HF.out⟩
theorem gz_state (b g : Nat) (vM vQ vJ : Value) (w : World) (h : Gs w b g 0 vM vQ vJ Sg.new) : Calls Tryz.prog 25 #[.pointer (some ⟨g, 0, none⟩)] w fun e w' => (∃ v', e = .returned v' ∧ ZSt v') ∧ Below w.heap.size w w' := by
  refine (state_any b g 0 vM vQ vJ Sg.new w (Lib.hid h) (Lib.hid sm_new)).mono ?_
  rintro e w' ⟨⟨vM, vQ, vJ, T, rfl, hO, hb⟩, hB⟩
  exact ⟨⟨_, rfl, ownS_z hO hb⟩, hB⟩
end Go.Proofs.YtjgojgmgicpgaaaGreat
