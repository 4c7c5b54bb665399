/- schema's reader at the bytes of a blank state. No condition. -/
import Derived.Test.YtjgojgmgicpgaaaGreatHZls
import Derived.Test.YtjgojgmgicpgaaaGreatHTak
import Derived.Test.YtjgojgmgicpgaaaGreatHOmp
import Derived.Test.YtjgojgmgicpgaaaGreatHRge
import Derived.Deep.DeepCutAuto
import Derived.Deep.CutRange
namespace Go.Proofs.YtjgojgmgicpgaaaGreat
open Go.RowKit
set_option linter.unusedSimpArgs false
set_option linter.unusedVariables false

set_option maxHeartbeats 6400000 in
set_option maxRecDepth 100000 in
theorem num_z (R : Nat) (A : Option Addr) (n c : Nat) (p q : Int) (k : Nat) (l : List UInt8) (w : World) (HR : Hid (Bk w R 105 #[.slice A n c, .int .i64 (p), .bool false])) (hn : Hid (n = l.length)) (hr : Hid (Rd w A l)) (hc : n ≤ c) (hc2 : c ≤ 9223372036854775807) (ht : Hid (takeP l p = (k, q, 0))) :
    Calls Tryz.prog 135 #[.pointer (some ⟨R, 0, none⟩), (.func (.func 136) #[] #[])] w fun e w' => e = .returned (.int .u64 (k : Int)) ∧ Bk w' R 105 #[.slice A n c, .int .i64 (q), .bool false] ∧ w.grownBy w' (some R) := by
  have HT : Hid (∀ W, Below w.heap.size w W → Calls Tryz.prog 136 #[.slice A n c, .int .i64 p] W fun e w' => e = .returned (.tuple #[.int .u64 (k : Int), .int .i64 q, .int .i64 0]) ∧ Below W.heap.size W w') := fun W h => by
    have h1 := take_any A c n p l W hn (Lib.hid (hr.out.below h)) hc hc2
    rw [ht.out] at h1
    exact h1
  have d2 : w.cell? ⟨R, 2, none⟩ = some (.bool false) := HR.out.cellAt 2
  clear hn hr hc hc2 ht
  go_enter Tryz.func135, Tryz.ntmps135
  go_wp2_with fail
  refine wp_region_held_drew (S := fun W => Below w.heap.size w W) (by kernel_rfl) (Below.drew (Below.refl _ _)) (fun hS0 => ?_)
  refine wpAnyH_take (i := 0) (v := ?_) rfl (by kernel_rfl) (by kernel_rfl) (by kernel_rfl) (fun _ _ _ h => h) (Or.inl ⟨by rfl, ?_⟩) hS0 ?_
  rotate_left
  · intro W _; go_simp; try with_reducible rfl
  try simp only [Act.put, List.getElem_toArray, List.getElem_cons_zero, List.setIfInBounds_toArray, List.set_cons_zero, List.set_cons_succ]
  refine wpAnyH_take (i := 1) (v := ?_) rfl (by kernel_rfl) (by kernel_rfl) (by kernel_rfl) (fun _ _ _ h => h) (Or.inl ⟨by rfl, ?_⟩) hS0 ?_
  rotate_left
  · intro W _; go_simp; try with_reducible rfl
  try simp only [Act.put, List.getElem_toArray, List.getElem_cons_zero, List.getElem_cons_succ, List.setIfInBounds_toArray, List.set_cons_zero, List.set_cons_succ]
  refine wpAnyH_take (i := 2) (v := ?_) rfl (by kernel_rfl) (by kernel_rfl) (by kernel_rfl) (fun _ _ _ h => h) (Or.inl ⟨by rfl, ?_⟩) hS0 ?_
  rotate_left
  · intro W _; go_simp; try with_reducible rfl
  try simp only [Act.put, List.getElem_toArray, List.getElem_cons_zero, List.getElem_cons_succ, List.setIfInBounds_toArray, List.set_cons_zero, List.set_cons_succ]
  refine wpAnyH_take (i := 3) (v := ?_) rfl (by kernel_rfl) (by kernel_rfl) (by kernel_rfl) (fun _ _ _ h => h) (Or.inl ⟨by rfl, ?_⟩) hS0 ?_
  rotate_left
  · intro W _; go_simp; try with_reducible rfl
  try simp only [Act.put, List.getElem_toArray, List.getElem_cons_zero, List.getElem_cons_succ, List.setIfInBounds_toArray, List.set_cons_zero, List.set_cons_succ]
  refine wpAnyH_take (i := 4) (v := ?_) rfl (by kernel_rfl) (by kernel_rfl) (by kernel_rfl) (fun _ _ _ h => h) (Or.inl ⟨by rfl, ?_⟩) hS0 ?_
  rotate_left
  · intro W hSW; have hx := (HR.out.later hSW).cellAt 0; go_simp; try with_reducible rfl
  try simp only [Act.put, List.getElem_toArray, List.getElem_cons_zero, List.getElem_cons_succ, List.setIfInBounds_toArray, List.set_cons_zero, List.set_cons_succ]
  refine wpAnyH_take (i := 5) (v := ?_) rfl (by kernel_rfl) (by kernel_rfl) (by kernel_rfl) (fun _ _ _ h => h) (Or.inl ⟨by rfl, ?_⟩) hS0 ?_
  rotate_left
  · intro W _; go_simp; try with_reducible rfl
  try simp only [Act.put, List.getElem_toArray, List.getElem_cons_zero, List.getElem_cons_succ, List.setIfInBounds_toArray, List.set_cons_zero, List.set_cons_succ]
  refine wpAnyH_take (i := 6) (v := ?_) rfl (by kernel_rfl) (by kernel_rfl) (by kernel_rfl) (fun _ _ _ h => h) (Or.inl ⟨by rfl, ?_⟩) hS0 ?_
  rotate_left
  · intro W _; go_simp; try with_reducible rfl
  try simp only [Act.put, List.getElem_toArray, List.getElem_cons_zero, List.getElem_cons_succ, List.setIfInBounds_toArray, List.set_cons_zero, List.set_cons_succ]
  refine wpAnyH_take (i := 7) (v := ?_) rfl (by kernel_rfl) (by kernel_rfl) (by kernel_rfl) (fun _ _ _ h => h) (Or.inl ⟨by rfl, ?_⟩) hS0 ?_
  rotate_left
  · intro W _; go_simp; try with_reducible rfl
  try simp only [Act.put, List.getElem_toArray, List.getElem_cons_zero, List.getElem_cons_succ, List.setIfInBounds_toArray, List.set_cons_zero, List.set_cons_succ]
  refine wpAnyH_take (i := 8) (v := ?_) rfl (by kernel_rfl) (by kernel_rfl) (by kernel_rfl) (fun _ _ _ h => h) (Or.inl ⟨by rfl, ?_⟩) hS0 ?_
  rotate_left
  · intro W hSW; have hx := (HR.out.later hSW).cellAt 1; go_simp; try with_reducible rfl
  try simp only [Act.put, List.getElem_toArray, List.getElem_cons_zero, List.getElem_cons_succ, List.setIfInBounds_toArray, List.set_cons_zero, List.set_cons_succ]
  refine wpAnyH_ready (rs := [9]) (by kernel_rfl) (by simp) ?_
  refine AllReadyH.cons rfl (fun K hK => ?_) AllReadyH.nil
  go_simp
  refine (HT.out _ hS0).mono ?_
  rintro e y1 ⟨rfl, hb1⟩
  go_simp
  refine hK.out _ _ (hS0.trans (hb1.mono (Below.size hS0))) (fun hS1 => ?_)
  clear hK K
  try simp only [Act.put, List.getElem_toArray, List.getElem_cons_zero, List.getElem_cons_succ, List.setIfInBounds_toArray, List.set_cons_zero, List.set_cons_succ]
  refine wpAnyH_take (i := 10) (v := ?_) rfl (by kernel_rfl) (by kernel_rfl) (by kernel_rfl) (fun _ _ _ h => h) (Or.inl ⟨by rfl, ?_⟩) hS1 ?_
  rotate_left
  · intro W _; go_simp; try with_reducible rfl
  try simp only [Act.put, List.getElem_toArray, List.getElem_cons_zero, List.getElem_cons_succ, List.setIfInBounds_toArray, List.set_cons_zero, List.set_cons_succ]
  refine wpAnyH_take (i := 11) (v := ?_) rfl (by kernel_rfl) (by kernel_rfl) (by kernel_rfl) (fun _ _ _ h => h) (Or.inl ⟨by rfl, ?_⟩) hS1 ?_
  rotate_left
  · intro W _; go_simp; try with_reducible rfl
  try simp only [Act.put, List.getElem_toArray, List.getElem_cons_zero, List.getElem_cons_succ, List.setIfInBounds_toArray, List.set_cons_zero, List.set_cons_succ]
  refine wpAnyH_take (i := 14) (v := ?_) rfl (by kernel_rfl) (by kernel_rfl) (by kernel_rfl) (fun _ _ _ h => h) (Or.inl ⟨by rfl, ?_⟩) hS1 ?_
  rotate_left
  · intro W _; go_simp; try with_reducible rfl
  try simp only [Act.put, List.getElem_toArray, List.getElem_cons_zero, List.getElem_cons_succ, List.setIfInBounds_toArray, List.set_cons_zero, List.set_cons_succ]
  refine wpAnyH_take (i := 12) (v := ?_) rfl (by kernel_rfl) (by kernel_rfl) (by kernel_rfl) (fun _ _ _ h => h) (Or.inl ⟨by rfl, ?_⟩) hS1 ?_
  rotate_left
  · intro W _; go_simp; try with_reducible rfl
  try simp only [Act.put, List.getElem_toArray, List.getElem_cons_zero, List.getElem_cons_succ, List.setIfInBounds_toArray, List.set_cons_zero, List.set_cons_succ]
  refine wpAnyH_take (i := 15) (v := ?_) rfl (by kernel_rfl) (by kernel_rfl) (by kernel_rfl) (fun _ _ _ h => h) (Or.inl ⟨by rfl, ?_⟩) hS1 ?_
  rotate_left
  · intro W _; go_simp; try with_reducible rfl
  try simp only [Act.put, List.getElem_toArray, List.getElem_cons_zero, List.getElem_cons_succ, List.setIfInBounds_toArray, List.set_cons_zero, List.set_cons_succ]
  refine wpAnyH_take (i := 13) (v := ?_) rfl (by kernel_rfl) (by kernel_rfl) (by kernel_rfl) (fun _ _ _ h => h) (Or.inl ⟨by rfl, ?_⟩) hS1 ?_
  rotate_left
  · intro W _; go_simp; try with_reducible rfl
  try simp only [Act.put, List.getElem_toArray, List.getElem_cons_zero, List.getElem_cons_succ, List.setIfInBounds_toArray, List.set_cons_zero, List.set_cons_succ]
  refine wpAnyH_take (i := 16) (v := ?_) rfl (by kernel_rfl) (by kernel_rfl) (by kernel_rfl) (fun _ _ _ h => h) (Or.inl ⟨by rfl, ?_⟩) hS1 ?_
  rotate_left
  · intro W _; go_simp; try with_reducible rfl
  try simp only [Act.put, List.getElem_toArray, List.getElem_cons_zero, List.getElem_cons_succ, List.setIfInBounds_toArray, List.set_cons_zero, List.set_cons_succ]
  refine wpAnyH_done (by kernel_rfl) ?_ _
  have HF := Lib.hid hS1
  have HR1 := Lib.hid (HR.out.later HF.out)
  have HG1 : Hid (w.grownBy _ (some R)) := below_grownBy HF.out
  clear HF d2 HR
  go_wp2_with (first | ((with_reducible refine store1_bk rfl 3 (.tmp 34) (.tmp 30) rfl R 1 (.int .i64 q) rfl rfl 105 #[.slice A n c, .int .i64 (p), .bool false] #[.slice A n c, .int .i64 (q), .bool false] HR1.out (by kernel_rfl) (by simp) rfl rfl rfl ?_); intro w5 hB hg hs; have HR5 := Lib.hid hB; have HG5 : Hid (w.grownBy w5 (some R)) := grownBy_trans HG1.out hg; clear hB hg hs HR1 HG1) | ((with_reducible refine store1_bk rfl 4 (.tmp 36) (.tmp 32) rfl R 2 (.bool false) rfl rfl 105 #[.slice A n c, .int .i64 (q), .bool false] #[.slice A n c, .int .i64 (q), .bool false] HR5.out (by kernel_rfl) (by simp) rfl rfl rfl ?_); intro w6 hB hg hs; have HR6 := Lib.hid hB; have HG6 : Hid (w.grownBy w6 (some R)) := grownBy_trans HG5.out hg; clear hB hg hs HR5 HG5))
  go_ret
  exact ⟨rfl, HR6.out, HG6.out⟩
set_option maxHeartbeats 6400000 in
theorem number_z (R : Nat) (A : Option Addr) (n c : Nat) (p q : Int) (k : Nat) (l : List UInt8) (w : World) (HR : Hid (Bk w R 105 #[.slice A n c, .int .i64 (p), .bool false])) (hn : Hid (n = l.length)) (hr : Hid (Rd w A l)) (hc : n ≤ c) (hc2 : c ≤ 9223372036854775807) (ht : Hid (takeP l p = (k, q, 0))) (hk : k < 1000) :
    Calls Tryz.prog 57 #[.pointer (some ⟨R, 0, none⟩)] w fun e w' => e = .returned (.int .i64 (k : Int)) ∧ Bk w' R 105 #[.slice A n c, .int .i64 (q), .bool false] ∧ w.grownBy w' (some R) := by
  have K := Lib.hid (num_z R A n c p q k l w HR hn hr hc hc2 ht)
  have hwk : IntKind.i64.wrap (k : Int) = (k : Int) := by rw [IntKind.wrap_i64]; omega
  clear HR hn hr hc hc2 ht
  go_enter Tryz.func57, Tryz.ntmps57
  go_wp2_with fail
  refine K.out.mono ?_
  rintro e w1 ⟨rfl, hB, hG⟩
  have HB := Lib.hid hB; have HG := Lib.hid hG
  clear hB hG K
  go_wp2_with fail
  go_ret
  exact ⟨rfl, HB.out, HG.out⟩
set_option maxHeartbeats 6400000 in
theorem count_z (R : Nat) (A : Option Addr) (n c : Nat) (p q : Int) (k : Nat) (l : List UInt8) (w : World) (HR : Hid (Bk w R 105 #[.slice A n c, .int .i64 (p), .bool false])) (hn : Hid (n = l.length)) (hr : Hid (Rd w A l)) (hc : n ≤ c) (hc2 : c ≤ 9223372036854775807) (ht : Hid (takeP l p = (k, q, 0))) (most : Nat) (hk : k = 0) (hmost : most < 1000) :
    Calls Tryz.prog 297 #[.pointer (some ⟨R, 0, none⟩), .int .u64 (most : Int)] w fun e w' => e = .returned (.int .i64 0) ∧ Bk w' R 105 #[.slice A n c, .int .i64 (q), .bool false] ∧ w.grownBy w' (some R) := by
  subst hk
  have K := Lib.hid (num_z R A n c p q 0 l w HR hn hr hc hc2 ht)
  have hmm : decide ((most : Int) < 0) = false := decide_eq_false (by omega)
  clear HR hn hr hc hc2 ht
  go_enter Tryz.func297, Tryz.ntmps297
  go_wp2_with fail
  refine K.out.mono ?_
  rintro e w1 ⟨rfl, hB, hG⟩
  have HB := Lib.hid hB; have HG := Lib.hid hG
  clear hB hG K
  go_wp2_with fail
  go_ret
  exact ⟨rfl, HB.out, HG.out⟩
set_option maxHeartbeats 6400000 in
theorem listM_z (R : Nat) (A : Option Addr) (n c : Nat) (p q : Int) (k : Nat) (l : List UInt8) (w : World) (HR : Hid (Bk w R 105 #[.slice A n c, .int .i64 (p), .bool false])) (hn : Hid (n = l.length)) (hr : Hid (Rd w A l)) (hc : n ≤ c) (hc2 : c ≤ 9223372036854775807) (ht : Hid (takeP l p = (k, q, 0))) (most : Nat) (fn : Value) (hk : k = 0) (hmost : most < 1000) :
    Calls Tryz.prog 228 #[.pointer (some ⟨R, 0, none⟩), .int .u64 (most : Int), fn] w fun e w' => e = .returned (.slice none 0 0) ∧ Bk w' R 105 #[.slice A n c, .int .i64 (q), .bool false] ∧ w.grownBy w' (some R) := by
  have K := Lib.hid (count_z R A n c p q k l w HR hn hr hc hc2 ht most hk hmost)
  clear HR hn hr hc hc2 ht hk hmost
  go_enter Tryz.func228, Tryz.ntmps228
  go_wp2_with fail
  refine K.out.mono ?_
  rintro e w1 ⟨rfl, hB, hG⟩
  have HB := Lib.hid hB; have HG := Lib.hid hG
  clear hB hG K
  go_wp2_with fail
  refine wp_loop_rounds 1 ?_
  rw [rounds_succ]
  go_wp2_with fail
  go_ret
  exact ⟨rfl, HB.out, HG.out⟩
set_option maxHeartbeats 6400000 in
theorem listQ_z (R : Nat) (A : Option Addr) (n c : Nat) (p q : Int) (k : Nat) (l : List UInt8) (w : World) (HR : Hid (Bk w R 105 #[.slice A n c, .int .i64 (p), .bool false])) (hn : Hid (n = l.length)) (hr : Hid (Rd w A l)) (hc : n ≤ c) (hc2 : c ≤ 9223372036854775807) (ht : Hid (takeP l p = (k, q, 0))) (most : Nat) (fn : Value) (hk : k = 0) (hmost : most < 1000) :
    Calls Tryz.prog 230 #[.pointer (some ⟨R, 0, none⟩), .int .u64 (most : Int), fn] w fun e w' => e = .returned (.slice none 0 0) ∧ Bk w' R 105 #[.slice A n c, .int .i64 (q), .bool false] ∧ w.grownBy w' (some R) := by
  have K := Lib.hid (count_z R A n c p q k l w HR hn hr hc hc2 ht most hk hmost)
  clear HR hn hr hc hc2 ht hk hmost
  go_enter Tryz.func230, Tryz.ntmps230
  go_wp2_with fail
  refine K.out.mono ?_
  rintro e w1 ⟨rfl, hB, hG⟩
  have HB := Lib.hid hB; have HG := Lib.hid hG
  clear hB hG K
  go_wp2_with fail
  refine wp_loop_rounds 1 ?_
  rw [rounds_succ]
  go_wp2_with fail
  go_ret
  exact ⟨rfl, HB.out, HG.out⟩
set_option maxHeartbeats 6400000 in
theorem listJ_z (R : Nat) (A : Option Addr) (n c : Nat) (p q : Int) (k : Nat) (l : List UInt8) (w : World) (HR : Hid (Bk w R 105 #[.slice A n c, .int .i64 (p), .bool false])) (hn : Hid (n = l.length)) (hr : Hid (Rd w A l)) (hc : n ≤ c) (hc2 : c ≤ 9223372036854775807) (ht : Hid (takeP l p = (k, q, 0))) (most : Nat) (fn : Value) (hk : k = 0) (hmost : most < 1000) :
    Calls Tryz.prog 232 #[.pointer (some ⟨R, 0, none⟩), .int .u64 (most : Int), fn] w fun e w' => e = .returned (.slice none 0 0) ∧ Bk w' R 105 #[.slice A n c, .int .i64 (q), .bool false] ∧ w.grownBy w' (some R) := by
  have K := Lib.hid (count_z R A n c p q k l w HR hn hr hc hc2 ht most hk hmost)
  clear HR hn hr hc hc2 ht hk hmost
  go_enter Tryz.func232, Tryz.ntmps232
  go_wp2_with fail
  refine K.out.mono ?_
  rintro e w1 ⟨rfl, hB, hG⟩
  have HB := Lib.hid hB; have HG := Lib.hid hG
  clear hB hG K
  go_wp2_with fail
  refine wp_loop_rounds 1 ?_
  rw [rounds_succ]
  go_wp2_with fail
  go_ret
  exact ⟨rfl, HB.out, HG.out⟩
end Go.Proofs.YtjgojgmgicpgaaaGreat
