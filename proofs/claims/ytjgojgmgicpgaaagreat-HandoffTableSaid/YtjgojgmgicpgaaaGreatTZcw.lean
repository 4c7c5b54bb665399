/- Where of a control in any of its states; Command at any kind. No condition but that the epoch is below a million. -/
import Derived.Test.YtjgojgmgicpgaaaGreatTZct
namespace Go.Proofs.YtjgojgmgicpgaaaGreat
open Go.RowKit
set_option linter.unusedSimpArgs false
set_option linter.unusedVariables false

set_option maxHeartbeats 12800000 in
set_option maxRecDepth 100000 in
theorem num1_z (g : Nat) (w : World) : Calls Tryz.prog 522 #[.agg #[.pointer (some ⟨g, 0, none⟩)]] w fun e w' => e = .returned (.int .i64 1) ∧ Below w.heap.size w w' := by
  go_enter Tryz.func522, Tryz.ntmps522
  go_wp2
  go_ret
  exact ⟨rfl, (Below.refl _ _).alloc (Nat.le_refl _) _⟩
set_option maxHeartbeats 12800000 in
set_option maxRecDepth 100000 in
theorem where1_n (c g : Nat) (p e0 : Int) (B : Value) (w : World) (hc : Bk w c 89 (cV p e0 (v1 g) B 0)) : Calls Tryz.prog 44 #[.pointer (some ⟨c, 0, none⟩)] w fun e w' => e = .returned (.tuple #[.int .i64 p, .int .i64 1, .int .i64 e0]) ∧ Below w.heap.size w w' := by
  have K1 := Lib.hid (isNone_z c _ _ _ _ _ _ w hc)
  have HC0 := Lib.hid hc
  clear hc
  go_enter Tryz.func44, Tryz.ntmps44
  go_wp2_with fail
  refine K1.out.mono ?_
  rintro e w1 ⟨rfl, hb1⟩
  have HC1 := Lib.hid (HC0.out.later hb1)
  have Hb1 := Lib.hid hb1
  clear hb1 K1 HC0
  go_wp2_with fail
  refine wp_region_held_drew (S := fun W => Bk W c 89 (cV p e0 (v1 g) B 0) ∧ Below w.heap.size w W) (by kernel_rfl) (⟨HC1.out.drewB, Below.drew Hb1.out⟩) (fun hS0 => ?_)
  refine wpAnyH_take (i := 0) (v := ?_) rfl (by kernel_rfl) (by kernel_rfl) (by kernel_rfl) (fun _ _ _ h => h) (Or.inl ⟨by rfl, ?_⟩) hS0 ?_
  rotate_left
  · intro W _; go_simp; try with_reducible rfl
  try simp only [Act.put, List.getElem_toArray, List.getElem_cons_zero, List.setIfInBounds_toArray, List.set_cons_zero, List.set_cons_succ]
  refine wpAnyH_take (i := 1) (v := ?_) rfl (by kernel_rfl) (by kernel_rfl) (by kernel_rfl) (fun _ _ _ h => h) (Or.inl ⟨by rfl, ?_⟩) hS0 ?_
  rotate_left
  · intro W _; go_simp; try with_reducible rfl
  try simp only [Act.put, List.getElem_toArray, List.getElem_cons_zero, List.getElem_cons_succ, List.setIfInBounds_toArray, List.set_cons_zero, List.set_cons_succ]
  refine wpAnyH_take (i := 2) (v := ?_) rfl (by kernel_rfl) (by kernel_rfl) (by kernel_rfl) (fun _ _ _ h => h) (Or.inl ⟨by rfl, ?_⟩) hS0 ?_
  rotate_left
  · intro W _; go_simp; try with_reducible rfl
  try simp only [Act.put, List.getElem_toArray, List.getElem_cons_zero, List.getElem_cons_succ, List.setIfInBounds_toArray, List.set_cons_zero, List.set_cons_succ]
  refine wpAnyH_take (i := 3) (v := ?_) rfl (by kernel_rfl) (by kernel_rfl) (by kernel_rfl) (fun _ _ _ h => h) (Or.inl ⟨by rfl, ?_⟩) hS0 ?_
  rotate_left
  · intro W hSW; have hx := hSW.1.cellAt 0; go_simp; try with_reducible rfl
  try simp only [Act.put, List.getElem_toArray, List.getElem_cons_zero, List.getElem_cons_succ, List.setIfInBounds_toArray, List.set_cons_zero, List.set_cons_succ]
  refine wpAnyH_take (i := 4) (v := ?_) rfl (by kernel_rfl) (by kernel_rfl) (by kernel_rfl) (fun _ _ _ h => h) (Or.inl ⟨by rfl, ?_⟩) hS0 ?_
  rotate_left
  · intro W _; go_simp; try with_reducible rfl
  try simp only [Act.put, List.getElem_toArray, List.getElem_cons_zero, List.getElem_cons_succ, List.setIfInBounds_toArray, List.set_cons_zero, List.set_cons_succ]
  refine wpAnyH_take (i := 5) (v := ?_) rfl (by kernel_rfl) (by kernel_rfl) (by kernel_rfl) (fun _ _ _ h => h) (Or.inl ⟨by rfl, ?_⟩) hS0 ?_
  rotate_left
  · intro W _; go_simp; try with_reducible rfl
  try simp only [Act.put, List.getElem_toArray, List.getElem_cons_zero, List.getElem_cons_succ, List.setIfInBounds_toArray, List.set_cons_zero, List.set_cons_succ]
  refine wpAnyH_take (i := 6) (v := ?_) rfl (by kernel_rfl) (by kernel_rfl) (by kernel_rfl) (fun _ _ _ h => h) (Or.inl ⟨by rfl, ?_⟩) hS0 ?_
  rotate_left
  · intro W _; go_simp; try with_reducible rfl
  try simp only [Act.put, List.getElem_toArray, List.getElem_cons_zero, List.getElem_cons_succ, List.setIfInBounds_toArray, List.set_cons_zero, List.set_cons_succ]
  refine wpAnyH_take (i := 7) (v := ?_) rfl (by kernel_rfl) (by kernel_rfl) (by kernel_rfl) (fun _ _ _ h => h) (Or.inl ⟨by rfl, ?_⟩) hS0 ?_
  rotate_left
  · intro W hSW; have hx := hSW.1.cellAt 2; go_simp; try with_reducible rfl
  try simp only [Act.put, List.getElem_toArray, List.getElem_cons_zero, List.getElem_cons_succ, List.setIfInBounds_toArray, List.set_cons_zero, List.set_cons_succ]
  refine wpAnyH_take (i := 9) (v := ?_) rfl (by kernel_rfl) (by kernel_rfl) (by kernel_rfl) (fun _ _ _ h => h) (Or.inl ⟨by rfl, ?_⟩) hS0 ?_
  rotate_left
  · intro W _; go_simp; try with_reducible rfl
  try simp only [Act.put, List.getElem_toArray, List.getElem_cons_zero, List.getElem_cons_succ, List.setIfInBounds_toArray, List.set_cons_zero, List.set_cons_succ]
  refine wpAnyH_take (i := 10) (v := ?_) rfl (by kernel_rfl) (by kernel_rfl) (by kernel_rfl) (fun _ _ _ h => h) (Or.inl ⟨by rfl, ?_⟩) hS0 ?_
  rotate_left
  · intro W _; go_simp; try with_reducible rfl
  try simp only [Act.put, List.getElem_toArray, List.getElem_cons_zero, List.getElem_cons_succ, List.setIfInBounds_toArray, List.set_cons_zero, List.set_cons_succ]
  refine wpAnyH_take (i := 11) (v := ?_) rfl (by kernel_rfl) (by kernel_rfl) (by kernel_rfl) (fun _ _ _ h => h) (Or.inl ⟨by rfl, ?_⟩) hS0 ?_
  rotate_left
  · intro W _; go_simp; try with_reducible rfl
  try simp only [Act.put, List.getElem_toArray, List.getElem_cons_zero, List.getElem_cons_succ, List.setIfInBounds_toArray, List.set_cons_zero, List.set_cons_succ]
  refine wpAnyH_take (i := 12) (v := ?_) rfl (by kernel_rfl) (by kernel_rfl) (by kernel_rfl) (fun _ _ _ h => h) (Or.inl ⟨by rfl, ?_⟩) hS0 ?_
  rotate_left
  · intro W hSW; have hx := hSW.1.cellAt 1; go_simp; try with_reducible rfl
  try simp only [Act.put, List.getElem_toArray, List.getElem_cons_zero, List.getElem_cons_succ, List.setIfInBounds_toArray, List.set_cons_zero, List.set_cons_succ]
  refine wpAnyH_ready (rs := [8]) (by kernel_rfl) (by simp) ?_
  refine AllReadyH.cons rfl (fun K hK => ?_) AllReadyH.nil
  go_simp
  go_invoke
  go_simp
  refine (num1_z g _).mono ?_
  rintro e y1 ⟨rfl, hb1⟩
  go_simp
  refine hK.out _ _ (⟨hS0.1.later hb1, bclose hS0.2 hb1⟩) (fun hS1 => ?_)
  clear hK K
  try simp only [Act.put, List.getElem_toArray, List.getElem_cons_zero, List.getElem_cons_succ, List.setIfInBounds_toArray, List.set_cons_zero, List.set_cons_succ]
  refine wpAnyH_take (i := 13) (v := ?_) rfl (by kernel_rfl) (by kernel_rfl) (by kernel_rfl) (fun _ _ _ h => h) (Or.inl ⟨by rfl, ?_⟩) hS1 ?_
  rotate_left
  · intro W _; go_simp; try with_reducible rfl
  try simp only [Act.put, List.getElem_toArray, List.getElem_cons_zero, List.getElem_cons_succ, List.setIfInBounds_toArray, List.set_cons_zero, List.set_cons_succ]
  refine wpAnyH_take (i := 14) (v := ?_) rfl (by kernel_rfl) (by kernel_rfl) (by kernel_rfl) (fun _ _ _ h => h) (Or.inl ⟨by rfl, ?_⟩) hS1 ?_
  rotate_left
  · intro W _; go_simp; try with_reducible rfl
  try simp only [Act.put, List.getElem_toArray, List.getElem_cons_zero, List.getElem_cons_succ, List.setIfInBounds_toArray, List.set_cons_zero, List.set_cons_succ]
  refine wpAnyH_take (i := 15) (v := ?_) rfl (by kernel_rfl) (by kernel_rfl) (by kernel_rfl) (fun _ _ _ h => h) (Or.inl ⟨by rfl, ?_⟩) hS1 ?_
  rotate_left
  · intro W _; go_simp; try with_reducible rfl
  try simp only [Act.put, List.getElem_toArray, List.getElem_cons_zero, List.getElem_cons_succ, List.setIfInBounds_toArray, List.set_cons_zero, List.set_cons_succ]
  refine wpAnyH_done (by kernel_rfl) ?_ _
  have HF := Lib.hid hS1
  go_wp2_with fail
  first | go_ret | go_ret3 | go_returns
  exact ⟨rfl, HF.out.2⟩
set_option maxHeartbeats 12800000 in
set_option maxRecDepth 100000 in
theorem where2_n (c g : Nat) (p e0 : Int) (B : Value) (w : World) (hc : Bk w c 89 (cV p e0 (v2 g) B 0)) : Calls Tryz.prog 44 #[.pointer (some ⟨c, 0, none⟩)] w fun e w' => e = .returned (.tuple #[.int .i64 p, .int .i64 2, .int .i64 e0]) ∧ Below w.heap.size w w' := by
  have K1 := Lib.hid (isNone_z c _ _ _ _ _ _ w hc)
  have HC0 := Lib.hid hc
  clear hc
  go_enter Tryz.func44, Tryz.ntmps44
  go_wp2_with fail
  refine K1.out.mono ?_
  rintro e w1 ⟨rfl, hb1⟩
  have HC1 := Lib.hid (HC0.out.later hb1)
  have Hb1 := Lib.hid hb1
  clear hb1 K1 HC0
  go_wp2_with fail
  refine wp_region_held_drew (S := fun W => Bk W c 89 (cV p e0 (v2 g) B 0) ∧ Below w.heap.size w W) (by kernel_rfl) (⟨HC1.out.drewB, Below.drew Hb1.out⟩) (fun hS0 => ?_)
  refine wpAnyH_take (i := 0) (v := ?_) rfl (by kernel_rfl) (by kernel_rfl) (by kernel_rfl) (fun _ _ _ h => h) (Or.inl ⟨by rfl, ?_⟩) hS0 ?_
  rotate_left
  · intro W _; go_simp; try with_reducible rfl
  try simp only [Act.put, List.getElem_toArray, List.getElem_cons_zero, List.setIfInBounds_toArray, List.set_cons_zero, List.set_cons_succ]
  refine wpAnyH_take (i := 1) (v := ?_) rfl (by kernel_rfl) (by kernel_rfl) (by kernel_rfl) (fun _ _ _ h => h) (Or.inl ⟨by rfl, ?_⟩) hS0 ?_
  rotate_left
  · intro W _; go_simp; try with_reducible rfl
  try simp only [Act.put, List.getElem_toArray, List.getElem_cons_zero, List.getElem_cons_succ, List.setIfInBounds_toArray, List.set_cons_zero, List.set_cons_succ]
  refine wpAnyH_take (i := 2) (v := ?_) rfl (by kernel_rfl) (by kernel_rfl) (by kernel_rfl) (fun _ _ _ h => h) (Or.inl ⟨by rfl, ?_⟩) hS0 ?_
  rotate_left
  · intro W _; go_simp; try with_reducible rfl
  try simp only [Act.put, List.getElem_toArray, List.getElem_cons_zero, List.getElem_cons_succ, List.setIfInBounds_toArray, List.set_cons_zero, List.set_cons_succ]
  refine wpAnyH_take (i := 3) (v := ?_) rfl (by kernel_rfl) (by kernel_rfl) (by kernel_rfl) (fun _ _ _ h => h) (Or.inl ⟨by rfl, ?_⟩) hS0 ?_
  rotate_left
  · intro W hSW; have hx := hSW.1.cellAt 0; go_simp; try with_reducible rfl
  try simp only [Act.put, List.getElem_toArray, List.getElem_cons_zero, List.getElem_cons_succ, List.setIfInBounds_toArray, List.set_cons_zero, List.set_cons_succ]
  refine wpAnyH_take (i := 4) (v := ?_) rfl (by kernel_rfl) (by kernel_rfl) (by kernel_rfl) (fun _ _ _ h => h) (Or.inl ⟨by rfl, ?_⟩) hS0 ?_
  rotate_left
  · intro W _; go_simp; try with_reducible rfl
  try simp only [Act.put, List.getElem_toArray, List.getElem_cons_zero, List.getElem_cons_succ, List.setIfInBounds_toArray, List.set_cons_zero, List.set_cons_succ]
  refine wpAnyH_take (i := 5) (v := ?_) rfl (by kernel_rfl) (by kernel_rfl) (by kernel_rfl) (fun _ _ _ h => h) (Or.inl ⟨by rfl, ?_⟩) hS0 ?_
  rotate_left
  · intro W _; go_simp; try with_reducible rfl
  try simp only [Act.put, List.getElem_toArray, List.getElem_cons_zero, List.getElem_cons_succ, List.setIfInBounds_toArray, List.set_cons_zero, List.set_cons_succ]
  refine wpAnyH_take (i := 6) (v := ?_) rfl (by kernel_rfl) (by kernel_rfl) (by kernel_rfl) (fun _ _ _ h => h) (Or.inl ⟨by rfl, ?_⟩) hS0 ?_
  rotate_left
  · intro W _; go_simp; try with_reducible rfl
  try simp only [Act.put, List.getElem_toArray, List.getElem_cons_zero, List.getElem_cons_succ, List.setIfInBounds_toArray, List.set_cons_zero, List.set_cons_succ]
  refine wpAnyH_take (i := 7) (v := ?_) rfl (by kernel_rfl) (by kernel_rfl) (by kernel_rfl) (fun _ _ _ h => h) (Or.inl ⟨by rfl, ?_⟩) hS0 ?_
  rotate_left
  · intro W hSW; have hx := hSW.1.cellAt 2; go_simp; try with_reducible rfl
  try simp only [Act.put, List.getElem_toArray, List.getElem_cons_zero, List.getElem_cons_succ, List.setIfInBounds_toArray, List.set_cons_zero, List.set_cons_succ]
  refine wpAnyH_take (i := 9) (v := ?_) rfl (by kernel_rfl) (by kernel_rfl) (by kernel_rfl) (fun _ _ _ h => h) (Or.inl ⟨by rfl, ?_⟩) hS0 ?_
  rotate_left
  · intro W _; go_simp; try with_reducible rfl
  try simp only [Act.put, List.getElem_toArray, List.getElem_cons_zero, List.getElem_cons_succ, List.setIfInBounds_toArray, List.set_cons_zero, List.set_cons_succ]
  refine wpAnyH_take (i := 10) (v := ?_) rfl (by kernel_rfl) (by kernel_rfl) (by kernel_rfl) (fun _ _ _ h => h) (Or.inl ⟨by rfl, ?_⟩) hS0 ?_
  rotate_left
  · intro W _; go_simp; try with_reducible rfl
  try simp only [Act.put, List.getElem_toArray, List.getElem_cons_zero, List.getElem_cons_succ, List.setIfInBounds_toArray, List.set_cons_zero, List.set_cons_succ]
  refine wpAnyH_take (i := 11) (v := ?_) rfl (by kernel_rfl) (by kernel_rfl) (by kernel_rfl) (fun _ _ _ h => h) (Or.inl ⟨by rfl, ?_⟩) hS0 ?_
  rotate_left
  · intro W _; go_simp; try with_reducible rfl
  try simp only [Act.put, List.getElem_toArray, List.getElem_cons_zero, List.getElem_cons_succ, List.setIfInBounds_toArray, List.set_cons_zero, List.set_cons_succ]
  refine wpAnyH_take (i := 12) (v := ?_) rfl (by kernel_rfl) (by kernel_rfl) (by kernel_rfl) (fun _ _ _ h => h) (Or.inl ⟨by rfl, ?_⟩) hS0 ?_
  rotate_left
  · intro W hSW; have hx := hSW.1.cellAt 1; go_simp; try with_reducible rfl
  try simp only [Act.put, List.getElem_toArray, List.getElem_cons_zero, List.getElem_cons_succ, List.setIfInBounds_toArray, List.set_cons_zero, List.set_cons_succ]
  refine wpAnyH_ready (rs := [8]) (by kernel_rfl) (by simp) ?_
  refine AllReadyH.cons rfl (fun K hK => ?_) AllReadyH.nil
  go_simp
  go_invoke
  go_simp
  refine (num2_z g _).mono ?_
  rintro e y1 ⟨rfl, hb1⟩
  go_simp
  refine hK.out _ _ (⟨hS0.1.later hb1, bclose hS0.2 hb1⟩) (fun hS1 => ?_)
  clear hK K
  try simp only [Act.put, List.getElem_toArray, List.getElem_cons_zero, List.getElem_cons_succ, List.setIfInBounds_toArray, List.set_cons_zero, List.set_cons_succ]
  refine wpAnyH_take (i := 13) (v := ?_) rfl (by kernel_rfl) (by kernel_rfl) (by kernel_rfl) (fun _ _ _ h => h) (Or.inl ⟨by rfl, ?_⟩) hS1 ?_
  rotate_left
  · intro W _; go_simp; try with_reducible rfl
  try simp only [Act.put, List.getElem_toArray, List.getElem_cons_zero, List.getElem_cons_succ, List.setIfInBounds_toArray, List.set_cons_zero, List.set_cons_succ]
  refine wpAnyH_take (i := 14) (v := ?_) rfl (by kernel_rfl) (by kernel_rfl) (by kernel_rfl) (fun _ _ _ h => h) (Or.inl ⟨by rfl, ?_⟩) hS1 ?_
  rotate_left
  · intro W _; go_simp; try with_reducible rfl
  try simp only [Act.put, List.getElem_toArray, List.getElem_cons_zero, List.getElem_cons_succ, List.setIfInBounds_toArray, List.set_cons_zero, List.set_cons_succ]
  refine wpAnyH_take (i := 15) (v := ?_) rfl (by kernel_rfl) (by kernel_rfl) (by kernel_rfl) (fun _ _ _ h => h) (Or.inl ⟨by rfl, ?_⟩) hS1 ?_
  rotate_left
  · intro W _; go_simp; try with_reducible rfl
  try simp only [Act.put, List.getElem_toArray, List.getElem_cons_zero, List.getElem_cons_succ, List.setIfInBounds_toArray, List.set_cons_zero, List.set_cons_succ]
  refine wpAnyH_done (by kernel_rfl) ?_ _
  have HF := Lib.hid hS1
  go_wp2_with fail
  first | go_ret | go_ret3 | go_returns
  exact ⟨rfl, HF.out.2⟩
theorem where_n (c : Nat) (p e0 a : Int) (w : World) (h : Ctl w c p e0 a) : Calls Tryz.prog 44 #[.pointer (some ⟨c, 0, none⟩)] w fun e w' => e = .returned (.tuple #[.int .i64 p, .int .i64 a, .int .i64 e0]) ∧ Below w.heap.size w w' := by
  obtain ⟨A, B, hc, hA, _⟩ := h
  rcases hA with ⟨rfl, b, g, vM, vQ, vJ, rfl, hG, hn⟩ | ⟨rfl, b, g, rfl, hZ, hn⟩
  · exact where1_n c g p e0 B w hc
  · exact where2_n c g p e0 B w hc
set_option maxHeartbeats 12800000 in
set_option maxRecDepth 100000 in
theorem cmd_lo (k : Int) (c : Nat) (p e0 a : Int) (w : World) (hk : k < 1) (h : Ctl w c p e0 a) : Calls Tryz.prog 34 #[.pointer (some ⟨c, 0, none⟩), .int .i64 k] w fun e w' => (e = .returned (.int .i64 1) ∧ Ctl w' c p e0 a) ∧ w.grownBy w' (some c) := by
  have K1 := Lib.hid h.isNone
  have HC0 := Lib.hid h
  clear h
  have hk1 : k < 1 := hk
  have hk2 : decide (k < 1) = true := decide_eq_true hk
  go_enter Tryz.func34, Tryz.ntmps34
  go_wp2_with fail
  refine K1.out.mono ?_
  rintro e w1 ⟨rfl, hb1⟩
  have HF := Lib.hid hb1
  clear hb1 K1
  go_wp2_with fail
  go_ret
  exact ⟨⟨rfl, HC0.out.later HF.out⟩, below_grownBy HF.out⟩
set_option maxHeartbeats 12800000 in
set_option maxRecDepth 100000 in
theorem cmd_hi (k : Int) (c : Nat) (p e0 a : Int) (w : World) (hk : 5 < k) (h : Ctl w c p e0 a) : Calls Tryz.prog 34 #[.pointer (some ⟨c, 0, none⟩), .int .i64 k] w fun e w' => (e = .returned (.int .i64 1) ∧ Ctl w' c p e0 a) ∧ w.grownBy w' (some c) := by
  have K1 := Lib.hid h.isNone
  have HC0 := Lib.hid h
  clear h
  have hk1 : ¬ k < 1 := by omega
  have hk2 : decide (k < 1) = false := decide_eq_false hk1
  have hk3 : decide (5 < k) = true := decide_eq_true hk
  go_enter Tryz.func34, Tryz.ntmps34
  go_wp2_with fail
  refine K1.out.mono ?_
  rintro e w1 ⟨rfl, hb1⟩
  have HF := Lib.hid hb1
  clear hb1 K1
  go_wp2_with fail
  go_ret
  exact ⟨⟨rfl, HC0.out.later HF.out⟩, below_grownBy HF.out⟩
/-- What a command makes of a control: its answer, the phase, the epoch, the active generation. -/
def phR (k : Int) : Int := if k = 1 then 1 else if k = 2 ∨ k = 5 then 2 else 3
def cmdR (p e a k : Int) : Int × Int × Int × Int :=
  if k < 1 ∨ 5 < k then (1, p, e, a) else if p = phR k then (if k = 1 then (0, 2, e, a) else if k = 2 then (0, 3, e + 1, 3 - a) else if k = 4 then (0, 1, e + 1, 3 - a) else (0, 1, e, a)) else (14, p, e, a)
theorem command_n (k : Int) (c : Nat) (p e0 a : Int) (w : World) (hp : p = 1 ∨ p = 2 ∨ p = 3) (he : 1 ≤ e0 ∧ e0 ≤ 1000000) (h : Ctl w c p e0 a) :
    Calls Tryz.prog 34 #[.pointer (some ⟨c, 0, none⟩), .int .i64 k] w fun e w' => e = .returned (.int .i64 (cmdR p e0 a k).1) ∧ Ctl w' c (cmdR p e0 a k).2.1 (cmdR p e0 a k).2.2.1 (cmdR p e0 a k).2.2.2 ∧ w.grownBy w' (some c) := by
  by_cases h1 : k < 1
  · have e : cmdR p e0 a k = (1, p, e0, a) := if_pos (.inl h1)
    rw [e]
    exact (cmd_lo k c p e0 a w h1 h).mono fun e w' h => ⟨h.1.1, h.1.2, h.2⟩
  by_cases h2 : 5 < k
  · have e : cmdR p e0 a k = (1, p, e0, a) := if_pos (.inr h2)
    rw [e]
    exact (cmd_hi k c p e0 a w h2 h).mono fun e w' h => ⟨h.1.1, h.1.2, h.2⟩
  have hk : k = 1 ∨ k = 2 ∨ k = 3 ∨ k = 4 ∨ k = 5 := by omega
  clear h1 h2
  rcases hk with rfl | rfl | rfl | rfl | rfl <;> rcases hp with rfl | rfl | rfl
  · exact (cmd1_1 c e0 a w he h).mono fun e w' h => ⟨h.1.1, h.1.2, h.2⟩
  · exact (cmd1_2 c e0 a w he h).mono fun e w' h => ⟨h.1.1, h.1.2, h.2⟩
  · exact (cmd1_3 c e0 a w he h).mono fun e w' h => ⟨h.1.1, h.1.2, h.2⟩
  · exact (cmd2_1 c e0 a w he h).mono fun e w' h => ⟨h.1.1, h.1.2, h.2⟩
  · exact (cmd2_2 c e0 a w he h).mono fun e w' h => ⟨h.1.1, h.1.2, h.2⟩
  · exact (cmd2_3 c e0 a w he h).mono fun e w' h => ⟨h.1.1, h.1.2, h.2⟩
  · exact (cmd3_1 c e0 a w he h).mono fun e w' h => ⟨h.1.1, h.1.2, h.2⟩
  · exact (cmd3_2 c e0 a w he h).mono fun e w' h => ⟨h.1.1, h.1.2, h.2⟩
  · exact (cmd3_3 c e0 a w he h).mono fun e w' h => ⟨h.1.1, h.1.2, h.2⟩
  · exact (cmd4_1 c e0 a w he h).mono fun e w' h => ⟨h.1.1, h.1.2, h.2⟩
  · exact (cmd4_2 c e0 a w he h).mono fun e w' h => ⟨h.1.1, h.1.2, h.2⟩
  · exact (cmd4_3 c e0 a w he h).mono fun e w' h => ⟨h.1.1, h.1.2, h.2⟩
  · exact (cmd5_1 c e0 a w he h).mono fun e w' h => ⟨h.1.1, h.1.2, h.2⟩
  · exact (cmd5_2 c e0 a w he h).mono fun e w' h => ⟨h.1.1, h.1.2, h.2⟩
  · exact (cmd5_3 c e0 a w he h).mono fun e w' h => ⟨h.1.1, h.1.2, h.2⟩
end Go.Proofs.YtjgojgmgicpgaaaGreat
