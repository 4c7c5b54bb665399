/- A control over blank schedulers, in any of its states; what Command and Where do. No condition but that the epoch is below a million. -/
import Derived.Test.YtjgojgmgicpgaaaGreatTZgn
import Derived.Test.YtjgojgmgicpgaaaGreatTRgf
namespace Go.Proofs.YtjgojgmgicpgaaaGreat
open Go.RowKit
set_option linter.unusedSimpArgs false
set_option linter.unusedVariables false

/-- A control over blank schedulers: its phase, its epoch, its active generation. -/
def Ctl (w : World) (c : Nat) (p e a : Int) : Prop := ∃ A B, Bk w c 89 (cV p e A B 0) ∧ Gn w c a A ∧ ((p = 1 ∧ B = .nilIface) ∨ ((p = 2 ∨ p = 3) ∧ Gn w c (3 - a) B))
theorem Ctl.later {w w' : World} {c : Nat} {p e a : Int} (h : Ctl w c p e a) (hb : Below w.heap.size w w') : Ctl w' c p e a := by
  obtain ⟨A, B, h1, h2, h3⟩ := h
  exact ⟨A, B, h1.later hb, h2.later hb, h3.imp id fun h => ⟨h.1, h.2.later hb⟩⟩
theorem Ctl.here {w : World} {c : Nat} {p e a : Int} (h : Ctl w c p e a) : c < w.heap.size := by
  obtain ⟨A, B, h1, _⟩ := h
  exact h1.here
theorem Ctl.isNone {w : World} {c : Nat} {p e a : Int} (h : Ctl w c p e a) : Calls Tryz.prog 77 #[.pointer (some ⟨c, 0, none⟩)] w fun e w' => e = .returned (.bool false) ∧ Below w.heap.size w w' := by
  obtain ⟨A, B, h1, h2, _⟩ := h
  obtain ⟨T, u, rfl⟩ := h2.iface
  exact isNone_z c p e 0 T u B w h1
set_option maxHeartbeats 12800000 in
set_option maxRecDepth 100000 in
theorem prepare_n (c : Nat) (e0 a : Int) (w : World) (h : Ctl w c 1 e0 a) : Calls Tryz.prog 79 #[.pointer (some ⟨c, 0, none⟩)] w fun e w' => (e = .returned (.int .i64 0) ∧ Ctl w' c 2 e0 a) ∧ w.grownBy w' (some c) := by
  obtain ⟨A, B, hc, hA, hB⟩ := h
  obtain ⟨T, u, rfl⟩ := hA.iface
  have hB0 : B = .nilIface := by rcases hB with h | h; exact h.2; omega
  subst hB0
  clear hB
  have K := Lib.hid (tr_n c a (.iface T u) w hA hc.here)
  have HC0 := Lib.hid hc; have HA0 := Lib.hid hA
  have d2 : w.cell? ⟨c, 2, none⟩ = some (.iface T u) := hc.cellAt 2
  clear hc hA
  go_enter Tryz.func79, Tryz.ntmps79
  go_wp2_with fail
  refine K.out.mono ?_
  rintro e w1 ⟨⟨v', rfl, hV⟩, hb1⟩
  obtain ⟨T', u', rfl⟩ := hV.iface
  have HC1 := Lib.hid (HC0.out.later hb1); have HA1 := Lib.hid (HA0.out.later hb1); have HV1 := Lib.hid hV
  have HG1 : Hid (w.grownBy w1 (some c)) := below_grownBy hb1
  clear hV hb1 HC0 HA0 d2 K
  go_wp2_with (first | ((with_reducible refine store1_bk rfl 3 (.tmp 20) (.const (.int .i64 2)) rfl c 0 (.int .i64 2) rfl rfl 89 (cV 1 e0 (.iface T u) .nilIface 0) (cV 2 e0 (.iface T u) .nilIface 0) HC1.out (by kernel_rfl) (by simp) rfl rfl rfl ?_); intro w2 hB hG hs; have HC2 := Lib.hid hB; have HA2 := Lib.hid (HA1.out.grown hG); have HV2 := Lib.hid (HV1.out.grown hG); have HG2 := Lib.hid (grownBy_trans HG1.out hG); clear hB hG hs HC1 HA1 HV1 HG1) | ((with_reducible refine store1_bk rfl 87 (.tmp 22) (.tmp 18) rfl c 3 (.iface T' u') rfl rfl 89 (cV 2 e0 (.iface T u) .nilIface 0) (cV 2 e0 (.iface T u) (.iface T' u') 0) HC2.out (by kernel_rfl) (by simp) rfl rfl rfl ?_); intro w3 hB hG hs; have HC3 := Lib.hid hB; have HA3 := Lib.hid (HA2.out.grown hG); have HV3 := Lib.hid (HV2.out.grown hG); have HG3 := Lib.hid (grownBy_trans HG2.out hG); clear hB hG hs HC2 HA2 HV2 HG2))
  go_ret
  exact ⟨⟨rfl, _, _, HC3.out, HA3.out, .inr ⟨.inl rfl, HV3.out⟩⟩, HG3.out⟩
set_option maxHeartbeats 12800000 in
set_option maxRecDepth 100000 in
theorem takeOver_n (c : Nat) (p e0 : Int) (T T' : TypeId) (u u' : Value) (w : World) (he : 1 ≤ e0 ∧ e0 ≤ 1000000) (hc : Bk w c 89 (cV p e0 (.iface T u) (.iface T' u') 0)) : Calls Tryz.prog 183 #[.pointer (some ⟨c, 0, none⟩)] w fun e w' => (e = .returned (.int .i64 0) ∧ Bk w' c 89 (cV p (e0 + 1) (.iface T' u') (.iface T u) 0)) ∧ w.grownBy w' (some c) := by
  have HC0 := Lib.hid hc
  have d1 : w.cell? ⟨c, 1, none⟩ = some (.int .i64 e0) := hc.cellAt 1
  have hq : (e0 == 1073741824) = false := by rw [beq_eq_false_iff_ne]; omega
  have hq2 : ¬ e0 = 1073741824 := by omega
  have HW : Hid (wrap64 (e0 + 1) = e0 + 1) := by show _ = _; unfold wrap64; omega
  clear hc he
  go_enter Tryz.func183, Tryz.ntmps183
  go_wp2_with fail
  clear d1 hq hq2
  refine wp_region_E (S := fun W => Bk W c 89 (cV p e0 (.iface T u) (.iface T' u') 0) ∧ Below w.heap.size w W) 12 (by kernel_rfl) (⟨HC0.out.drewB, Below.drew (Below.refl _ _)⟩) (fun hS0 => ?_)
  refine wpAnyE_takeF (i := 0) (v := ?_) rfl (by kernel_rfl) (by kernel_rfl) (by kernel_rfl) (by kernel_rfl) (fun _ _ _ h => h) (Or.inl ⟨by rfl, ?_⟩) hS0 ?_
  rotate_left
  · intro W _; go_simp; try with_reducible rfl
  try simp only [Act.put, List.getElem_toArray, List.getElem_cons_zero, List.getElem_cons_succ, List.setIfInBounds_toArray, List.set_cons_zero, List.set_cons_succ]
  refine wpAnyE_takeF (i := 1) (v := ?_) rfl (by kernel_rfl) (by kernel_rfl) (by kernel_rfl) (by kernel_rfl) (fun _ _ _ h => h) (Or.inl ⟨by rfl, ?_⟩) hS0 ?_
  rotate_left
  · intro W _; go_simp; try with_reducible rfl
  try simp only [Act.put, List.getElem_toArray, List.getElem_cons_zero, List.getElem_cons_succ, List.setIfInBounds_toArray, List.set_cons_zero, List.set_cons_succ]
  refine wpAnyE_takeF (i := 2) (v := ?_) rfl (by kernel_rfl) (by kernel_rfl) (by kernel_rfl) (by kernel_rfl) (fun _ _ _ h => h) (Or.inl ⟨by rfl, ?_⟩) hS0 ?_
  rotate_left
  · intro W _; go_simp; try with_reducible rfl
  try simp only [Act.put, List.getElem_toArray, List.getElem_cons_zero, List.getElem_cons_succ, List.setIfInBounds_toArray, List.set_cons_zero, List.set_cons_succ]
  refine wpAnyE_takeF (i := 3) (v := ?_) rfl (by kernel_rfl) (by kernel_rfl) (by kernel_rfl) (by kernel_rfl) (fun _ _ _ h => h) (Or.inl ⟨by rfl, ?_⟩) hS0 ?_
  rotate_left
  · intro W _; go_simp; try with_reducible rfl
  try simp only [Act.put, List.getElem_toArray, List.getElem_cons_zero, List.getElem_cons_succ, List.setIfInBounds_toArray, List.set_cons_zero, List.set_cons_succ]
  refine wpAnyE_takeF (i := 4) (v := ?_) rfl (by kernel_rfl) (by kernel_rfl) (by kernel_rfl) (by kernel_rfl) (fun _ _ _ h => h) (Or.inl ⟨by rfl, ?_⟩) hS0 ?_
  rotate_left
  · intro W _; go_simp; try with_reducible rfl
  try simp only [Act.put, List.getElem_toArray, List.getElem_cons_zero, List.getElem_cons_succ, List.setIfInBounds_toArray, List.set_cons_zero, List.set_cons_succ]
  refine wpAnyE_take (i := 5) (v := ?_) rfl (by kernel_rfl) (by kernel_rfl) (by kernel_rfl) (by kernel_rfl) (by kernel_rfl) (fun _ _ _ h => h) (Or.inl ⟨by rfl, ?_⟩) hS0 ?_
  rotate_left
  · intro W hSW; have hx := hSW.1.cellAt 3; go_simp; try with_reducible rfl
  try simp only [Act.put, List.getElem_toArray, List.getElem_cons_zero, List.getElem_cons_succ, List.setIfInBounds_toArray, List.set_cons_zero, List.set_cons_succ]
  refine wpAnyE_takeF (i := 6) (v := ?_) rfl (by kernel_rfl) (by kernel_rfl) (by kernel_rfl) (by kernel_rfl) (fun _ _ _ h => h) (Or.inl ⟨by rfl, ?_⟩) hS0 ?_
  rotate_left
  · intro W _; go_simp; try with_reducible rfl
  try simp only [Act.put, List.getElem_toArray, List.getElem_cons_zero, List.getElem_cons_succ, List.setIfInBounds_toArray, List.set_cons_zero, List.set_cons_succ]
  refine wpAnyE_takeF (i := 7) (v := ?_) rfl (by kernel_rfl) (by kernel_rfl) (by kernel_rfl) (by kernel_rfl) (fun _ _ _ h => h) (Or.inl ⟨by rfl, ?_⟩) hS0 ?_
  rotate_left
  · intro W _; go_simp; try with_reducible rfl
  try simp only [Act.put, List.getElem_toArray, List.getElem_cons_zero, List.getElem_cons_succ, List.setIfInBounds_toArray, List.set_cons_zero, List.set_cons_succ]
  refine wpAnyE_takeF (i := 8) (v := ?_) rfl (by kernel_rfl) (by kernel_rfl) (by kernel_rfl) (by kernel_rfl) (fun _ _ _ h => h) (Or.inl ⟨by rfl, ?_⟩) hS0 ?_
  rotate_left
  · intro W _; go_simp; try with_reducible rfl
  try simp only [Act.put, List.getElem_toArray, List.getElem_cons_zero, List.getElem_cons_succ, List.setIfInBounds_toArray, List.set_cons_zero, List.set_cons_succ]
  refine wpAnyE_take (i := 9) (v := ?_) rfl (by kernel_rfl) (by kernel_rfl) (by kernel_rfl) (by kernel_rfl) (by kernel_rfl) (fun _ _ _ h => h) (Or.inl ⟨by rfl, ?_⟩) hS0 ?_
  rotate_left
  · intro W hSW; have hx := hSW.1.cellAt 2; go_simp; try with_reducible rfl
  try simp only [Act.put, List.getElem_toArray, List.getElem_cons_zero, List.getElem_cons_succ, List.setIfInBounds_toArray, List.set_cons_zero, List.set_cons_succ]
  refine wpAnyE_takeF (i := 10) (v := ?_) rfl (by kernel_rfl) (by kernel_rfl) (by kernel_rfl) (by kernel_rfl) (fun _ _ _ h => h) (Or.inl ⟨by rfl, ?_⟩) hS0 ?_
  rotate_left
  · intro W _; go_simp; try with_reducible rfl
  try simp only [Act.put, List.getElem_toArray, List.getElem_cons_zero, List.getElem_cons_succ, List.setIfInBounds_toArray, List.set_cons_zero, List.set_cons_succ]
  refine wpAnyE_takeF (i := 11) (v := ?_) rfl (by kernel_rfl) (by kernel_rfl) (by kernel_rfl) (by kernel_rfl) (fun _ _ _ h => h) (Or.inl ⟨by rfl, ?_⟩) hS0 ?_
  rotate_left
  · intro W _; go_simp; try with_reducible rfl
  try simp only [Act.put, List.getElem_toArray, List.getElem_cons_zero, List.getElem_cons_succ, List.setIfInBounds_toArray, List.set_cons_zero, List.set_cons_succ]
  refine wpAnyE_ready (rs := [12]) (by kernel_rfl) (by simp) ?_
  refine AllReadyE.last rfl (by kernel_rfl) (fun K hK => ?_) AllReadyE.nil
  simp only [if_pos, Region.wanted]
  refine store1z_op 87 (.tmp 19) (.tmp 13) rfl c 2 (.iface T' u') rfl rfl 89 (cV p e0 (.iface T u) (.iface T' u') 0) (cV p e0 (.iface T' u') (.iface T' u') 0) hS0.1 (by kernel_rfl) (by simp) rfl rfl rfl ?_
  intro y1 hB12 hG12 hs12
  have HC2 := Lib.hid hB12; have HG2 : Hid (w.grownBy y1 (some c)) := grownBy_trans (below_grownBy hS0.2) hG12
  refine hK.out _ _ ?_
  clear hK K
  try simp only [Act.put, List.getElem_toArray, List.getElem_cons_zero, List.getElem_cons_succ, List.setIfInBounds_toArray, List.set_cons_zero, List.set_cons_succ]
  refine wpAny_of_held (S := fun _ => True) _ _ _ _ ?_
  refine wpAnyH_take (i := 13) (v := ?_) rfl (by kernel_rfl) (by kernel_rfl) (by kernel_rfl) (fun _ _ _ h => h) (Or.inl ⟨by rfl, ?_⟩) trivial ?_
  rotate_left
  · intro W _; go_simp; try with_reducible rfl
  try simp only [Act.put, List.getElem_toArray, List.getElem_cons_zero, List.getElem_cons_succ, List.setIfInBounds_toArray, List.set_cons_zero, List.set_cons_succ]
  refine wpAnyH_take (i := 14) (v := ?_) rfl (by kernel_rfl) (by kernel_rfl) (by kernel_rfl) (fun _ _ _ h => h) (Or.inl ⟨by rfl, ?_⟩) trivial ?_
  rotate_left
  · intro W _; go_simp; try with_reducible rfl
  try simp only [Act.put, List.getElem_toArray, List.getElem_cons_zero, List.getElem_cons_succ, List.setIfInBounds_toArray, List.set_cons_zero, List.set_cons_succ]
  refine wpAnyH_ready (rs := [15]) (by kernel_rfl) (by simp) ?_
  refine AllReadyH.cons rfl (fun K hK => ?_) AllReadyH.nil
  simp only [if_pos, Region.wanted]
  refine store1z_op 87 (.tmp 21) (.tmp 17) rfl c 3 (.iface T u) rfl rfl 89 (cV p e0 (.iface T' u') (.iface T' u') 0) (cV p e0 (.iface T' u') (.iface T u) 0) HC2.out (by kernel_rfl) (by simp) rfl rfl rfl ?_
  intro y2 hB15 hG15 hs15
  have HC3 := Lib.hid hB15; have HG3 := Lib.hid (grownBy_trans HG2.out hG15)
  refine hK.out _ _ (trivial) (fun _ => ?_)
  clear hK K
  try simp only [Act.put, List.getElem_toArray, List.getElem_cons_zero, List.getElem_cons_succ, List.setIfInBounds_toArray, List.set_cons_zero, List.set_cons_succ]
  refine wpAnyH_done (by kernel_rfl) ?_ _
  clear HC0 HG2 HC2
  obtain ⟨w3, hw3⟩ : ∃ W, W = y2 := ⟨_, rfl⟩
  rw [← hw3] at HC3 HG3 ⊢
  clear hw3
  have d1 : w3.cell? ⟨c, 1, none⟩ = some (.int .i64 e0) := HC3.out.cellAt 1
  go_wp2_with ((with_reducible refine store1_bk rfl 3 (.tmp 28) (.tmp 26) rfl c 1 (.int .i64 (wrap64 (e0 + 1))) rfl rfl 89 (cV p e0 (.iface T' u') (.iface T u) 0) (cV p (wrap64 (e0 + 1)) (.iface T' u') (.iface T u) 0) HC3.out (by kernel_rfl) (by simp) rfl rfl rfl ?_); intro w4 hB hG hs; have HC4 := Lib.hid hB; have HG4 := Lib.hid (grownBy_trans HG3.out hG); clear hB hG hs HC3 HG3 d1)
  go_ret
  have h4 := HC4.out
  rw [HW.out] at h4
  exact ⟨⟨rfl, h4⟩, HG4.out⟩
set_option maxHeartbeats 12800000 in
set_option maxRecDepth 100000 in
theorem cutover_n (c : Nat) (e0 a : Int) (w : World) (he : 1 ≤ e0 ∧ e0 ≤ 1000000) (h : Ctl w c 2 e0 a) : Calls Tryz.prog 80 #[.pointer (some ⟨c, 0, none⟩)] w fun e w' => (e = .returned (.int .i64 0) ∧ Ctl w' c 3 (e0 + 1) (3 - a)) ∧ w.grownBy w' (some c) := by
  obtain ⟨A, B, hc, hA, hB⟩ := h
  obtain ⟨_, hB⟩ : (2 = (2 : Int) ∨ 2 = (3 : Int)) ∧ Gn w c (3 - a) B := by rcases hB with h | h; omega; exact h
  obtain ⟨T, u, rfl⟩ := hA.iface
  obtain ⟨T', u', rfl⟩ := hB.iface
  have K := Lib.hid (takeOver_n c 2 e0 T T' u u' w he hc)
  have HA0 := Lib.hid hA; have HB0 := Lib.hid hB
  clear hc hA hB he
  go_enter Tryz.func80, Tryz.ntmps80
  go_wp2_with fail
  refine K.out.mono ?_
  rintro e w1 ⟨⟨rfl, hB⟩, hG⟩
  have HC1 := Lib.hid hB; have HG1 := Lib.hid hG; have HA1 := Lib.hid (HA0.out.grown hG); have HB1 := Lib.hid (HB0.out.grown hG)
  clear hB hG K HA0 HB0
  go_wp2_with ((with_reducible refine store1_bk rfl 3 (.tmp 11) (.const (.int .i64 3)) rfl c 0 (.int .i64 3) rfl rfl 89 (cV 2 (e0 + 1) (.iface T' u') (.iface T u) 0) (cV 3 (e0 + 1) (.iface T' u') (.iface T u) 0) HC1.out (by kernel_rfl) (by simp) rfl rfl rfl ?_); intro w2 hB hG hs; have HC2 := Lib.hid hB; have HG2 := Lib.hid (grownBy_trans HG1.out hG); have HA2 := Lib.hid (HA1.out.grown hG); have HB2 := Lib.hid (HB1.out.grown hG); clear hB hG hs HC1 HG1 HA1 HB1)
  go_ret
  exact ⟨⟨rfl, _, _, HC2.out, HB2.out, .inr ⟨.inr rfl, by rw [show 3 - (3 - a) = a by omega]; exact HA2.out⟩⟩, HG2.out⟩
set_option maxHeartbeats 12800000 in
set_option maxRecDepth 100000 in
theorem discard_n (c : Nat) (p e0 : Int) (A : Value) (T' : TypeId) (u' : Value) (w : World) (hc : Bk w c 89 (cV p e0 A (.iface T' u') 0)) : Calls Tryz.prog 82 #[.pointer (some ⟨c, 0, none⟩)] w fun e w' => (e = .returned (.tuple #[]) ∧ Bk w' c 89 (cV 1 e0 A .nilIface 0)) ∧ w.grownBy w' (some c) := by
  have HC0 := Lib.hid hc
  clear hc
  go_enter Tryz.func82, Tryz.ntmps82
  go_wp2_with (first | ((with_reducible refine store1_bk rfl 3 (.tmp 5) (.const (.int .i64 1)) rfl c 0 (.int .i64 1) rfl rfl 89 (cV p e0 A (.iface T' u') 0) (cV 1 e0 A (.iface T' u') 0) HC0.out (by kernel_rfl) (by simp) rfl rfl rfl ?_); intro w1 hB hG hs; have HC1 := Lib.hid hB; have HG1 := Lib.hid hG; clear hB hG hs HC0) | ((with_reducible refine store1_bk rfl 87 (.tmp 7) (.const .nilIface) rfl c 3 .nilIface rfl rfl 89 (cV 1 e0 A (.iface T' u') 0) (cV 1 e0 A .nilIface 0) HC1.out (by kernel_rfl) (by simp) rfl rfl rfl ?_); intro w2 hB hG hs; have HC2 := Lib.hid hB; have HG2 := Lib.hid (grownBy_trans HG1.out hG); clear hB hG hs HC1 HG1))
  first | go_end0 | go_ret | go_returns
  exact ⟨⟨rfl, HC2.out⟩, HG2.out⟩
set_option maxHeartbeats 12800000 in
set_option maxRecDepth 100000 in
theorem rollback_n (c : Nat) (e0 a : Int) (w : World) (he : 1 ≤ e0 ∧ e0 ≤ 1000000) (h : Ctl w c 3 e0 a) : Calls Tryz.prog 81 #[.pointer (some ⟨c, 0, none⟩)] w fun e w' => (e = .returned (.int .i64 0) ∧ Ctl w' c 1 (e0 + 1) (3 - a)) ∧ w.grownBy w' (some c) := by
  obtain ⟨A, B, hc, hA, hB⟩ := h
  obtain ⟨_, hB⟩ : (3 = (2 : Int) ∨ 3 = (3 : Int)) ∧ Gn w c (3 - a) B := by rcases hB with h | h; omega; exact h
  obtain ⟨T, u, rfl⟩ := hA.iface
  obtain ⟨T', u', rfl⟩ := hB.iface
  have K := Lib.hid (takeOver_n c 3 e0 T T' u u' w he hc)
  have HB0 := Lib.hid hB
  clear hc hA hB he
  go_enter Tryz.func81, Tryz.ntmps81
  go_wp2_with fail
  refine K.out.mono ?_
  rintro e w1 ⟨⟨rfl, hB⟩, hG⟩
  have HC1 := Lib.hid hB; have HG1 := Lib.hid hG; have HB1 := Lib.hid (HB0.out.grown hG)
  clear hB hG K HB0
  go_wp2_with fail
  refine (discard_n c 3 (e0 + 1) (.iface T' u') T u w1 HC1.out).mono ?_
  rintro e w2 ⟨⟨rfl, hB⟩, hG⟩
  have HC2 := Lib.hid hB; have HG2 := Lib.hid (grownBy_trans HG1.out hG); have HB2 := Lib.hid (HB1.out.grown hG)
  clear hB hG HC1 HG1 HB1
  go_wp2_with fail
  go_ret
  exact ⟨⟨rfl, _, _, HC2.out, HB2.out, .inl ⟨rfl, rfl⟩⟩, HG2.out⟩
set_option maxHeartbeats 12800000 in
set_option maxRecDepth 100000 in
theorem phase1_n (w : World) : Calls Tryz.prog 78 #[.int .i64 1] w fun e w' => e = .returned (.int .i64 1) ∧ Below w.heap.size w w' := by
  go_enter Tryz.func78, Tryz.ntmps78
  go_wp2
  go_ret
  exact ⟨rfl, Below.refl _ _⟩
set_option maxHeartbeats 12800000 in
set_option maxRecDepth 100000 in
theorem phase2_n (w : World) : Calls Tryz.prog 78 #[.int .i64 2] w fun e w' => e = .returned (.int .i64 2) ∧ Below w.heap.size w w' := by
  go_enter Tryz.func78, Tryz.ntmps78
  go_wp2
  go_ret
  exact ⟨rfl, Below.refl _ _⟩
set_option maxHeartbeats 12800000 in
set_option maxRecDepth 100000 in
theorem phase3_n (w : World) : Calls Tryz.prog 78 #[.int .i64 3] w fun e w' => e = .returned (.int .i64 3) ∧ Below w.heap.size w w' := by
  go_enter Tryz.func78, Tryz.ntmps78
  go_wp2
  go_ret
  exact ⟨rfl, Below.refl _ _⟩
set_option maxHeartbeats 12800000 in
set_option maxRecDepth 100000 in
theorem phase4_n (w : World) : Calls Tryz.prog 78 #[.int .i64 4] w fun e w' => e = .returned (.int .i64 3) ∧ Below w.heap.size w w' := by
  go_enter Tryz.func78, Tryz.ntmps78
  go_wp2
  go_ret
  exact ⟨rfl, Below.refl _ _⟩
set_option maxHeartbeats 12800000 in
set_option maxRecDepth 100000 in
theorem phase5_n (w : World) : Calls Tryz.prog 78 #[.int .i64 5] w fun e w' => e = .returned (.int .i64 2) ∧ Below w.heap.size w w' := by
  go_enter Tryz.func78, Tryz.ntmps78
  go_wp2
  go_ret
  exact ⟨rfl, Below.refl _ _⟩
set_option maxHeartbeats 12800000 in
set_option maxRecDepth 100000 in
theorem cmd1_1 (c : Nat) (e0 a : Int) (w : World) (he : 1 ≤ e0 ∧ e0 ≤ 1000000) (h : Ctl w c 1 e0 a) : Calls Tryz.prog 34 #[.pointer (some ⟨c, 0, none⟩), .int .i64 1] w fun e w' => (e = .returned (.int .i64 0) ∧ Ctl w' c 2 e0 a) ∧ w.grownBy w' (some c) := by
  have K1 := Lib.hid h.isNone
  have HC0 := Lib.hid h
  clear h
  go_enter Tryz.func34, Tryz.ntmps34
  go_wp2_with fail
  refine K1.out.mono ?_
  rintro e w1 ⟨rfl, hb1⟩
  have HC1 := Lib.hid (HC0.out.later hb1)
  have Hb1 := Lib.hid hb1
  have d0 : w1.cell? ⟨c, 0, none⟩ = some (.int .i64 1) := by obtain ⟨A, B, h1, _⟩ := HC1.out; exact h1.cellAt 0
  clear hb1 K1 HC1
  go_wp2_with fail
  refine wp_region_held_drew (S := fun W => W.cell? ⟨c, 0, none⟩ = some (.int .i64 1) ∧ Below w.heap.size w W) (by kernel_rfl) (⟨d0, Below.drew Hb1.out⟩) (fun hS0 => ?_)
  refine wpAnyH_take (i := 0) (v := ?_) rfl (by kernel_rfl) (by kernel_rfl) (by kernel_rfl) (fun _ _ _ h => h) (Or.inl ⟨by rfl, ?_⟩) hS0 ?_
  rotate_left
  · intro W _; go_simp; try with_reducible rfl
  try simp only [Act.put, List.getElem_toArray, List.getElem_cons_zero, List.setIfInBounds_toArray, List.set_cons_zero, List.set_cons_succ]
  refine wpAnyH_take (i := 1) (v := ?_) rfl (by kernel_rfl) (by kernel_rfl) (by kernel_rfl) (fun _ _ _ h => h) (Or.inl ⟨by rfl, ?_⟩) hS0 ?_
  rotate_left
  · intro W _; go_simp; try with_reducible rfl
  try simp only [Act.put, List.getElem_toArray, List.getElem_cons_zero, List.getElem_cons_succ, List.setIfInBounds_toArray, List.set_cons_zero, List.set_cons_succ]
  refine wpAnyH_take (i := 2) (v := ?_) rfl (by kernel_rfl) (by kernel_rfl) (by kernel_rfl) (fun _ _ _ h => h) (Or.inl ⟨by rfl, ?_⟩) hS0 ?_
  rotate_left
  · intro W _; go_simp; try with_reducible rfl
  try simp only [Act.put, List.getElem_toArray, List.getElem_cons_zero, List.getElem_cons_succ, List.setIfInBounds_toArray, List.set_cons_zero, List.set_cons_succ]
  refine wpAnyH_take (i := 3) (v := ?_) rfl (by kernel_rfl) (by kernel_rfl) (by kernel_rfl) (fun _ _ _ h => h) (Or.inl ⟨by rfl, ?_⟩) hS0 ?_
  rotate_left
  · intro W hSW; have hx := hSW.1; go_simp; try with_reducible rfl
  try simp only [Act.put, List.getElem_toArray, List.getElem_cons_zero, List.getElem_cons_succ, List.setIfInBounds_toArray, List.set_cons_zero, List.set_cons_succ]
  refine wpAnyH_take (i := 4) (v := ?_) rfl (by kernel_rfl) (by kernel_rfl) (by kernel_rfl) (fun _ _ _ h => h) (Or.inl ⟨by rfl, ?_⟩) hS0 ?_
  rotate_left
  · intro W _; go_simp; try with_reducible rfl
  try simp only [Act.put, List.getElem_toArray, List.getElem_cons_zero, List.getElem_cons_succ, List.setIfInBounds_toArray, List.set_cons_zero, List.set_cons_succ]
  refine wpAnyH_ready (rs := [5]) (by kernel_rfl) (by simp) ?_
  refine AllReadyH.cons rfl (fun K hK => ?_) AllReadyH.nil
  go_simp
  refine (phase1_n _).mono ?_
  rintro e y2 ⟨rfl, hb2⟩
  go_simp
  refine hK.out _ _ (⟨(hb2.cell (World.block_lt_of_cell? _ _ hS0.1)).trans hS0.1, bclose hS0.2 hb2⟩) (fun hS1 => ?_)
  clear hK K
  try simp only [Act.put, List.getElem_toArray, List.getElem_cons_zero, List.getElem_cons_succ, List.setIfInBounds_toArray, List.set_cons_zero, List.set_cons_succ]
  refine wpAnyH_take (i := 6) (v := ?_) rfl (by kernel_rfl) (by kernel_rfl) (by kernel_rfl) (fun _ _ _ h => h) (Or.inl ⟨by rfl, ?_⟩) hS1 ?_
  rotate_left
  · intro W _; go_simp; try with_reducible rfl
  try simp only [Act.put, List.getElem_toArray, List.getElem_cons_zero, List.getElem_cons_succ, List.setIfInBounds_toArray, List.set_cons_zero, List.set_cons_succ]
  refine wpAnyH_take (i := 7) (v := ?_) rfl (by kernel_rfl) (by kernel_rfl) (by kernel_rfl) (fun _ _ _ h => h) (Or.inl ⟨by rfl, ?_⟩) hS1 ?_
  rotate_left
  · intro W _; go_simp; try with_reducible rfl
  try simp only [Act.put, List.getElem_toArray, List.getElem_cons_zero, List.getElem_cons_succ, List.setIfInBounds_toArray, List.set_cons_zero, List.set_cons_succ]
  refine wpAnyH_done (by kernel_rfl) ?_ _
  have HF := Lib.hid hS1.2
  clear hS0
  clear d0 Hb1
  have HC2 := Lib.hid (HC0.out.later HF.out)
  clear HC0
  go_wp2_with fail
  refine (prepare_n c e0 a _ HC2.out).mono ?_
  rintro e w3 ⟨⟨rfl, hC⟩, hG⟩
  have HE := Lib.hid hC
  have HG := Lib.hid (grownBy_trans (below_grownBy HF.out) hG)
  clear hC hG
  go_wp2_with fail
  go_ret
  exact ⟨⟨rfl, HE.out⟩, HG.out⟩
set_option maxHeartbeats 12800000 in
set_option maxRecDepth 100000 in
theorem cmd1_2 (c : Nat) (e0 a : Int) (w : World) (he : 1 ≤ e0 ∧ e0 ≤ 1000000) (h : Ctl w c 2 e0 a) : Calls Tryz.prog 34 #[.pointer (some ⟨c, 0, none⟩), .int .i64 1] w fun e w' => (e = .returned (.int .i64 14) ∧ Ctl w' c 2 e0 a) ∧ w.grownBy w' (some c) := by
  have K1 := Lib.hid h.isNone
  have HC0 := Lib.hid h
  clear h
  go_enter Tryz.func34, Tryz.ntmps34
  go_wp2_with fail
  refine K1.out.mono ?_
  rintro e w1 ⟨rfl, hb1⟩
  have HC1 := Lib.hid (HC0.out.later hb1)
  have Hb1 := Lib.hid hb1
  have d0 : w1.cell? ⟨c, 0, none⟩ = some (.int .i64 2) := by obtain ⟨A, B, h1, _⟩ := HC1.out; exact h1.cellAt 0
  clear hb1 K1 HC1
  go_wp2_with fail
  refine wp_region_held_drew (S := fun W => W.cell? ⟨c, 0, none⟩ = some (.int .i64 2) ∧ Below w.heap.size w W) (by kernel_rfl) (⟨d0, Below.drew Hb1.out⟩) (fun hS0 => ?_)
  refine wpAnyH_take (i := 0) (v := ?_) rfl (by kernel_rfl) (by kernel_rfl) (by kernel_rfl) (fun _ _ _ h => h) (Or.inl ⟨by rfl, ?_⟩) hS0 ?_
  rotate_left
  · intro W _; go_simp; try with_reducible rfl
  try simp only [Act.put, List.getElem_toArray, List.getElem_cons_zero, List.setIfInBounds_toArray, List.set_cons_zero, List.set_cons_succ]
  refine wpAnyH_take (i := 1) (v := ?_) rfl (by kernel_rfl) (by kernel_rfl) (by kernel_rfl) (fun _ _ _ h => h) (Or.inl ⟨by rfl, ?_⟩) hS0 ?_
  rotate_left
  · intro W _; go_simp; try with_reducible rfl
  try simp only [Act.put, List.getElem_toArray, List.getElem_cons_zero, List.getElem_cons_succ, List.setIfInBounds_toArray, List.set_cons_zero, List.set_cons_succ]
  refine wpAnyH_take (i := 2) (v := ?_) rfl (by kernel_rfl) (by kernel_rfl) (by kernel_rfl) (fun _ _ _ h => h) (Or.inl ⟨by rfl, ?_⟩) hS0 ?_
  rotate_left
  · intro W _; go_simp; try with_reducible rfl
  try simp only [Act.put, List.getElem_toArray, List.getElem_cons_zero, List.getElem_cons_succ, List.setIfInBounds_toArray, List.set_cons_zero, List.set_cons_succ]
  refine wpAnyH_take (i := 3) (v := ?_) rfl (by kernel_rfl) (by kernel_rfl) (by kernel_rfl) (fun _ _ _ h => h) (Or.inl ⟨by rfl, ?_⟩) hS0 ?_
  rotate_left
  · intro W hSW; have hx := hSW.1; go_simp; try with_reducible rfl
  try simp only [Act.put, List.getElem_toArray, List.getElem_cons_zero, List.getElem_cons_succ, List.setIfInBounds_toArray, List.set_cons_zero, List.set_cons_succ]
  refine wpAnyH_take (i := 4) (v := ?_) rfl (by kernel_rfl) (by kernel_rfl) (by kernel_rfl) (fun _ _ _ h => h) (Or.inl ⟨by rfl, ?_⟩) hS0 ?_
  rotate_left
  · intro W _; go_simp; try with_reducible rfl
  try simp only [Act.put, List.getElem_toArray, List.getElem_cons_zero, List.getElem_cons_succ, List.setIfInBounds_toArray, List.set_cons_zero, List.set_cons_succ]
  refine wpAnyH_ready (rs := [5]) (by kernel_rfl) (by simp) ?_
  refine AllReadyH.cons rfl (fun K hK => ?_) AllReadyH.nil
  go_simp
  refine (phase1_n _).mono ?_
  rintro e y2 ⟨rfl, hb2⟩
  go_simp
  refine hK.out _ _ (⟨(hb2.cell (World.block_lt_of_cell? _ _ hS0.1)).trans hS0.1, bclose hS0.2 hb2⟩) (fun hS1 => ?_)
  clear hK K
  try simp only [Act.put, List.getElem_toArray, List.getElem_cons_zero, List.getElem_cons_succ, List.setIfInBounds_toArray, List.set_cons_zero, List.set_cons_succ]
  refine wpAnyH_take (i := 6) (v := ?_) rfl (by kernel_rfl) (by kernel_rfl) (by kernel_rfl) (fun _ _ _ h => h) (Or.inl ⟨by rfl, ?_⟩) hS1 ?_
  rotate_left
  · intro W _; go_simp; try with_reducible rfl
  try simp only [Act.put, List.getElem_toArray, List.getElem_cons_zero, List.getElem_cons_succ, List.setIfInBounds_toArray, List.set_cons_zero, List.set_cons_succ]
  refine wpAnyH_take (i := 7) (v := ?_) rfl (by kernel_rfl) (by kernel_rfl) (by kernel_rfl) (fun _ _ _ h => h) (Or.inl ⟨by rfl, ?_⟩) hS1 ?_
  rotate_left
  · intro W _; go_simp; try with_reducible rfl
  try simp only [Act.put, List.getElem_toArray, List.getElem_cons_zero, List.getElem_cons_succ, List.setIfInBounds_toArray, List.set_cons_zero, List.set_cons_succ]
  refine wpAnyH_done (by kernel_rfl) ?_ _
  have HF := Lib.hid hS1.2
  clear hS0
  clear d0 Hb1
  have HC2 := Lib.hid (HC0.out.later HF.out)
  clear HC0
  go_wp2_with fail
  go_ret
  exact ⟨⟨rfl, HC2.out⟩, below_grownBy HF.out⟩
set_option maxHeartbeats 12800000 in
set_option maxRecDepth 100000 in
theorem cmd1_3 (c : Nat) (e0 a : Int) (w : World) (he : 1 ≤ e0 ∧ e0 ≤ 1000000) (h : Ctl w c 3 e0 a) : Calls Tryz.prog 34 #[.pointer (some ⟨c, 0, none⟩), .int .i64 1] w fun e w' => (e = .returned (.int .i64 14) ∧ Ctl w' c 3 e0 a) ∧ w.grownBy w' (some c) := by
  have K1 := Lib.hid h.isNone
  have HC0 := Lib.hid h
  clear h
  go_enter Tryz.func34, Tryz.ntmps34
  go_wp2_with fail
  refine K1.out.mono ?_
  rintro e w1 ⟨rfl, hb1⟩
  have HC1 := Lib.hid (HC0.out.later hb1)
  have Hb1 := Lib.hid hb1
  have d0 : w1.cell? ⟨c, 0, none⟩ = some (.int .i64 3) := by obtain ⟨A, B, h1, _⟩ := HC1.out; exact h1.cellAt 0
  clear hb1 K1 HC1
  go_wp2_with fail
  refine wp_region_held_drew (S := fun W => W.cell? ⟨c, 0, none⟩ = some (.int .i64 3) ∧ Below w.heap.size w W) (by kernel_rfl) (⟨d0, Below.drew Hb1.out⟩) (fun hS0 => ?_)
  refine wpAnyH_take (i := 0) (v := ?_) rfl (by kernel_rfl) (by kernel_rfl) (by kernel_rfl) (fun _ _ _ h => h) (Or.inl ⟨by rfl, ?_⟩) hS0 ?_
  rotate_left
  · intro W _; go_simp; try with_reducible rfl
  try simp only [Act.put, List.getElem_toArray, List.getElem_cons_zero, List.setIfInBounds_toArray, List.set_cons_zero, List.set_cons_succ]
  refine wpAnyH_take (i := 1) (v := ?_) rfl (by kernel_rfl) (by kernel_rfl) (by kernel_rfl) (fun _ _ _ h => h) (Or.inl ⟨by rfl, ?_⟩) hS0 ?_
  rotate_left
  · intro W _; go_simp; try with_reducible rfl
  try simp only [Act.put, List.getElem_toArray, List.getElem_cons_zero, List.getElem_cons_succ, List.setIfInBounds_toArray, List.set_cons_zero, List.set_cons_succ]
  refine wpAnyH_take (i := 2) (v := ?_) rfl (by kernel_rfl) (by kernel_rfl) (by kernel_rfl) (fun _ _ _ h => h) (Or.inl ⟨by rfl, ?_⟩) hS0 ?_
  rotate_left
  · intro W _; go_simp; try with_reducible rfl
  try simp only [Act.put, List.getElem_toArray, List.getElem_cons_zero, List.getElem_cons_succ, List.setIfInBounds_toArray, List.set_cons_zero, List.set_cons_succ]
  refine wpAnyH_take (i := 3) (v := ?_) rfl (by kernel_rfl) (by kernel_rfl) (by kernel_rfl) (fun _ _ _ h => h) (Or.inl ⟨by rfl, ?_⟩) hS0 ?_
  rotate_left
  · intro W hSW; have hx := hSW.1; go_simp; try with_reducible rfl
  try simp only [Act.put, List.getElem_toArray, List.getElem_cons_zero, List.getElem_cons_succ, List.setIfInBounds_toArray, List.set_cons_zero, List.set_cons_succ]
  refine wpAnyH_take (i := 4) (v := ?_) rfl (by kernel_rfl) (by kernel_rfl) (by kernel_rfl) (fun _ _ _ h => h) (Or.inl ⟨by rfl, ?_⟩) hS0 ?_
  rotate_left
  · intro W _; go_simp; try with_reducible rfl
  try simp only [Act.put, List.getElem_toArray, List.getElem_cons_zero, List.getElem_cons_succ, List.setIfInBounds_toArray, List.set_cons_zero, List.set_cons_succ]
  refine wpAnyH_ready (rs := [5]) (by kernel_rfl) (by simp) ?_
  refine AllReadyH.cons rfl (fun K hK => ?_) AllReadyH.nil
  go_simp
  refine (phase1_n _).mono ?_
  rintro e y2 ⟨rfl, hb2⟩
  go_simp
  refine hK.out _ _ (⟨(hb2.cell (World.block_lt_of_cell? _ _ hS0.1)).trans hS0.1, bclose hS0.2 hb2⟩) (fun hS1 => ?_)
  clear hK K
  try simp only [Act.put, List.getElem_toArray, List.getElem_cons_zero, List.getElem_cons_succ, List.setIfInBounds_toArray, List.set_cons_zero, List.set_cons_succ]
  refine wpAnyH_take (i := 6) (v := ?_) rfl (by kernel_rfl) (by kernel_rfl) (by kernel_rfl) (fun _ _ _ h => h) (Or.inl ⟨by rfl, ?_⟩) hS1 ?_
  rotate_left
  · intro W _; go_simp; try with_reducible rfl
  try simp only [Act.put, List.getElem_toArray, List.getElem_cons_zero, List.getElem_cons_succ, List.setIfInBounds_toArray, List.set_cons_zero, List.set_cons_succ]
  refine wpAnyH_take (i := 7) (v := ?_) rfl (by kernel_rfl) (by kernel_rfl) (by kernel_rfl) (fun _ _ _ h => h) (Or.inl ⟨by rfl, ?_⟩) hS1 ?_
  rotate_left
  · intro W _; go_simp; try with_reducible rfl
  try simp only [Act.put, List.getElem_toArray, List.getElem_cons_zero, List.getElem_cons_succ, List.setIfInBounds_toArray, List.set_cons_zero, List.set_cons_succ]
  refine wpAnyH_done (by kernel_rfl) ?_ _
  have HF := Lib.hid hS1.2
  clear hS0
  clear d0 Hb1
  have HC2 := Lib.hid (HC0.out.later HF.out)
  clear HC0
  go_wp2_with fail
  go_ret
  exact ⟨⟨rfl, HC2.out⟩, below_grownBy HF.out⟩
set_option maxHeartbeats 12800000 in
set_option maxRecDepth 100000 in
theorem cmd2_1 (c : Nat) (e0 a : Int) (w : World) (he : 1 ≤ e0 ∧ e0 ≤ 1000000) (h : Ctl w c 1 e0 a) : Calls Tryz.prog 34 #[.pointer (some ⟨c, 0, none⟩), .int .i64 2] w fun e w' => (e = .returned (.int .i64 14) ∧ Ctl w' c 1 e0 a) ∧ w.grownBy w' (some c) := by
  have K1 := Lib.hid h.isNone
  have HC0 := Lib.hid h
  clear h
  go_enter Tryz.func34, Tryz.ntmps34
  go_wp2_with fail
  refine K1.out.mono ?_
  rintro e w1 ⟨rfl, hb1⟩
  have HC1 := Lib.hid (HC0.out.later hb1)
  have Hb1 := Lib.hid hb1
  have d0 : w1.cell? ⟨c, 0, none⟩ = some (.int .i64 1) := by obtain ⟨A, B, h1, _⟩ := HC1.out; exact h1.cellAt 0
  clear hb1 K1 HC1
  go_wp2_with fail
  refine wp_region_held_drew (S := fun W => W.cell? ⟨c, 0, none⟩ = some (.int .i64 1) ∧ Below w.heap.size w W) (by kernel_rfl) (⟨d0, Below.drew Hb1.out⟩) (fun hS0 => ?_)
  refine wpAnyH_take (i := 0) (v := ?_) rfl (by kernel_rfl) (by kernel_rfl) (by kernel_rfl) (fun _ _ _ h => h) (Or.inl ⟨by rfl, ?_⟩) hS0 ?_
  rotate_left
  · intro W _; go_simp; try with_reducible rfl
  try simp only [Act.put, List.getElem_toArray, List.getElem_cons_zero, List.setIfInBounds_toArray, List.set_cons_zero, List.set_cons_succ]
  refine wpAnyH_take (i := 1) (v := ?_) rfl (by kernel_rfl) (by kernel_rfl) (by kernel_rfl) (fun _ _ _ h => h) (Or.inl ⟨by rfl, ?_⟩) hS0 ?_
  rotate_left
  · intro W _; go_simp; try with_reducible rfl
  try simp only [Act.put, List.getElem_toArray, List.getElem_cons_zero, List.getElem_cons_succ, List.setIfInBounds_toArray, List.set_cons_zero, List.set_cons_succ]
  refine wpAnyH_take (i := 2) (v := ?_) rfl (by kernel_rfl) (by kernel_rfl) (by kernel_rfl) (fun _ _ _ h => h) (Or.inl ⟨by rfl, ?_⟩) hS0 ?_
  rotate_left
  · intro W _; go_simp; try with_reducible rfl
  try simp only [Act.put, List.getElem_toArray, List.getElem_cons_zero, List.getElem_cons_succ, List.setIfInBounds_toArray, List.set_cons_zero, List.set_cons_succ]
  refine wpAnyH_take (i := 3) (v := ?_) rfl (by kernel_rfl) (by kernel_rfl) (by kernel_rfl) (fun _ _ _ h => h) (Or.inl ⟨by rfl, ?_⟩) hS0 ?_
  rotate_left
  · intro W hSW; have hx := hSW.1; go_simp; try with_reducible rfl
  try simp only [Act.put, List.getElem_toArray, List.getElem_cons_zero, List.getElem_cons_succ, List.setIfInBounds_toArray, List.set_cons_zero, List.set_cons_succ]
  refine wpAnyH_take (i := 4) (v := ?_) rfl (by kernel_rfl) (by kernel_rfl) (by kernel_rfl) (fun _ _ _ h => h) (Or.inl ⟨by rfl, ?_⟩) hS0 ?_
  rotate_left
  · intro W _; go_simp; try with_reducible rfl
  try simp only [Act.put, List.getElem_toArray, List.getElem_cons_zero, List.getElem_cons_succ, List.setIfInBounds_toArray, List.set_cons_zero, List.set_cons_succ]
  refine wpAnyH_ready (rs := [5]) (by kernel_rfl) (by simp) ?_
  refine AllReadyH.cons rfl (fun K hK => ?_) AllReadyH.nil
  go_simp
  refine (phase2_n _).mono ?_
  rintro e y2 ⟨rfl, hb2⟩
  go_simp
  refine hK.out _ _ (⟨(hb2.cell (World.block_lt_of_cell? _ _ hS0.1)).trans hS0.1, bclose hS0.2 hb2⟩) (fun hS1 => ?_)
  clear hK K
  try simp only [Act.put, List.getElem_toArray, List.getElem_cons_zero, List.getElem_cons_succ, List.setIfInBounds_toArray, List.set_cons_zero, List.set_cons_succ]
  refine wpAnyH_take (i := 6) (v := ?_) rfl (by kernel_rfl) (by kernel_rfl) (by kernel_rfl) (fun _ _ _ h => h) (Or.inl ⟨by rfl, ?_⟩) hS1 ?_
  rotate_left
  · intro W _; go_simp; try with_reducible rfl
  try simp only [Act.put, List.getElem_toArray, List.getElem_cons_zero, List.getElem_cons_succ, List.setIfInBounds_toArray, List.set_cons_zero, List.set_cons_succ]
  refine wpAnyH_take (i := 7) (v := ?_) rfl (by kernel_rfl) (by kernel_rfl) (by kernel_rfl) (fun _ _ _ h => h) (Or.inl ⟨by rfl, ?_⟩) hS1 ?_
  rotate_left
  · intro W _; go_simp; try with_reducible rfl
  try simp only [Act.put, List.getElem_toArray, List.getElem_cons_zero, List.getElem_cons_succ, List.setIfInBounds_toArray, List.set_cons_zero, List.set_cons_succ]
  refine wpAnyH_done (by kernel_rfl) ?_ _
  have HF := Lib.hid hS1.2
  clear hS0
  clear d0 Hb1
  have HC2 := Lib.hid (HC0.out.later HF.out)
  clear HC0
  go_wp2_with fail
  go_ret
  exact ⟨⟨rfl, HC2.out⟩, below_grownBy HF.out⟩
set_option maxHeartbeats 12800000 in
set_option maxRecDepth 100000 in
theorem cmd2_2 (c : Nat) (e0 a : Int) (w : World) (he : 1 ≤ e0 ∧ e0 ≤ 1000000) (h : Ctl w c 2 e0 a) : Calls Tryz.prog 34 #[.pointer (some ⟨c, 0, none⟩), .int .i64 2] w fun e w' => (e = .returned (.int .i64 0) ∧ Ctl w' c 3 (e0 + 1) (3 - a)) ∧ w.grownBy w' (some c) := by
  have K1 := Lib.hid h.isNone
  have HC0 := Lib.hid h
  clear h
  go_enter Tryz.func34, Tryz.ntmps34
  go_wp2_with fail
  refine K1.out.mono ?_
  rintro e w1 ⟨rfl, hb1⟩
  have HC1 := Lib.hid (HC0.out.later hb1)
  have Hb1 := Lib.hid hb1
  have d0 : w1.cell? ⟨c, 0, none⟩ = some (.int .i64 2) := by obtain ⟨A, B, h1, _⟩ := HC1.out; exact h1.cellAt 0
  clear hb1 K1 HC1
  go_wp2_with fail
  refine wp_region_held_drew (S := fun W => W.cell? ⟨c, 0, none⟩ = some (.int .i64 2) ∧ Below w.heap.size w W) (by kernel_rfl) (⟨d0, Below.drew Hb1.out⟩) (fun hS0 => ?_)
  refine wpAnyH_take (i := 0) (v := ?_) rfl (by kernel_rfl) (by kernel_rfl) (by kernel_rfl) (fun _ _ _ h => h) (Or.inl ⟨by rfl, ?_⟩) hS0 ?_
  rotate_left
  · intro W _; go_simp; try with_reducible rfl
  try simp only [Act.put, List.getElem_toArray, List.getElem_cons_zero, List.setIfInBounds_toArray, List.set_cons_zero, List.set_cons_succ]
  refine wpAnyH_take (i := 1) (v := ?_) rfl (by kernel_rfl) (by kernel_rfl) (by kernel_rfl) (fun _ _ _ h => h) (Or.inl ⟨by rfl, ?_⟩) hS0 ?_
  rotate_left
  · intro W _; go_simp; try with_reducible rfl
  try simp only [Act.put, List.getElem_toArray, List.getElem_cons_zero, List.getElem_cons_succ, List.setIfInBounds_toArray, List.set_cons_zero, List.set_cons_succ]
  refine wpAnyH_take (i := 2) (v := ?_) rfl (by kernel_rfl) (by kernel_rfl) (by kernel_rfl) (fun _ _ _ h => h) (Or.inl ⟨by rfl, ?_⟩) hS0 ?_
  rotate_left
  · intro W _; go_simp; try with_reducible rfl
  try simp only [Act.put, List.getElem_toArray, List.getElem_cons_zero, List.getElem_cons_succ, List.setIfInBounds_toArray, List.set_cons_zero, List.set_cons_succ]
  refine wpAnyH_take (i := 3) (v := ?_) rfl (by kernel_rfl) (by kernel_rfl) (by kernel_rfl) (fun _ _ _ h => h) (Or.inl ⟨by rfl, ?_⟩) hS0 ?_
  rotate_left
  · intro W hSW; have hx := hSW.1; go_simp; try with_reducible rfl
  try simp only [Act.put, List.getElem_toArray, List.getElem_cons_zero, List.getElem_cons_succ, List.setIfInBounds_toArray, List.set_cons_zero, List.set_cons_succ]
  refine wpAnyH_take (i := 4) (v := ?_) rfl (by kernel_rfl) (by kernel_rfl) (by kernel_rfl) (fun _ _ _ h => h) (Or.inl ⟨by rfl, ?_⟩) hS0 ?_
  rotate_left
  · intro W _; go_simp; try with_reducible rfl
  try simp only [Act.put, List.getElem_toArray, List.getElem_cons_zero, List.getElem_cons_succ, List.setIfInBounds_toArray, List.set_cons_zero, List.set_cons_succ]
  refine wpAnyH_ready (rs := [5]) (by kernel_rfl) (by simp) ?_
  refine AllReadyH.cons rfl (fun K hK => ?_) AllReadyH.nil
  go_simp
  refine (phase2_n _).mono ?_
  rintro e y2 ⟨rfl, hb2⟩
  go_simp
  refine hK.out _ _ (⟨(hb2.cell (World.block_lt_of_cell? _ _ hS0.1)).trans hS0.1, bclose hS0.2 hb2⟩) (fun hS1 => ?_)
  clear hK K
  try simp only [Act.put, List.getElem_toArray, List.getElem_cons_zero, List.getElem_cons_succ, List.setIfInBounds_toArray, List.set_cons_zero, List.set_cons_succ]
  refine wpAnyH_take (i := 6) (v := ?_) rfl (by kernel_rfl) (by kernel_rfl) (by kernel_rfl) (fun _ _ _ h => h) (Or.inl ⟨by rfl, ?_⟩) hS1 ?_
  rotate_left
  · intro W _; go_simp; try with_reducible rfl
  try simp only [Act.put, List.getElem_toArray, List.getElem_cons_zero, List.getElem_cons_succ, List.setIfInBounds_toArray, List.set_cons_zero, List.set_cons_succ]
  refine wpAnyH_take (i := 7) (v := ?_) rfl (by kernel_rfl) (by kernel_rfl) (by kernel_rfl) (fun _ _ _ h => h) (Or.inl ⟨by rfl, ?_⟩) hS1 ?_
  rotate_left
  · intro W _; go_simp; try with_reducible rfl
  try simp only [Act.put, List.getElem_toArray, List.getElem_cons_zero, List.getElem_cons_succ, List.setIfInBounds_toArray, List.set_cons_zero, List.set_cons_succ]
  refine wpAnyH_done (by kernel_rfl) ?_ _
  have HF := Lib.hid hS1.2
  clear hS0
  clear d0 Hb1
  have HC2 := Lib.hid (HC0.out.later HF.out)
  clear HC0
  go_wp2_with fail
  refine (cutover_n c e0 a _ he HC2.out).mono ?_
  rintro e w3 ⟨⟨rfl, hC⟩, hG⟩
  have HE := Lib.hid hC
  have HG := Lib.hid (grownBy_trans (below_grownBy HF.out) hG)
  clear hC hG
  go_wp2_with fail
  go_ret
  exact ⟨⟨rfl, HE.out⟩, HG.out⟩
set_option maxHeartbeats 12800000 in
set_option maxRecDepth 100000 in
theorem cmd2_3 (c : Nat) (e0 a : Int) (w : World) (he : 1 ≤ e0 ∧ e0 ≤ 1000000) (h : Ctl w c 3 e0 a) : Calls Tryz.prog 34 #[.pointer (some ⟨c, 0, none⟩), .int .i64 2] w fun e w' => (e = .returned (.int .i64 14) ∧ Ctl w' c 3 e0 a) ∧ w.grownBy w' (some c) := by
  have K1 := Lib.hid h.isNone
  have HC0 := Lib.hid h
  clear h
  go_enter Tryz.func34, Tryz.ntmps34
  go_wp2_with fail
  refine K1.out.mono ?_
  rintro e w1 ⟨rfl, hb1⟩
  have HC1 := Lib.hid (HC0.out.later hb1)
  have Hb1 := Lib.hid hb1
  have d0 : w1.cell? ⟨c, 0, none⟩ = some (.int .i64 3) := by obtain ⟨A, B, h1, _⟩ := HC1.out; exact h1.cellAt 0
  clear hb1 K1 HC1
  go_wp2_with fail
  refine wp_region_held_drew (S := fun W => W.cell? ⟨c, 0, none⟩ = some (.int .i64 3) ∧ Below w.heap.size w W) (by kernel_rfl) (⟨d0, Below.drew Hb1.out⟩) (fun hS0 => ?_)
  refine wpAnyH_take (i := 0) (v := ?_) rfl (by kernel_rfl) (by kernel_rfl) (by kernel_rfl) (fun _ _ _ h => h) (Or.inl ⟨by rfl, ?_⟩) hS0 ?_
  rotate_left
  · intro W _; go_simp; try with_reducible rfl
  try simp only [Act.put, List.getElem_toArray, List.getElem_cons_zero, List.setIfInBounds_toArray, List.set_cons_zero, List.set_cons_succ]
  refine wpAnyH_take (i := 1) (v := ?_) rfl (by kernel_rfl) (by kernel_rfl) (by kernel_rfl) (fun _ _ _ h => h) (Or.inl ⟨by rfl, ?_⟩) hS0 ?_
  rotate_left
  · intro W _; go_simp; try with_reducible rfl
  try simp only [Act.put, List.getElem_toArray, List.getElem_cons_zero, List.getElem_cons_succ, List.setIfInBounds_toArray, List.set_cons_zero, List.set_cons_succ]
  refine wpAnyH_take (i := 2) (v := ?_) rfl (by kernel_rfl) (by kernel_rfl) (by kernel_rfl) (fun _ _ _ h => h) (Or.inl ⟨by rfl, ?_⟩) hS0 ?_
  rotate_left
  · intro W _; go_simp; try with_reducible rfl
  try simp only [Act.put, List.getElem_toArray, List.getElem_cons_zero, List.getElem_cons_succ, List.setIfInBounds_toArray, List.set_cons_zero, List.set_cons_succ]
  refine wpAnyH_take (i := 3) (v := ?_) rfl (by kernel_rfl) (by kernel_rfl) (by kernel_rfl) (fun _ _ _ h => h) (Or.inl ⟨by rfl, ?_⟩) hS0 ?_
  rotate_left
  · intro W hSW; have hx := hSW.1; go_simp; try with_reducible rfl
  try simp only [Act.put, List.getElem_toArray, List.getElem_cons_zero, List.getElem_cons_succ, List.setIfInBounds_toArray, List.set_cons_zero, List.set_cons_succ]
  refine wpAnyH_take (i := 4) (v := ?_) rfl (by kernel_rfl) (by kernel_rfl) (by kernel_rfl) (fun _ _ _ h => h) (Or.inl ⟨by rfl, ?_⟩) hS0 ?_
  rotate_left
  · intro W _; go_simp; try with_reducible rfl
  try simp only [Act.put, List.getElem_toArray, List.getElem_cons_zero, List.getElem_cons_succ, List.setIfInBounds_toArray, List.set_cons_zero, List.set_cons_succ]
  refine wpAnyH_ready (rs := [5]) (by kernel_rfl) (by simp) ?_
  refine AllReadyH.cons rfl (fun K hK => ?_) AllReadyH.nil
  go_simp
  refine (phase2_n _).mono ?_
  rintro e y2 ⟨rfl, hb2⟩
  go_simp
  refine hK.out _ _ (⟨(hb2.cell (World.block_lt_of_cell? _ _ hS0.1)).trans hS0.1, bclose hS0.2 hb2⟩) (fun hS1 => ?_)
  clear hK K
  try simp only [Act.put, List.getElem_toArray, List.getElem_cons_zero, List.getElem_cons_succ, List.setIfInBounds_toArray, List.set_cons_zero, List.set_cons_succ]
  refine wpAnyH_take (i := 6) (v := ?_) rfl (by kernel_rfl) (by kernel_rfl) (by kernel_rfl) (fun _ _ _ h => h) (Or.inl ⟨by rfl, ?_⟩) hS1 ?_
  rotate_left
  · intro W _; go_simp; try with_reducible rfl
  try simp only [Act.put, List.getElem_toArray, List.getElem_cons_zero, List.getElem_cons_succ, List.setIfInBounds_toArray, List.set_cons_zero, List.set_cons_succ]
  refine wpAnyH_take (i := 7) (v := ?_) rfl (by kernel_rfl) (by kernel_rfl) (by kernel_rfl) (fun _ _ _ h => h) (Or.inl ⟨by rfl, ?_⟩) hS1 ?_
  rotate_left
  · intro W _; go_simp; try with_reducible rfl
  try simp only [Act.put, List.getElem_toArray, List.getElem_cons_zero, List.getElem_cons_succ, List.setIfInBounds_toArray, List.set_cons_zero, List.set_cons_succ]
  refine wpAnyH_done (by kernel_rfl) ?_ _
  have HF := Lib.hid hS1.2
  clear hS0
  clear d0 Hb1
  have HC2 := Lib.hid (HC0.out.later HF.out)
  clear HC0
  go_wp2_with fail
  go_ret
  exact ⟨⟨rfl, HC2.out⟩, below_grownBy HF.out⟩
set_option maxHeartbeats 12800000 in
set_option maxRecDepth 100000 in
theorem cmd3_1 (c : Nat) (e0 a : Int) (w : World) (he : 1 ≤ e0 ∧ e0 ≤ 1000000) (h : Ctl w c 1 e0 a) : Calls Tryz.prog 34 #[.pointer (some ⟨c, 0, none⟩), .int .i64 3] w fun e w' => (e = .returned (.int .i64 14) ∧ Ctl w' c 1 e0 a) ∧ w.grownBy w' (some c) := by
  have K1 := Lib.hid h.isNone
  have HC0 := Lib.hid h
  clear h
  go_enter Tryz.func34, Tryz.ntmps34
  go_wp2_with fail
  refine K1.out.mono ?_
  rintro e w1 ⟨rfl, hb1⟩
  have HC1 := Lib.hid (HC0.out.later hb1)
  have Hb1 := Lib.hid hb1
  have d0 : w1.cell? ⟨c, 0, none⟩ = some (.int .i64 1) := by obtain ⟨A, B, h1, _⟩ := HC1.out; exact h1.cellAt 0
  clear hb1 K1 HC1
  go_wp2_with fail
  refine wp_region_held_drew (S := fun W => W.cell? ⟨c, 0, none⟩ = some (.int .i64 1) ∧ Below w.heap.size w W) (by kernel_rfl) (⟨d0, Below.drew Hb1.out⟩) (fun hS0 => ?_)
  refine wpAnyH_take (i := 0) (v := ?_) rfl (by kernel_rfl) (by kernel_rfl) (by kernel_rfl) (fun _ _ _ h => h) (Or.inl ⟨by rfl, ?_⟩) hS0 ?_
  rotate_left
  · intro W _; go_simp; try with_reducible rfl
  try simp only [Act.put, List.getElem_toArray, List.getElem_cons_zero, List.setIfInBounds_toArray, List.set_cons_zero, List.set_cons_succ]
  refine wpAnyH_take (i := 1) (v := ?_) rfl (by kernel_rfl) (by kernel_rfl) (by kernel_rfl) (fun _ _ _ h => h) (Or.inl ⟨by rfl, ?_⟩) hS0 ?_
  rotate_left
  · intro W _; go_simp; try with_reducible rfl
  try simp only [Act.put, List.getElem_toArray, List.getElem_cons_zero, List.getElem_cons_succ, List.setIfInBounds_toArray, List.set_cons_zero, List.set_cons_succ]
  refine wpAnyH_take (i := 2) (v := ?_) rfl (by kernel_rfl) (by kernel_rfl) (by kernel_rfl) (fun _ _ _ h => h) (Or.inl ⟨by rfl, ?_⟩) hS0 ?_
  rotate_left
  · intro W _; go_simp; try with_reducible rfl
  try simp only [Act.put, List.getElem_toArray, List.getElem_cons_zero, List.getElem_cons_succ, List.setIfInBounds_toArray, List.set_cons_zero, List.set_cons_succ]
  refine wpAnyH_take (i := 3) (v := ?_) rfl (by kernel_rfl) (by kernel_rfl) (by kernel_rfl) (fun _ _ _ h => h) (Or.inl ⟨by rfl, ?_⟩) hS0 ?_
  rotate_left
  · intro W hSW; have hx := hSW.1; go_simp; try with_reducible rfl
  try simp only [Act.put, List.getElem_toArray, List.getElem_cons_zero, List.getElem_cons_succ, List.setIfInBounds_toArray, List.set_cons_zero, List.set_cons_succ]
  refine wpAnyH_take (i := 4) (v := ?_) rfl (by kernel_rfl) (by kernel_rfl) (by kernel_rfl) (fun _ _ _ h => h) (Or.inl ⟨by rfl, ?_⟩) hS0 ?_
  rotate_left
  · intro W _; go_simp; try with_reducible rfl
  try simp only [Act.put, List.getElem_toArray, List.getElem_cons_zero, List.getElem_cons_succ, List.setIfInBounds_toArray, List.set_cons_zero, List.set_cons_succ]
  refine wpAnyH_ready (rs := [5]) (by kernel_rfl) (by simp) ?_
  refine AllReadyH.cons rfl (fun K hK => ?_) AllReadyH.nil
  go_simp
  refine (phase3_n _).mono ?_
  rintro e y2 ⟨rfl, hb2⟩
  go_simp
  refine hK.out _ _ (⟨(hb2.cell (World.block_lt_of_cell? _ _ hS0.1)).trans hS0.1, bclose hS0.2 hb2⟩) (fun hS1 => ?_)
  clear hK K
  try simp only [Act.put, List.getElem_toArray, List.getElem_cons_zero, List.getElem_cons_succ, List.setIfInBounds_toArray, List.set_cons_zero, List.set_cons_succ]
  refine wpAnyH_take (i := 6) (v := ?_) rfl (by kernel_rfl) (by kernel_rfl) (by kernel_rfl) (fun _ _ _ h => h) (Or.inl ⟨by rfl, ?_⟩) hS1 ?_
  rotate_left
  · intro W _; go_simp; try with_reducible rfl
  try simp only [Act.put, List.getElem_toArray, List.getElem_cons_zero, List.getElem_cons_succ, List.setIfInBounds_toArray, List.set_cons_zero, List.set_cons_succ]
  refine wpAnyH_take (i := 7) (v := ?_) rfl (by kernel_rfl) (by kernel_rfl) (by kernel_rfl) (fun _ _ _ h => h) (Or.inl ⟨by rfl, ?_⟩) hS1 ?_
  rotate_left
  · intro W _; go_simp; try with_reducible rfl
  try simp only [Act.put, List.getElem_toArray, List.getElem_cons_zero, List.getElem_cons_succ, List.setIfInBounds_toArray, List.set_cons_zero, List.set_cons_succ]
  refine wpAnyH_done (by kernel_rfl) ?_ _
  have HF := Lib.hid hS1.2
  clear hS0
  clear d0 Hb1
  have HC2 := Lib.hid (HC0.out.later HF.out)
  clear HC0
  go_wp2_with fail
  go_ret
  exact ⟨⟨rfl, HC2.out⟩, below_grownBy HF.out⟩
set_option maxHeartbeats 12800000 in
set_option maxRecDepth 100000 in
theorem cmd3_2 (c : Nat) (e0 a : Int) (w : World) (he : 1 ≤ e0 ∧ e0 ≤ 1000000) (h : Ctl w c 2 e0 a) : Calls Tryz.prog 34 #[.pointer (some ⟨c, 0, none⟩), .int .i64 3] w fun e w' => (e = .returned (.int .i64 14) ∧ Ctl w' c 2 e0 a) ∧ w.grownBy w' (some c) := by
  have K1 := Lib.hid h.isNone
  have HC0 := Lib.hid h
  clear h
  go_enter Tryz.func34, Tryz.ntmps34
  go_wp2_with fail
  refine K1.out.mono ?_
  rintro e w1 ⟨rfl, hb1⟩
  have HC1 := Lib.hid (HC0.out.later hb1)
  have Hb1 := Lib.hid hb1
  have d0 : w1.cell? ⟨c, 0, none⟩ = some (.int .i64 2) := by obtain ⟨A, B, h1, _⟩ := HC1.out; exact h1.cellAt 0
  clear hb1 K1 HC1
  go_wp2_with fail
  refine wp_region_held_drew (S := fun W => W.cell? ⟨c, 0, none⟩ = some (.int .i64 2) ∧ Below w.heap.size w W) (by kernel_rfl) (⟨d0, Below.drew Hb1.out⟩) (fun hS0 => ?_)
  refine wpAnyH_take (i := 0) (v := ?_) rfl (by kernel_rfl) (by kernel_rfl) (by kernel_rfl) (fun _ _ _ h => h) (Or.inl ⟨by rfl, ?_⟩) hS0 ?_
  rotate_left
  · intro W _; go_simp; try with_reducible rfl
  try simp only [Act.put, List.getElem_toArray, List.getElem_cons_zero, List.setIfInBounds_toArray, List.set_cons_zero, List.set_cons_succ]
  refine wpAnyH_take (i := 1) (v := ?_) rfl (by kernel_rfl) (by kernel_rfl) (by kernel_rfl) (fun _ _ _ h => h) (Or.inl ⟨by rfl, ?_⟩) hS0 ?_
  rotate_left
  · intro W _; go_simp; try with_reducible rfl
  try simp only [Act.put, List.getElem_toArray, List.getElem_cons_zero, List.getElem_cons_succ, List.setIfInBounds_toArray, List.set_cons_zero, List.set_cons_succ]
  refine wpAnyH_take (i := 2) (v := ?_) rfl (by kernel_rfl) (by kernel_rfl) (by kernel_rfl) (fun _ _ _ h => h) (Or.inl ⟨by rfl, ?_⟩) hS0 ?_
  rotate_left
  · intro W _; go_simp; try with_reducible rfl
  try simp only [Act.put, List.getElem_toArray, List.getElem_cons_zero, List.getElem_cons_succ, List.setIfInBounds_toArray, List.set_cons_zero, List.set_cons_succ]
  refine wpAnyH_take (i := 3) (v := ?_) rfl (by kernel_rfl) (by kernel_rfl) (by kernel_rfl) (fun _ _ _ h => h) (Or.inl ⟨by rfl, ?_⟩) hS0 ?_
  rotate_left
  · intro W hSW; have hx := hSW.1; go_simp; try with_reducible rfl
  try simp only [Act.put, List.getElem_toArray, List.getElem_cons_zero, List.getElem_cons_succ, List.setIfInBounds_toArray, List.set_cons_zero, List.set_cons_succ]
  refine wpAnyH_take (i := 4) (v := ?_) rfl (by kernel_rfl) (by kernel_rfl) (by kernel_rfl) (fun _ _ _ h => h) (Or.inl ⟨by rfl, ?_⟩) hS0 ?_
  rotate_left
  · intro W _; go_simp; try with_reducible rfl
  try simp only [Act.put, List.getElem_toArray, List.getElem_cons_zero, List.getElem_cons_succ, List.setIfInBounds_toArray, List.set_cons_zero, List.set_cons_succ]
  refine wpAnyH_ready (rs := [5]) (by kernel_rfl) (by simp) ?_
  refine AllReadyH.cons rfl (fun K hK => ?_) AllReadyH.nil
  go_simp
  refine (phase3_n _).mono ?_
  rintro e y2 ⟨rfl, hb2⟩
  go_simp
  refine hK.out _ _ (⟨(hb2.cell (World.block_lt_of_cell? _ _ hS0.1)).trans hS0.1, bclose hS0.2 hb2⟩) (fun hS1 => ?_)
  clear hK K
  try simp only [Act.put, List.getElem_toArray, List.getElem_cons_zero, List.getElem_cons_succ, List.setIfInBounds_toArray, List.set_cons_zero, List.set_cons_succ]
  refine wpAnyH_take (i := 6) (v := ?_) rfl (by kernel_rfl) (by kernel_rfl) (by kernel_rfl) (fun _ _ _ h => h) (Or.inl ⟨by rfl, ?_⟩) hS1 ?_
  rotate_left
  · intro W _; go_simp; try with_reducible rfl
  try simp only [Act.put, List.getElem_toArray, List.getElem_cons_zero, List.getElem_cons_succ, List.setIfInBounds_toArray, List.set_cons_zero, List.set_cons_succ]
  refine wpAnyH_take (i := 7) (v := ?_) rfl (by kernel_rfl) (by kernel_rfl) (by kernel_rfl) (fun _ _ _ h => h) (Or.inl ⟨by rfl, ?_⟩) hS1 ?_
  rotate_left
  · intro W _; go_simp; try with_reducible rfl
  try simp only [Act.put, List.getElem_toArray, List.getElem_cons_zero, List.getElem_cons_succ, List.setIfInBounds_toArray, List.set_cons_zero, List.set_cons_succ]
  refine wpAnyH_done (by kernel_rfl) ?_ _
  have HF := Lib.hid hS1.2
  clear hS0
  clear d0 Hb1
  have HC2 := Lib.hid (HC0.out.later HF.out)
  clear HC0
  go_wp2_with fail
  go_ret
  exact ⟨⟨rfl, HC2.out⟩, below_grownBy HF.out⟩
set_option maxHeartbeats 12800000 in
set_option maxRecDepth 100000 in
theorem cmd3_3 (c : Nat) (e0 a : Int) (w : World) (he : 1 ≤ e0 ∧ e0 ≤ 1000000) (h : Ctl w c 3 e0 a) : Calls Tryz.prog 34 #[.pointer (some ⟨c, 0, none⟩), .int .i64 3] w fun e w' => (e = .returned (.int .i64 0) ∧ Ctl w' c 1 e0 a) ∧ w.grownBy w' (some c) := by
  have K1 := Lib.hid h.isNone
  have HC0 := Lib.hid h
  clear h
  go_enter Tryz.func34, Tryz.ntmps34
  go_wp2_with fail
  refine K1.out.mono ?_
  rintro e w1 ⟨rfl, hb1⟩
  have HC1 := Lib.hid (HC0.out.later hb1)
  have Hb1 := Lib.hid hb1
  have d0 : w1.cell? ⟨c, 0, none⟩ = some (.int .i64 3) := by obtain ⟨A, B, h1, _⟩ := HC1.out; exact h1.cellAt 0
  clear hb1 K1 HC1
  go_wp2_with fail
  refine wp_region_held_drew (S := fun W => W.cell? ⟨c, 0, none⟩ = some (.int .i64 3) ∧ Below w.heap.size w W) (by kernel_rfl) (⟨d0, Below.drew Hb1.out⟩) (fun hS0 => ?_)
  refine wpAnyH_take (i := 0) (v := ?_) rfl (by kernel_rfl) (by kernel_rfl) (by kernel_rfl) (fun _ _ _ h => h) (Or.inl ⟨by rfl, ?_⟩) hS0 ?_
  rotate_left
  · intro W _; go_simp; try with_reducible rfl
  try simp only [Act.put, List.getElem_toArray, List.getElem_cons_zero, List.setIfInBounds_toArray, List.set_cons_zero, List.set_cons_succ]
  refine wpAnyH_take (i := 1) (v := ?_) rfl (by kernel_rfl) (by kernel_rfl) (by kernel_rfl) (fun _ _ _ h => h) (Or.inl ⟨by rfl, ?_⟩) hS0 ?_
  rotate_left
  · intro W _; go_simp; try with_reducible rfl
  try simp only [Act.put, List.getElem_toArray, List.getElem_cons_zero, List.getElem_cons_succ, List.setIfInBounds_toArray, List.set_cons_zero, List.set_cons_succ]
  refine wpAnyH_take (i := 2) (v := ?_) rfl (by kernel_rfl) (by kernel_rfl) (by kernel_rfl) (fun _ _ _ h => h) (Or.inl ⟨by rfl, ?_⟩) hS0 ?_
  rotate_left
  · intro W _; go_simp; try with_reducible rfl
  try simp only [Act.put, List.getElem_toArray, List.getElem_cons_zero, List.getElem_cons_succ, List.setIfInBounds_toArray, List.set_cons_zero, List.set_cons_succ]
  refine wpAnyH_take (i := 3) (v := ?_) rfl (by kernel_rfl) (by kernel_rfl) (by kernel_rfl) (fun _ _ _ h => h) (Or.inl ⟨by rfl, ?_⟩) hS0 ?_
  rotate_left
  · intro W hSW; have hx := hSW.1; go_simp; try with_reducible rfl
  try simp only [Act.put, List.getElem_toArray, List.getElem_cons_zero, List.getElem_cons_succ, List.setIfInBounds_toArray, List.set_cons_zero, List.set_cons_succ]
  refine wpAnyH_take (i := 4) (v := ?_) rfl (by kernel_rfl) (by kernel_rfl) (by kernel_rfl) (fun _ _ _ h => h) (Or.inl ⟨by rfl, ?_⟩) hS0 ?_
  rotate_left
  · intro W _; go_simp; try with_reducible rfl
  try simp only [Act.put, List.getElem_toArray, List.getElem_cons_zero, List.getElem_cons_succ, List.setIfInBounds_toArray, List.set_cons_zero, List.set_cons_succ]
  refine wpAnyH_ready (rs := [5]) (by kernel_rfl) (by simp) ?_
  refine AllReadyH.cons rfl (fun K hK => ?_) AllReadyH.nil
  go_simp
  refine (phase3_n _).mono ?_
  rintro e y2 ⟨rfl, hb2⟩
  go_simp
  refine hK.out _ _ (⟨(hb2.cell (World.block_lt_of_cell? _ _ hS0.1)).trans hS0.1, bclose hS0.2 hb2⟩) (fun hS1 => ?_)
  clear hK K
  try simp only [Act.put, List.getElem_toArray, List.getElem_cons_zero, List.getElem_cons_succ, List.setIfInBounds_toArray, List.set_cons_zero, List.set_cons_succ]
  refine wpAnyH_take (i := 6) (v := ?_) rfl (by kernel_rfl) (by kernel_rfl) (by kernel_rfl) (fun _ _ _ h => h) (Or.inl ⟨by rfl, ?_⟩) hS1 ?_
  rotate_left
  · intro W _; go_simp; try with_reducible rfl
  try simp only [Act.put, List.getElem_toArray, List.getElem_cons_zero, List.getElem_cons_succ, List.setIfInBounds_toArray, List.set_cons_zero, List.set_cons_succ]
  refine wpAnyH_take (i := 7) (v := ?_) rfl (by kernel_rfl) (by kernel_rfl) (by kernel_rfl) (fun _ _ _ h => h) (Or.inl ⟨by rfl, ?_⟩) hS1 ?_
  rotate_left
  · intro W _; go_simp; try with_reducible rfl
  try simp only [Act.put, List.getElem_toArray, List.getElem_cons_zero, List.getElem_cons_succ, List.setIfInBounds_toArray, List.set_cons_zero, List.set_cons_succ]
  refine wpAnyH_done (by kernel_rfl) ?_ _
  have HF := Lib.hid hS1.2
  clear hS0
  clear d0 Hb1
  have HC2 := Lib.hid (HC0.out.later HF.out)
  clear HC0
  go_wp2_with fail
  obtain ⟨A, B, hc, hA, hB⟩ := HC2.out
  obtain ⟨_, hB⟩ := hB.resolve_left (fun h => by have := h.1; omega)
  obtain ⟨T', u', rfl⟩ := hB.iface
  have HA := Lib.hid hA
  have K := Lib.hid (discard_n c 3 e0 A T' u' _ hc)
  clear hc hA hB HC2
  refine K.out.mono ?_
  rintro e w3 ⟨⟨rfl, hC⟩, hG⟩
  have HE : Hid (Ctl w3 c 1 e0 a) := ⟨_, _, hC, HA.out.grown hG, .inl ⟨rfl, rfl⟩⟩
  have HG := Lib.hid (grownBy_trans (below_grownBy HF.out) hG)
  clear hC hG HA K
  go_wp2_with fail
  go_ret
  exact ⟨⟨rfl, HE.out⟩, HG.out⟩
set_option maxHeartbeats 12800000 in
set_option maxRecDepth 100000 in
theorem cmd4_1 (c : Nat) (e0 a : Int) (w : World) (he : 1 ≤ e0 ∧ e0 ≤ 1000000) (h : Ctl w c 1 e0 a) : Calls Tryz.prog 34 #[.pointer (some ⟨c, 0, none⟩), .int .i64 4] w fun e w' => (e = .returned (.int .i64 14) ∧ Ctl w' c 1 e0 a) ∧ w.grownBy w' (some c) := by
  have K1 := Lib.hid h.isNone
  have HC0 := Lib.hid h
  clear h
  go_enter Tryz.func34, Tryz.ntmps34
  go_wp2_with fail
  refine K1.out.mono ?_
  rintro e w1 ⟨rfl, hb1⟩
  have HC1 := Lib.hid (HC0.out.later hb1)
  have Hb1 := Lib.hid hb1
  have d0 : w1.cell? ⟨c, 0, none⟩ = some (.int .i64 1) := by obtain ⟨A, B, h1, _⟩ := HC1.out; exact h1.cellAt 0
  clear hb1 K1 HC1
  go_wp2_with fail
  refine wp_region_held_drew (S := fun W => W.cell? ⟨c, 0, none⟩ = some (.int .i64 1) ∧ Below w.heap.size w W) (by kernel_rfl) (⟨d0, Below.drew Hb1.out⟩) (fun hS0 => ?_)
  refine wpAnyH_take (i := 0) (v := ?_) rfl (by kernel_rfl) (by kernel_rfl) (by kernel_rfl) (fun _ _ _ h => h) (Or.inl ⟨by rfl, ?_⟩) hS0 ?_
  rotate_left
  · intro W _; go_simp; try with_reducible rfl
  try simp only [Act.put, List.getElem_toArray, List.getElem_cons_zero, List.setIfInBounds_toArray, List.set_cons_zero, List.set_cons_succ]
  refine wpAnyH_take (i := 1) (v := ?_) rfl (by kernel_rfl) (by kernel_rfl) (by kernel_rfl) (fun _ _ _ h => h) (Or.inl ⟨by rfl, ?_⟩) hS0 ?_
  rotate_left
  · intro W _; go_simp; try with_reducible rfl
  try simp only [Act.put, List.getElem_toArray, List.getElem_cons_zero, List.getElem_cons_succ, List.setIfInBounds_toArray, List.set_cons_zero, List.set_cons_succ]
  refine wpAnyH_take (i := 2) (v := ?_) rfl (by kernel_rfl) (by kernel_rfl) (by kernel_rfl) (fun _ _ _ h => h) (Or.inl ⟨by rfl, ?_⟩) hS0 ?_
  rotate_left
  · intro W _; go_simp; try with_reducible rfl
  try simp only [Act.put, List.getElem_toArray, List.getElem_cons_zero, List.getElem_cons_succ, List.setIfInBounds_toArray, List.set_cons_zero, List.set_cons_succ]
  refine wpAnyH_take (i := 3) (v := ?_) rfl (by kernel_rfl) (by kernel_rfl) (by kernel_rfl) (fun _ _ _ h => h) (Or.inl ⟨by rfl, ?_⟩) hS0 ?_
  rotate_left
  · intro W hSW; have hx := hSW.1; go_simp; try with_reducible rfl
  try simp only [Act.put, List.getElem_toArray, List.getElem_cons_zero, List.getElem_cons_succ, List.setIfInBounds_toArray, List.set_cons_zero, List.set_cons_succ]
  refine wpAnyH_take (i := 4) (v := ?_) rfl (by kernel_rfl) (by kernel_rfl) (by kernel_rfl) (fun _ _ _ h => h) (Or.inl ⟨by rfl, ?_⟩) hS0 ?_
  rotate_left
  · intro W _; go_simp; try with_reducible rfl
  try simp only [Act.put, List.getElem_toArray, List.getElem_cons_zero, List.getElem_cons_succ, List.setIfInBounds_toArray, List.set_cons_zero, List.set_cons_succ]
  refine wpAnyH_ready (rs := [5]) (by kernel_rfl) (by simp) ?_
  refine AllReadyH.cons rfl (fun K hK => ?_) AllReadyH.nil
  go_simp
  refine (phase4_n _).mono ?_
  rintro e y2 ⟨rfl, hb2⟩
  go_simp
  refine hK.out _ _ (⟨(hb2.cell (World.block_lt_of_cell? _ _ hS0.1)).trans hS0.1, bclose hS0.2 hb2⟩) (fun hS1 => ?_)
  clear hK K
  try simp only [Act.put, List.getElem_toArray, List.getElem_cons_zero, List.getElem_cons_succ, List.setIfInBounds_toArray, List.set_cons_zero, List.set_cons_succ]
  refine wpAnyH_take (i := 6) (v := ?_) rfl (by kernel_rfl) (by kernel_rfl) (by kernel_rfl) (fun _ _ _ h => h) (Or.inl ⟨by rfl, ?_⟩) hS1 ?_
  rotate_left
  · intro W _; go_simp; try with_reducible rfl
  try simp only [Act.put, List.getElem_toArray, List.getElem_cons_zero, List.getElem_cons_succ, List.setIfInBounds_toArray, List.set_cons_zero, List.set_cons_succ]
  refine wpAnyH_take (i := 7) (v := ?_) rfl (by kernel_rfl) (by kernel_rfl) (by kernel_rfl) (fun _ _ _ h => h) (Or.inl ⟨by rfl, ?_⟩) hS1 ?_
  rotate_left
  · intro W _; go_simp; try with_reducible rfl
  try simp only [Act.put, List.getElem_toArray, List.getElem_cons_zero, List.getElem_cons_succ, List.setIfInBounds_toArray, List.set_cons_zero, List.set_cons_succ]
  refine wpAnyH_done (by kernel_rfl) ?_ _
  have HF := Lib.hid hS1.2
  clear hS0
  clear d0 Hb1
  have HC2 := Lib.hid (HC0.out.later HF.out)
  clear HC0
  go_wp2_with fail
  go_ret
  exact ⟨⟨rfl, HC2.out⟩, below_grownBy HF.out⟩
set_option maxHeartbeats 12800000 in
set_option maxRecDepth 100000 in
theorem cmd4_2 (c : Nat) (e0 a : Int) (w : World) (he : 1 ≤ e0 ∧ e0 ≤ 1000000) (h : Ctl w c 2 e0 a) : Calls Tryz.prog 34 #[.pointer (some ⟨c, 0, none⟩), .int .i64 4] w fun e w' => (e = .returned (.int .i64 14) ∧ Ctl w' c 2 e0 a) ∧ w.grownBy w' (some c) := by
  have K1 := Lib.hid h.isNone
  have HC0 := Lib.hid h
  clear h
  go_enter Tryz.func34, Tryz.ntmps34
  go_wp2_with fail
  refine K1.out.mono ?_
  rintro e w1 ⟨rfl, hb1⟩
  have HC1 := Lib.hid (HC0.out.later hb1)
  have Hb1 := Lib.hid hb1
  have d0 : w1.cell? ⟨c, 0, none⟩ = some (.int .i64 2) := by obtain ⟨A, B, h1, _⟩ := HC1.out; exact h1.cellAt 0
  clear hb1 K1 HC1
  go_wp2_with fail
  refine wp_region_held_drew (S := fun W => W.cell? ⟨c, 0, none⟩ = some (.int .i64 2) ∧ Below w.heap.size w W) (by kernel_rfl) (⟨d0, Below.drew Hb1.out⟩) (fun hS0 => ?_)
  refine wpAnyH_take (i := 0) (v := ?_) rfl (by kernel_rfl) (by kernel_rfl) (by kernel_rfl) (fun _ _ _ h => h) (Or.inl ⟨by rfl, ?_⟩) hS0 ?_
  rotate_left
  · intro W _; go_simp; try with_reducible rfl
  try simp only [Act.put, List.getElem_toArray, List.getElem_cons_zero, List.setIfInBounds_toArray, List.set_cons_zero, List.set_cons_succ]
  refine wpAnyH_take (i := 1) (v := ?_) rfl (by kernel_rfl) (by kernel_rfl) (by kernel_rfl) (fun _ _ _ h => h) (Or.inl ⟨by rfl, ?_⟩) hS0 ?_
  rotate_left
  · intro W _; go_simp; try with_reducible rfl
  try simp only [Act.put, List.getElem_toArray, List.getElem_cons_zero, List.getElem_cons_succ, List.setIfInBounds_toArray, List.set_cons_zero, List.set_cons_succ]
  refine wpAnyH_take (i := 2) (v := ?_) rfl (by kernel_rfl) (by kernel_rfl) (by kernel_rfl) (fun _ _ _ h => h) (Or.inl ⟨by rfl, ?_⟩) hS0 ?_
  rotate_left
  · intro W _; go_simp; try with_reducible rfl
  try simp only [Act.put, List.getElem_toArray, List.getElem_cons_zero, List.getElem_cons_succ, List.setIfInBounds_toArray, List.set_cons_zero, List.set_cons_succ]
  refine wpAnyH_take (i := 3) (v := ?_) rfl (by kernel_rfl) (by kernel_rfl) (by kernel_rfl) (fun _ _ _ h => h) (Or.inl ⟨by rfl, ?_⟩) hS0 ?_
  rotate_left
  · intro W hSW; have hx := hSW.1; go_simp; try with_reducible rfl
  try simp only [Act.put, List.getElem_toArray, List.getElem_cons_zero, List.getElem_cons_succ, List.setIfInBounds_toArray, List.set_cons_zero, List.set_cons_succ]
  refine wpAnyH_take (i := 4) (v := ?_) rfl (by kernel_rfl) (by kernel_rfl) (by kernel_rfl) (fun _ _ _ h => h) (Or.inl ⟨by rfl, ?_⟩) hS0 ?_
  rotate_left
  · intro W _; go_simp; try with_reducible rfl
  try simp only [Act.put, List.getElem_toArray, List.getElem_cons_zero, List.getElem_cons_succ, List.setIfInBounds_toArray, List.set_cons_zero, List.set_cons_succ]
  refine wpAnyH_ready (rs := [5]) (by kernel_rfl) (by simp) ?_
  refine AllReadyH.cons rfl (fun K hK => ?_) AllReadyH.nil
  go_simp
  refine (phase4_n _).mono ?_
  rintro e y2 ⟨rfl, hb2⟩
  go_simp
  refine hK.out _ _ (⟨(hb2.cell (World.block_lt_of_cell? _ _ hS0.1)).trans hS0.1, bclose hS0.2 hb2⟩) (fun hS1 => ?_)
  clear hK K
  try simp only [Act.put, List.getElem_toArray, List.getElem_cons_zero, List.getElem_cons_succ, List.setIfInBounds_toArray, List.set_cons_zero, List.set_cons_succ]
  refine wpAnyH_take (i := 6) (v := ?_) rfl (by kernel_rfl) (by kernel_rfl) (by kernel_rfl) (fun _ _ _ h => h) (Or.inl ⟨by rfl, ?_⟩) hS1 ?_
  rotate_left
  · intro W _; go_simp; try with_reducible rfl
  try simp only [Act.put, List.getElem_toArray, List.getElem_cons_zero, List.getElem_cons_succ, List.setIfInBounds_toArray, List.set_cons_zero, List.set_cons_succ]
  refine wpAnyH_take (i := 7) (v := ?_) rfl (by kernel_rfl) (by kernel_rfl) (by kernel_rfl) (fun _ _ _ h => h) (Or.inl ⟨by rfl, ?_⟩) hS1 ?_
  rotate_left
  · intro W _; go_simp; try with_reducible rfl
  try simp only [Act.put, List.getElem_toArray, List.getElem_cons_zero, List.getElem_cons_succ, List.setIfInBounds_toArray, List.set_cons_zero, List.set_cons_succ]
  refine wpAnyH_done (by kernel_rfl) ?_ _
  have HF := Lib.hid hS1.2
  clear hS0
  clear d0 Hb1
  have HC2 := Lib.hid (HC0.out.later HF.out)
  clear HC0
  go_wp2_with fail
  go_ret
  exact ⟨⟨rfl, HC2.out⟩, below_grownBy HF.out⟩
set_option maxHeartbeats 12800000 in
set_option maxRecDepth 100000 in
theorem cmd4_3 (c : Nat) (e0 a : Int) (w : World) (he : 1 ≤ e0 ∧ e0 ≤ 1000000) (h : Ctl w c 3 e0 a) : Calls Tryz.prog 34 #[.pointer (some ⟨c, 0, none⟩), .int .i64 4] w fun e w' => (e = .returned (.int .i64 0) ∧ Ctl w' c 1 (e0 + 1) (3 - a)) ∧ w.grownBy w' (some c) := by
  have K1 := Lib.hid h.isNone
  have HC0 := Lib.hid h
  clear h
  go_enter Tryz.func34, Tryz.ntmps34
  go_wp2_with fail
  refine K1.out.mono ?_
  rintro e w1 ⟨rfl, hb1⟩
  have HC1 := Lib.hid (HC0.out.later hb1)
  have Hb1 := Lib.hid hb1
  have d0 : w1.cell? ⟨c, 0, none⟩ = some (.int .i64 3) := by obtain ⟨A, B, h1, _⟩ := HC1.out; exact h1.cellAt 0
  clear hb1 K1 HC1
  go_wp2_with fail
  refine wp_region_held_drew (S := fun W => W.cell? ⟨c, 0, none⟩ = some (.int .i64 3) ∧ Below w.heap.size w W) (by kernel_rfl) (⟨d0, Below.drew Hb1.out⟩) (fun hS0 => ?_)
  refine wpAnyH_take (i := 0) (v := ?_) rfl (by kernel_rfl) (by kernel_rfl) (by kernel_rfl) (fun _ _ _ h => h) (Or.inl ⟨by rfl, ?_⟩) hS0 ?_
  rotate_left
  · intro W _; go_simp; try with_reducible rfl
  try simp only [Act.put, List.getElem_toArray, List.getElem_cons_zero, List.setIfInBounds_toArray, List.set_cons_zero, List.set_cons_succ]
  refine wpAnyH_take (i := 1) (v := ?_) rfl (by kernel_rfl) (by kernel_rfl) (by kernel_rfl) (fun _ _ _ h => h) (Or.inl ⟨by rfl, ?_⟩) hS0 ?_
  rotate_left
  · intro W _; go_simp; try with_reducible rfl
  try simp only [Act.put, List.getElem_toArray, List.getElem_cons_zero, List.getElem_cons_succ, List.setIfInBounds_toArray, List.set_cons_zero, List.set_cons_succ]
  refine wpAnyH_take (i := 2) (v := ?_) rfl (by kernel_rfl) (by kernel_rfl) (by kernel_rfl) (fun _ _ _ h => h) (Or.inl ⟨by rfl, ?_⟩) hS0 ?_
  rotate_left
  · intro W _; go_simp; try with_reducible rfl
  try simp only [Act.put, List.getElem_toArray, List.getElem_cons_zero, List.getElem_cons_succ, List.setIfInBounds_toArray, List.set_cons_zero, List.set_cons_succ]
  refine wpAnyH_take (i := 3) (v := ?_) rfl (by kernel_rfl) (by kernel_rfl) (by kernel_rfl) (fun _ _ _ h => h) (Or.inl ⟨by rfl, ?_⟩) hS0 ?_
  rotate_left
  · intro W hSW; have hx := hSW.1; go_simp; try with_reducible rfl
  try simp only [Act.put, List.getElem_toArray, List.getElem_cons_zero, List.getElem_cons_succ, List.setIfInBounds_toArray, List.set_cons_zero, List.set_cons_succ]
  refine wpAnyH_take (i := 4) (v := ?_) rfl (by kernel_rfl) (by kernel_rfl) (by kernel_rfl) (fun _ _ _ h => h) (Or.inl ⟨by rfl, ?_⟩) hS0 ?_
  rotate_left
  · intro W _; go_simp; try with_reducible rfl
  try simp only [Act.put, List.getElem_toArray, List.getElem_cons_zero, List.getElem_cons_succ, List.setIfInBounds_toArray, List.set_cons_zero, List.set_cons_succ]
  refine wpAnyH_ready (rs := [5]) (by kernel_rfl) (by simp) ?_
  refine AllReadyH.cons rfl (fun K hK => ?_) AllReadyH.nil
  go_simp
  refine (phase4_n _).mono ?_
  rintro e y2 ⟨rfl, hb2⟩
  go_simp
  refine hK.out _ _ (⟨(hb2.cell (World.block_lt_of_cell? _ _ hS0.1)).trans hS0.1, bclose hS0.2 hb2⟩) (fun hS1 => ?_)
  clear hK K
  try simp only [Act.put, List.getElem_toArray, List.getElem_cons_zero, List.getElem_cons_succ, List.setIfInBounds_toArray, List.set_cons_zero, List.set_cons_succ]
  refine wpAnyH_take (i := 6) (v := ?_) rfl (by kernel_rfl) (by kernel_rfl) (by kernel_rfl) (fun _ _ _ h => h) (Or.inl ⟨by rfl, ?_⟩) hS1 ?_
  rotate_left
  · intro W _; go_simp; try with_reducible rfl
  try simp only [Act.put, List.getElem_toArray, List.getElem_cons_zero, List.getElem_cons_succ, List.setIfInBounds_toArray, List.set_cons_zero, List.set_cons_succ]
  refine wpAnyH_take (i := 7) (v := ?_) rfl (by kernel_rfl) (by kernel_rfl) (by kernel_rfl) (fun _ _ _ h => h) (Or.inl ⟨by rfl, ?_⟩) hS1 ?_
  rotate_left
  · intro W _; go_simp; try with_reducible rfl
  try simp only [Act.put, List.getElem_toArray, List.getElem_cons_zero, List.getElem_cons_succ, List.setIfInBounds_toArray, List.set_cons_zero, List.set_cons_succ]
  refine wpAnyH_done (by kernel_rfl) ?_ _
  have HF := Lib.hid hS1.2
  clear hS0
  clear d0 Hb1
  have HC2 := Lib.hid (HC0.out.later HF.out)
  clear HC0
  go_wp2_with fail
  refine (rollback_n c e0 a _ he HC2.out).mono ?_
  rintro e w3 ⟨⟨rfl, hC⟩, hG⟩
  have HE := Lib.hid hC
  have HG := Lib.hid (grownBy_trans (below_grownBy HF.out) hG)
  clear hC hG
  go_wp2_with fail
  go_ret
  exact ⟨⟨rfl, HE.out⟩, HG.out⟩
set_option maxHeartbeats 12800000 in
set_option maxRecDepth 100000 in
theorem cmd5_1 (c : Nat) (e0 a : Int) (w : World) (he : 1 ≤ e0 ∧ e0 ≤ 1000000) (h : Ctl w c 1 e0 a) : Calls Tryz.prog 34 #[.pointer (some ⟨c, 0, none⟩), .int .i64 5] w fun e w' => (e = .returned (.int .i64 14) ∧ Ctl w' c 1 e0 a) ∧ w.grownBy w' (some c) := by
  have K1 := Lib.hid h.isNone
  have HC0 := Lib.hid h
  clear h
  go_enter Tryz.func34, Tryz.ntmps34
  go_wp2_with fail
  refine K1.out.mono ?_
  rintro e w1 ⟨rfl, hb1⟩
  have HC1 := Lib.hid (HC0.out.later hb1)
  have Hb1 := Lib.hid hb1
  have d0 : w1.cell? ⟨c, 0, none⟩ = some (.int .i64 1) := by obtain ⟨A, B, h1, _⟩ := HC1.out; exact h1.cellAt 0
  clear hb1 K1 HC1
  go_wp2_with fail
  refine wp_region_held_drew (S := fun W => W.cell? ⟨c, 0, none⟩ = some (.int .i64 1) ∧ Below w.heap.size w W) (by kernel_rfl) (⟨d0, Below.drew Hb1.out⟩) (fun hS0 => ?_)
  refine wpAnyH_take (i := 0) (v := ?_) rfl (by kernel_rfl) (by kernel_rfl) (by kernel_rfl) (fun _ _ _ h => h) (Or.inl ⟨by rfl, ?_⟩) hS0 ?_
  rotate_left
  · intro W _; go_simp; try with_reducible rfl
  try simp only [Act.put, List.getElem_toArray, List.getElem_cons_zero, List.setIfInBounds_toArray, List.set_cons_zero, List.set_cons_succ]
  refine wpAnyH_take (i := 1) (v := ?_) rfl (by kernel_rfl) (by kernel_rfl) (by kernel_rfl) (fun _ _ _ h => h) (Or.inl ⟨by rfl, ?_⟩) hS0 ?_
  rotate_left
  · intro W _; go_simp; try with_reducible rfl
  try simp only [Act.put, List.getElem_toArray, List.getElem_cons_zero, List.getElem_cons_succ, List.setIfInBounds_toArray, List.set_cons_zero, List.set_cons_succ]
  refine wpAnyH_take (i := 2) (v := ?_) rfl (by kernel_rfl) (by kernel_rfl) (by kernel_rfl) (fun _ _ _ h => h) (Or.inl ⟨by rfl, ?_⟩) hS0 ?_
  rotate_left
  · intro W _; go_simp; try with_reducible rfl
  try simp only [Act.put, List.getElem_toArray, List.getElem_cons_zero, List.getElem_cons_succ, List.setIfInBounds_toArray, List.set_cons_zero, List.set_cons_succ]
  refine wpAnyH_take (i := 3) (v := ?_) rfl (by kernel_rfl) (by kernel_rfl) (by kernel_rfl) (fun _ _ _ h => h) (Or.inl ⟨by rfl, ?_⟩) hS0 ?_
  rotate_left
  · intro W hSW; have hx := hSW.1; go_simp; try with_reducible rfl
  try simp only [Act.put, List.getElem_toArray, List.getElem_cons_zero, List.getElem_cons_succ, List.setIfInBounds_toArray, List.set_cons_zero, List.set_cons_succ]
  refine wpAnyH_take (i := 4) (v := ?_) rfl (by kernel_rfl) (by kernel_rfl) (by kernel_rfl) (fun _ _ _ h => h) (Or.inl ⟨by rfl, ?_⟩) hS0 ?_
  rotate_left
  · intro W _; go_simp; try with_reducible rfl
  try simp only [Act.put, List.getElem_toArray, List.getElem_cons_zero, List.getElem_cons_succ, List.setIfInBounds_toArray, List.set_cons_zero, List.set_cons_succ]
  refine wpAnyH_ready (rs := [5]) (by kernel_rfl) (by simp) ?_
  refine AllReadyH.cons rfl (fun K hK => ?_) AllReadyH.nil
  go_simp
  refine (phase5_n _).mono ?_
  rintro e y2 ⟨rfl, hb2⟩
  go_simp
  refine hK.out _ _ (⟨(hb2.cell (World.block_lt_of_cell? _ _ hS0.1)).trans hS0.1, bclose hS0.2 hb2⟩) (fun hS1 => ?_)
  clear hK K
  try simp only [Act.put, List.getElem_toArray, List.getElem_cons_zero, List.getElem_cons_succ, List.setIfInBounds_toArray, List.set_cons_zero, List.set_cons_succ]
  refine wpAnyH_take (i := 6) (v := ?_) rfl (by kernel_rfl) (by kernel_rfl) (by kernel_rfl) (fun _ _ _ h => h) (Or.inl ⟨by rfl, ?_⟩) hS1 ?_
  rotate_left
  · intro W _; go_simp; try with_reducible rfl
  try simp only [Act.put, List.getElem_toArray, List.getElem_cons_zero, List.getElem_cons_succ, List.setIfInBounds_toArray, List.set_cons_zero, List.set_cons_succ]
  refine wpAnyH_take (i := 7) (v := ?_) rfl (by kernel_rfl) (by kernel_rfl) (by kernel_rfl) (fun _ _ _ h => h) (Or.inl ⟨by rfl, ?_⟩) hS1 ?_
  rotate_left
  · intro W _; go_simp; try with_reducible rfl
  try simp only [Act.put, List.getElem_toArray, List.getElem_cons_zero, List.getElem_cons_succ, List.setIfInBounds_toArray, List.set_cons_zero, List.set_cons_succ]
  refine wpAnyH_done (by kernel_rfl) ?_ _
  have HF := Lib.hid hS1.2
  clear hS0
  clear d0 Hb1
  have HC2 := Lib.hid (HC0.out.later HF.out)
  clear HC0
  go_wp2_with fail
  go_ret
  exact ⟨⟨rfl, HC2.out⟩, below_grownBy HF.out⟩
set_option maxHeartbeats 12800000 in
set_option maxRecDepth 100000 in
theorem cmd5_2 (c : Nat) (e0 a : Int) (w : World) (he : 1 ≤ e0 ∧ e0 ≤ 1000000) (h : Ctl w c 2 e0 a) : Calls Tryz.prog 34 #[.pointer (some ⟨c, 0, none⟩), .int .i64 5] w fun e w' => (e = .returned (.int .i64 0) ∧ Ctl w' c 1 e0 a) ∧ w.grownBy w' (some c) := by
  have K1 := Lib.hid h.isNone
  have HC0 := Lib.hid h
  clear h
  go_enter Tryz.func34, Tryz.ntmps34
  go_wp2_with fail
  refine K1.out.mono ?_
  rintro e w1 ⟨rfl, hb1⟩
  have HC1 := Lib.hid (HC0.out.later hb1)
  have Hb1 := Lib.hid hb1
  have d0 : w1.cell? ⟨c, 0, none⟩ = some (.int .i64 2) := by obtain ⟨A, B, h1, _⟩ := HC1.out; exact h1.cellAt 0
  clear hb1 K1 HC1
  go_wp2_with fail
  refine wp_region_held_drew (S := fun W => W.cell? ⟨c, 0, none⟩ = some (.int .i64 2) ∧ Below w.heap.size w W) (by kernel_rfl) (⟨d0, Below.drew Hb1.out⟩) (fun hS0 => ?_)
  refine wpAnyH_take (i := 0) (v := ?_) rfl (by kernel_rfl) (by kernel_rfl) (by kernel_rfl) (fun _ _ _ h => h) (Or.inl ⟨by rfl, ?_⟩) hS0 ?_
  rotate_left
  · intro W _; go_simp; try with_reducible rfl
  try simp only [Act.put, List.getElem_toArray, List.getElem_cons_zero, List.setIfInBounds_toArray, List.set_cons_zero, List.set_cons_succ]
  refine wpAnyH_take (i := 1) (v := ?_) rfl (by kernel_rfl) (by kernel_rfl) (by kernel_rfl) (fun _ _ _ h => h) (Or.inl ⟨by rfl, ?_⟩) hS0 ?_
  rotate_left
  · intro W _; go_simp; try with_reducible rfl
  try simp only [Act.put, List.getElem_toArray, List.getElem_cons_zero, List.getElem_cons_succ, List.setIfInBounds_toArray, List.set_cons_zero, List.set_cons_succ]
  refine wpAnyH_take (i := 2) (v := ?_) rfl (by kernel_rfl) (by kernel_rfl) (by kernel_rfl) (fun _ _ _ h => h) (Or.inl ⟨by rfl, ?_⟩) hS0 ?_
  rotate_left
  · intro W _; go_simp; try with_reducible rfl
  try simp only [Act.put, List.getElem_toArray, List.getElem_cons_zero, List.getElem_cons_succ, List.setIfInBounds_toArray, List.set_cons_zero, List.set_cons_succ]
  refine wpAnyH_take (i := 3) (v := ?_) rfl (by kernel_rfl) (by kernel_rfl) (by kernel_rfl) (fun _ _ _ h => h) (Or.inl ⟨by rfl, ?_⟩) hS0 ?_
  rotate_left
  · intro W hSW; have hx := hSW.1; go_simp; try with_reducible rfl
  try simp only [Act.put, List.getElem_toArray, List.getElem_cons_zero, List.getElem_cons_succ, List.setIfInBounds_toArray, List.set_cons_zero, List.set_cons_succ]
  refine wpAnyH_take (i := 4) (v := ?_) rfl (by kernel_rfl) (by kernel_rfl) (by kernel_rfl) (fun _ _ _ h => h) (Or.inl ⟨by rfl, ?_⟩) hS0 ?_
  rotate_left
  · intro W _; go_simp; try with_reducible rfl
  try simp only [Act.put, List.getElem_toArray, List.getElem_cons_zero, List.getElem_cons_succ, List.setIfInBounds_toArray, List.set_cons_zero, List.set_cons_succ]
  refine wpAnyH_ready (rs := [5]) (by kernel_rfl) (by simp) ?_
  refine AllReadyH.cons rfl (fun K hK => ?_) AllReadyH.nil
  go_simp
  refine (phase5_n _).mono ?_
  rintro e y2 ⟨rfl, hb2⟩
  go_simp
  refine hK.out _ _ (⟨(hb2.cell (World.block_lt_of_cell? _ _ hS0.1)).trans hS0.1, bclose hS0.2 hb2⟩) (fun hS1 => ?_)
  clear hK K
  try simp only [Act.put, List.getElem_toArray, List.getElem_cons_zero, List.getElem_cons_succ, List.setIfInBounds_toArray, List.set_cons_zero, List.set_cons_succ]
  refine wpAnyH_take (i := 6) (v := ?_) rfl (by kernel_rfl) (by kernel_rfl) (by kernel_rfl) (fun _ _ _ h => h) (Or.inl ⟨by rfl, ?_⟩) hS1 ?_
  rotate_left
  · intro W _; go_simp; try with_reducible rfl
  try simp only [Act.put, List.getElem_toArray, List.getElem_cons_zero, List.getElem_cons_succ, List.setIfInBounds_toArray, List.set_cons_zero, List.set_cons_succ]
  refine wpAnyH_take (i := 7) (v := ?_) rfl (by kernel_rfl) (by kernel_rfl) (by kernel_rfl) (fun _ _ _ h => h) (Or.inl ⟨by rfl, ?_⟩) hS1 ?_
  rotate_left
  · intro W _; go_simp; try with_reducible rfl
  try simp only [Act.put, List.getElem_toArray, List.getElem_cons_zero, List.getElem_cons_succ, List.setIfInBounds_toArray, List.set_cons_zero, List.set_cons_succ]
  refine wpAnyH_done (by kernel_rfl) ?_ _
  have HF := Lib.hid hS1.2
  clear hS0
  clear d0 Hb1
  have HC2 := Lib.hid (HC0.out.later HF.out)
  clear HC0
  go_wp2_with fail
  obtain ⟨A, B, hc, hA, hB⟩ := HC2.out
  obtain ⟨_, hB⟩ := hB.resolve_left (fun h => by have := h.1; omega)
  obtain ⟨T', u', rfl⟩ := hB.iface
  have HA := Lib.hid hA
  have K := Lib.hid (discard_n c 2 e0 A T' u' _ hc)
  clear hc hA hB HC2
  refine K.out.mono ?_
  rintro e w3 ⟨⟨rfl, hC⟩, hG⟩
  have HE : Hid (Ctl w3 c 1 e0 a) := ⟨_, _, hC, HA.out.grown hG, .inl ⟨rfl, rfl⟩⟩
  have HG := Lib.hid (grownBy_trans (below_grownBy HF.out) hG)
  clear hC hG HA K
  go_wp2_with fail
  go_ret
  exact ⟨⟨rfl, HE.out⟩, HG.out⟩
set_option maxHeartbeats 12800000 in
set_option maxRecDepth 100000 in
theorem cmd5_3 (c : Nat) (e0 a : Int) (w : World) (he : 1 ≤ e0 ∧ e0 ≤ 1000000) (h : Ctl w c 3 e0 a) : Calls Tryz.prog 34 #[.pointer (some ⟨c, 0, none⟩), .int .i64 5] w fun e w' => (e = .returned (.int .i64 14) ∧ Ctl w' c 3 e0 a) ∧ w.grownBy w' (some c) := by
  have K1 := Lib.hid h.isNone
  have HC0 := Lib.hid h
  clear h
  go_enter Tryz.func34, Tryz.ntmps34
  go_wp2_with fail
  refine K1.out.mono ?_
  rintro e w1 ⟨rfl, hb1⟩
  have HC1 := Lib.hid (HC0.out.later hb1)
  have Hb1 := Lib.hid hb1
  have d0 : w1.cell? ⟨c, 0, none⟩ = some (.int .i64 3) := by obtain ⟨A, B, h1, _⟩ := HC1.out; exact h1.cellAt 0
  clear hb1 K1 HC1
  go_wp2_with fail
  refine wp_region_held_drew (S := fun W => W.cell? ⟨c, 0, none⟩ = some (.int .i64 3) ∧ Below w.heap.size w W) (by kernel_rfl) (⟨d0, Below.drew Hb1.out⟩) (fun hS0 => ?_)
  refine wpAnyH_take (i := 0) (v := ?_) rfl (by kernel_rfl) (by kernel_rfl) (by kernel_rfl) (fun _ _ _ h => h) (Or.inl ⟨by rfl, ?_⟩) hS0 ?_
  rotate_left
  · intro W _; go_simp; try with_reducible rfl
  try simp only [Act.put, List.getElem_toArray, List.getElem_cons_zero, List.setIfInBounds_toArray, List.set_cons_zero, List.set_cons_succ]
  refine wpAnyH_take (i := 1) (v := ?_) rfl (by kernel_rfl) (by kernel_rfl) (by kernel_rfl) (fun _ _ _ h => h) (Or.inl ⟨by rfl, ?_⟩) hS0 ?_
  rotate_left
  · intro W _; go_simp; try with_reducible rfl
  try simp only [Act.put, List.getElem_toArray, List.getElem_cons_zero, List.getElem_cons_succ, List.setIfInBounds_toArray, List.set_cons_zero, List.set_cons_succ]
  refine wpAnyH_take (i := 2) (v := ?_) rfl (by kernel_rfl) (by kernel_rfl) (by kernel_rfl) (fun _ _ _ h => h) (Or.inl ⟨by rfl, ?_⟩) hS0 ?_
  rotate_left
  · intro W _; go_simp; try with_reducible rfl
  try simp only [Act.put, List.getElem_toArray, List.getElem_cons_zero, List.getElem_cons_succ, List.setIfInBounds_toArray, List.set_cons_zero, List.set_cons_succ]
  refine wpAnyH_take (i := 3) (v := ?_) rfl (by kernel_rfl) (by kernel_rfl) (by kernel_rfl) (fun _ _ _ h => h) (Or.inl ⟨by rfl, ?_⟩) hS0 ?_
  rotate_left
  · intro W hSW; have hx := hSW.1; go_simp; try with_reducible rfl
  try simp only [Act.put, List.getElem_toArray, List.getElem_cons_zero, List.getElem_cons_succ, List.setIfInBounds_toArray, List.set_cons_zero, List.set_cons_succ]
  refine wpAnyH_take (i := 4) (v := ?_) rfl (by kernel_rfl) (by kernel_rfl) (by kernel_rfl) (fun _ _ _ h => h) (Or.inl ⟨by rfl, ?_⟩) hS0 ?_
  rotate_left
  · intro W _; go_simp; try with_reducible rfl
  try simp only [Act.put, List.getElem_toArray, List.getElem_cons_zero, List.getElem_cons_succ, List.setIfInBounds_toArray, List.set_cons_zero, List.set_cons_succ]
  refine wpAnyH_ready (rs := [5]) (by kernel_rfl) (by simp) ?_
  refine AllReadyH.cons rfl (fun K hK => ?_) AllReadyH.nil
  go_simp
  refine (phase5_n _).mono ?_
  rintro e y2 ⟨rfl, hb2⟩
  go_simp
  refine hK.out _ _ (⟨(hb2.cell (World.block_lt_of_cell? _ _ hS0.1)).trans hS0.1, bclose hS0.2 hb2⟩) (fun hS1 => ?_)
  clear hK K
  try simp only [Act.put, List.getElem_toArray, List.getElem_cons_zero, List.getElem_cons_succ, List.setIfInBounds_toArray, List.set_cons_zero, List.set_cons_succ]
  refine wpAnyH_take (i := 6) (v := ?_) rfl (by kernel_rfl) (by kernel_rfl) (by kernel_rfl) (fun _ _ _ h => h) (Or.inl ⟨by rfl, ?_⟩) hS1 ?_
  rotate_left
  · intro W _; go_simp; try with_reducible rfl
  try simp only [Act.put, List.getElem_toArray, List.getElem_cons_zero, List.getElem_cons_succ, List.setIfInBounds_toArray, List.set_cons_zero, List.set_cons_succ]
  refine wpAnyH_take (i := 7) (v := ?_) rfl (by kernel_rfl) (by kernel_rfl) (by kernel_rfl) (fun _ _ _ h => h) (Or.inl ⟨by rfl, ?_⟩) hS1 ?_
  rotate_left
  · intro W _; go_simp; try with_reducible rfl
  try simp only [Act.put, List.getElem_toArray, List.getElem_cons_zero, List.getElem_cons_succ, List.setIfInBounds_toArray, List.set_cons_zero, List.set_cons_succ]
  refine wpAnyH_done (by kernel_rfl) ?_ _
  have HF := Lib.hid hS1.2
  clear hS0
  clear d0 Hb1
  have HC2 := Lib.hid (HC0.out.later HF.out)
  clear HC0
  go_wp2_with fail
  go_ret
  exact ⟨⟨rfl, HC2.out⟩, below_grownBy HF.out⟩
end Go.Proofs.YtjgojgmgicpgaaaGreat
