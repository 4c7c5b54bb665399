/- A blank scheduler of the second generation, and what lies behind it: New, and Load of a blank state. No condition. -/
import Derived.Test.YtjgojgmgicpgaaaGreatTZg2
import Derived.Test.YtjgojgmgicpgaaaGreatTMgl
namespace Go.Proofs.YtjgojgmgicpgaaaGreat
open Go.RowKit
set_option linter.unusedSimpArgs false
set_option linter.unusedVariables false

theorem MapG.later {κ : Type} [DecidableEq κ] {enc : κ → Value} {w w' : World} {b : Nat} {L : EntG κ} (h : MapG enc w b L) (hb : Below w.heap.size w w') : MapG enc w' b L := h.same (hb.block b h.lt)
/-- Empty maps. -/
def NoMaps (w : World) (b m1 m2 m3 : Nat) : Prop := (MapG (κ := ByteArray) Value.string w m1 [] ∧ MapG (κ := ByteArray) Value.string w m2 [] ∧ MapG (κ := ByteArray) Value.string w m3 []) ∧ b ≤ m1 ∧ b ≤ m2 ∧ b ≤ m3
theorem NoMaps.later {w w' : World} {b m1 m2 m3 : Nat} (h : NoMaps w b m1 m2 m3) (hb : Below w.heap.size w w') : NoMaps w' b m1 m2 m3 := ⟨⟨h.1.1.later hb, h.1.2.1.later hb, h.1.2.2.later hb⟩, h.2⟩
theorem NoMaps.base {w : World} {b b' m1 m2 m3 : Nat} (h : NoMaps w b m1 m2 m3) (hb : b' ≤ b) : NoMaps w b' m1 m2 m3 := ⟨h.1, by have := h.2; omega⟩
theorem NoMaps.kept {w w' : World} {b m1 m2 m3 q : Nat} (h : NoMaps w b m1 m2 m3) (hg : w.grownBy w' (some q)) (hq : ¬ (q = m1 ∨ q = m2 ∨ q = m3)) : NoMaps w' b m1 m2 m3 := ⟨⟨h.1.1.kept hg (by intro e; injection e with e; omega), h.1.2.1.kept hg (by intro e; injection e with e; omega), h.1.2.2.kept hg (by intro e; injection e with e; omega)⟩, h.2⟩
theorem noMaps_new (w : World) : NoMaps ((((w.alloc (.map #[] 0)).alloc (.map #[] 0)).alloc (.map #[] 0)).alloc (.map #[] 0)) w.heap.size w.heap.size (w.alloc (.map #[] 0)).heap.size ((w.alloc (.map #[] 0)).alloc (.map #[] 0)).heap.size := by
  have h : ∀ w : World, Below w.heap.size w (w.alloc (.map #[] 0)) := fun w => (Below.refl _ _).alloc (Nat.le_refl _) _
  refine ⟨⟨(((MapG.made w).later (h _)).later (h _)).later (h _), ((MapG.made _).later (h _)).later (h _), (MapG.made _).later (h _)⟩, ?_⟩
  simp; omega
theorem NoMaps.ne {w : World} {b g m1 m2 m3 : Nat} (h : NoMaps w b m1 m2 m3) (hg : g = w.heap.size) : g ≠ m1 ∧ g ≠ m2 ∧ g ≠ m3 := by have h1 := h.1.1.lt; have h2 := h.1.2.1.lt; have h3 := h.1.2.2.lt; omega
theorem NoMaps.grp {w w' : World} {b m1 m2 m3 : Nat} {p : Nat → Prop} (h : NoMaps w b m1 m2 m3) (hg : GrP p w w') (hp : ¬ p m1 ∧ ¬ p m2 ∧ ¬ p m3) : NoMaps w' b m1 m2 m3 := ⟨⟨h.1.1.same (hg.block _ h.1.1.lt hp.1), h.1.2.1.same (hg.block _ h.1.2.1.lt hp.2.1), h.1.2.2.same (hg.block _ h.1.2.2.lt hp.2.2)⟩, h.2⟩
/-- A blank scheduler of the second generation, whose blocks lie from b on. -/
def Z2 (w : World) (b g : Nat) : Prop := b ≤ g ∧ ∃ m1 m2 m3 m4 p1 p2 p3, Bk w g 126 #[.int .i64 0, .int .i64 0, .map (some m1), .map (some m2), .map (some m3), .map (some m4), .pointer p1, .pointer p2, .pointer p3] ∧ NoMaps w b m1 m2 m3 ∧ g ≠ m1 ∧ g ≠ m2 ∧ g ≠ m3
theorem Z2.later {w w' : World} {b g : Nat} (h : Z2 w b g) (hb : Below w.heap.size w w') : Z2 w' b g := by
  obtain ⟨h1, m1, m2, m3, m4, p1, p2, p3, h2, h3, h4⟩ := h
  exact ⟨h1, m1, m2, m3, m4, p1, p2, p3, h2.later hb, h3.later hb, h4⟩
theorem Z2.base {w : World} {b b' g : Nat} (h : Z2 w b g) (hb : b' ≤ b) : Z2 w b' g := by
  obtain ⟨h1, m1, m2, m3, m4, p1, p2, p3, h2, h3, h4⟩ := h
  exact ⟨Nat.le_trans hb h1, m1, m2, m3, m4, p1, p2, p3, h2, h3.base hb, h4⟩
theorem Z2.grown {w w' : World} {b g q : Nat} (h : Z2 w b g) (hg : w.grownBy w' (some q)) (hq : q < b) : Z2 w' b g := by
  obtain ⟨h1, m1, m2, m3, m4, p1, p2, p3, h2, h3, h4⟩ := h
  exact ⟨h1, m1, m2, m3, m4, p1, p2, p3, h2.stays hg (by intro e; injection e with e; omega), h3.kept hg (by have := h3.2; omega), h4⟩
set_option maxHeartbeats 12800000 in
set_option maxRecDepth 100000 in
theorem g2new_zz (w : World) : Calls Tryz.prog 66 #[] w fun e w' => (∃ g m1 m2 m3 m4 p1 p2 p3, e = .returned (.pointer (some ⟨g, 0, none⟩)) ∧ w.heap.size ≤ g ∧ Bk w' g 126 #[.int .i64 0, .int .i64 0, .map (some m1), .map (some m2), .map (some m3), .map (some m4), .pointer p1, .pointer p2, .pointer p3] ∧ NoMaps w' w.heap.size m1 m2 m3 ∧ g ≠ m1 ∧ g ≠ m2 ∧ g ≠ m3) ∧ Below w.heap.size w w' := by
  have K1 := Lib.hid (fun W => new_labels_z W); have K2 := Lib.hid (fun W => new_bucket_z W); have K3 := Lib.hid (fun W => new_wheel_z W)
  have hmm := @run_makeMap Tryz.prog
  go_enter Tryz.func66, Tryz.ntmps66
  go_wp2_with fail
  refine (K1.out _).mono ?_
  rintro e w1 ⟨⟨p1, rfl⟩, hb1⟩
  have h4 : Below w.heap.size w ((((w.alloc (.map #[] 0)).alloc (.map #[] 0)).alloc (.map #[] 0)).alloc (.map #[] 0)) := ((((Below.refl _ _).alloc (Nat.le_refl _) _).alloc (by simp) _).alloc (by simp <;> omega) _).alloc (by simp <;> omega) _
  have HB1 : Hid (Below w.heap.size w w1) := h4.trans (hb1.mono h4.size)
  have HM1 : Hid (NoMaps w1 w.heap.size w.heap.size (w.alloc (.map #[] 0)).heap.size ((w.alloc (.map #[] 0)).alloc (.map #[] 0)).heap.size) := (noMaps_new w).later hb1
  clear h4
  clear hb1
  go_wp2_with fail
  refine (K2.out _).mono ?_
  rintro e w2 ⟨⟨p2, rfl⟩, hb2⟩
  have HB2 : Hid (Below w.heap.size w w2) := HB1.out.trans (hb2.mono HB1.out.size)
  have HM2 := Lib.hid (HM1.out.later hb2)
  clear hb2
  go_wp2_with fail
  refine (K3.out _).mono ?_
  rintro e w3 ⟨⟨p3, rfl⟩, hb3⟩
  have HB3 : Hid (Below w.heap.size w w3) := HB2.out.trans (hb3.mono HB2.out.size)
  have HM3 := Lib.hid (HM2.out.later hb3)
  clear hb3
  go_wp2_with fail
  go_ret
  refine ⟨⟨w3.heap.size, _, _, _, _, p1, p2, p3, rfl, HB3.out.size, Bk.fresh _ _ _, ?_, ?_⟩, HB3.out.trans ((Below.refl _ _).alloc (Nat.le_refl _) _ |>.mono HB3.out.size)⟩
  · simpa using HM3.out.later ((Below.refl _ _).alloc (Nat.le_refl _) _)
  · simpa using HM3.out.ne rfl
set_option maxHeartbeats 12800000 in
set_option maxRecDepth 100000 in
theorem g2load_zz {v : Value} (hv : ZSt v) (w : World) : Calls Tryz.prog 26 #[v] w fun e w' => (∃ g, e = .returned (.tuple #[.pointer (some ⟨g, 0, none⟩), .int .i64 0]) ∧ Z2 w' w.heap.size g) ∧ Below w.heap.size w w' := by
  obtain ⟨A, a, B, b, C, c, rfl, ha, hb, hc⟩ := hv
  have HZ : Hid (ZSt (.agg (zV A a B b C c))) := ⟨A, a, B, b, C, c, rfl, ha, hb, hc⟩
  have HX0 : Hid (Bk (w.alloc (.cells (zV A a B b C c) 26)) w.heap.size 26 (zV A a B b C c)) := Bk.fresh _ _ _
  have Hb0 : Hid (Below w.heap.size w (w.alloc (.cells (zV A a B b C c) 26))) := (Below.refl _ _).alloc (Nat.le_refl _) _
  clear ha hb hc
  go_enter Tryz.func26, Tryz.ntmps26
  go_wp2_with (with_reducible refine load_bk rfl 26 _ rfl w.heap.size 0 rfl 26 (zV A a B b C c) (zV A a B b C c) _ HX0.out (Part.whole _) Tryz.underlying26 rfl (by kernel_rfl) ?_)
  refine (right_z A a B b C c _).mono ?_
  rintro e w1 ⟨rfl, hb1⟩
  have HX1 := Lib.hid (HX0.out.later hb1)
  have Hb1 : Hid (Below w.heap.size w w1) := Hb0.out.trans (hb1.mono Hb0.out.size)
  clear hb1 HX0 Hb0
  go_wp2_with (with_reducible refine load_bk rfl 26 _ rfl w.heap.size 0 rfl 26 (zV A a B b C c) (zV A a B b C c) _ HX1.out (Part.whole _) Tryz.underlying26 rfl (by kernel_rfl) ?_)
  refine (copy_z HZ.out _).mono ?_
  rintro e w2 ⟨⟨v2, rfl, hz⟩, hb2⟩
  obtain ⟨A2, a2, B2, b2, C2, c2, rfl, ha, hb, hc⟩ := hz
  have Hb2 : Hid (Below w.heap.size w w2) := Hb1.out.trans (hb2.mono Hb1.out.size)
  clear hb2 ha hb hc
  go_wp2_with fail
  refine (g2new_zz _).mono ?_
  rintro e w3 ⟨⟨g, m1, m2, m3, m4, p1, p2, p3, rfl, hg, hB, hM, hne⟩, hb3⟩
  have HM3 := Lib.hid (hM.base Hb2.out.size); have HNM := Lib.hid hne
  clear hM hne
  have HG3 := Lib.hid hB
  have HGG : Hid (w.heap.size ≤ g) := Nat.le_trans Hb2.out.size hg
  have Hb3 : Hid (Below w.heap.size w w3) := Hb2.out.trans (hb3.mono Hb2.out.size)
  clear hB hb3 hg Hb1 Hb2 HX1
  go_wp2_with ((with_reducible refine store_bk rfl 26 (.tmp 4) (.tmp 16) rfl w3.heap.size 0 (zV A2 a2 B2 b2 C2 c2) rfl rfl 26 _ (zV A2 a2 B2 b2 C2 c2) (Bk.fresh _ _ _) (by kernel_rfl) (by simp) (by kernel_rfl) rfl ?_); intro w5 hB hG hs; obtain ⟨p4, hp4⟩ : ∃ r, r = w3.heap.size := ⟨_, rfl⟩; have HL5 : Hid (Below w3.heap.size w3 w5) := ((Below.refl _ _).alloc (Nat.le_refl _) _).grown hG (by simp) (by intro k e; injection e with e; omega); have HNE : Hid (¬ p4 = g) := (by rw [hp4]; intro e; have := HG3.out.here; omega); rw [← hp4] at hB ⊢; have HT5 := Lib.hid hB; have HM5 := Lib.hid (HM3.out.later HL5.out); have HG5 := Lib.hid (HG3.out.later HL5.out); have Hb5 : Hid (Below w.heap.size w w5) := Hb3.out.trans (HL5.out.mono Hb3.out.size); clear hB hG hs hp4)
  refine wp_region_held_drew (S := fun W => GrP (fun q => q = g) w5 W) (by kernel_rfl) (GrP.ofBelow (Below.drew (Below.refl _ _))) (fun hS0 => ?_)
  have HGc := Lib.hid (HG5.out.later (Below.drew (Below.refl _ _)))
  refine wpAnyH_take (i := 0) (v := ?_) rfl (by kernel_rfl) (by kernel_rfl) (by kernel_rfl) (fun _ _ _ h => h) (Or.inl ⟨by rfl, ?_⟩) hS0 ?_
  rotate_left
  · intro W _; go_simp; try with_reducible rfl
  try simp only [Act.put, List.getElem_toArray, List.getElem_cons_zero, List.setIfInBounds_toArray, List.set_cons_zero, List.set_cons_succ]
  refine wpAnyH_take (i := 1) (v := ?_) rfl (by kernel_rfl) (by kernel_rfl) (by kernel_rfl) (fun _ _ _ h => h) (Or.inl ⟨by rfl, ?_⟩) hS0 ?_
  rotate_left
  · intro W _; go_simp; try with_reducible rfl
  try simp only [Act.put, List.getElem_toArray, List.getElem_cons_zero, List.getElem_cons_succ, List.setIfInBounds_toArray, List.set_cons_zero, List.set_cons_succ]
  refine wpAnyH_take (i := 2) (v := ?_) rfl (by kernel_rfl) (by kernel_rfl) (by kernel_rfl) (fun _ _ _ h => h) (Or.inl ⟨by rfl, ?_⟩) hS0 ?_
  rotate_left
  · intro W _; go_simp; try with_reducible rfl
  try simp only [Act.put, List.getElem_toArray, List.getElem_cons_zero, List.getElem_cons_succ, List.setIfInBounds_toArray, List.set_cons_zero, List.set_cons_succ]
  refine wpAnyH_take (i := 3) (v := ?_) rfl (by kernel_rfl) (by kernel_rfl) (by kernel_rfl) (fun _ _ _ h => h) (Or.inl ⟨by rfl, ?_⟩) hS0 ?_
  rotate_left
  · intro W hSW; have hx := (HT5.out.grp hSW (fun e => HNE.out e)).cellAt 0; go_simp; try with_reducible rfl
  try simp only [Act.put, List.getElem_toArray, List.getElem_cons_zero, List.getElem_cons_succ, List.setIfInBounds_toArray, List.set_cons_zero, List.set_cons_succ]
  refine wpAnyH_take (i := 4) (v := ?_) rfl (by kernel_rfl) (by kernel_rfl) (by kernel_rfl) (fun _ _ _ h => h) (Or.inl ⟨by rfl, ?_⟩) hS0 ?_
  rotate_left
  · intro W _; go_simp; try with_reducible rfl
  try simp only [Act.put, List.getElem_toArray, List.getElem_cons_zero, List.getElem_cons_succ, List.setIfInBounds_toArray, List.set_cons_zero, List.set_cons_succ]
  refine wpAnyH_take (i := 5) (v := ?_) rfl (by kernel_rfl) (by kernel_rfl) (by kernel_rfl) (fun _ _ _ h => h) (Or.inl ⟨by rfl, ?_⟩) hS0 ?_
  rotate_left
  · intro W hSW; have hx := (HT5.out.grp hSW (fun e => HNE.out e)).cellAt 1; go_simp; try with_reducible rfl
  try simp only [Act.put, List.getElem_toArray, List.getElem_cons_zero, List.getElem_cons_succ, List.setIfInBounds_toArray, List.set_cons_zero, List.set_cons_succ]
  refine wpAnyH_take (i := 6) (v := ?_) rfl (by kernel_rfl) (by kernel_rfl) (by kernel_rfl) (fun _ _ _ h => h) (Or.inl ⟨by rfl, ?_⟩) hS0 ?_
  rotate_left
  · intro W _; go_simp; try with_reducible rfl
  try simp only [Act.put, List.getElem_toArray, List.getElem_cons_zero, List.getElem_cons_succ, List.setIfInBounds_toArray, List.set_cons_zero, List.set_cons_succ]
  refine wpAnyH_take (i := 7) (v := ?_) rfl (by kernel_rfl) (by kernel_rfl) (by kernel_rfl) (fun _ _ _ h => h) (Or.inl ⟨by rfl, ?_⟩) hS0 ?_
  rotate_left
  · intro W _; go_simp; try with_reducible rfl
  try simp only [Act.put, List.getElem_toArray, List.getElem_cons_zero, List.getElem_cons_succ, List.setIfInBounds_toArray, List.set_cons_zero, List.set_cons_succ]
  refine wpAnyH_take (i := 8) (v := ?_) rfl (by kernel_rfl) (by kernel_rfl) (by kernel_rfl) (fun _ _ _ h => h) (Or.inl ⟨by rfl, ?_⟩) hS0 ?_
  rotate_left
  · intro W _; go_simp; try with_reducible rfl
  try simp only [Act.put, List.getElem_toArray, List.getElem_cons_zero, List.getElem_cons_succ, List.setIfInBounds_toArray, List.set_cons_zero, List.set_cons_succ]
  refine wpAnyH_ready (rs := [9]) (by kernel_rfl) (by simp) ?_
  refine AllReadyH.cons rfl (fun K hK => ?_) AllReadyH.nil
  simp only [if_pos, Region.wanted]
  refine store1z_op 3 (.tmp 26) (.tmp 21) rfl g 0 (.int .i64 0) rfl rfl 126 #[.int .i64 0, .int .i64 0, .map (some m1), .map (some m2), .map (some m3), .map (some m4), .pointer p1, .pointer p2, .pointer p3] #[.int .i64 0, .int .i64 0, .map (some m1), .map (some m2), .map (some m3), .map (some m4), .pointer p1, .pointer p2, .pointer p3] HGc.out (by kernel_rfl) (by simp) rfl rfl rfl ?_
  intro y1 hB hG hs
  have HGd := Lib.hid hB
  refine hK.out _ _ (hS0.trans ((GrP.of hG).wide fun k _ hk => by injection hk with hk; exact hk.symm)) (fun hS1 => ?_)
  clear hK K
  try simp only [Act.put, List.getElem_toArray, List.getElem_cons_zero, List.getElem_cons_succ, List.setIfInBounds_toArray, List.set_cons_zero, List.set_cons_succ]
  refine wpAnyH_take (i := 10) (v := ?_) rfl (by kernel_rfl) (by kernel_rfl) (by kernel_rfl) (fun _ _ _ h => h) (Or.inl ⟨by rfl, ?_⟩) hS1 ?_
  rotate_left
  · intro W _; go_simp; try with_reducible rfl
  try simp only [Act.put, List.getElem_toArray, List.getElem_cons_zero, List.getElem_cons_succ, List.setIfInBounds_toArray, List.set_cons_zero, List.set_cons_succ]
  refine wpAnyH_take (i := 11) (v := ?_) rfl (by kernel_rfl) (by kernel_rfl) (by kernel_rfl) (fun _ _ _ h => h) (Or.inl ⟨by rfl, ?_⟩) hS1 ?_
  rotate_left
  · intro W _; go_simp; try with_reducible rfl
  try simp only [Act.put, List.getElem_toArray, List.getElem_cons_zero, List.getElem_cons_succ, List.setIfInBounds_toArray, List.set_cons_zero, List.set_cons_succ]
  refine wpAnyH_ready (rs := [12]) (by kernel_rfl) (by simp) ?_
  refine AllReadyH.cons rfl (fun K hK => ?_) AllReadyH.nil
  simp only [if_pos, Region.wanted]
  refine store1z_op 3 (.tmp 28) (.tmp 24) rfl g 1 (.int .i64 0) rfl rfl 126 #[.int .i64 0, .int .i64 0, .map (some m1), .map (some m2), .map (some m3), .map (some m4), .pointer p1, .pointer p2, .pointer p3] #[.int .i64 0, .int .i64 0, .map (some m1), .map (some m2), .map (some m3), .map (some m4), .pointer p1, .pointer p2, .pointer p3] HGd.out (by kernel_rfl) (by simp) rfl rfl rfl ?_
  intro y2 hB2 hG2 hs2
  have HGe := Lib.hid hB2
  refine hK.out _ _ (hS1.trans ((GrP.of hG2).wide fun k _ hk => by injection hk with hk; exact hk.symm)) (fun hS2 => ?_)
  clear hK K
  try simp only [Act.put, List.getElem_toArray, List.getElem_cons_zero, List.getElem_cons_succ, List.setIfInBounds_toArray, List.set_cons_zero, List.set_cons_succ]
  refine wpAnyH_done (by kernel_rfl) ?_ _
  have HF := Lib.hid hS2
  clear HGc HGd hB hG hs hB2 hG2 hs2
  obtain ⟨w6, hw6⟩ : ∃ W, W = y2 := ⟨_, rfl⟩
  rw [← hw6] at HF HGe ⊢
  clear hw6
  have HT6 := Lib.hid (HT5.out.grp HF.out (fun e => HNE.out e))
  have Hb6 : Hid (Below w.heap.size w w6) := Hb5.out.trans (HF.out.below Hb5.out.size fun q hq => by rw [hq]; exact HGG.out)
  have HM6 := Lib.hid (HM5.out.grp HF.out ⟨fun e => HNM.out.1 e.symm, fun e => HNM.out.2.1 e.symm, fun e => HNM.out.2.2 e.symm⟩)
  have d2 : w6.cell? ⟨p4, 2, none⟩ = some (.slice A2 0 a2) := HT6.out.cellAt 2
  have d3 : w6.cell? ⟨p4, 3, none⟩ = some (.slice B2 0 b2) := HT6.out.cellAt 3
  have d4 : w6.cell? ⟨p4, 4, none⟩ = some (.slice C2 0 c2) := HT6.out.cellAt 4
  have HLT : Hid (g < w6.heap.size) := HGe.out.here
  go_wp2_with fail
  refine wp_loop_rounds 1 ?_
  rw [rounds_succ]
  go_wp2_with fail
  refine wp_loop_rounds 1 ?_
  rw [rounds_succ]
  go_wp2_with fail
  refine wp_loop_rounds 1 ?_
  rw [rounds_succ]
  go_wp2_with fail
  go_ret2
  exact ⟨⟨g, rfl, HGG.out, m1, m2, m3, m4, p1, p2, p3, HGe.out, HM6.out, HNM.out⟩, Hb6.out⟩
end Go.Proofs.YtjgojgmgicpgaaaGreat
