/- A new control; Prepare and Cutover of it; layer 22's first look. No condition. -/
import Derived.Test.YtjgojgmgicpgaaaGreatTQ13
import Derived.Test.YtjgojgmgicpgaaaGreatTZdf
import Derived.Test.YtjgojgmgicpgaaaGreatTZls
import Derived.Test.YtjgojgmgicpgaaaGreatTZg2
import Derived.Test.YtjgojgmgicpgaaaGreatTQ08
import Derived.Test.YtjgojgmgicpgaaaGreatTRgf
import Derived.Handy
namespace Go.Proofs.YtjgojgmgicpgaaaGreat
open Go.RowKit
set_option linter.unusedSimpArgs false
set_option linter.unusedVariables false

abbrev v1 (g : Nat) : Value := .iface 148 (.agg #[.pointer (some ⟨g, 0, none⟩)])
abbrev v2 (g : Nat) : Value := .iface 331 (.agg #[.pointer (some ⟨g, 0, none⟩)])
section
variable {o : Oper} {a : Act} {w : World} {K : Act → World → Prop} {Q : Exit → Act → World → Prop}
theorem acellz_op (ho : o.op = .alloc 47) (h : ∀ g w', g = w.heap.size → Bk w' g 47 #[.int .i64 0, .slice none 0 0] → Below w.heap.size w w' → K (a.put o.dst (.pointer (some ⟨g, 0, none⟩))) w') : o.wp Tryz.prog a w K Q := by
  unfold Oper.wp execOp
  simp only [ho]
  go_simp
  exact h _ _ rfl (Bk.fresh w _ _) ((Below.refl _ _).alloc (Nat.le_refl _) _)
end
theorem Z1.later {w w' : World} {g : Nat} (h : Z1 w g) (hb : Below w.heap.size w w') : Z1 w' g := h.below hb
theorem bclose {w w1 w2 : World} (h1 : Below w.heap.size w w1) (h2 : Below w1.heap.size w1 w2) : Below w.heap.size w w2 := h1.trans (h2.mono h1.size)
set_option maxHeartbeats 12800000 in
set_option maxRecDepth 100000 in
theorem hnew_z (w : World) : Calls Tryz.prog 32 #[] w fun e w' => (∃ g c, e = .returned (.pointer (some ⟨c, 0, none⟩)) ∧ w.heap.size ≤ g ∧ g < c ∧ Z1 w' g ∧ Bk w' c 89 (cV 1 1 (v1 g) .nilIface 0)) ∧ Below w.heap.size w w' := by
  go_enter Tryz.func32, Tryz.ntmps32
  go_wp2_with fail
  refine (new_z _).mono ?_
  rintro e w1 ⟨rfl, hZ, hb1⟩
  have HZ1 := Lib.hid hZ; have HB1 := Lib.hid hb1
  clear hZ hb1
  go_wp2_with fail
  go_ret
  exact ⟨⟨_, w1.heap.size, rfl, Nat.le_refl _, HZ1.out.lt, HZ1.out.later ((Below.refl _ _).alloc (Nat.le_refl _) _), Bk.fresh _ _ _⟩, bclose HB1.out ((Below.refl _ _).alloc (Nat.le_refl _) _)⟩
set_option maxHeartbeats 12800000 in
set_option maxRecDepth 100000 in
theorem isNone_z (c : Nat) (p e n : Int) (T : TypeId) (u B : Value) (w : World) (h : Bk w c 89 (cV p e (.iface T u) B n)) : Calls Tryz.prog 77 #[.pointer (some ⟨c, 0, none⟩)] w fun e w' => e = .returned (.bool false) ∧ Below w.heap.size w w' := by
  have d2 : w.cell? ⟨c, 2, none⟩ = some (.iface T u) := h.cellAt 2
  clear h
  go_enter Tryz.func77, Tryz.ntmps77
  go_wp2
  go_ret
  exact ⟨rfl, Below.refl _ _⟩
set_option maxHeartbeats 12800000 in
set_option maxRecDepth 100000 in
theorem phase1_z (w : World) : Calls Tryz.prog 78 #[.int .i64 1] w fun e w' => e = .returned (.int .i64 1) ∧ Below w.heap.size w w' := by
  go_enter Tryz.func78, Tryz.ntmps78
  go_wp2
  go_ret
  exact ⟨rfl, Below.refl _ _⟩
set_option maxHeartbeats 12800000 in
set_option maxRecDepth 100000 in
theorem phase2_z (w : World) : Calls Tryz.prog 78 #[.int .i64 2] w fun e w' => e = .returned (.int .i64 2) ∧ Below w.heap.size w w' := by
  go_enter Tryz.func78, Tryz.ntmps78
  go_wp2
  go_ret
  exact ⟨rfl, Below.refl _ _⟩
set_option maxHeartbeats 12800000 in
set_option maxRecDepth 100000 in
theorem fenc_z (g : Nat) (w : World) (h : Z1 w g) : Calls Tryz.prog 521 #[.agg #[.pointer (some ⟨g, 0, none⟩)]] w fun e w' => (∃ A N c, e = .returned (.tuple #[.slice A N c, .int .i64 0]) ∧ N = e1B.length ∧ Rd w' A e1B ∧ N ≤ c ∧ c ≤ 9223372036854775807) ∧ Below w.heap.size w w' := by
  have HZ0 : Hid (Z1 (w.alloc (.cells #[.pointer (some ⟨g, 0, none⟩)] 148)) g) := h.later ((Below.refl _ _).alloc (Nat.le_refl _) _)
  have Hb0 : Hid (Below w.heap.size w (w.alloc (.cells #[.pointer (some ⟨g, 0, none⟩)] 148))) := (Below.refl _ _).alloc (Nat.le_refl _) _
  clear h
  go_enter Tryz.func521, Tryz.ntmps521
  go_wp2_with fail
  refine (state_z g _ HZ0.out).mono ?_
  rintro e w1 ⟨⟨v', rfl, hv⟩, hb1⟩
  have HV := Lib.hid hv
  have Hb1 := Lib.hid (bclose Hb0.out hb1)
  clear hv hb1 HZ0 Hb0
  go_wp2_with fail
  refine (encode1_z HV.out _).mono ?_
  rintro e w2 ⟨⟨A, N, c, rfl, h1⟩, hb2⟩
  have HE := Lib.hid h1
  have Hb2 := Lib.hid (bclose Hb1.out hb2)
  clear h1 hb2
  go_wp2_with fail
  first | go_ret | go_ret2 | go_returns
  exact ⟨⟨_, _, _, rfl, HE.out⟩, Hb2.out⟩
set_option maxHeartbeats 12800000 in
set_option maxRecDepth 100000 in
theorem loadSecond_z (w : World) : Calls Tryz.prog 200 #[.agg #[.int .i64 0, .int .i64 1, .slice none 0 0, .slice none 0 0, .slice none 0 0]] w fun e w' => (∃ g, e = .returned (.tuple #[v2 g, .int .i64 0]) ∧ w.heap.size ≤ g ∧ g < w'.heap.size) ∧ Below w.heap.size w w' := by
  have HX0 : Hid (Bk (w.alloc (.cells #[.int .i64 0, .int .i64 1, .slice none 0 0, .slice none 0 0, .slice none 0 0] 26)) w.heap.size 26 #[.int .i64 0, .int .i64 1, .slice none 0 0, .slice none 0 0, .slice none 0 0]) := Bk.fresh _ _ _
  have Hb0 : Hid (Below w.heap.size w (w.alloc (.cells #[.int .i64 0, .int .i64 1, .slice none 0 0, .slice none 0 0, .slice none 0 0] 26))) := (Below.refl _ _).alloc (Nat.le_refl _) _
  go_enter Tryz.func200, Tryz.ntmps200
  go_wp2_with (with_reducible refine load_bk rfl 26 _ rfl w.heap.size 0 rfl 26 #[.int .i64 0, .int .i64 1, .slice none 0 0, .slice none 0 0, .slice none 0 0] #[.int .i64 0, .int .i64 1, .slice none 0 0, .slice none 0 0, .slice none 0 0] _ HX0.out (Part.whole _) Tryz.underlying26 rfl (by kernel_rfl) ?_)
  refine (g2load_z ZSt.nil _).mono ?_
  rintro e w1 ⟨⟨g, rfl, hg, hl⟩, hb1⟩
  have HG : Hid (w.heap.size ≤ g ∧ g < w1.heap.size) := ⟨Nat.le_trans Hb0.out.size hg, hl⟩
  have Hb1 := Lib.hid (bclose Hb0.out hb1)
  clear hg hl hb1
  go_wp2_with fail
  first | go_ret | go_ret2 | go_returns
  exact ⟨⟨g, rfl, HG.out⟩, Hb1.out⟩
set_option maxHeartbeats 12800000 in
set_option maxRecDepth 100000 in
theorem hdecoded_z (A : Option Addr) (n c : Nat) (w : World) (hn : Hid (n = e2B.length)) (hr : Hid (Rd w A e2B)) (hc : n ≤ c) (hc2 : c ≤ 9223372036854775807) : Calls Tryz.prog 90 #[.slice A n c] w fun e w' => (∃ g, e = .returned (.tuple #[v2 g, .int .i64 0]) ∧ w.heap.size ≤ g ∧ g < w'.heap.size) ∧ Below w.heap.size w w' := by
  have K := Lib.hid (decode2_z A n c w hn hr hc hc2)
  clear hn hr hc hc2
  go_enter Tryz.func90, Tryz.ntmps90
  go_wp2_with fail
  refine K.out.mono ?_
  rintro e w1 ⟨rfl, hb1⟩
  have Hb1 := Lib.hid hb1
  clear hb1 K
  go_wp2_with (first | ((with_reducible refine store_bk rfl 26 (.tmp 4) (.tmp 10) rfl w1.heap.size 0 #[.int .i64 0, .int .i64 1, .slice none 0 0, .slice none 0 0, .slice none 0 0] rfl rfl 26 _ #[.int .i64 0, .int .i64 1, .slice none 0 0, .slice none 0 0, .slice none 0 0] (Bk.fresh _ _ _) (by kernel_rfl) (by simp) (by kernel_rfl) rfl ?_); intro w2 hB hG hs; obtain ⟨p4, hp4⟩ : ∃ r, r = w1.heap.size := ⟨_, rfl⟩; have HL2 : Hid (Below w1.heap.size w1 w2) := ((Below.refl _ _).alloc (Nat.le_refl _) _).grown hG (by simp) (by intro k e; injection e with e; omega); rw [← hp4] at hB ⊢; have HS2 := Lib.hid hB; have HB2 := Lib.hid (bclose Hb1.out HL2.out); clear hB hG hs hp4) | (with_reducible refine load_bk rfl 26 _ rfl p4 0 rfl 26 #[.int .i64 0, .int .i64 1, .slice none 0 0, .slice none 0 0, .slice none 0 0] #[.int .i64 0, .int .i64 1, .slice none 0 0, .slice none 0 0, .slice none 0 0] _ HS2.out (Part.whole _) Tryz.underlying26 rfl (by kernel_rfl) ?_))
  refine (loadSecond_z _).mono ?_
  rintro e w3 ⟨⟨g, rfl, hg, hl⟩, hb3⟩
  have HG : Hid (w.heap.size ≤ g ∧ g < w3.heap.size) := ⟨Nat.le_trans HB2.out.size hg, hl⟩
  have HB3 := Lib.hid (bclose HB2.out hb3)
  clear hg hl hb3
  go_wp2_with fail
  first | go_ret | go_ret2 | go_returns
  exact ⟨⟨g, rfl, HG.out⟩, HB3.out⟩
set_option maxHeartbeats 12800000 in
set_option maxRecDepth 100000 in
theorem transferred_z (g : Nat) (w : World) (h : Z1 w g) : Calls Tryz.prog 91 #[v1 g] w fun e w' => (∃ g', e = .returned (.tuple #[v2 g', .int .i64 0]) ∧ w.heap.size ≤ g' ∧ g' < w'.heap.size) ∧ Below w.heap.size w w' := by
  have K := Lib.hid (fenc_z g w h)
  clear h
  go_enter Tryz.func91, Tryz.ntmps91
  go_wp2_with fail
  refine K.out.mono ?_
  rintro e w1 ⟨⟨A, N, c, rfl, h1, h2, h3, h4⟩, hb1⟩
  have Hb1 := Lib.hid hb1
  have K2 := Lib.hid (trans1_z A N c w1 (Lib.hid h1) (Lib.hid h2) h3 h4)
  clear hb1 K h1 h2 h3 h4
  go_wp2_with fail
  refine K2.out.mono ?_
  rintro e w2 ⟨⟨A2, N2, c2, rfl, h1, h2, h3, h4⟩, hb2⟩
  have Hb2 := Lib.hid (bclose Hb1.out hb2)
  have K3 := Lib.hid (hdecoded_z A2 N2 c2 w2 (Lib.hid h1) (Lib.hid h2) h3 h4)
  clear hb2 K2 h1 h2 h3 h4
  go_wp2_with fail
  refine K3.out.mono ?_
  rintro e w3 ⟨⟨g', rfl, hg, hl⟩, hb3⟩
  have HG : Hid (w.heap.size ≤ g' ∧ g' < w3.heap.size) := ⟨Nat.le_trans Hb2.out.size hg, hl⟩
  have Hb3 := Lib.hid (bclose Hb2.out hb3)
  clear hg hl hb3 K3
  go_wp2_with fail
  first | go_ret | go_ret2 | go_returns
  exact ⟨⟨g', rfl, HG.out⟩, Hb3.out⟩
set_option maxHeartbeats 12800000 in
set_option maxRecDepth 100000 in
theorem prepare_z (c g : Nat) (w : World) (hc : Bk w c 89 (cV 1 1 (v1 g) .nilIface 0)) (hz : Z1 w g) (hgc : g < c) : Calls Tryz.prog 79 #[.pointer (some ⟨c, 0, none⟩)] w fun e w' => (∃ g', e = .returned (.int .i64 0) ∧ c < g' ∧ Z1 w' g ∧ Bk w' c 89 (cV 2 1 (v1 g) (v2 g') 0)) ∧ w.grownBy w' (some c) := by
  have HC0 := Lib.hid hc; have HZ0 := Lib.hid hz
  have HNE : Hid (c ≠ g) := by show _ ≠ _; omega
  have d2 : w.cell? ⟨c, 2, none⟩ = some (v1 g) := hc.cellAt 2
  clear hc hz hgc
  go_enter Tryz.func79, Tryz.ntmps79
  go_wp2_with fail
  refine (transferred_z g w HZ0.out).mono ?_
  rintro e w1 ⟨⟨g', rfl, hg, hl⟩, hb1⟩
  have HC1 := Lib.hid (HC0.out.later hb1); have HZ1 := Lib.hid (HZ0.out.later hb1)
  have HG : Hid (c < g') := by show _ < _; have := HC0.out.here; omega
  have HG1 : Hid (w.grownBy w1 (some c)) := below_grownBy hb1
  clear hg hl hb1 HC0 HZ0 d2
  go_wp2_with (first | ((with_reducible refine store1_bk rfl 3 (.tmp 20) (.const (.int .i64 2)) rfl c 0 (.int .i64 2) rfl rfl 89 (cV 1 1 (v1 g) .nilIface 0) (cV 2 1 (v1 g) .nilIface 0) HC1.out (by kernel_rfl) (by simp) rfl rfl rfl ?_); intro w2 hB hG hs; have HC2 := Lib.hid hB; have HZ2 := Lib.hid (HZ1.out.grown hG HNE.out); have HG2 := Lib.hid (grownBy_trans HG1.out hG); clear hB hG hs HC1 HZ1 HG1) | ((with_reducible refine store1_bk rfl 87 (.tmp 22) (.tmp 18) rfl c 3 (v2 g') rfl rfl 89 (cV 2 1 (v1 g) .nilIface 0) (cV 2 1 (v1 g) (v2 g') 0) HC2.out (by kernel_rfl) (by simp) rfl rfl rfl ?_); intro w3 hB hG hs; have HC3 := Lib.hid hB; have HZ3 := Lib.hid (HZ2.out.grown hG HNE.out); have HG3 := Lib.hid (grownBy_trans HG2.out hG); clear hB hG hs HC2 HZ2 HG2))
  go_ret
  exact ⟨⟨g', rfl, HG.out, HZ3.out, HC3.out⟩, HG3.out⟩
set_option maxHeartbeats 12800000 in
set_option maxRecDepth 100000 in
theorem takeOver_z (c g g' : Nat) (w : World) (hc : Bk w c 89 (cV 2 1 (v1 g) (v2 g') 0)) : Calls Tryz.prog 183 #[.pointer (some ⟨c, 0, none⟩)] w fun e w' => (e = .returned (.int .i64 0) ∧ Bk w' c 89 (cV 2 2 (v2 g') (v1 g) 0)) ∧ w.grownBy w' (some c) := by
  have HC0 := Lib.hid hc
  have d1 : w.cell? ⟨c, 1, none⟩ = some (.int .i64 1) := hc.cellAt 1
  clear hc
  go_enter Tryz.func183, Tryz.ntmps183
  go_wp2_with fail
  clear d1
  refine wp_region_E (S := fun W => Bk W c 89 (cV 2 1 (v1 g) (v2 g') 0) ∧ Below w.heap.size w W) 12 (by kernel_rfl) (⟨HC0.out.drewB, Below.drew (Below.refl _ _)⟩) (fun hS0 => ?_)
  refine wpAnyE_takeF (i := 0) (v := ?_) rfl (by kernel_rfl) (by kernel_rfl) (by kernel_rfl) (by kernel_rfl) (fun _ _ _ h => h) (Or.inl ⟨by rfl, ?_⟩) hS0 ?_
  rotate_left
  · intro W _; go_simp; try with_reducible rfl
  try simp only [Act.put, List.getElem_toArray, List.getElem_cons_zero, List.getElem_cons_succ, List.setIfInBounds_toArray, List.set_cons_zero, List.set_cons_succ]
  refine wpAnyE_takeF (i := 1) (v := ?_) rfl (by kernel_rfl) (by kernel_rfl) (by kernel_rfl) (by kernel_rfl) (fun _ _ _ h => h) (Or.inl ⟨by rfl, ?_⟩) hS0 ?_
  rotate_left
  · intro W _; go_simp; try with_reducible rfl
  try simp only [Act.put, List.getElem_toArray, List.getElem_cons_zero, List.getElem_cons_succ, List.setIfInBounds_toArray, List.set_cons_zero, List.set_cons_succ]
  refine wpAnyE_takeF (i := 2) (v := ?_) rfl (by kernel_rfl) (by kernel_rfl) (by kernel_rfl) (by kernel_rfl) (fun _ _ _ h => h) (Or.inl ⟨by rfl, ?_⟩) hS0 ?_
  rotate_left
  · intro W _; go_simp; try with_reducible rfl
  try simp only [Act.put, List.getElem_toArray, List.getElem_cons_zero, List.getElem_cons_succ, List.setIfInBounds_toArray, List.set_cons_zero, List.set_cons_succ]
  refine wpAnyE_takeF (i := 3) (v := ?_) rfl (by kernel_rfl) (by kernel_rfl) (by kernel_rfl) (by kernel_rfl) (fun _ _ _ h => h) (Or.inl ⟨by rfl, ?_⟩) hS0 ?_
  rotate_left
  · intro W _; go_simp; try with_reducible rfl
  try simp only [Act.put, List.getElem_toArray, List.getElem_cons_zero, List.getElem_cons_succ, List.setIfInBounds_toArray, List.set_cons_zero, List.set_cons_succ]
  refine wpAnyE_takeF (i := 4) (v := ?_) rfl (by kernel_rfl) (by kernel_rfl) (by kernel_rfl) (by kernel_rfl) (fun _ _ _ h => h) (Or.inl ⟨by rfl, ?_⟩) hS0 ?_
  rotate_left
  · intro W _; go_simp; try with_reducible rfl
  try simp only [Act.put, List.getElem_toArray, List.getElem_cons_zero, List.getElem_cons_succ, List.setIfInBounds_toArray, List.set_cons_zero, List.set_cons_succ]
  refine wpAnyE_take (i := 5) (v := ?_) rfl (by kernel_rfl) (by kernel_rfl) (by kernel_rfl) (by kernel_rfl) (by kernel_rfl) (fun _ _ _ h => h) (Or.inl ⟨by rfl, ?_⟩) hS0 ?_
  rotate_left
  · intro W hSW; have hx := hSW.1.cellAt 3; go_simp; try with_reducible rfl
  try simp only [Act.put, List.getElem_toArray, List.getElem_cons_zero, List.getElem_cons_succ, List.setIfInBounds_toArray, List.set_cons_zero, List.set_cons_succ]
  refine wpAnyE_takeF (i := 6) (v := ?_) rfl (by kernel_rfl) (by kernel_rfl) (by kernel_rfl) (by kernel_rfl) (fun _ _ _ h => h) (Or.inl ⟨by rfl, ?_⟩) hS0 ?_
  rotate_left
  · intro W _; go_simp; try with_reducible rfl
  try simp only [Act.put, List.getElem_toArray, List.getElem_cons_zero, List.getElem_cons_succ, List.setIfInBounds_toArray, List.set_cons_zero, List.set_cons_succ]
  refine wpAnyE_takeF (i := 7) (v := ?_) rfl (by kernel_rfl) (by kernel_rfl) (by kernel_rfl) (by kernel_rfl) (fun _ _ _ h => h) (Or.inl ⟨by rfl, ?_⟩) hS0 ?_
  rotate_left
  · intro W _; go_simp; try with_reducible rfl
  try simp only [Act.put, List.getElem_toArray, List.getElem_cons_zero, List.getElem_cons_succ, List.setIfInBounds_toArray, List.set_cons_zero, List.set_cons_succ]
  refine wpAnyE_takeF (i := 8) (v := ?_) rfl (by kernel_rfl) (by kernel_rfl) (by kernel_rfl) (by kernel_rfl) (fun _ _ _ h => h) (Or.inl ⟨by rfl, ?_⟩) hS0 ?_
  rotate_left
  · intro W _; go_simp; try with_reducible rfl
  try simp only [Act.put, List.getElem_toArray, List.getElem_cons_zero, List.getElem_cons_succ, List.setIfInBounds_toArray, List.set_cons_zero, List.set_cons_succ]
  refine wpAnyE_take (i := 9) (v := ?_) rfl (by kernel_rfl) (by kernel_rfl) (by kernel_rfl) (by kernel_rfl) (by kernel_rfl) (fun _ _ _ h => h) (Or.inl ⟨by rfl, ?_⟩) hS0 ?_
  rotate_left
  · intro W hSW; have hx := hSW.1.cellAt 2; go_simp; try with_reducible rfl
  try simp only [Act.put, List.getElem_toArray, List.getElem_cons_zero, List.getElem_cons_succ, List.setIfInBounds_toArray, List.set_cons_zero, List.set_cons_succ]
  refine wpAnyE_takeF (i := 10) (v := ?_) rfl (by kernel_rfl) (by kernel_rfl) (by kernel_rfl) (by kernel_rfl) (fun _ _ _ h => h) (Or.inl ⟨by rfl, ?_⟩) hS0 ?_
  rotate_left
  · intro W _; go_simp; try with_reducible rfl
  try simp only [Act.put, List.getElem_toArray, List.getElem_cons_zero, List.getElem_cons_succ, List.setIfInBounds_toArray, List.set_cons_zero, List.set_cons_succ]
  refine wpAnyE_takeF (i := 11) (v := ?_) rfl (by kernel_rfl) (by kernel_rfl) (by kernel_rfl) (by kernel_rfl) (fun _ _ _ h => h) (Or.inl ⟨by rfl, ?_⟩) hS0 ?_
  rotate_left
  · intro W _; go_simp; try with_reducible rfl
  try simp only [Act.put, List.getElem_toArray, List.getElem_cons_zero, List.getElem_cons_succ, List.setIfInBounds_toArray, List.set_cons_zero, List.set_cons_succ]
  refine wpAnyE_ready (rs := [12]) (by kernel_rfl) (by simp) ?_
  refine AllReadyE.last rfl (by kernel_rfl) (fun K hK => ?_) AllReadyE.nil
  simp only [if_pos, Region.wanted]
  refine store1z_op 87 (.tmp 19) (.tmp 13) rfl c 2 (v2 g') rfl rfl 89 (cV 2 1 (v1 g) (v2 g') 0) (cV 2 1 (v2 g') (v2 g') 0) hS0.1 (by kernel_rfl) (by simp) rfl rfl rfl ?_
  intro y1 hB12 hG12 hs12
  have HC2 := Lib.hid hB12; have HG2 : Hid (w.grownBy y1 (some c)) := grownBy_trans (below_grownBy hS0.2) hG12
  refine hK.out _ _ ?_
  clear hK K
  try simp only [Act.put, List.getElem_toArray, List.getElem_cons_zero, List.getElem_cons_succ, List.setIfInBounds_toArray, List.set_cons_zero, List.set_cons_succ]
  refine wpAny_of_held (S := fun _ => True) _ _ _ _ ?_
  refine wpAnyH_take (i := 13) (v := ?_) rfl (by kernel_rfl) (by kernel_rfl) (by kernel_rfl) (fun _ _ _ h => h) (Or.inl ⟨by rfl, ?_⟩) trivial ?_
  rotate_left
  · intro W _; go_simp; try with_reducible rfl
  try simp only [Act.put, List.getElem_toArray, List.getElem_cons_zero, List.getElem_cons_succ, List.setIfInBounds_toArray, List.set_cons_zero, List.set_cons_succ]
  refine wpAnyH_take (i := 14) (v := ?_) rfl (by kernel_rfl) (by kernel_rfl) (by kernel_rfl) (fun _ _ _ h => h) (Or.inl ⟨by rfl, ?_⟩) trivial ?_
  rotate_left
  · intro W _; go_simp; try with_reducible rfl
  try simp only [Act.put, List.getElem_toArray, List.getElem_cons_zero, List.getElem_cons_succ, List.setIfInBounds_toArray, List.set_cons_zero, List.set_cons_succ]
  refine wpAnyH_ready (rs := [15]) (by kernel_rfl) (by simp) ?_
  refine AllReadyH.cons rfl (fun K hK => ?_) AllReadyH.nil
  simp only [if_pos, Region.wanted]
  refine store1z_op 87 (.tmp 21) (.tmp 17) rfl c 3 (v1 g) rfl rfl 89 (cV 2 1 (v2 g') (v2 g') 0) (cV 2 1 (v2 g') (v1 g) 0) HC2.out (by kernel_rfl) (by simp) rfl rfl rfl ?_
  intro y2 hB15 hG15 hs15
  have HC3 := Lib.hid hB15; have HG3 := Lib.hid (grownBy_trans HG2.out hG15)
  refine hK.out _ _ (trivial) (fun _ => ?_)
  clear hK K
  try simp only [Act.put, List.getElem_toArray, List.getElem_cons_zero, List.getElem_cons_succ, List.setIfInBounds_toArray, List.set_cons_zero, List.set_cons_succ]
  refine wpAnyH_done (by kernel_rfl) ?_ _
  clear HC0 HG2 HC2
  obtain ⟨w3, hw3⟩ : ∃ W, W = y2 := ⟨_, rfl⟩
  rw [← hw3] at HC3 HG3 ⊢
  clear hw3
  have d1 : w3.cell? ⟨c, 1, none⟩ = some (.int .i64 1) := HC3.out.cellAt 1
  go_wp2_with ((with_reducible refine store1_bk rfl 3 (.tmp 28) (.tmp 26) rfl c 1 (.int .i64 2) rfl rfl 89 (cV 2 1 (v2 g') (v1 g) 0) (cV 2 2 (v2 g') (v1 g) 0) HC3.out (by kernel_rfl) (by simp) rfl rfl rfl ?_); intro w4 hB hG hs; have HC4 := Lib.hid hB; have HG4 := Lib.hid (grownBy_trans HG3.out hG); clear hB hG hs HC3 HG3 d1)
  go_ret
  exact ⟨⟨rfl, HC4.out⟩, HG4.out⟩
set_option maxHeartbeats 12800000 in
set_option maxRecDepth 100000 in
theorem cutover_z (c g g' : Nat) (w : World) (hc : Bk w c 89 (cV 2 1 (v1 g) (v2 g') 0)) : Calls Tryz.prog 80 #[.pointer (some ⟨c, 0, none⟩)] w fun e w' => (e = .returned (.int .i64 0) ∧ Bk w' c 89 (cV 3 2 (v2 g') (v1 g) 0)) ∧ w.grownBy w' (some c) := by
  have K := Lib.hid (takeOver_z c g g' w hc)
  clear hc
  go_enter Tryz.func80, Tryz.ntmps80
  go_wp2_with fail
  refine K.out.mono ?_
  rintro e w1 ⟨⟨rfl, hB⟩, hG⟩
  have HC1 := Lib.hid hB; have HG1 := Lib.hid hG
  clear hB hG K
  go_wp2_with ((with_reducible refine store1_bk rfl 3 (.tmp 11) (.const (.int .i64 3)) rfl c 0 (.int .i64 3) rfl rfl 89 (cV 2 2 (v2 g') (v1 g) 0) (cV 3 2 (v2 g') (v1 g) 0) HC1.out (by kernel_rfl) (by simp) rfl rfl rfl ?_); intro w2 hB hG hs; have HC2 := Lib.hid hB; have HG2 := Lib.hid (grownBy_trans HG1.out hG); clear hB hG hs HC1 HG1)
  go_ret
  exact ⟨⟨rfl, HC2.out⟩, HG2.out⟩
set_option maxHeartbeats 12800000 in
set_option maxRecDepth 100000 in
theorem command1_z (c g : Nat) (w : World) (hc : Bk w c 89 (cV 1 1 (v1 g) .nilIface 0)) (hz : Z1 w g) (hgc : g < c) : Calls Tryz.prog 34 #[.pointer (some ⟨c, 0, none⟩), .int .i64 1] w fun e w' => (∃ g', e = .returned (.int .i64 0) ∧ c < g' ∧ Z1 w' g ∧ Bk w' c 89 (cV 2 1 (v1 g) (v2 g') 0)) ∧ w.grownBy w' (some c) := by
  have K1 := Lib.hid (isNone_z c _ _ _ _ _ _ w hc)
  have HC0 := Lib.hid hc
  have KP := Lib.hid (fun (W : World) (hb : Below w.heap.size w W) (h : Bk W c 89 (cV 1 1 (v1 g) .nilIface 0)) => prepare_z c g W h (hz.later hb) hgc)
  clear hc hz hgc
  go_enter Tryz.func34, Tryz.ntmps34
  go_wp2_with fail
  refine K1.out.mono ?_
  rintro e w1 ⟨rfl, hb1⟩
  have HC1 := Lib.hid (HC0.out.later hb1)
  have Hb1 := Lib.hid hb1
  have d0 : w1.cell? ⟨c, 0, none⟩ = some (.int .i64 1) := HC1.out.cellAt 0
  clear hb1 K1 HC0 d0
  go_wp2_with fail
  refine wp_region_held_drew (S := fun W => Bk W c 89 (cV 1 1 (v1 g) .nilIface 0) ∧ Below w.heap.size w W) (by kernel_rfl) (⟨HC1.out.drewB, Below.drew Hb1.out⟩) (fun hS0 => ?_)
  refine wpAnyH_take (i := 0) (v := ?_) rfl (by kernel_rfl) (by kernel_rfl) (by kernel_rfl) (fun _ _ _ h => h) (Or.inl ⟨by rfl, ?_⟩) hS0 ?_
  rotate_left
  · intro W _; go_simp; try with_reducible rfl
  try simp only [Act.put, List.getElem_toArray, List.getElem_cons_zero, List.setIfInBounds_toArray, List.set_cons_zero, List.set_cons_succ]
  refine wpAnyH_take (i := 1) (v := ?_) rfl (by kernel_rfl) (by kernel_rfl) (by kernel_rfl) (fun _ _ _ h => h) (Or.inl ⟨by rfl, ?_⟩) hS0 ?_
  rotate_left
  · intro W _; go_simp; try with_reducible rfl
  try simp only [Act.put, List.getElem_toArray, List.getElem_cons_zero, List.getElem_cons_succ, List.setIfInBounds_toArray, List.set_cons_zero, List.set_cons_succ]
  refine wpAnyH_take (i := 2) (v := ?_) rfl (by kernel_rfl) (by kernel_rfl) (by kernel_rfl) (fun _ _ _ h => h) (Or.inl ⟨by rfl, ?_⟩) hS0 ?_
  rotate_left
  · intro W _; go_simp; try with_reducible rfl
  try simp only [Act.put, List.getElem_toArray, List.getElem_cons_zero, List.getElem_cons_succ, List.setIfInBounds_toArray, List.set_cons_zero, List.set_cons_succ]
  refine wpAnyH_take (i := 3) (v := ?_) rfl (by kernel_rfl) (by kernel_rfl) (by kernel_rfl) (fun _ _ _ h => h) (Or.inl ⟨by rfl, ?_⟩) hS0 ?_
  rotate_left
  · intro W hSW; have hx := hSW.1.cellAt 0; go_simp; try with_reducible rfl
  try simp only [Act.put, List.getElem_toArray, List.getElem_cons_zero, List.getElem_cons_succ, List.setIfInBounds_toArray, List.set_cons_zero, List.set_cons_succ]
  refine wpAnyH_take (i := 4) (v := ?_) rfl (by kernel_rfl) (by kernel_rfl) (by kernel_rfl) (fun _ _ _ h => h) (Or.inl ⟨by rfl, ?_⟩) hS0 ?_
  rotate_left
  · intro W _; go_simp; try with_reducible rfl
  try simp only [Act.put, List.getElem_toArray, List.getElem_cons_zero, List.getElem_cons_succ, List.setIfInBounds_toArray, List.set_cons_zero, List.set_cons_succ]
  refine wpAnyH_ready (rs := [5]) (by kernel_rfl) (by simp) ?_
  refine AllReadyH.cons rfl (fun K hK => ?_) AllReadyH.nil
  go_simp
  refine (phase1_z _).mono ?_
  rintro e y2 ⟨rfl, hb2⟩
  go_simp
  refine hK.out _ _ (⟨hS0.1.later hb2, bclose hS0.2 hb2⟩) (fun hS1 => ?_)
  clear hK K
  try simp only [Act.put, List.getElem_toArray, List.getElem_cons_zero, List.getElem_cons_succ, List.setIfInBounds_toArray, List.set_cons_zero, List.set_cons_succ]
  refine wpAnyH_take (i := 6) (v := ?_) rfl (by kernel_rfl) (by kernel_rfl) (by kernel_rfl) (fun _ _ _ h => h) (Or.inl ⟨by rfl, ?_⟩) hS1 ?_
  rotate_left
  · intro W _; go_simp; try with_reducible rfl
  try simp only [Act.put, List.getElem_toArray, List.getElem_cons_zero, List.getElem_cons_succ, List.setIfInBounds_toArray, List.set_cons_zero, List.set_cons_succ]
  refine wpAnyH_take (i := 7) (v := ?_) rfl (by kernel_rfl) (by kernel_rfl) (by kernel_rfl) (fun _ _ _ h => h) (Or.inl ⟨by rfl, ?_⟩) hS1 ?_
  rotate_left
  · intro W _; go_simp; try with_reducible rfl
  try simp only [Act.put, List.getElem_toArray, List.getElem_cons_zero, List.getElem_cons_succ, List.setIfInBounds_toArray, List.set_cons_zero, List.set_cons_succ]
  refine wpAnyH_done (by kernel_rfl) ?_ _
  have HF := Lib.hid hS1
  have HC2 := Lib.hid HF.out.1
  have Hb2 := Lib.hid HF.out.2
  clear HF HC1 Hb1
  go_wp2_with fail
  refine (KP.out _ Hb2.out HC2.out).mono ?_
  rintro e w3 ⟨⟨g', rfl, hg, hZ, hB⟩, hG⟩
  have HE : Hid (c < g' ∧ Z1 w3 g ∧ Bk w3 c 89 (cV 2 1 (v1 g) (v2 g') 0)) := ⟨hg, hZ, hB⟩
  have HG := Lib.hid (grownBy_trans (below_grownBy Hb2.out) hG)
  clear hg hZ hB hG
  go_wp2_with fail
  go_ret
  exact ⟨⟨g', rfl, HE.out⟩, HG.out⟩
set_option maxHeartbeats 12800000 in
set_option maxRecDepth 100000 in
theorem command2_z (c g g' : Nat) (w : World) (hc : Bk w c 89 (cV 2 1 (v1 g) (v2 g') 0)) : Calls Tryz.prog 34 #[.pointer (some ⟨c, 0, none⟩), .int .i64 2] w fun e w' => (e = .returned (.int .i64 0) ∧ Bk w' c 89 (cV 3 2 (v2 g') (v1 g) 0)) ∧ w.grownBy w' (some c) := by
  have K1 := Lib.hid (isNone_z c _ _ _ _ _ _ w hc)
  have HC0 := Lib.hid hc
  have KP := Lib.hid (fun (W : World) (hb : Below w.heap.size w W) (h : Bk W c 89 (cV 2 1 (v1 g) (v2 g') 0)) => cutover_z c g g' W h)
  clear hc
  go_enter Tryz.func34, Tryz.ntmps34
  go_wp2_with fail
  refine K1.out.mono ?_
  rintro e w1 ⟨rfl, hb1⟩
  have HC1 := Lib.hid (HC0.out.later hb1)
  have Hb1 := Lib.hid hb1
  have d0 : w1.cell? ⟨c, 0, none⟩ = some (.int .i64 2) := HC1.out.cellAt 0
  clear hb1 K1 HC0 d0
  go_wp2_with fail
  refine wp_region_held_drew (S := fun W => Bk W c 89 (cV 2 1 (v1 g) (v2 g') 0) ∧ Below w.heap.size w W) (by kernel_rfl) (⟨HC1.out.drewB, Below.drew Hb1.out⟩) (fun hS0 => ?_)
  refine wpAnyH_take (i := 0) (v := ?_) rfl (by kernel_rfl) (by kernel_rfl) (by kernel_rfl) (fun _ _ _ h => h) (Or.inl ⟨by rfl, ?_⟩) hS0 ?_
  rotate_left
  · intro W _; go_simp; try with_reducible rfl
  try simp only [Act.put, List.getElem_toArray, List.getElem_cons_zero, List.setIfInBounds_toArray, List.set_cons_zero, List.set_cons_succ]
  refine wpAnyH_take (i := 1) (v := ?_) rfl (by kernel_rfl) (by kernel_rfl) (by kernel_rfl) (fun _ _ _ h => h) (Or.inl ⟨by rfl, ?_⟩) hS0 ?_
  rotate_left
  · intro W _; go_simp; try with_reducible rfl
  try simp only [Act.put, List.getElem_toArray, List.getElem_cons_zero, List.getElem_cons_succ, List.setIfInBounds_toArray, List.set_cons_zero, List.set_cons_succ]
  refine wpAnyH_take (i := 2) (v := ?_) rfl (by kernel_rfl) (by kernel_rfl) (by kernel_rfl) (fun _ _ _ h => h) (Or.inl ⟨by rfl, ?_⟩) hS0 ?_
  rotate_left
  · intro W _; go_simp; try with_reducible rfl
  try simp only [Act.put, List.getElem_toArray, List.getElem_cons_zero, List.getElem_cons_succ, List.setIfInBounds_toArray, List.set_cons_zero, List.set_cons_succ]
  refine wpAnyH_take (i := 3) (v := ?_) rfl (by kernel_rfl) (by kernel_rfl) (by kernel_rfl) (fun _ _ _ h => h) (Or.inl ⟨by rfl, ?_⟩) hS0 ?_
  rotate_left
  · intro W hSW; have hx := hSW.1.cellAt 0; go_simp; try with_reducible rfl
  try simp only [Act.put, List.getElem_toArray, List.getElem_cons_zero, List.getElem_cons_succ, List.setIfInBounds_toArray, List.set_cons_zero, List.set_cons_succ]
  refine wpAnyH_take (i := 4) (v := ?_) rfl (by kernel_rfl) (by kernel_rfl) (by kernel_rfl) (fun _ _ _ h => h) (Or.inl ⟨by rfl, ?_⟩) hS0 ?_
  rotate_left
  · intro W _; go_simp; try with_reducible rfl
  try simp only [Act.put, List.getElem_toArray, List.getElem_cons_zero, List.getElem_cons_succ, List.setIfInBounds_toArray, List.set_cons_zero, List.set_cons_succ]
  refine wpAnyH_ready (rs := [5]) (by kernel_rfl) (by simp) ?_
  refine AllReadyH.cons rfl (fun K hK => ?_) AllReadyH.nil
  go_simp
  refine (phase2_z _).mono ?_
  rintro e y2 ⟨rfl, hb2⟩
  go_simp
  refine hK.out _ _ (⟨hS0.1.later hb2, bclose hS0.2 hb2⟩) (fun hS1 => ?_)
  clear hK K
  try simp only [Act.put, List.getElem_toArray, List.getElem_cons_zero, List.getElem_cons_succ, List.setIfInBounds_toArray, List.set_cons_zero, List.set_cons_succ]
  refine wpAnyH_take (i := 6) (v := ?_) rfl (by kernel_rfl) (by kernel_rfl) (by kernel_rfl) (fun _ _ _ h => h) (Or.inl ⟨by rfl, ?_⟩) hS1 ?_
  rotate_left
  · intro W _; go_simp; try with_reducible rfl
  try simp only [Act.put, List.getElem_toArray, List.getElem_cons_zero, List.getElem_cons_succ, List.setIfInBounds_toArray, List.set_cons_zero, List.set_cons_succ]
  refine wpAnyH_take (i := 7) (v := ?_) rfl (by kernel_rfl) (by kernel_rfl) (by kernel_rfl) (fun _ _ _ h => h) (Or.inl ⟨by rfl, ?_⟩) hS1 ?_
  rotate_left
  · intro W _; go_simp; try with_reducible rfl
  try simp only [Act.put, List.getElem_toArray, List.getElem_cons_zero, List.getElem_cons_succ, List.setIfInBounds_toArray, List.set_cons_zero, List.set_cons_succ]
  refine wpAnyH_done (by kernel_rfl) ?_ _
  have HF := Lib.hid hS1
  have HC2 := Lib.hid HF.out.1
  have Hb2 := Lib.hid HF.out.2
  clear HF HC1 Hb1
  go_wp2_with fail
  refine (KP.out _ Hb2.out HC2.out).mono ?_
  rintro e w3 ⟨⟨rfl, hB⟩, hG⟩
  have HE := Lib.hid hB
  have HG := Lib.hid (grownBy_trans (below_grownBy Hb2.out) hG)
  clear hB hG
  go_wp2_with fail
  go_ret
  exact ⟨⟨rfl, HE.out⟩, HG.out⟩
set_option maxHeartbeats 12800000 in
set_option maxRecDepth 100000 in
theorem num2_z (g : Nat) (w : World) : Calls Tryz.prog 524 #[.agg #[.pointer (some ⟨g, 0, none⟩)]] w fun e w' => e = .returned (.int .i64 2) ∧ Below w.heap.size w w' := by
  go_enter Tryz.func524, Tryz.ntmps524
  go_wp2
  go_ret
  exact ⟨rfl, (Below.refl _ _).alloc (Nat.le_refl _) _⟩
set_option maxHeartbeats 12800000 in
set_option maxRecDepth 100000 in
theorem where_z (c g g' : Nat) (w : World) (hc : Bk w c 89 (cV 3 2 (v2 g') (v1 g) 0)) : Calls Tryz.prog 44 #[.pointer (some ⟨c, 0, none⟩)] w fun e w' => e = .returned (.tuple #[.int .i64 3, .int .i64 2, .int .i64 2]) ∧ Below w.heap.size w w' := by
  have K1 := Lib.hid (isNone_z c _ _ _ _ _ _ w hc)
  have HC0 := Lib.hid hc
  clear hc
  go_enter Tryz.func44, Tryz.ntmps44
  go_wp2_with fail
  refine K1.out.mono ?_
  rintro e w1 ⟨rfl, hb1⟩
  have HC1 := Lib.hid (HC0.out.later hb1)
  have Hb1 := Lib.hid hb1
  clear hb1 K1 HC0
  go_wp2_with fail
  refine wp_region_held_drew (S := fun W => Bk W c 89 (cV 3 2 (v2 g') (v1 g) 0) ∧ Below w.heap.size w W) (by kernel_rfl) (⟨HC1.out.drewB, Below.drew Hb1.out⟩) (fun hS0 => ?_)
  refine wpAnyH_take (i := 0) (v := ?_) rfl (by kernel_rfl) (by kernel_rfl) (by kernel_rfl) (fun _ _ _ h => h) (Or.inl ⟨by rfl, ?_⟩) hS0 ?_
  rotate_left
  · intro W _; go_simp; try with_reducible rfl
  try simp only [Act.put, List.getElem_toArray, List.getElem_cons_zero, List.setIfInBounds_toArray, List.set_cons_zero, List.set_cons_succ]
  refine wpAnyH_take (i := 1) (v := ?_) rfl (by kernel_rfl) (by kernel_rfl) (by kernel_rfl) (fun _ _ _ h => h) (Or.inl ⟨by rfl, ?_⟩) hS0 ?_
  rotate_left
  · intro W _; go_simp; try with_reducible rfl
  try simp only [Act.put, List.getElem_toArray, List.getElem_cons_zero, List.getElem_cons_succ, List.setIfInBounds_toArray, List.set_cons_zero, List.set_cons_succ]
  refine wpAnyH_take (i := 2) (v := ?_) rfl (by kernel_rfl) (by kernel_rfl) (by kernel_rfl) (fun _ _ _ h => h) (Or.inl ⟨by rfl, ?_⟩) hS0 ?_
  rotate_left
  · intro W _; go_simp; try with_reducible rfl
  try simp only [Act.put, List.getElem_toArray, List.getElem_cons_zero, List.getElem_cons_succ, List.setIfInBounds_toArray, List.set_cons_zero, List.set_cons_succ]
  refine wpAnyH_take (i := 3) (v := ?_) rfl (by kernel_rfl) (by kernel_rfl) (by kernel_rfl) (fun _ _ _ h => h) (Or.inl ⟨by rfl, ?_⟩) hS0 ?_
  rotate_left
  · intro W hSW; have hx := hSW.1.cellAt 0; go_simp; try with_reducible rfl
  try simp only [Act.put, List.getElem_toArray, List.getElem_cons_zero, List.getElem_cons_succ, List.setIfInBounds_toArray, List.set_cons_zero, List.set_cons_succ]
  refine wpAnyH_take (i := 4) (v := ?_) rfl (by kernel_rfl) (by kernel_rfl) (by kernel_rfl) (fun _ _ _ h => h) (Or.inl ⟨by rfl, ?_⟩) hS0 ?_
  rotate_left
  · intro W _; go_simp; try with_reducible rfl
  try simp only [Act.put, List.getElem_toArray, List.getElem_cons_zero, List.getElem_cons_succ, List.setIfInBounds_toArray, List.set_cons_zero, List.set_cons_succ]
  refine wpAnyH_take (i := 5) (v := ?_) rfl (by kernel_rfl) (by kernel_rfl) (by kernel_rfl) (fun _ _ _ h => h) (Or.inl ⟨by rfl, ?_⟩) hS0 ?_
  rotate_left
  · intro W _; go_simp; try with_reducible rfl
  try simp only [Act.put, List.getElem_toArray, List.getElem_cons_zero, List.getElem_cons_succ, List.setIfInBounds_toArray, List.set_cons_zero, List.set_cons_succ]
  refine wpAnyH_take (i := 6) (v := ?_) rfl (by kernel_rfl) (by kernel_rfl) (by kernel_rfl) (fun _ _ _ h => h) (Or.inl ⟨by rfl, ?_⟩) hS0 ?_
  rotate_left
  · intro W _; go_simp; try with_reducible rfl
  try simp only [Act.put, List.getElem_toArray, List.getElem_cons_zero, List.getElem_cons_succ, List.setIfInBounds_toArray, List.set_cons_zero, List.set_cons_succ]
  refine wpAnyH_take (i := 7) (v := ?_) rfl (by kernel_rfl) (by kernel_rfl) (by kernel_rfl) (fun _ _ _ h => h) (Or.inl ⟨by rfl, ?_⟩) hS0 ?_
  rotate_left
  · intro W hSW; have hx := hSW.1.cellAt 2; go_simp; try with_reducible rfl
  try simp only [Act.put, List.getElem_toArray, List.getElem_cons_zero, List.getElem_cons_succ, List.setIfInBounds_toArray, List.set_cons_zero, List.set_cons_succ]
  refine wpAnyH_take (i := 9) (v := ?_) rfl (by kernel_rfl) (by kernel_rfl) (by kernel_rfl) (fun _ _ _ h => h) (Or.inl ⟨by rfl, ?_⟩) hS0 ?_
  rotate_left
  · intro W _; go_simp; try with_reducible rfl
  try simp only [Act.put, List.getElem_toArray, List.getElem_cons_zero, List.getElem_cons_succ, List.setIfInBounds_toArray, List.set_cons_zero, List.set_cons_succ]
  refine wpAnyH_take (i := 10) (v := ?_) rfl (by kernel_rfl) (by kernel_rfl) (by kernel_rfl) (fun _ _ _ h => h) (Or.inl ⟨by rfl, ?_⟩) hS0 ?_
  rotate_left
  · intro W _; go_simp; try with_reducible rfl
  try simp only [Act.put, List.getElem_toArray, List.getElem_cons_zero, List.getElem_cons_succ, List.setIfInBounds_toArray, List.set_cons_zero, List.set_cons_succ]
  refine wpAnyH_take (i := 11) (v := ?_) rfl (by kernel_rfl) (by kernel_rfl) (by kernel_rfl) (fun _ _ _ h => h) (Or.inl ⟨by rfl, ?_⟩) hS0 ?_
  rotate_left
  · intro W _; go_simp; try with_reducible rfl
  try simp only [Act.put, List.getElem_toArray, List.getElem_cons_zero, List.getElem_cons_succ, List.setIfInBounds_toArray, List.set_cons_zero, List.set_cons_succ]
  refine wpAnyH_take (i := 12) (v := ?_) rfl (by kernel_rfl) (by kernel_rfl) (by kernel_rfl) (fun _ _ _ h => h) (Or.inl ⟨by rfl, ?_⟩) hS0 ?_
  rotate_left
  · intro W hSW; have hx := hSW.1.cellAt 1; go_simp; try with_reducible rfl
  try simp only [Act.put, List.getElem_toArray, List.getElem_cons_zero, List.getElem_cons_succ, List.setIfInBounds_toArray, List.set_cons_zero, List.set_cons_succ]
  refine wpAnyH_ready (rs := [8]) (by kernel_rfl) (by simp) ?_
  refine AllReadyH.cons rfl (fun K hK => ?_) AllReadyH.nil
  go_simp
  go_invoke
  go_simp
  refine (num2_z g' _).mono ?_
  rintro e y1 ⟨rfl, hb1⟩
  go_simp
  refine hK.out _ _ (⟨hS0.1.later hb1, bclose hS0.2 hb1⟩) (fun hS1 => ?_)
  clear hK K
  try simp only [Act.put, List.getElem_toArray, List.getElem_cons_zero, List.getElem_cons_succ, List.setIfInBounds_toArray, List.set_cons_zero, List.set_cons_succ]
  refine wpAnyH_take (i := 13) (v := ?_) rfl (by kernel_rfl) (by kernel_rfl) (by kernel_rfl) (fun _ _ _ h => h) (Or.inl ⟨by rfl, ?_⟩) hS1 ?_
  rotate_left
  · intro W _; go_simp; try with_reducible rfl
  try simp only [Act.put, List.getElem_toArray, List.getElem_cons_zero, List.getElem_cons_succ, List.setIfInBounds_toArray, List.set_cons_zero, List.set_cons_succ]
  refine wpAnyH_take (i := 14) (v := ?_) rfl (by kernel_rfl) (by kernel_rfl) (by kernel_rfl) (fun _ _ _ h => h) (Or.inl ⟨by rfl, ?_⟩) hS1 ?_
  rotate_left
  · intro W _; go_simp; try with_reducible rfl
  try simp only [Act.put, List.getElem_toArray, List.getElem_cons_zero, List.getElem_cons_succ, List.setIfInBounds_toArray, List.set_cons_zero, List.set_cons_succ]
  refine wpAnyH_take (i := 15) (v := ?_) rfl (by kernel_rfl) (by kernel_rfl) (by kernel_rfl) (fun _ _ _ h => h) (Or.inl ⟨by rfl, ?_⟩) hS1 ?_
  rotate_left
  · intro W _; go_simp; try with_reducible rfl
  try simp only [Act.put, List.getElem_toArray, List.getElem_cons_zero, List.getElem_cons_succ, List.setIfInBounds_toArray, List.set_cons_zero, List.set_cons_succ]
  refine wpAnyH_done (by kernel_rfl) ?_ _
  have HF := Lib.hid hS1
  go_wp2_with fail
  first | go_ret | go_ret3 | go_returns
  exact ⟨rfl, HF.out.2⟩
/-- The zero operation. -/
def ozZ : Oz := ⟨Ov.zero, none, 0, 0, none, 0, 0⟩
theorem ozZ_ok (w : World) : OzOk w ozZ := ⟨LbOk.nil w, LbOk.nil w, by decide, by decide, by decide, by decide, by decide, by decide, by decide⟩
theorem ozZ_B : opB ozZ.v = false := by kernel_rfl
set_option maxHeartbeats 12800000 in
set_option maxRecDepth 100000 in
theorem g2do_z (p : Nat) (w : World) : Calls Tryz.prog 28 #[.pointer (some ⟨p, 0, none⟩), .agg ozZ.arr] w fun e w' => e = .returned (.agg #[.int .i64 1, .slice none 0 0]) ∧ Below w.heap.size w w' := by
  obtain ⟨W0, hW0⟩ : ∃ W0, W0 = (w.alloc (.cells ozZ.arr 59)).alloc (.cells #[.int .i64 0, .slice none 0 0] 47) := ⟨_, rfl⟩
  have HO0 : Hid (Bk W0 w.heap.size 59 ozZ.arr) := by rw [hW0]; exact (Bk.fresh w _ _).later ((Below.refl _ _).alloc (Nat.le_refl _) _)
  have HA0 : Hid (Bk W0 (w.heap.size + 1) 47 #[.int .i64 0, .slice none 0 0]) := by rw [hW0]; exact Bk.freshAt _ _ _ (by simp)
  have Hb0 : Hid (Below w.heap.size w W0) := by rw [hW0]; exact ((Below.refl _ _).alloc (Nat.le_refl _) _).alloc (by simp) _
  subst hW0
  go_enter Tryz.func28, Tryz.ntmps28
  go_wp2_with (with_reducible refine load_bk rfl 59 _ rfl w.heap.size 0 rfl 59 ozZ.arr ozZ.arr _ HO0.out (Part.whole _) Tryz.underlying59 rfl (by kernel_rfl) ?_)
  refine (ozRight_any ozZ _ (ozZ_ok _)).mono ?_
  rintro e w1 ⟨rfl, hb1⟩
  rw [ozZ_B]
  have HA1 := Lib.hid (HA0.out.later hb1)
  have Hb1 := Lib.hid (bclose Hb0.out hb1)
  clear hb1 HO0 HA0 Hb0
  go_wp2_with ((with_reducible refine store_bk rfl 47 (.tmp 4) (.tmp 14) rfl (w.heap.size + 1) 0 #[.int .i64 1, .slice none 0 0] rfl rfl 47 _ #[.int .i64 1, .slice none 0 0] HA1.out (by kernel_rfl) (by simp) (by kernel_rfl) rfl ?_); intro w2 hB2 hg2 hs2)
  exact bodyPost_ret (v := .agg #[.int .i64 1, .slice none 0 0]) (results_bk1 Tryz.results28 _ _ (w.heap.size + 1) 47 _ _ rfl hB2 Tryz.underlying47 rfl (by kernel_rfl)) rfl ⟨rfl, Hb1.out.grown hg2 Hb1.out.size (fun q e => by injection e with e; omega)⟩
set_option maxHeartbeats 12800000 in
set_option maxRecDepth 100000 in
theorem g1do_z (g : Nat) (w : World) (h : Z1 w g) : Calls Tryz.prog 24 #[.pointer (some ⟨g, 0, none⟩), .agg ozZ.arr] w fun e w' => (∃ A c, e = .returned (.agg #[.int .i64 1, .slice A 0 c])) ∧ GrP (fun q => q = g) w w' := by
  have h1 := do_any g g _ _ _ Sg.new ozZ (Sg.new, 7, []) w (Lib.hid ⟨0, h⟩) (Lib.hid (ozZ_ok w)) (fun hB => by rw [ozZ_B] at hB; cases hB)
  rw [ozZ_B] at h1
  refine h1.mono ?_
  rintro e w' ⟨⟨A, n, c, rfl, hR⟩, hW⟩
  obtain ⟨hn, -⟩ := hR
  have hn : n = 0 := hn
  subst hn
  obtain ⟨_, _, _, _, _, _, _, h3, _⟩ := hW
  exact ⟨⟨A, c, rfl⟩, h3.wide fun k _ hk => by rcases hk with rfl | hk; rfl; exact (blkS_new hk).elim⟩
set_option maxHeartbeats 12800000 in
set_option maxRecDepth 100000 in
theorem eqA_z (A : Option Addr) (a : Nat) (B : Option Addr) (b : Nat) (w : World) : Calls Tryz.prog 184 #[.slice A 0 a, .slice B 0 b] w fun e w' => e = .returned (.bool true) ∧ Below w.heap.size w w' := by
  go_enter Tryz.func184, Tryz.ntmps184
  go_wp2_with fail
  refine wp_loop_rounds 1 ?_
  rw [rounds_succ]
  go_wp2_with fail
  go_ret
  exact ⟨rfl, Below.refl _ _⟩
set_option maxHeartbeats 12800000 in
set_option maxRecDepth 100000 in
theorem osame_z (k : Int) (A : Option Addr) (a : Nat) (B : Option Addr) (b : Nat) (w : World) : Calls Tryz.prog 83 #[.agg #[.int .i64 k, .slice A 0 a], .agg #[.int .i64 k, .slice B 0 b]] w fun e w' => e = .returned (.bool true) ∧ Below w.heap.size w w' := by
  go_enter Tryz.func83, Tryz.ntmps83
  go_wp2_with fail
  refine (eqA_z A a B b _).mono ?_
  rintro e w1 ⟨rfl, hb1⟩
  have Hb1 : Hid (Below w.heap.size w w1) := bclose (((Below.refl _ _).alloc (Nat.le_refl _) _).alloc (by simp) _) hb1
  clear hb1
  go_wp2_with fail
  go_ret
  exact ⟨rfl, Hb1.out⟩
set_option maxHeartbeats 12800000 in
set_option maxRecDepth 100000 in
theorem hdo_z (c g g' : Nat) (w : World) (hc : Bk w c 89 (cV 3 2 (v2 g') (v1 g) 0)) (hz : Z1 w g) (hcg : g < c) : Calls Tryz.prog 36 #[.pointer (some ⟨c, 0, none⟩), .agg ozZ.arr] w fun e w' => (e = .returned (.agg #[.int .i64 1, .slice none 0 0]) ∧ Bk w' c 89 (cV 3 2 (v2 g') (v1 g) 0)) ∧ GrP (fun q => q = g) w w' := by
  have KN := Lib.hid (fun W (hb : Below w.heap.size w W) => isNone_z c _ _ _ _ _ _ W (hc.later hb))
  have HLT : Hid (g < c ∧ c < w.heap.size) := ⟨hcg, hc.here⟩
  obtain ⟨W0, hW0⟩ : ∃ W0, W0 = (w.alloc (.cells ozZ.arr 59)).alloc (.cells #[.int .i64 0, .slice none 0 0] 47) := ⟨_, rfl⟩
  have HO0 : Hid (Bk W0 w.heap.size 59 ozZ.arr) := by rw [hW0]; exact (Bk.fresh w _ _).later ((Below.refl _ _).alloc (Nat.le_refl _) _)
  have HR0 : Hid (Bk W0 (w.heap.size + 1) 47 #[.int .i64 0, .slice none 0 0]) := by rw [hW0]; exact Bk.freshAt _ _ _ (by simp)
  have Hb0 : Hid (Below w.heap.size w W0) := by rw [hW0]; exact ((Below.refl _ _).alloc (Nat.le_refl _) _).alloc (by simp) _
  have HC0 := Lib.hid (hc.later Hb0.out); have HZ0 := Lib.hid (hz.later Hb0.out)
  clear hc hz hcg
  subst hW0
  go_enter Tryz.func36, Tryz.ntmps36
  go_wp2_with fail
  refine (KN.out _ Hb0.out).mono ?_
  rintro e w1 ⟨rfl, hb1⟩
  have HO1 := Lib.hid (HO0.out.later hb1); have HR1 := Lib.hid (HR0.out.later hb1); have HC1 := Lib.hid (HC0.out.later hb1); have HZ1 := Lib.hid (HZ0.out.later hb1); have Hb1 := Lib.hid (bclose Hb0.out hb1)
  clear hb1 KN HO0 HR0 HC0 HZ0 Hb0
  have d2 : w1.cell? ⟨c, 2, none⟩ = some (v2 g') := HC1.out.cellAt 2
  go_wp2_with fail
  refine wp_region_held_drew (S := fun W => Bk W c 89 (cV 3 2 (v2 g') (v1 g) 0) ∧ Bk W w.heap.size 59 ozZ.arr ∧ Bk W (w.heap.size + 1) 47 #[.int .i64 0, .slice none 0 0] ∧ Z1 W g ∧ Below w1.heap.size w1 W) (by kernel_rfl) (⟨HC1.out.drewB, HO1.out.drewB, HR1.out.drewB, HZ1.out.later (Below.drew (Below.refl _ _)), Below.drew (Below.refl _ _)⟩) (fun hS0 => ?_)
  refine wpAnyH_take (i := 0) (v := ?_) rfl (by kernel_rfl) (by kernel_rfl) (by kernel_rfl) (fun _ _ _ h => h) (Or.inl ⟨by rfl, ?_⟩) hS0 ?_
  rotate_left
  · intro W _; go_simp; try with_reducible rfl
  try simp only [Act.put, List.getElem_toArray, List.getElem_cons_zero, List.setIfInBounds_toArray, List.set_cons_zero, List.set_cons_succ]
  refine wpAnyH_take (i := 1) (v := ?_) rfl (by kernel_rfl) (by kernel_rfl) (by kernel_rfl) (fun _ _ _ h => h) (Or.inl ⟨by rfl, ?_⟩) hS0 ?_
  rotate_left
  · intro W _; go_simp; try with_reducible rfl
  try simp only [Act.put, List.getElem_toArray, List.getElem_cons_zero, List.getElem_cons_succ, List.setIfInBounds_toArray, List.set_cons_zero, List.set_cons_succ]
  refine wpAnyH_take (i := 2) (v := ?_) rfl (by kernel_rfl) (by kernel_rfl) (by kernel_rfl) (fun _ _ _ h => h) (Or.inl ⟨by rfl, ?_⟩) hS0 ?_
  rotate_left
  · intro W _; go_simp; try with_reducible rfl
  try simp only [Act.put, List.getElem_toArray, List.getElem_cons_zero, List.getElem_cons_succ, List.setIfInBounds_toArray, List.set_cons_zero, List.set_cons_succ]
  refine wpAnyH_take (i := 3) (v := ?_) rfl (by kernel_rfl) (by kernel_rfl) (by kernel_rfl) (fun _ _ _ h => h) (Or.inl ⟨by rfl, ?_⟩) hS0 ?_
  rotate_left
  · intro W hSW; have hx := hSW.1.cellAt 2; go_simp; try with_reducible rfl
  try simp only [Act.put, List.getElem_toArray, List.getElem_cons_zero, List.getElem_cons_succ, List.setIfInBounds_toArray, List.set_cons_zero, List.set_cons_succ]
  refine wpAnyH_take (i := 4) (v := .agg ozZ.arr) rfl (by kernel_rfl) (by kernel_rfl) (by kernel_rfl) (fun _ _ _ h => h) (yields_bk (by rfl) 59 _ rfl w.heap.size 0 rfl 59 ozZ.arr ozZ.arr _ (fun W hW => hW.2.1) (Part.whole _) Tryz.underlying59 rfl (by kernel_rfl)) hS0 ?_
  try simp only [Act.put, List.getElem_toArray, List.getElem_cons_zero, List.getElem_cons_succ, List.setIfInBounds_toArray, List.set_cons_zero, List.set_cons_succ]
  refine wpAnyH_ready (rs := [5, 6]) (by kernel_rfl) (by simp) ?_
  refine (AllReadyH.cons rfl (fun K hK => ?_) (AllReadyH.cons rfl (fun K hK => ?_) AllReadyH.nil))
  · go_simp
    go_invoke
    go_simp
    refine (g2do_z g' _).mono ?_
    rintro e y1 ⟨rfl, hb1⟩
    skip
    go_simp
    refine hK.out _ _ (⟨hS0.1.later hb1, hS0.2.1.later hb1, hS0.2.2.1.later hb1, hS0.2.2.2.1.later hb1, bclose hS0.2.2.2.2 hb1⟩) (fun hS1 => ?_)
    clear hK K
    try simp only [Act.put, List.getElem_toArray, List.getElem_cons_zero, List.getElem_cons_succ, List.setIfInBounds_toArray, List.set_cons_zero, List.set_cons_succ]
    refine wpAnyH_ready (rs := [6]) (by kernel_rfl) (by simp) ?_
    refine AllReadyH.cons rfl (fun K hK => ?_) AllReadyH.nil
    simp only [if_pos, Region.wanted]
    refine acellz_op rfl ?_
    intro pa ya hpa hA hb2
    have HA1 := Lib.hid hA
    have HPA : Hid (w1.heap.size ≤ pa) := by rw [hpa]; exact hS1.2.2.2.2.size
    clear hpa hA
    refine hK.out _ _ (⟨hS1.1.later hb2, hS1.2.1.later hb2, hS1.2.2.1.later hb2, hS1.2.2.2.1.later hb2, bclose hS1.2.2.2.2 hb2⟩) (fun hS2 => ?_)
    clear hK K
    try simp only [Act.put, List.getElem_toArray, List.getElem_cons_zero, List.getElem_cons_succ, List.setIfInBounds_toArray, List.set_cons_zero, List.set_cons_succ]
    refine wpAnyH_ready (rs := [7]) (by kernel_rfl) (by simp) ?_
    refine AllReadyH.cons rfl (fun K hK => ?_) AllReadyH.nil
    simp only [if_pos, Region.wanted]
    refine store_bk_op 47 (.tmp 5) (.tmp 14) rfl pa 0 #[.int .i64 1, .slice none 0 0] rfl rfl 47 #[.int .i64 0, .slice none 0 0] #[.int .i64 1, .slice none 0 0] HA1.out (by kernel_rfl) (by simp) (by kernel_rfl) rfl ?_
    intro w5 hX hgr hs9
    have HA5 := Lib.hid hX
    clear hX hs9 HA1
    refine hK.out _ _ (⟨hS2.1.stays hgr (by intro e; injection e with e; have h1 := HPA.out; have h2 := HLT.out; have h3 := Hb1.out.size; omega), hS2.2.1.stays hgr (by intro e; injection e with e; have h1 := HPA.out; have h2 := HR1.out.here; omega), hS2.2.2.1.stays hgr (by intro e; injection e with e; have h1 := HPA.out; have h2 := HR1.out.here; omega), hS2.2.2.2.1.grown hgr (by have h1 := HPA.out; have h2 := HLT.out; have h3 := Hb1.out.size; omega), hS2.2.2.2.2.grown hgr (Below.size hS2.2.2.2.2) (fun k e => by injection e with e; subst e; exact HPA.out)⟩) (fun hS3 => ?_)
    clear hK K
    try simp only [Act.put, List.getElem_toArray, List.getElem_cons_zero, List.getElem_cons_succ, List.setIfInBounds_toArray, List.set_cons_zero, List.set_cons_succ]
    refine wpAnyH_done (by kernel_rfl) ?_ _
    have HF3 := Lib.hid hS3
    have HNE : Hid (c ≠ g ∧ w.heap.size ≠ g ∧ pa ≠ g ∧ w.heap.size + 1 ≠ g) := by have h1 := HLT.out; have h2 := Hb1.out.size; have h3 := HPA.out; show _ ∧ _ ∧ _ ∧ _; omega
    have HC5 := Lib.hid HF3.out.1; have HO5 := Lib.hid HF3.out.2.1; have HR5 := Lib.hid HF3.out.2.2.1; have HZ4 := Lib.hid HF3.out.2.2.2.1; have Hb5 := Lib.hid (bclose Hb1.out HF3.out.2.2.2.2)
    clear HF3 HO1 HR1 HC1 HZ1 Hb1
    go_wp2_with fail
    refine wp_region_held_drew (S := fun W => Bk W c 89 (cV 3 2 (v2 g') (v1 g) 0) ∧ Bk W w.heap.size 59 ozZ.arr ∧ Bk W pa 47 #[.int .i64 1, .slice none 0 0] ∧ Bk W (w.heap.size + 1) 47 #[.int .i64 0, .slice none 0 0] ∧ GrP (fun q => q = g) w5 W) (by kernel_rfl) (⟨HC5.out.drewB, HO5.out.drewB, HA5.out.drewB, HR5.out.drewB, GrP.ofBelow (Below.drew (Below.refl _ _))⟩) (fun hS0 => ?_)
    have HZ5 := Lib.hid (HZ4.out.later (Below.drew (Below.refl _ _)))
    refine wpAnyH_take (i := 0) (v := ?_) rfl (by kernel_rfl) (by kernel_rfl) (by kernel_rfl) (fun _ _ _ h => h) (Or.inl ⟨by rfl, ?_⟩) hS0 ?_
    rotate_left
    · intro W _; go_simp; try with_reducible rfl
    try simp only [Act.put, List.getElem_toArray, List.getElem_cons_zero, List.setIfInBounds_toArray, List.set_cons_zero, List.set_cons_succ]
    refine wpAnyH_take (i := 1) (v := ?_) rfl (by kernel_rfl) (by kernel_rfl) (by kernel_rfl) (fun _ _ _ h => h) (Or.inl ⟨by rfl, ?_⟩) hS0 ?_
    rotate_left
    · intro W _; go_simp; try with_reducible rfl
    try simp only [Act.put, List.getElem_toArray, List.getElem_cons_zero, List.getElem_cons_succ, List.setIfInBounds_toArray, List.set_cons_zero, List.set_cons_succ]
    refine wpAnyH_take (i := 2) (v := ?_) rfl (by kernel_rfl) (by kernel_rfl) (by kernel_rfl) (fun _ _ _ h => h) (Or.inl ⟨by rfl, ?_⟩) hS0 ?_
    rotate_left
    · intro W _; go_simp; try with_reducible rfl
    try simp only [Act.put, List.getElem_toArray, List.getElem_cons_zero, List.getElem_cons_succ, List.setIfInBounds_toArray, List.set_cons_zero, List.set_cons_succ]
    refine wpAnyH_take (i := 3) (v := ?_) rfl (by kernel_rfl) (by kernel_rfl) (by kernel_rfl) (fun _ _ _ h => h) (Or.inl ⟨by rfl, ?_⟩) hS0 ?_
    rotate_left
    · intro W hSW; have hx := hSW.1.cellAt 3; go_simp; try with_reducible rfl
    try simp only [Act.put, List.getElem_toArray, List.getElem_cons_zero, List.getElem_cons_succ, List.setIfInBounds_toArray, List.set_cons_zero, List.set_cons_succ]
    refine wpAnyH_take (i := 4) (v := ?_) rfl (by kernel_rfl) (by kernel_rfl) (by kernel_rfl) (fun _ _ _ h => h) (Or.inl ⟨by rfl, ?_⟩) hS0 ?_
    rotate_left
    · intro W _; go_simp; try with_reducible rfl
    try simp only [Act.put, List.getElem_toArray, List.getElem_cons_zero, List.getElem_cons_succ, List.setIfInBounds_toArray, List.set_cons_zero, List.set_cons_succ]
    refine wpAnyH_take (i := 5) (v := ?_) rfl (by kernel_rfl) (by kernel_rfl) (by kernel_rfl) (fun _ _ _ h => h) (Or.inl ⟨by rfl, ?_⟩) hS0 ?_
    rotate_left
    · intro W _; go_simp; try with_reducible rfl
    try simp only [Act.put, List.getElem_toArray, List.getElem_cons_zero, List.getElem_cons_succ, List.setIfInBounds_toArray, List.set_cons_zero, List.set_cons_succ]
    refine wpAnyH_take (i := 6) (v := .agg #[.int .i64 1, .slice none 0 0]) rfl (by kernel_rfl) (by kernel_rfl) (by kernel_rfl) (fun _ _ _ h => h) (yields_bk (by rfl) 47 _ rfl pa 0 rfl 47 #[.int .i64 1, .slice none 0 0] #[.int .i64 1, .slice none 0 0] _ (fun W hW => hW.2.2.1) (Part.whole _) Tryz.underlying47 rfl (by kernel_rfl)) hS0 ?_
    try simp only [Act.put, List.getElem_toArray, List.getElem_cons_zero, List.getElem_cons_succ, List.setIfInBounds_toArray, List.set_cons_zero, List.set_cons_succ]
    refine wpAnyH_take (i := 7) (v := ?_) rfl (by kernel_rfl) (by kernel_rfl) (by kernel_rfl) (fun _ _ _ h => h) (Or.inl ⟨by rfl, ?_⟩) hS0 ?_
    rotate_left
    · intro W _; go_simp; try with_reducible rfl
    try simp only [Act.put, List.getElem_toArray, List.getElem_cons_zero, List.getElem_cons_succ, List.setIfInBounds_toArray, List.set_cons_zero, List.set_cons_succ]
    refine wpAnyH_take (i := 8) (v := ?_) rfl (by kernel_rfl) (by kernel_rfl) (by kernel_rfl) (fun _ _ _ h => h) (Or.inl ⟨by rfl, ?_⟩) hS0 ?_
    rotate_left
    · intro W _; go_simp; try with_reducible rfl
    try simp only [Act.put, List.getElem_toArray, List.getElem_cons_zero, List.getElem_cons_succ, List.setIfInBounds_toArray, List.set_cons_zero, List.set_cons_succ]
    refine wpAnyH_take (i := 9) (v := ?_) rfl (by kernel_rfl) (by kernel_rfl) (by kernel_rfl) (fun _ _ _ h => h) (Or.inl ⟨by rfl, ?_⟩) hS0 ?_
    rotate_left
    · intro W _; go_simp; try with_reducible rfl
    try simp only [Act.put, List.getElem_toArray, List.getElem_cons_zero, List.getElem_cons_succ, List.setIfInBounds_toArray, List.set_cons_zero, List.set_cons_succ]
    refine wpAnyH_take (i := 10) (v := ?_) rfl (by kernel_rfl) (by kernel_rfl) (by kernel_rfl) (fun _ _ _ h => h) (Or.inl ⟨by rfl, ?_⟩) hS0 ?_
    rotate_left
    · intro W hSW; have hx := hSW.1.cellAt 3; go_simp; try with_reducible rfl
    try simp only [Act.put, List.getElem_toArray, List.getElem_cons_zero, List.getElem_cons_succ, List.setIfInBounds_toArray, List.set_cons_zero, List.set_cons_succ]
    refine wpAnyH_take (i := 11) (v := .agg ozZ.arr) rfl (by kernel_rfl) (by kernel_rfl) (by kernel_rfl) (fun _ _ _ h => h) (yields_bk (by rfl) 59 _ rfl w.heap.size 0 rfl 59 ozZ.arr ozZ.arr _ (fun W hW => hW.2.1) (Part.whole _) Tryz.underlying59 rfl (by kernel_rfl)) hS0 ?_
    try simp only [Act.put, List.getElem_toArray, List.getElem_cons_zero, List.getElem_cons_succ, List.setIfInBounds_toArray, List.set_cons_zero, List.set_cons_succ]
    refine wpAnyH_ready (rs := [12]) (by kernel_rfl) (by simp) ?_
    refine AllReadyH.cons rfl (fun K hK => ?_) AllReadyH.nil
    go_simp
    go_invoke
    go_simp
    refine (g1do_z g _ HZ5.out).mono ?_
    rintro e y1 ⟨⟨A, a, rfl⟩, hG⟩
    have HG1 := Lib.hid hG
    clear hG
    go_simp
    refine hK.out _ _ (⟨hS0.1.grp HG1.out (fun e => HNE.out.1 e), hS0.2.1.grp HG1.out (fun e => HNE.out.2.1 e), hS0.2.2.1.grp HG1.out (fun e => HNE.out.2.2.1 e), hS0.2.2.2.1.grp HG1.out (fun e => HNE.out.2.2.2 e), hS0.2.2.2.2.trans HG1.out⟩) (fun hS1 => ?_)
    clear hK K
    try simp only [Act.put, List.getElem_toArray, List.getElem_cons_zero, List.getElem_cons_succ, List.setIfInBounds_toArray, List.set_cons_zero, List.set_cons_succ]
    refine wpAnyH_ready (rs := [13]) (by kernel_rfl) (by simp) ?_
    refine AllReadyH.cons rfl (fun K hK => ?_) AllReadyH.nil
    go_simp
    refine (osame_z 1 none 0 A a _).mono ?_
    rintro e y2 ⟨rfl, hb2⟩
    go_simp
    refine hK.out _ _ (⟨hS1.1.later hb2, hS1.2.1.later hb2, hS1.2.2.1.later hb2, hS1.2.2.2.1.later hb2, hS1.2.2.2.2.trans (GrP.ofBelow hb2)⟩) (fun hS2 => ?_)
    clear hK K
    try simp only [Act.put, List.getElem_toArray, List.getElem_cons_zero, List.getElem_cons_succ, List.setIfInBounds_toArray, List.set_cons_zero, List.set_cons_succ]
    refine wpAnyH_take (i := 14) (v := ?_) rfl (by kernel_rfl) (by kernel_rfl) (by kernel_rfl) (fun _ _ _ h => h) (Or.inl ⟨by rfl, ?_⟩) hS2 ?_
    rotate_left
    · intro W _; go_simp; try with_reducible rfl
    try simp only [Act.put, List.getElem_toArray, List.getElem_cons_zero, List.getElem_cons_succ, List.setIfInBounds_toArray, List.set_cons_zero, List.set_cons_succ]
    refine wpAnyH_take (i := 15) (v := ?_) rfl (by kernel_rfl) (by kernel_rfl) (by kernel_rfl) (fun _ _ _ h => h) (Or.inl ⟨by rfl, ?_⟩) hS2 ?_
    rotate_left
    · intro W _; go_simp; try with_reducible rfl
    try simp only [Act.put, List.getElem_toArray, List.getElem_cons_zero, List.getElem_cons_succ, List.setIfInBounds_toArray, List.set_cons_zero, List.set_cons_succ]
    refine wpAnyH_done (by kernel_rfl) ?_ _
    have HF := Lib.hid hS2
    obtain ⟨w6, hw6⟩ : ∃ W, W = y2 := ⟨_, rfl⟩
    rw [← hw6] at HF ⊢
    clear hw6 HO5 HA5 HR5 HC5 HZ4 HZ5 HG1
    have HA6 : Hid (Bk w6 pa 47 #[.int .i64 1, .slice none 0 0]) := HF.out.2.2.1
    have HR6 : Hid (Bk w6 (w.heap.size + 1) 47 #[.int .i64 0, .slice none 0 0]) := HF.out.2.2.2.1
    go_wp2_with (first | (with_reducible refine load_bk rfl 47 _ rfl pa 0 rfl 47 #[.int .i64 1, .slice none 0 0] #[.int .i64 1, .slice none 0 0] _ HA6.out (Part.whole _) Tryz.underlying47 rfl (by kernel_rfl) ?_) | ((with_reducible refine store_bk rfl 47 (.tmp 4) (.tmp 38) rfl (w.heap.size + 1) 0 #[.int .i64 1, .slice none 0 0] rfl rfl 47 _ #[.int .i64 1, .slice none 0 0] HR6.out (by kernel_rfl) (by simp) (by kernel_rfl) rfl ?_); intro w7 hB7 hG7 hs7))
    refine bodyPost_ret (v := .agg #[.int .i64 1, .slice none 0 0]) (results_bk1 Tryz.results36 _ _ (w.heap.size + 1) 47 _ _ rfl hB7 Tryz.underlying47 rfl (by kernel_rfl)) rfl ?_
    have hG : GrP (fun q => q = g ∨ w.heap.size ≤ q) w w7 := ((GrP.ofBelow Hb5.out).trans (HF.out.2.2.2.2.wide fun q _ hq => .inl hq)).trans ((GrP.of hG7).wide fun q _ hq => by injection hq with hq; exact .inr (by omega))
    exact ⟨⟨rfl, HF.out.1.stays hG7 (by intro e; injection e with e; have := HLT.out; omega)⟩, ⟨hG.os, hG.tape, hG.output, hG.size, fun q hq hn => hG.block q hq fun e => e.elim hn fun e => by omega⟩⟩
  · simp only [if_pos, Region.wanted]
    refine acellz_op rfl ?_
    intro pa ya hpa hA hb2
    have HA1 := Lib.hid hA
    have HPA : Hid (w1.heap.size ≤ pa) := by rw [hpa]; exact hS0.2.2.2.2.size
    clear hpa hA
    refine hK.out _ _ (⟨hS0.1.later hb2, hS0.2.1.later hb2, hS0.2.2.1.later hb2, hS0.2.2.2.1.later hb2, bclose hS0.2.2.2.2 hb2⟩) (fun hS1 => ?_)
    clear hK K
    try simp only [Act.put, List.getElem_toArray, List.getElem_cons_zero, List.getElem_cons_succ, List.setIfInBounds_toArray, List.set_cons_zero, List.set_cons_succ]
    refine wpAnyH_ready (rs := [5]) (by kernel_rfl) (by simp) ?_
    refine AllReadyH.cons rfl (fun K hK => ?_) AllReadyH.nil
    go_simp
    go_invoke
    go_simp
    refine (g2do_z g' _).mono ?_
    rintro e y1 ⟨rfl, hb1⟩
    have HA2 := Lib.hid (HA1.out.later hb1); clear HA1; have HA1 := HA2; clear HA2
    go_simp
    refine hK.out _ _ (⟨hS1.1.later hb1, hS1.2.1.later hb1, hS1.2.2.1.later hb1, hS1.2.2.2.1.later hb1, bclose hS1.2.2.2.2 hb1⟩) (fun hS2 => ?_)
    clear hK K
    try simp only [Act.put, List.getElem_toArray, List.getElem_cons_zero, List.getElem_cons_succ, List.setIfInBounds_toArray, List.set_cons_zero, List.set_cons_succ]
    refine wpAnyH_ready (rs := [7]) (by kernel_rfl) (by simp) ?_
    refine AllReadyH.cons rfl (fun K hK => ?_) AllReadyH.nil
    simp only [if_pos, Region.wanted]
    refine store_bk_op 47 (.tmp 5) (.tmp 14) rfl pa 0 #[.int .i64 1, .slice none 0 0] rfl rfl 47 #[.int .i64 0, .slice none 0 0] #[.int .i64 1, .slice none 0 0] HA1.out (by kernel_rfl) (by simp) (by kernel_rfl) rfl ?_
    intro w5 hX hgr hs9
    have HA5 := Lib.hid hX
    clear hX hs9 HA1
    refine hK.out _ _ (⟨hS2.1.stays hgr (by intro e; injection e with e; have h1 := HPA.out; have h2 := HLT.out; have h3 := Hb1.out.size; omega), hS2.2.1.stays hgr (by intro e; injection e with e; have h1 := HPA.out; have h2 := HR1.out.here; omega), hS2.2.2.1.stays hgr (by intro e; injection e with e; have h1 := HPA.out; have h2 := HR1.out.here; omega), hS2.2.2.2.1.grown hgr (by have h1 := HPA.out; have h2 := HLT.out; have h3 := Hb1.out.size; omega), hS2.2.2.2.2.grown hgr (Below.size hS2.2.2.2.2) (fun k e => by injection e with e; subst e; exact HPA.out)⟩) (fun hS3 => ?_)
    clear hK K
    try simp only [Act.put, List.getElem_toArray, List.getElem_cons_zero, List.getElem_cons_succ, List.setIfInBounds_toArray, List.set_cons_zero, List.set_cons_succ]
    refine wpAnyH_done (by kernel_rfl) ?_ _
    have HF3 := Lib.hid hS3
    have HNE : Hid (c ≠ g ∧ w.heap.size ≠ g ∧ pa ≠ g ∧ w.heap.size + 1 ≠ g) := by have h1 := HLT.out; have h2 := Hb1.out.size; have h3 := HPA.out; show _ ∧ _ ∧ _ ∧ _; omega
    have HC5 := Lib.hid HF3.out.1; have HO5 := Lib.hid HF3.out.2.1; have HR5 := Lib.hid HF3.out.2.2.1; have HZ4 := Lib.hid HF3.out.2.2.2.1; have Hb5 := Lib.hid (bclose Hb1.out HF3.out.2.2.2.2)
    clear HF3 HO1 HR1 HC1 HZ1 Hb1
    go_wp2_with fail
    refine wp_region_held_drew (S := fun W => Bk W c 89 (cV 3 2 (v2 g') (v1 g) 0) ∧ Bk W w.heap.size 59 ozZ.arr ∧ Bk W pa 47 #[.int .i64 1, .slice none 0 0] ∧ Bk W (w.heap.size + 1) 47 #[.int .i64 0, .slice none 0 0] ∧ GrP (fun q => q = g) w5 W) (by kernel_rfl) (⟨HC5.out.drewB, HO5.out.drewB, HA5.out.drewB, HR5.out.drewB, GrP.ofBelow (Below.drew (Below.refl _ _))⟩) (fun hS0 => ?_)
    have HZ5 := Lib.hid (HZ4.out.later (Below.drew (Below.refl _ _)))
    refine wpAnyH_take (i := 0) (v := ?_) rfl (by kernel_rfl) (by kernel_rfl) (by kernel_rfl) (fun _ _ _ h => h) (Or.inl ⟨by rfl, ?_⟩) hS0 ?_
    rotate_left
    · intro W _; go_simp; try with_reducible rfl
    try simp only [Act.put, List.getElem_toArray, List.getElem_cons_zero, List.setIfInBounds_toArray, List.set_cons_zero, List.set_cons_succ]
    refine wpAnyH_take (i := 1) (v := ?_) rfl (by kernel_rfl) (by kernel_rfl) (by kernel_rfl) (fun _ _ _ h => h) (Or.inl ⟨by rfl, ?_⟩) hS0 ?_
    rotate_left
    · intro W _; go_simp; try with_reducible rfl
    try simp only [Act.put, List.getElem_toArray, List.getElem_cons_zero, List.getElem_cons_succ, List.setIfInBounds_toArray, List.set_cons_zero, List.set_cons_succ]
    refine wpAnyH_take (i := 2) (v := ?_) rfl (by kernel_rfl) (by kernel_rfl) (by kernel_rfl) (fun _ _ _ h => h) (Or.inl ⟨by rfl, ?_⟩) hS0 ?_
    rotate_left
    · intro W _; go_simp; try with_reducible rfl
    try simp only [Act.put, List.getElem_toArray, List.getElem_cons_zero, List.getElem_cons_succ, List.setIfInBounds_toArray, List.set_cons_zero, List.set_cons_succ]
    refine wpAnyH_take (i := 3) (v := ?_) rfl (by kernel_rfl) (by kernel_rfl) (by kernel_rfl) (fun _ _ _ h => h) (Or.inl ⟨by rfl, ?_⟩) hS0 ?_
    rotate_left
    · intro W hSW; have hx := hSW.1.cellAt 3; go_simp; try with_reducible rfl
    try simp only [Act.put, List.getElem_toArray, List.getElem_cons_zero, List.getElem_cons_succ, List.setIfInBounds_toArray, List.set_cons_zero, List.set_cons_succ]
    refine wpAnyH_take (i := 4) (v := ?_) rfl (by kernel_rfl) (by kernel_rfl) (by kernel_rfl) (fun _ _ _ h => h) (Or.inl ⟨by rfl, ?_⟩) hS0 ?_
    rotate_left
    · intro W _; go_simp; try with_reducible rfl
    try simp only [Act.put, List.getElem_toArray, List.getElem_cons_zero, List.getElem_cons_succ, List.setIfInBounds_toArray, List.set_cons_zero, List.set_cons_succ]
    refine wpAnyH_take (i := 5) (v := ?_) rfl (by kernel_rfl) (by kernel_rfl) (by kernel_rfl) (fun _ _ _ h => h) (Or.inl ⟨by rfl, ?_⟩) hS0 ?_
    rotate_left
    · intro W _; go_simp; try with_reducible rfl
    try simp only [Act.put, List.getElem_toArray, List.getElem_cons_zero, List.getElem_cons_succ, List.setIfInBounds_toArray, List.set_cons_zero, List.set_cons_succ]
    refine wpAnyH_take (i := 6) (v := .agg #[.int .i64 1, .slice none 0 0]) rfl (by kernel_rfl) (by kernel_rfl) (by kernel_rfl) (fun _ _ _ h => h) (yields_bk (by rfl) 47 _ rfl pa 0 rfl 47 #[.int .i64 1, .slice none 0 0] #[.int .i64 1, .slice none 0 0] _ (fun W hW => hW.2.2.1) (Part.whole _) Tryz.underlying47 rfl (by kernel_rfl)) hS0 ?_
    try simp only [Act.put, List.getElem_toArray, List.getElem_cons_zero, List.getElem_cons_succ, List.setIfInBounds_toArray, List.set_cons_zero, List.set_cons_succ]
    refine wpAnyH_take (i := 7) (v := ?_) rfl (by kernel_rfl) (by kernel_rfl) (by kernel_rfl) (fun _ _ _ h => h) (Or.inl ⟨by rfl, ?_⟩) hS0 ?_
    rotate_left
    · intro W _; go_simp; try with_reducible rfl
    try simp only [Act.put, List.getElem_toArray, List.getElem_cons_zero, List.getElem_cons_succ, List.setIfInBounds_toArray, List.set_cons_zero, List.set_cons_succ]
    refine wpAnyH_take (i := 8) (v := ?_) rfl (by kernel_rfl) (by kernel_rfl) (by kernel_rfl) (fun _ _ _ h => h) (Or.inl ⟨by rfl, ?_⟩) hS0 ?_
    rotate_left
    · intro W _; go_simp; try with_reducible rfl
    try simp only [Act.put, List.getElem_toArray, List.getElem_cons_zero, List.getElem_cons_succ, List.setIfInBounds_toArray, List.set_cons_zero, List.set_cons_succ]
    refine wpAnyH_take (i := 9) (v := ?_) rfl (by kernel_rfl) (by kernel_rfl) (by kernel_rfl) (fun _ _ _ h => h) (Or.inl ⟨by rfl, ?_⟩) hS0 ?_
    rotate_left
    · intro W _; go_simp; try with_reducible rfl
    try simp only [Act.put, List.getElem_toArray, List.getElem_cons_zero, List.getElem_cons_succ, List.setIfInBounds_toArray, List.set_cons_zero, List.set_cons_succ]
    refine wpAnyH_take (i := 10) (v := ?_) rfl (by kernel_rfl) (by kernel_rfl) (by kernel_rfl) (fun _ _ _ h => h) (Or.inl ⟨by rfl, ?_⟩) hS0 ?_
    rotate_left
    · intro W hSW; have hx := hSW.1.cellAt 3; go_simp; try with_reducible rfl
    try simp only [Act.put, List.getElem_toArray, List.getElem_cons_zero, List.getElem_cons_succ, List.setIfInBounds_toArray, List.set_cons_zero, List.set_cons_succ]
    refine wpAnyH_take (i := 11) (v := .agg ozZ.arr) rfl (by kernel_rfl) (by kernel_rfl) (by kernel_rfl) (fun _ _ _ h => h) (yields_bk (by rfl) 59 _ rfl w.heap.size 0 rfl 59 ozZ.arr ozZ.arr _ (fun W hW => hW.2.1) (Part.whole _) Tryz.underlying59 rfl (by kernel_rfl)) hS0 ?_
    try simp only [Act.put, List.getElem_toArray, List.getElem_cons_zero, List.getElem_cons_succ, List.setIfInBounds_toArray, List.set_cons_zero, List.set_cons_succ]
    refine wpAnyH_ready (rs := [12]) (by kernel_rfl) (by simp) ?_
    refine AllReadyH.cons rfl (fun K hK => ?_) AllReadyH.nil
    go_simp
    go_invoke
    go_simp
    refine (g1do_z g _ HZ5.out).mono ?_
    rintro e y1 ⟨⟨A, a, rfl⟩, hG⟩
    have HG1 := Lib.hid hG
    clear hG
    go_simp
    refine hK.out _ _ (⟨hS0.1.grp HG1.out (fun e => HNE.out.1 e), hS0.2.1.grp HG1.out (fun e => HNE.out.2.1 e), hS0.2.2.1.grp HG1.out (fun e => HNE.out.2.2.1 e), hS0.2.2.2.1.grp HG1.out (fun e => HNE.out.2.2.2 e), hS0.2.2.2.2.trans HG1.out⟩) (fun hS1 => ?_)
    clear hK K
    try simp only [Act.put, List.getElem_toArray, List.getElem_cons_zero, List.getElem_cons_succ, List.setIfInBounds_toArray, List.set_cons_zero, List.set_cons_succ]
    refine wpAnyH_ready (rs := [13]) (by kernel_rfl) (by simp) ?_
    refine AllReadyH.cons rfl (fun K hK => ?_) AllReadyH.nil
    go_simp
    refine (osame_z 1 none 0 A a _).mono ?_
    rintro e y2 ⟨rfl, hb2⟩
    go_simp
    refine hK.out _ _ (⟨hS1.1.later hb2, hS1.2.1.later hb2, hS1.2.2.1.later hb2, hS1.2.2.2.1.later hb2, hS1.2.2.2.2.trans (GrP.ofBelow hb2)⟩) (fun hS2 => ?_)
    clear hK K
    try simp only [Act.put, List.getElem_toArray, List.getElem_cons_zero, List.getElem_cons_succ, List.setIfInBounds_toArray, List.set_cons_zero, List.set_cons_succ]
    refine wpAnyH_take (i := 14) (v := ?_) rfl (by kernel_rfl) (by kernel_rfl) (by kernel_rfl) (fun _ _ _ h => h) (Or.inl ⟨by rfl, ?_⟩) hS2 ?_
    rotate_left
    · intro W _; go_simp; try with_reducible rfl
    try simp only [Act.put, List.getElem_toArray, List.getElem_cons_zero, List.getElem_cons_succ, List.setIfInBounds_toArray, List.set_cons_zero, List.set_cons_succ]
    refine wpAnyH_take (i := 15) (v := ?_) rfl (by kernel_rfl) (by kernel_rfl) (by kernel_rfl) (fun _ _ _ h => h) (Or.inl ⟨by rfl, ?_⟩) hS2 ?_
    rotate_left
    · intro W _; go_simp; try with_reducible rfl
    try simp only [Act.put, List.getElem_toArray, List.getElem_cons_zero, List.getElem_cons_succ, List.setIfInBounds_toArray, List.set_cons_zero, List.set_cons_succ]
    refine wpAnyH_done (by kernel_rfl) ?_ _
    have HF := Lib.hid hS2
    obtain ⟨w6, hw6⟩ : ∃ W, W = y2 := ⟨_, rfl⟩
    rw [← hw6] at HF ⊢
    clear hw6 HO5 HA5 HR5 HC5 HZ4 HZ5 HG1
    have HA6 : Hid (Bk w6 pa 47 #[.int .i64 1, .slice none 0 0]) := HF.out.2.2.1
    have HR6 : Hid (Bk w6 (w.heap.size + 1) 47 #[.int .i64 0, .slice none 0 0]) := HF.out.2.2.2.1
    go_wp2_with (first | (with_reducible refine load_bk rfl 47 _ rfl pa 0 rfl 47 #[.int .i64 1, .slice none 0 0] #[.int .i64 1, .slice none 0 0] _ HA6.out (Part.whole _) Tryz.underlying47 rfl (by kernel_rfl) ?_) | ((with_reducible refine store_bk rfl 47 (.tmp 4) (.tmp 38) rfl (w.heap.size + 1) 0 #[.int .i64 1, .slice none 0 0] rfl rfl 47 _ #[.int .i64 1, .slice none 0 0] HR6.out (by kernel_rfl) (by simp) (by kernel_rfl) rfl ?_); intro w7 hB7 hG7 hs7))
    refine bodyPost_ret (v := .agg #[.int .i64 1, .slice none 0 0]) (results_bk1 Tryz.results36 _ _ (w.heap.size + 1) 47 _ _ rfl hB7 Tryz.underlying47 rfl (by kernel_rfl)) rfl ?_
    have hG : GrP (fun q => q = g ∨ w.heap.size ≤ q) w w7 := ((GrP.ofBelow Hb5.out).trans (HF.out.2.2.2.2.wide fun q _ hq => .inl hq)).trans ((GrP.of hG7).wide fun q _ hq => by injection hq with hq; exact .inr (by omega))
    exact ⟨⟨rfl, HF.out.1.stays hG7 (by intro e; injection e with e; have := HLT.out; omega)⟩, ⟨hG.os, hG.tape, hG.output, hG.size, fun q hq hn => hG.block q hq fun e => e.elim hn fun e => by omega⟩⟩
set_option maxHeartbeats 12800000 in
set_option maxRecDepth 100000 in
theorem awake22_any (w : World) : Calls Tryz.prog 30 #[] w fun e w' => e = .returned (.bool true) ∧ Below w.heap.size w w' := by
  go_enter Tryz.func30, Tryz.ntmps30
  go_wp2_with fail
  refine (hnew_z w).mono ?_
  rintro e w1 ⟨⟨g, c, rfl, hg, hgc, hZ, hB⟩, hb1⟩
  have HG : Hid (w.heap.size ≤ g ∧ g < c ∧ w.heap.size ≤ c ∧ c ≠ g) := by show _ ∧ _ ∧ _ ∧ _; omega
  have HZ1 := Lib.hid hZ; have HC1 := Lib.hid hB; have Hb1 := Lib.hid hb1
  clear hg hgc hZ hB hb1
  go_wp2_with fail
  refine (command1_z c g w1 HC1.out HZ1.out HG.out.2.1).mono ?_
  rintro e w2 ⟨⟨g', rfl, hcg, hZ, hB⟩, hG⟩
  have HZ2 := Lib.hid hZ; have HC2 := Lib.hid hB
  have Hb2 : Hid (Below w.heap.size w w2) := Hb1.out.grown hG Hb1.out.size (fun k e => by injection e with e; have := HG.out; omega)
  clear hcg hZ hB hG HZ1 HC1 Hb1
  go_wp2_with fail
  refine (command2_z c g g' w2 HC2.out).mono ?_
  rintro e w3 ⟨⟨rfl, hB⟩, hG⟩
  have HZ3 := Lib.hid (HZ2.out.grown hG HG.out.2.2.2); have HC3 := Lib.hid hB
  have Hb3 : Hid (Below w.heap.size w w3) := Hb2.out.grown hG Hb2.out.size (fun k e => by injection e with e; have := HG.out; omega)
  clear hB hG HZ2 HC2 Hb2
  go_wp2_with fail
  refine (hdo_z c g g' w3 HC3.out HZ3.out HG.out.2.1).mono ?_
  rintro e w4 ⟨⟨rfl, hB⟩, hG⟩
  have HC4 := Lib.hid hB
  have Hb4 : Hid (Below w.heap.size w w4) := Hb3.out.trans (hG.below Hb3.out.size fun q hq => by have := HG.out; omega)
  clear hB hG HZ3 HC3 Hb3
  go_wp2_with ((with_reducible refine store_bk rfl 47 (.tmp 2) (.tmp 21) rfl w4.heap.size 0 #[.int .i64 1, .slice none 0 0] rfl rfl 47 _ #[.int .i64 1, .slice none 0 0] (Bk.fresh _ _ _) (by kernel_rfl) (by simp) (by kernel_rfl) rfl ?_); intro w5 hB hG hs; obtain ⟨pa, hpa⟩ : ∃ r, r = w4.heap.size := ⟨_, rfl⟩; have HL5 : Hid (Below w4.heap.size w4 w5) := ((Below.refl _ _).alloc (Nat.le_refl _) _).grown hG (by simp) (by intro k e; injection e with e; omega); rw [← hpa] at hB ⊢; have HA5 := Lib.hid hB; have HC5 := Lib.hid (HC4.out.later HL5.out); have Hb5 := Lib.hid (bclose Hb4.out HL5.out); clear hB hG hs hpa HL5 HC4 Hb4)
  refine (where_z c g g' w5 HC5.out).mono ?_
  rintro e w6 ⟨rfl, hb6⟩
  have c0 : w6.cell? ⟨pa, 0, none⟩ = some (.int .i64 1) := (HA5.out.later hb6).cellAt 0
  have Hb6 := Lib.hid (bclose Hb5.out hb6)
  clear hb6 HA5 HC5 Hb5
  go_wp2_with fail
  go_ret
  exact ⟨rfl, Hb6.out⟩
end Go.Proofs.YtjgojgmgicpgaaaGreat
