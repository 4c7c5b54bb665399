/- The walk of BlockKeeps: what goes in and comes out is memory of its own. No condition. -/
import Derived.Test.YtnikhlajlhgikaaFsh
namespace Go.Proofs.Ytnikhlajlhgikaa
open Go.RowKit
set_option linter.unusedSimpArgs false
set_option linter.unusedVariables false

set_option maxHeartbeats 3200000 in
theorem blockKeeps.walk (i c : Int) (w : World) (hi : (Lit.int .u16 i).wf = true) (hc : (Lit.int .u8 c).wf = true) : Calls Try.prog 5 #[.int .u16 i, .int .u8 c] w fun e w' => e = .returned (.bool true) ∧ Below w.heap.size w w' := by
  obtain ⟨m, k, rfl, hm, hmk, hk⟩ := block_of i hi
  obtain ⟨cc, hcc, C, hC, fc⟩ := full_of c hc
  have hcl : C.length = 64 := by rw [hC]; exact List.length_replicate
  have hk0 : (0 : Int) ≤ (k : Int) := by omega
  have hk1 : (k : Int) < 1024 := by omega
  have HA := Lib.hid awake_any
  have HN := Lib.hid new_at
  have FC := Lib.hid fc
  have HCL := Lib.hid hcl
  clear hi hc hcc hC fc hcl
  go_enter Try.func5, Try.ntmps5
  go_wp2_with fail
  refine (HA.out _).mono ?_
  rintro e w1 ⟨rfl, hb1⟩
  have HB1 := Lib.hid hb1
  clear hb1
  go_wp2_with fail
  refine (HN.out _).mono ?_
  rintro e w2 ⟨rfl, ⟨B0, _, hs2⟩, hb2⟩
  have HS2 := Lib.hid hs2
  have HB2 := Lib.hid (HB1.out.trans (hb2.mono HB1.out.size))
  have z2 := hs2.bk.here
  clear hs2 hb2
  obtain ⟨g, hg⟩ : ∃ g, g = w1.heap.size := ⟨_, rfl⟩
  have hgw : w.heap.size ≤ g := by rw [hg]; exact HB1.out.size
  rw [← hg] at HS2 z2 ⊢
  have HGW := Lib.hid hgw
  clear hg hgw
  go_wp2_with fail
  refine (FC.out _).mono ?_
  rintro e w3 ⟨rfl, ho3, hb3⟩
  have HS3 := Lib.hid (HS2.out.later hb3)
  have HO3 := Lib.hid ho3
  have HB3 := Lib.hid (HB2.out.trans (hb3.mono HB2.out.size))
  clear ho3 hb3
  obtain ⟨go, hgo⟩ : ∃ go, go = w2.heap.size := ⟨_, rfl⟩
  have hne : g ≠ go := by omega
  have hgow : w.heap.size ≤ go := by rw [hgo]; exact HB2.out.size
  rw [← hgo] at HO3 ⊢
  have HNE := Lib.hid hne
  have HGOW := Lib.hid hgow
  clear hgo z2 hne hgow
  go_wp2_with fail
  refine (write_plain g _ k go 64 C w3 HS3.out hk HCL.out HO3.out.rd (by simp; exact fun e => HNE.out e.symm) rfl rfl).mono ?_
  rintro e w4 ⟨rfl, hs4, hg4, hz4⟩
  simp only [w01] at hs4
  have HS4 := Lib.hid hs4
  have HO4 := Lib.hid (HO3.out.gr hg4 (by simp; exact fun e => HNE.out e.symm))
  have HB4 := Lib.hid (HB3.out.trans (hg4.below HB3.out.size (by simp; exact HGW.out)))
  clear hs4 hg4 hz4
  obtain ⟨b5, k5⟩ := byte_at HO4.out (i := 5) (by rw [HCL.out]; omega)
  have f5 := HO4.out.free 5
  have z4 := HO4.out.here
  go_wp2_with fail
  have h5 : ∀ v, St (w4.setCell ⟨go, 5, none⟩ v) g ⟨over B0 (k * 64) C, false, 1, false, 0, 0⟩ ∧ Below w.heap.size w (w4.setCell ⟨go, 5, none⟩ v) ∧ (w4.setCell ⟨go, 5, none⟩ v).heap.size = w4.heap.size := fun v =>
    ⟨⟨HS4.out.len, HS4.out.low, HS4.out.high, HS4.out.bk.other (p := ⟨go, 5, none⟩) HNE.out v⟩, HB4.out.setCell (p := ⟨go, 5, none⟩) HGOW.out v, by simp⟩
  have H5 := Lib.hid h5
  clear h5 k5 f5
  refine (read_is g _ k _ (H5.out _).1 rfl hk).mono ?_
  rintro e w6 ⟨rfl, hx6, hb6⟩
  have hS6 := (H5.out _).1.later hb6
  have hB6 := (H5.out _).2.1.trans (hb6.mono (H5.out _).2.1.size)
  rw [(H5.out _).2.2] at hx6 ⊢
  have hbl : blockAt (over B0 (k * 64) C) k = C := blockAt_over HS3.out.len hk HCL.out
  rw [hbl] at hx6
  have hz6 := hx6.here
  have HS6 := Lib.hid hS6
  have HB6 := Lib.hid hB6
  have HX6 := Lib.hid hx6
  have HBL := Lib.hid hbl
  clear hb6 hS6 hB6 hx6 hbl
  obtain ⟨gx, hgx⟩ : ∃ gx, gx = w4.heap.size := ⟨_, rfl⟩
  have hnx : g ≠ gx := by have := HS4.out.bk.here; omega
  have hgxw : w.heap.size ≤ gx := by rw [hgx]; exact HB4.out.size
  rw [← hgx] at HX6 hz6 ⊢
  have HNX := Lib.hid hnx
  have HGXW := Lib.hid hgxw
  clear hgx hnx hgxw z4
  go_wp2_with fail
  refine (bytes_any g _ w6 HS6.out).mono ?_
  rintro e w7 ⟨rfl, hy7, hb7⟩
  have hY := hy7.bk HS6.out.len
  have HS7 := Lib.hid (HS6.out.later hb7)
  have HX7 := Lib.hid (HX6.out.later hb7)
  have HB7 := Lib.hid (HB6.out.trans (hb7.mono HB6.out.size))
  have HY7 := Lib.hid hY
  have zy : w6.heap.size < w7.heap.size := hY.here
  clear hy7 hb7 hY
  obtain ⟨gy, hgy⟩ : ∃ gy, gy = w6.heap.size := ⟨_, rfl⟩
  have hny : g ≠ gy := by have := HS6.out.bk.here; omega
  have hnxy : gx ≠ gy := by omega
  have hgyw : w.heap.size ≤ gy := by rw [hgy]; exact HB6.out.size
  rw [← hgy] at HY7 zy ⊢
  have HNY := Lib.hid hny
  have HNXY := Lib.hid hnxy
  have HGYW := Lib.hid hgyw
  clear hgy hny hnxy hgyw
  have hz7 : gx < w7.heap.size := HX7.out.here
  obtain ⟨b6, k6⟩ := byte_at HX7.out (i := 6) (by rw [HCL.out]; omega)
  have f6 := HX7.out.free 6
  obtain ⟨b7, k7⟩ := byte_at HY7.out (i := k * 64 + 7) (by rw [HS6.out.len]; omega)
  have f7 := HY7.out.free (k * 64 + 7)
  have hne7 : ¬ gx = gy := HNXY.out
  have hne7' : ¬ gy = gx := fun e => HNXY.out e.symm
  have hm1 : (k : Int) * 64 + 7 < 65536 := by omega
  have hm2 : (0 : Int) ≤ (k : Int) * 64 + 7 := by omega
  have hm3 : wrap64 ((k : Int) * 64) = (k : Int) * 64 := by unfold wrap64; omega
  have hm4 : wrap64 ((k : Int) * 64 + 7) = (k : Int) * 64 + 7 := by unfold wrap64; omega
  have hm5 : ((k : Int) * 64 + 7).toNat = k * 64 + 7 := by omega
  clear hz6
  go_wp2_with fail
  have h8 : ∀ u v, St ((w7.setCell ⟨gx, 6, none⟩ u).setCell ⟨gy, k * 64 + 7, none⟩ v) g ⟨over B0 (k * 64) C, false, 1, false, 0, 0⟩ ∧ Below w.heap.size w ((w7.setCell ⟨gx, 6, none⟩ u).setCell ⟨gy, k * 64 + 7, none⟩ v) ∧ ((w7.setCell ⟨gx, 6, none⟩ u).setCell ⟨gy, k * 64 + 7, none⟩ v).heap.size = w7.heap.size := fun u v =>
    ⟨⟨HS7.out.len, HS7.out.low, HS7.out.high, (HS7.out.bk.other (p := ⟨gx, 6, none⟩) HNX.out u).other (p := ⟨gy, k * 64 + 7, none⟩) HNY.out v⟩, (HB7.out.setCell (p := ⟨gx, 6, none⟩) HGXW.out u).setCell (p := ⟨gy, k * 64 + 7, none⟩) HGYW.out v, by simp⟩
  have H8 := Lib.hid h8
  clear h8 k6 f6 k7 f7 hne7 hne7' hm1 hm2 hm3 hm4 hm5 hz7 zy
  refine (read_is g _ k _ (H8.out _ _).1 rfl hk).mono ?_
  rintro e w9 ⟨rfl, hz9, hb9⟩
  have hB9 := (H8.out _ _).2.1.trans (hb9.mono (H8.out _ _).2.1.size)
  rw [(H8.out _ _).2.2] at hz9 ⊢
  rw [HBL.out] at hz9
  have HB9 := Lib.hid hB9
  have HZ := Lib.hid hz9
  clear hz9 hb9 hB9
  go_wp2_with fail
  refine wp_region_held_drew (S := fun W => Below w9.heap.size w9 W) (by kernel_rfl) (Below.drew (Below.refl _ _)) (fun hS0 => ?_)
  refine wpAnyH_take (i := 0) (v := ?_) rfl (by kernel_rfl) (by kernel_rfl) (by kernel_rfl) (fun _ _ _ h => h) (Or.inl ⟨by rfl, ?_⟩) hS0 ?_
  rotate_left
  · intro W _; go_simp; try with_reducible rfl
  try simp only [Act.put, List.getElem_toArray, List.getElem_cons_zero, List.setIfInBounds_toArray, List.set_cons_zero, List.set_cons_succ]
  refine wpAnyH_take (i := 1) (v := ?_) rfl (by kernel_rfl) (by kernel_rfl) (by kernel_rfl) (fun _ _ _ h => h) (Or.inl ⟨by rfl, ?_⟩) hS0 ?_
  rotate_left
  · intro W _; go_simp; try with_reducible rfl
  try simp only [Act.put, List.getElem_toArray, List.getElem_cons_zero, List.getElem_cons_succ, List.setIfInBounds_toArray, List.set_cons_zero, List.set_cons_succ]
  refine wpAnyH_take (i := 2) (v := ?_) rfl (by kernel_rfl) (by kernel_rfl) (by kernel_rfl) (fun _ _ _ h => h) (Or.inl ⟨by rfl, ?_⟩) hS0 ?_
  rotate_left
  · intro W _; go_simp; try with_reducible rfl
  try simp only [Act.put, List.getElem_toArray, List.getElem_cons_zero, List.getElem_cons_succ, List.setIfInBounds_toArray, List.set_cons_zero, List.set_cons_succ]
  refine wpAnyH_take (i := 3) (v := ?_) rfl (by kernel_rfl) (by kernel_rfl) (by kernel_rfl) (fun _ _ _ h => h) (Or.inl ⟨by rfl, ?_⟩) hS0 ?_
  rotate_left
  · intro W _; go_simp; try with_reducible rfl
  try simp only [Act.put, List.getElem_toArray, List.getElem_cons_zero, List.getElem_cons_succ, List.setIfInBounds_toArray, List.set_cons_zero, List.set_cons_succ]
  refine wpAnyH_take (i := 4) (v := ?_) rfl (by kernel_rfl) (by kernel_rfl) (by kernel_rfl) (fun _ _ _ h => h) (Or.inl ⟨by rfl, ?_⟩) hS0 ?_
  rotate_left
  · intro W hSW; have hx := str_of (c := 64) (HZ.out.later hSW).rd HCL.out.symm; go_simp; try with_reducible rfl
  try simp only [Act.put, List.getElem_toArray, List.getElem_cons_zero, List.getElem_cons_succ, List.setIfInBounds_toArray, List.set_cons_zero, List.set_cons_succ]
  refine wpAnyH_take (i := 5) (v := ?_) rfl (by kernel_rfl) (by kernel_rfl) (by kernel_rfl) (fun _ _ _ h => h) (Or.inl ⟨by rfl, ?_⟩) hS0 ?_
  rotate_left
  · intro W _; go_simp; try with_reducible rfl
  try simp only [Act.put, List.getElem_toArray, List.getElem_cons_zero, List.getElem_cons_succ, List.setIfInBounds_toArray, List.set_cons_zero, List.set_cons_succ]
  refine wpAnyH_ready (rs := [6]) (by kernel_rfl) (by simp) ?_
  refine AllReadyH.cons rfl (fun K hK => ?_) AllReadyH.nil
  go_simp
  refine (FC.out _).mono ?_
  rintro e w10 ⟨rfl, hf10, hb10⟩
  have HF : Hid (Bk w10 w9.heap.size 5 (cells C).toArray) := hf10
  have HB10 := Lib.hid (HB9.out.drew.trans (hb10.mono (HB9.out.drew.size)))
  clear hf10
  go_simp
  refine hK.out _ _ (hS0.trans (hb10.mono hS0.size)) (fun hS1 => ?_)
  clear hK K
  try simp only [Act.put, List.getElem_toArray, List.getElem_cons_zero, List.getElem_cons_succ, List.setIfInBounds_toArray, List.set_cons_zero, List.set_cons_succ]
  refine wpAnyH_strong (S' := fun W => Below w10.heap.size w10 W) (fun W hW => hS1.trans (hW.mono hS1.size)) _ _ _ _ ?_
  have hS2 : (fun W => Below w10.heap.size w10 W) _ := Below.refl _ _
  refine wpAnyH_take (i := 7) (v := ?_) rfl (by kernel_rfl) (by kernel_rfl) (by kernel_rfl) (fun _ _ _ h => h) (Or.inl ⟨by rfl, ?_⟩) hS2 ?_
  rotate_left
  · intro W hSW; have hx := str_of (c := 64) (HF.out.later hSW).rd HCL.out.symm; go_simp; try with_reducible rfl
  try simp only [Act.put, List.getElem_toArray, List.getElem_cons_zero, List.getElem_cons_succ, List.setIfInBounds_toArray, List.set_cons_zero, List.set_cons_succ]
  refine wpAnyH_take (i := 8) (v := ?_) rfl (by kernel_rfl) (by kernel_rfl) (by kernel_rfl) (fun _ _ _ h => h) (Or.inl ⟨by rfl, ?_⟩) hS2 ?_
  rotate_left
  · intro W _; go_simp; try with_reducible rfl
  try simp only [Act.put, List.getElem_toArray, List.getElem_cons_zero, List.getElem_cons_succ, List.setIfInBounds_toArray, List.set_cons_zero, List.set_cons_succ]
  refine wpAnyH_take (i := 9) (v := ?_) rfl (by kernel_rfl) (by kernel_rfl) (by kernel_rfl) (fun _ _ _ h => h) (Or.inl ⟨by rfl, ?_⟩) hS2 ?_
  rotate_left
  · intro W _; go_simp; try with_reducible rfl
  try simp only [Act.put, List.getElem_toArray, List.getElem_cons_zero, List.getElem_cons_succ, List.setIfInBounds_toArray, List.set_cons_zero, List.set_cons_succ]
  refine wpAnyH_take (i := 10) (v := ?_) rfl (by kernel_rfl) (by kernel_rfl) (by kernel_rfl) (fun _ _ _ h => h) (Or.inl ⟨by rfl, ?_⟩) hS2 ?_
  rotate_left
  · intro W _; go_simp; try with_reducible rfl
  try simp only [Act.put, List.getElem_toArray, List.getElem_cons_zero, List.getElem_cons_succ, List.setIfInBounds_toArray, List.set_cons_zero, List.set_cons_succ]
  refine wpAnyH_done (by kernel_rfl) ?_ _
  go_wp2
  go_ret
  exact ⟨rfl, HB10.out⟩
end Go.Proofs.Ytnikhlajlhgikaa
