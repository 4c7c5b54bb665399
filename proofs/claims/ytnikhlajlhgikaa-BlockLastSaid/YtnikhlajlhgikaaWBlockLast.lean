/- The walk of BlockLast: of two writes of one block the last one stands, as far as it was done; without power nothing does. No condition. -/
import Derived.Test.YtnikhlajlhgikaaFsh
namespace Go.Proofs.Ytnikhlajlhgikaa
open Go.RowKit
set_option linter.unusedSimpArgs false
set_option linter.unusedVariables false

theorem blockAt_twice {B A C : List UInt8} {k n : Nat} (h : B.length = 65536) (hk : k < 1024) (ha : A.length = 64) (hc : C.length = 64) (hn : n ≤ 64) : blockAt (over (over B (k * 64) A) (k * 64) (C.take n)) k = C.take n ++ A.drop n := by
  have hl : (over B (k * 64) A).length = 65536 := by rw [over_length (by omega)]; exact h
  have ht : (C.take n).length = n := by rw [List.length_take]; omega
  have hl2 : (over (over B (k * 64) A) (k * 64) (C.take n)).length = 65536 := by rw [over_length (by omega)]; exact hl
  apply List.ext_getElem?
  intro i
  by_cases hi : i < 64
  · rw [blockAt_get hi, over_get (by omega)]
    by_cases h1 : i < n
    · rw [if_pos (by omega), List.getElem?_append_left (by omega)]
      congr 1
      omega
    · rw [if_neg (by omega), over_get (by omega), if_pos (by omega), List.getElem?_append_right (by omega), List.getElem?_drop]
      congr 1
      omega
  · rw [List.getElem?_eq_none (by rw [blockAt_length hl2 hk]; omega), List.getElem?_eq_none (by simp; omega)]

theorem S_append (l m : List UInt8) : S l ++ S m = S (l ++ m) := by
  apply ByteArray.ext
  show (S l ++ S m).data = _
  rw [ByteArray.data_append]
  simp [S]
theorem S_size (l : List UInt8) : (S l).size = l.length := by show l.toArray.size = _; simp
theorem drop_str {w : World} {g n : Nat} {l : List UInt8} (h : Bk w g 5 (cells l).toArray) (hl : l.length = 64) (hn : n ≤ 64) :
    (convert 37 9 (.slice (if 64 = n then some ⟨g, 0, none⟩ else some ⟨g, n, none⟩) (64 - n) (64 - n))).run Try.prog w = .ok (.string (S (l.drop n))) w := by
  refine str_of ?_ (by rw [List.length_drop, hl])
  have := h.rd.drop (k := n) (c := 64) (by omega)
  simpa [Addr.add_lit] using this
set_option maxRecDepth 100000 in
set_option maxHeartbeats 6400000 in
theorem blockLast.walk (i a b p : Int) (w : World) (hi : (Lit.int .u16 i).wf = true) (ha : (Lit.int .u8 a).wf = true) (hb : (Lit.int .u8 b).wf = true) (hp : (Lit.int .u8 p).wf = true) : Calls Try.prog 7 #[.int .u16 i, .int .u8 a, .int .u8 b, .int .u8 p] w fun e w' => e = .returned (.bool true) ∧ Below w.heap.size w w' := by
  obtain ⟨m, k, rfl, hm, hmk, hk⟩ := block_of i hi
  obtain ⟨q, n, rfl, hq, hqn, hn⟩ := part_of p hp
  obtain ⟨ca, hca, CA, hCA, fa⟩ := full_of a ha
  obtain ⟨cb, hcb, CB, hCB, fb⟩ := full_of b hb
  have hal : CA.length = 64 := by rw [hCA]; exact List.length_replicate
  have hbl : CB.length = 64 := by rw [hCB]; exact List.length_replicate
  have hk0 : (0 : Int) ≤ (k : Int) := by omega
  have hk1 : (k : Int) < 1024 := by omega
  have hn0 : (0 : Int) ≤ (n : Int) := by omega
  have hn1 : (n : Int) ≤ 64 := by omega
  have HA := Lib.hid awake_any
  have HN := Lib.hid new_at
  have FA := Lib.hid fa
  have FB := Lib.hid fb
  have HAL := Lib.hid hal
  have HBL := Lib.hid hbl
  clear hi ha hb hp hca hcb hCA hCB fa fb hal hbl
  go_enter Try.func7, Try.ntmps7
  go_wp2_with fail
  refine (HA.out _).mono ?_
  rintro e w1 ⟨rfl, hb1⟩
  have HB1 := Lib.hid hb1
  clear hb1
  go_wp2_with fail
  refine (HN.out _).mono ?_
  rintro e w2 ⟨rfl, ⟨B0, _, hs2⟩, hb2⟩
  have HS2 := Lib.hid hs2
  have HB2 := Lib.hid (HB1.out.trans (hb2.mono HB1.out.size))
  have hgw : w.heap.size ≤ w1.heap.size := HB1.out.size
  clear hs2 hb2
  generalize w1.heap.size = g at HS2 hgw ⊢
  have HGW := Lib.hid hgw
  clear hgw
  go_wp2_with fail
  refine (arm_any g _ 1 (n : Int) w2 HS2.out).mono ?_
  rintro e w3 ⟨rfl, hs3, hg3, hz3⟩
  have hs3' : St w3 g ⟨B0, false, 0, true, 1, (n : Int)⟩ := by
    have e : clamp (n : Int) = n := by unfold clamp; omega
    have h2 := hs3
    unfold Dv.arm at h2
    rw [if_pos (by omega), e] at h2
    exact h2
  have HS3 := Lib.hid hs3'
  have HB3 := Lib.hid (HB2.out.trans ((Gr.of hg3).below HB2.out.size (by simp; exact HGW.out)))
  clear hs3 hs3' hg3 hz3
  go_wp2_with fail
  refine (FA.out _).mono ?_
  rintro e w4 ⟨rfl, ho4, hb4⟩
  have HS4 := Lib.hid (HS3.out.later hb4)
  have HB4 := Lib.hid (HB3.out.trans (hb4.mono HB3.out.size))
  have HO4 := Lib.hid ho4.rd
  have HN4 : Hid (w3.heap.size ∉ [g]) := by have := HS3.out.bk.here; show w3.heap.size ∉ [g]; simp; omega
  clear ho4 hb4
  go_wp2_with fail
  refine (write_counts g _ k w3.heap.size 64 CA w4 HS4.out hk HAL.out HO4.out HN4.out rfl rfl (by show (0 : Int) < 1; omega)).mono ?_
  rintro e w5 ⟨rfl, hs5, hg5, hz5⟩
  simp only [w01, w10] at hs5
  have HS5 := Lib.hid hs5
  have HB5 := Lib.hid (HB4.out.trans (hg5.below HB4.out.size (by simp; exact HGW.out)))
  clear hs5 hg5 hz5 HN4 HO4
  go_wp2_with fail
  refine (FB.out _).mono ?_
  rintro e w6 ⟨rfl, ho6, hb6⟩
  have HS6 := Lib.hid (HS5.out.later hb6)
  have HB6 := Lib.hid (HB5.out.trans (hb6.mono HB5.out.size))
  have HO6 := Lib.hid ho6.rd
  have HN6 : Hid (w5.heap.size ∉ [g]) := by have := HS5.out.bk.here; show w5.heap.size ∉ [g]; simp; omega
  clear ho6 hb6
  go_wp2_with fail
  refine (write_cut g _ k w5.heap.size 64 CB w6 HS6.out hk HBL.out HO6.out HN6.out rfl rfl (by show ¬ (0 : Int) < 0; omega)).mono ?_
  rintro e w7 ⟨rfl, hs7, hg7, hz7⟩
  simp only [w12, Int.toNat_natCast] at hs7
  have HS7 := Lib.hid hs7
  have HB7 := Lib.hid (HB6.out.trans (hg7.below HB6.out.size (by simp; exact HGW.out)))
  clear hs7 hg7 hz7 HN6 HO6
  go_wp2_with fail
  refine (FA.out _).mono ?_
  rintro e w8 ⟨rfl, ho8, hb8⟩
  have HS8 := Lib.hid (HS7.out.later hb8)
  have HB8 := Lib.hid (HB7.out.trans (hb8.mono HB7.out.size))
  have HO8 := Lib.hid ho8.rd
  have HN8 : Hid (w7.heap.size ∉ [g]) := by have := HS7.out.bk.here; show w7.heap.size ∉ [g]; simp; omega
  clear ho8 hb8
  go_wp2_with fail
  refine (write_off g _ w7.heap.size 64 CA w8 HS8.out HO8.out HN8.out (k : Int) 64 HAL.out.symm rfl).mono ?_
  rintro e w9 ⟨rfl, hs9, hg9, hz9⟩
  have HS9 := Lib.hid hs9
  have HB9 := Lib.hid (HB8.out.trans (hg9.below HB8.out.size (by simp; exact HGW.out)))
  clear hs9 hg9 hz9 HN8 HO8
  go_wp2_with fail
  refine (read_off g _ (k : Int) w9 HS9.out rfl).mono ?_
  rintro e w10 ⟨rfl, rfl⟩
  go_wp2_with fail
  refine (power_any g _ w9 HS9.out).mono ?_
  rintro e w11 ⟨rfl, hs11, hg11, hz11⟩
  have HS11 := Lib.hid hs11
  have HB11 := Lib.hid (HB9.out.trans ((Gr.of hg11).below HB9.out.size (by simp; exact HGW.out)))
  clear hs11 hg11 hz11
  go_wp2_with fail
  refine (read_is g _ k w11 HS11.out rfl hk).mono ?_
  rintro e wz ⟨rfl, hz, hbz⟩
  rw [blockAt_twice HS2.out.len hk HAL.out HBL.out hn] at hz
  have HZ := Lib.hid hz
  have HSZ := Lib.hid (HS11.out.later hbz)
  have HBZ := Lib.hid (HB11.out.trans (hbz.mono HB11.out.size))
  have hzl : (CB.take n ++ CA.drop n).length = 64 := by have := HAL.out; have := HBL.out; simp; omega
  have htb : n = (CB.take n).length := by have := HBL.out; simp; omega
  have hda : 64 - n = (CA.drop n).length := by rw [List.length_drop, HAL.out]
  have HZL := Lib.hid hzl
  have HTB := Lib.hid htb
  have HDA := Lib.hid hda
  have HNN := Lib.hid hn
  clear hz hbz hzl htb hda
  go_wp2_with fail
  refine wp_region_held_drew (S := fun W => Below wz.heap.size wz W) (by kernel_rfl) (Below.drew (Below.refl _ _)) (fun hS0 => ?_)
  refine wpAnyH_take (i := 0) (v := ?_) rfl (by kernel_rfl) (by kernel_rfl) (by kernel_rfl) (fun _ _ _ h => h) (Or.inl ⟨by rfl, ?_⟩) hS0 ?_
  rotate_left
  · intro W _; go_simp; try with_reducible rfl
  try simp only [Act.put, List.getElem_toArray, List.getElem_cons_zero, List.setIfInBounds_toArray, List.set_cons_zero, List.set_cons_succ]
  refine wpAnyH_take (i := 1) (v := ?_) rfl (by kernel_rfl) (by kernel_rfl) (by kernel_rfl) (fun _ _ _ h => h) (Or.inl ⟨by rfl, ?_⟩) hS0 ?_
  rotate_left
  · intro W _; go_simp; try with_reducible rfl
  try simp only [Act.put, List.getElem_toArray, List.getElem_cons_zero, List.getElem_cons_succ, List.setIfInBounds_toArray, List.set_cons_zero, List.set_cons_succ]
  refine wpAnyH_take (i := 2) (v := ?_) rfl (by kernel_rfl) (by kernel_rfl) (by kernel_rfl) (fun _ _ _ h => h) (Or.inl ⟨by rfl, ?_⟩) hS0 ?_
  rotate_left
  · intro W _; go_simp; try with_reducible rfl
  try simp only [Act.put, List.getElem_toArray, List.getElem_cons_zero, List.getElem_cons_succ, List.setIfInBounds_toArray, List.set_cons_zero, List.set_cons_succ]
  refine wpAnyH_take (i := 3) (v := ?_) rfl (by kernel_rfl) (by kernel_rfl) (by kernel_rfl) (fun _ _ _ h => h) (Or.inl ⟨by rfl, ?_⟩) hS0 ?_
  rotate_left
  · intro W _; go_simp; try with_reducible rfl
  try simp only [Act.put, List.getElem_toArray, List.getElem_cons_zero, List.getElem_cons_succ, List.setIfInBounds_toArray, List.set_cons_zero, List.set_cons_succ]
  refine wpAnyH_take (i := 4) (v := ?_) rfl (by kernel_rfl) (by kernel_rfl) (by kernel_rfl) (fun _ _ _ h => h) (Or.inl ⟨by rfl, ?_⟩) hS0 ?_
  rotate_left
  · intro W _; go_simp; try with_reducible rfl
  try simp only [Act.put, List.getElem_toArray, List.getElem_cons_zero, List.getElem_cons_succ, List.setIfInBounds_toArray, List.set_cons_zero, List.set_cons_succ]
  refine wpAnyH_take (i := 5) (v := ?_) rfl (by kernel_rfl) (by kernel_rfl) (by kernel_rfl) (fun _ _ _ h => h) (Or.inl ⟨by rfl, ?_⟩) hS0 ?_
  rotate_left
  · intro W _; go_simp; try with_reducible rfl
  try simp only [Act.put, List.getElem_toArray, List.getElem_cons_zero, List.getElem_cons_succ, List.setIfInBounds_toArray, List.set_cons_zero, List.set_cons_succ]
  refine wpAnyH_take (i := 6) (v := ?_) rfl (by kernel_rfl) (by kernel_rfl) (by kernel_rfl) (fun _ _ _ h => h) (Or.inl ⟨by rfl, ?_⟩) hS0 ?_
  rotate_left
  · intro W _; go_simp; try with_reducible rfl
  try simp only [Act.put, List.getElem_toArray, List.getElem_cons_zero, List.getElem_cons_succ, List.setIfInBounds_toArray, List.set_cons_zero, List.set_cons_succ]
  refine wpAnyH_take (i := 7) (v := ?_) rfl (by kernel_rfl) (by kernel_rfl) (by kernel_rfl) (fun _ _ _ h => h) (Or.inl ⟨by rfl, ?_⟩) hS0 ?_
  rotate_left
  · intro W _; go_simp; try with_reducible rfl
  try simp only [Act.put, List.getElem_toArray, List.getElem_cons_zero, List.getElem_cons_succ, List.setIfInBounds_toArray, List.set_cons_zero, List.set_cons_succ]
  refine wpAnyH_take (i := 8) (v := ?_) rfl (by kernel_rfl) (by kernel_rfl) (by kernel_rfl) (fun _ _ _ h => h) (Or.inl ⟨by rfl, ?_⟩) hS0 ?_
  rotate_left
  · intro W hSW; have hx := str_of (c := 64) (HZ.out.later hSW).rd HZL.out.symm; go_simp; try with_reducible rfl
  try simp only [Act.put, List.getElem_toArray, List.getElem_cons_zero, List.getElem_cons_succ, List.setIfInBounds_toArray, List.set_cons_zero, List.set_cons_succ]
  refine wpAnyH_take (i := 9) (v := ?_) rfl (by kernel_rfl) (by kernel_rfl) (by kernel_rfl) (fun _ _ _ h => h) (Or.inl ⟨by rfl, ?_⟩) hS0 ?_
  rotate_left
  · intro W _; go_simp; try with_reducible rfl
  try simp only [Act.put, List.getElem_toArray, List.getElem_cons_zero, List.getElem_cons_succ, List.setIfInBounds_toArray, List.set_cons_zero, List.set_cons_succ]
  refine wpAnyH_take (i := 11) (v := ?_) rfl (by kernel_rfl) (by kernel_rfl) (by kernel_rfl) (fun _ _ _ h => h) (Or.inl ⟨by rfl, ?_⟩) hS0 ?_
  rotate_left
  · intro W _; go_simp; try with_reducible rfl
  try simp only [Act.put, List.getElem_toArray, List.getElem_cons_zero, List.getElem_cons_succ, List.setIfInBounds_toArray, List.set_cons_zero, List.set_cons_succ]
  refine wpAnyH_take (i := 14) (v := ?_) rfl (by kernel_rfl) (by kernel_rfl) (by kernel_rfl) (fun _ _ _ h => h) (Or.inl ⟨by rfl, ?_⟩) hS0 ?_
  rotate_left
  · intro W _; go_simp; try with_reducible rfl
  try simp only [Act.put, List.getElem_toArray, List.getElem_cons_zero, List.getElem_cons_succ, List.setIfInBounds_toArray, List.set_cons_zero, List.set_cons_succ]
  refine wpAnyH_take (i := 16) (v := ?_) rfl (by kernel_rfl) (by kernel_rfl) (by kernel_rfl) (fun _ _ _ h => h) (Or.inl ⟨by rfl, ?_⟩) hS0 ?_
  rotate_left
  · intro W _; go_simp; try with_reducible rfl
  try simp only [Act.put, List.getElem_toArray, List.getElem_cons_zero, List.getElem_cons_succ, List.setIfInBounds_toArray, List.set_cons_zero, List.set_cons_succ]
  refine wpAnyH_ready (rs := [10]) (by kernel_rfl) (by simp) ?_
  refine AllReadyH.cons rfl (fun K hK => ?_) AllReadyH.nil
  go_simp
  refine (FB.out _).mono ?_
  rintro e wa ⟨rfl, hfa, hba⟩
  have HFA : Hid (Bk wa wz.heap.size 5 (cells CB).toArray) := hfa
  have HBA := Lib.hid (HBZ.out.drew.trans (hba.mono (HBZ.out.drew.size)))
  have HLA := Lib.hid ((Below.drew (Below.refl wz.heap.size wz)).trans hba)
  clear hfa
  go_simp
  refine hK.out _ _ (hS0.trans (hba.mono hS0.size)) (fun hS1 => ?_)
  clear hK K
  try simp only [Act.put, List.getElem_toArray, List.getElem_cons_zero, List.getElem_cons_succ, List.setIfInBounds_toArray, List.set_cons_zero, List.set_cons_succ]
  refine wpAnyH_strong (S' := fun W => Below wa.heap.size wa W) (fun W hW => hS1.trans (hW.mono hS1.size)) _ _ _ _ ?_
  have hS2 : (fun W => Below wa.heap.size wa W) _ := Below.refl _ _
  refine wpAnyH_take (i := 12) (v := ?_) rfl (by kernel_rfl) (by kernel_rfl) (by kernel_rfl) (fun _ _ _ h => h) (Or.inl ⟨by rfl, ?_⟩) hS2 ?_
  rotate_left
  · intro W _; go_simp; try with_reducible rfl
  try simp only [Act.put, List.getElem_toArray, List.getElem_cons_zero, List.getElem_cons_succ, List.setIfInBounds_toArray, List.set_cons_zero, List.set_cons_succ]
  refine wpAnyH_take (i := 13) (v := ?_) rfl (by kernel_rfl) (by kernel_rfl) (by kernel_rfl) (fun _ _ _ h => h) (Or.inl ⟨by rfl, ?_⟩) hS2 ?_
  rotate_left
  · intro W hSW; have hx := str_of (c := 64) ((HFA.out.later hSW).rd.take n) HTB.out; go_simp; try with_reducible rfl
  try simp only [Act.put, List.getElem_toArray, List.getElem_cons_zero, List.getElem_cons_succ, List.setIfInBounds_toArray, List.set_cons_zero, List.set_cons_succ]
  refine wpAnyH_ready (rs := [15]) (by kernel_rfl) (by simp) ?_
  refine AllReadyH.cons rfl (fun K hK => ?_) AllReadyH.nil
  go_simp
  refine (FA.out _).mono ?_
  rintro e wb ⟨rfl, hfb, hbb⟩
  have HFB := Lib.hid hfb
  have HBB := Lib.hid (HBA.out.trans (hbb.mono HBA.out.size))
  have HSB := Lib.hid ((HSZ.out.later HLA.out).later hbb)
  clear hfb
  go_simp
  refine hK.out _ _ (hS2.trans (hbb.mono hS2.size)) (fun hS3 => ?_)
  clear hK K
  try simp only [Act.put, List.getElem_toArray, List.getElem_cons_zero, List.getElem_cons_succ, List.setIfInBounds_toArray, List.set_cons_zero, List.set_cons_succ]
  refine wpAnyH_strong (S' := fun W => Below wb.heap.size wb W) (fun W hW => hS3.trans (hW.mono hS3.size)) _ _ _ _ ?_
  have hS4 : (fun W => Below wb.heap.size wb W) _ := Below.refl _ _
  refine wpAnyH_take (i := 17) (v := ?_) rfl (by kernel_rfl) (by kernel_rfl) (by kernel_rfl) (fun _ _ _ h => h) (Or.inl ⟨by rfl, ?_⟩) hS4 ?_
  rotate_left
  · intro W _; go_simp; try with_reducible rfl
  try simp only [Act.put, List.getElem_toArray, List.getElem_cons_zero, List.getElem_cons_succ, List.setIfInBounds_toArray, List.set_cons_zero, List.set_cons_succ]
  refine wpAnyH_take (i := 18) (v := ?_) rfl (by kernel_rfl) (by kernel_rfl) (by kernel_rfl) (fun _ _ _ h => h) (Or.inl ⟨by rfl, ?_⟩) hS4 ?_
  rotate_left
  · intro W hSW; have hx := drop_str (HFB.out.later hSW) HAL.out HNN.out; go_simp; try with_reducible rfl
  try simp only [Act.put, List.getElem_toArray, List.getElem_cons_zero, List.getElem_cons_succ, List.setIfInBounds_toArray, List.set_cons_zero, List.set_cons_succ]
  refine wpAnyH_take (i := 19) (v := ?_) rfl (by kernel_rfl) (by kernel_rfl) (by kernel_rfl) (fun _ _ _ h => h) (Or.inl ⟨by rfl, ?_⟩) hS4 ?_
  rotate_left
  · intro W hSW; have hx := S_append (CB.take n) (CA.drop n); have hy : ¬ 9223372036854775807 < (S (CB.take n)).size + (S (CA.drop n)).size := (by rw [S_size, S_size, ← HTB.out, ← HDA.out]; omega); go_simp; try with_reducible rfl
  try simp only [Act.put, List.getElem_toArray, List.getElem_cons_zero, List.getElem_cons_succ, List.setIfInBounds_toArray, List.set_cons_zero, List.set_cons_succ]
  refine wpAnyH_take (i := 20) (v := ?_) rfl (by kernel_rfl) (by kernel_rfl) (by kernel_rfl) (fun _ _ _ h => h) (Or.inl ⟨by rfl, ?_⟩) hS4 ?_
  rotate_left
  · intro W _; go_simp; try with_reducible rfl
  try simp only [Act.put, List.getElem_toArray, List.getElem_cons_zero, List.getElem_cons_succ, List.setIfInBounds_toArray, List.set_cons_zero, List.set_cons_succ]
  refine wpAnyH_take (i := 21) (v := ?_) rfl (by kernel_rfl) (by kernel_rfl) (by kernel_rfl) (fun _ _ _ h => h) (Or.inl ⟨by rfl, ?_⟩) hS4 ?_
  rotate_left
  · intro W _; go_simp; try with_reducible rfl
  try simp only [Act.put, List.getElem_toArray, List.getElem_cons_zero, List.getElem_cons_succ, List.setIfInBounds_toArray, List.set_cons_zero, List.set_cons_succ]
  refine wpAnyH_take (i := 22) (v := ?_) rfl (by kernel_rfl) (by kernel_rfl) (by kernel_rfl) (fun _ _ _ h => h) (Or.inl ⟨by rfl, ?_⟩) hS4 ?_
  rotate_left
  · intro W _; go_simp; try with_reducible rfl
  try simp only [Act.put, List.getElem_toArray, List.getElem_cons_zero, List.getElem_cons_succ, List.setIfInBounds_toArray, List.set_cons_zero, List.set_cons_succ]
  refine wpAnyH_take (i := 23) (v := ?_) rfl (by kernel_rfl) (by kernel_rfl) (by kernel_rfl) (fun _ _ _ h => h) (Or.inl ⟨by rfl, ?_⟩) hS4 ?_
  rotate_left
  · intro W _; go_simp; try with_reducible rfl
  try simp only [Act.put, List.getElem_toArray, List.getElem_cons_zero, List.getElem_cons_succ, List.setIfInBounds_toArray, List.set_cons_zero, List.set_cons_succ]
  refine wpAnyH_ready (rs := [24]) (by kernel_rfl) (by simp) ?_
  refine AllReadyH.cons rfl (fun K hK => ?_) AllReadyH.nil
  go_simp
  refine (writes_any g _ _ HSB.out).mono ?_
  rintro e we ⟨rfl, rfl⟩
  
  go_simp
  refine hK.out _ _ (hS4) (fun hS5 => ?_)
  clear hK K
  try simp only [Act.put, List.getElem_toArray, List.getElem_cons_zero, List.getElem_cons_succ, List.setIfInBounds_toArray, List.set_cons_zero, List.set_cons_succ]
  refine wpAnyH_take (i := 25) (v := ?_) rfl (by kernel_rfl) (by kernel_rfl) (by kernel_rfl) (fun _ _ _ h => h) (Or.inl ⟨by rfl, ?_⟩) hS5 ?_
  rotate_left
  · intro W _; go_simp; try with_reducible rfl
  try simp only [Act.put, List.getElem_toArray, List.getElem_cons_zero, List.getElem_cons_succ, List.setIfInBounds_toArray, List.set_cons_zero, List.set_cons_succ]
  refine wpAnyH_take (i := 26) (v := ?_) rfl (by kernel_rfl) (by kernel_rfl) (by kernel_rfl) (fun _ _ _ h => h) (Or.inl ⟨by rfl, ?_⟩) hS5 ?_
  rotate_left
  · intro W _; go_simp; try with_reducible rfl
  try simp only [Act.put, List.getElem_toArray, List.getElem_cons_zero, List.getElem_cons_succ, List.setIfInBounds_toArray, List.set_cons_zero, List.set_cons_succ]
  refine wpAnyH_take (i := 27) (v := ?_) rfl (by kernel_rfl) (by kernel_rfl) (by kernel_rfl) (fun _ _ _ h => h) (Or.inl ⟨by rfl, ?_⟩) hS5 ?_
  rotate_left
  · intro W _; go_simp; try with_reducible rfl
  try simp only [Act.put, List.getElem_toArray, List.getElem_cons_zero, List.getElem_cons_succ, List.setIfInBounds_toArray, List.set_cons_zero, List.set_cons_succ]
  refine wpAnyH_done (by kernel_rfl) ?_ _
  clear hS0 hS1 hS2 hS3 hS4 hba hbb hmk hqn hq hm hk hn hk0 hk1 hn0 hn1
  go_wp2
  all_goals go_ret
  all_goals exact ⟨rfl, HBB.out⟩
end Go.Proofs.Ytnikhlajlhgikaa
