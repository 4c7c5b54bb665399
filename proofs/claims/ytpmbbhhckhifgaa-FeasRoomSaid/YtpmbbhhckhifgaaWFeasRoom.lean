/- The walk of FeasRoom. No condition beyond the form's own. -/
import Derived.Test.YtpmbbhhckhifgaaWl
import Derived.Deep.DeepCutAuto
import Derived.Deep.RegionHeld3
namespace Go.Proofs.Ytpmbbhhckhifgaa
open Go.RowKit
set_option linter.unusedSimpArgs false
set_option linter.unusedVariables false
namespace feasRoom


set_option maxHeartbeats 12800000 in
set_option maxRecDepth 100000 in
theorem walk (m : Mc) (ml : List Lb) (A : Option Addr) (n cap : Nat) (l : List Jb) (t : Kt) (tl : List Lb) (w : World) (hm : McOk w m ml) (hn : n = l.length) (hA : RdJ w A l) (hc : n ≤ cap) (hc2 : cap ≤ 9223372036854775807) (ht : KtOk w t tl) :
    Calls Try.prog 3 #[.agg m.arr, .slice A n cap, .agg t.arr] w fun r w' => r = .returned (.bool true) ∧ Below w.heap.size w w' := by
  obtain ⟨FW, hFW⟩ : ∃ FW, fewM [m] n = FW := ⟨_, rfl⟩
  have kf := fun (A' : Option Addr) (W : World) (h : RdM W A' [m]) => few_any A' 1 1 [m] A n cap W (show 1 = 1 from rfl) (by omega) (by omega) h
  rw [hFW] at kf
  have KF := Lib.hid kf; have HFW := Lib.hid hFW; clear kf hFW

  obtain ⟨r, hr⟩ : ∃ r, why m ml t tl l = r := ⟨_, rfl⟩
  have kw := fun (hl : n ≤ 1000000) (W : World) (h1 : RdJ W A l) (h2 : McOk W m ml) (h3 : KtOk W t tl) => why_any m ml A n cap l t tl W hn hl h1 h2 h3 r hr
  have KW := Lib.hid kw; have HA := Lib.hid hA; have HM := Lib.hid hm; have HT := Lib.hid ht; have HR := Lib.hid hr; have HL := Lib.hid hn
  clear kw hA hm ht hr hn
  go_enter Try.func3, Try.ntmps3
  have HM0 := Lib.hid (show Bk ((w.alloc (.cells m.arr 28)).alloc (.cells t.arr 31)) w.heap.size 28 m.arr from (Bk.fresh w _ _).later ((Below.refl _ _).alloc (Nat.le_refl _) _))
  have HT0 := Lib.hid (show Bk ((w.alloc (.cells m.arr 28)).alloc (.cells t.arr 31)) (w.heap.size + 1) 31 t.arr from Bk.freshAt _ _ _ (by simp))
  have hB0 : Below w.heap.size w ((w.alloc (.cells m.arr 28)).alloc (.cells t.arr 31)) := ((Below.refl _ _).alloc (Nat.le_refl _) _).alloc (by simp) _
  go_wp2_with fail
  refine (awake_any _).mono ?_; rintro v w1 ⟨rfl, hb1⟩
  have hB1 : Below w.heap.size w w1 := hB0.trans (hb1.mono hB0.size)
  have HM1 := Lib.hid (HM0.out.later hb1); have HT1 := Lib.hid (HT0.out.later hb1); clear HM0 HT0
  go_wp2_with (with_reducible refine load_bk rfl 28 _ rfl w.heap.size 0 rfl 28 m.arr m.arr _ HM1.out (Part.whole _) Try.underlying28 rfl (by kernel_rfl) ?_)
  have hF1 : RdM (w1.alloc (.cells m.arr 28)) (some ⟨w1.heap.size, 0, none⟩) [m] := fresh_k w1 7 m.cells 28 rfl
  have bl1 : Below w1.heap.size w1 (w1.alloc (.cells m.arr 28)) := (Below.refl _ _).alloc (Nat.le_refl _) _
  refine (KF.out _ _ hF1).mono ?_; rintro v w2 ⟨rfl, hb2⟩
  have hB1' : Below w.heap.size w (w1.alloc (.cells m.arr 28)) := hB1.alloc hB1.size _
  have hB2 : Below w.heap.size w w2 := hB1'.trans (hb2.mono hB1'.size)
  have HM2 := Lib.hid ((HM1.out.later bl1).later hb2); have HT2 := Lib.hid ((HT1.out.later bl1).later hb2); clear HM1 HT1
  clear hF1 bl1 hb1 hb2 hB0 hB1 hB1'
  cases FW
  case false =>
    go_wp2_with fail
    refine (awake_any _).mono ?_; rintro v wz ⟨rfl, hbz⟩
    go_wp2_with fail
    go_ret
    exact ⟨rfl, hB2.trans (hbz.mono hB2.size)⟩
  case true =>
    have hfw : n ≤ 200 := by have h := HFW.out; unfold fewM at h; simp only [Bool.and_eq_true, decide_eq_true_eq] at h; exact h.1.2
    have ct : w2.cell? ⟨w.heap.size + 1, 6, none⟩ = some (.slice t.A t.n t.cp) := HT2.out.cellAt 6
    have z1 : w.heap.size + 1 < w2.heap.size := HT2.out.here
    by_cases ht20 : t.n ≤ 20
    case neg =>
      go_wp2_with fail
      refine (awake_any _).mono ?_; rintro v wz ⟨rfl, hbz⟩
      go_wp2_with fail
      go_ret
      exact ⟨rfl, hB2.trans (hbz.mono hB2.size)⟩
    case pos =>
      have d20 : decide (20 < (t.n : Int)) = false := by rw [decide_eq_false_iff_not]; omega
      go_wp2_with (first | (with_reducible refine load_bk rfl 28 _ rfl w.heap.size 0 rfl 28 m.arr m.arr _ HM2.out (Part.whole _) Try.underlying28 rfl (by kernel_rfl) ?_) | (with_reducible refine load_bk rfl 31 _ rfl (w.heap.size + 1) 0 rfl 31 t.arr t.arr _ HT2.out (Part.whole _) Try.underlying31 rfl (by kernel_rfl) ?_))
      refine (KW.out (by omega) _ (HA.out.later hB2) (HM.out.later hB2) (HT.out.later hB2)).mono ?_; rintro v w3 ⟨rfl, hb3⟩
      have hB3 : Below w.heap.size w w3 := hB2.trans (hb3.mono hB2.size)
      have HM3 := Lib.hid (HM2.out.later hb3); have HT3 := Lib.hid (HT2.out.later hb3); clear HM2 HT2 ct z1
      by_cases h0 : r = 0
      case neg =>
        have hd : decide (r = 0) = false := decide_eq_false h0
        go_wp2_with fail
        refine (awake_any _).mono ?_; rintro v wz ⟨rfl, hbz⟩
        go_wp2_with fail
        go_ret
        exact ⟨rfl, hB3.trans (hbz.mono hB3.size)⟩
      subst h0

      obtain ⟨p, q, s, hf, hf2, hsb, hse, hup⟩ := room HR.out
      have k3 := fun (W : World) (h : RdJ W A l) => freeM_any m A n cap l W HL.out (by omega) h p q s 0 hf
      obtain ⟨n2, hn2⟩ : ∃ n2, n2 = (l ++ [t.job m.nm]).length := ⟨_, rfl⟩
      have hnl : l.length ≤ 200 := by have := HL.out; omega
      have hn2l : n2 ≤ 201 := by rw [hn2, List.length_append]; simp; omega
      have k4 := fun (A2 : Option Addr) (c2 : Nat) (W : World) (h : Hid (RdJ W A2 (l ++ [t.job m.nm]))) => freeM_any m A2 n2 c2 (l ++ [t.job m.nm]) W hn2 (by omega) h _ _ _ _ hf2
      have k5 := fun W => sub_any p q s t.a t.b t.c W
      rw [hsb, hse, kp_t, kp_t, kp_t] at k5
      have K3 := Lib.hid k3; have K4 := Lib.hid k4; have K5 := Lib.hid k5; have HM2 := Lib.hid hn2; have HUP := Lib.hid hup
      have HMJ : Hid (n = (cellsJ l).length) := by show _ = _; rw [cellsJ_length]; exact HL.out
      have hE : eq3 (p - t.a) (q - t.b) (s - t.c) (p - t.a) (q - t.b) (s - t.c) = true := by simp [eq3]
      clear k3 k4 k5 hf hf2 hsb hse hup hn2 KW KF HFW
      go_wp2_with (with_reducible refine load_bk rfl 28 _ rfl w.heap.size 0 rfl 28 m.arr m.arr _ HM3.out (Part.whole _) Try.underlying28 rfl (by kernel_rfl) ?_)
      refine (K3.out _ (HA.out.later hB3)).mono ?_; rintro v w4 ⟨rfl, hb4⟩
      have hB4 : Below w.heap.size w w4 := hB3.trans (hb4.mono hB3.size)
      have HM4 := Lib.hid (HM3.out.later hb4); have HT4 := Lib.hid (HT3.out.later hb4); clear HM3 HT3 hb4
      go_upto_region 4 with ((with_reducible refine store_bk rfl 23 (.tmp 7) (.tmp 40) rfl w4.heap.size 0 #[.int .i64 p, .int .i64 q, .int .i64 s] rfl rfl 23 _ #[.int .i64 p, .int .i64 q, .int .i64 s] (Bk.fresh _ _ _) (by kernel_rfl) (by simp) (by kernel_rfl) rfl ?_); intro w5 hX hg hs; have HX7 := Lib.hid hX; clear hX hs; have bl : Below w4.heap.size w4 w5 := grown_below ((Below.refl _ _).alloc (Nat.le_refl _) _) hg (Nat.le_refl _); clear hg; have HM5 := Lib.hid (HM4.out.later bl); have HT5 := Lib.hid (HT4.out.later bl); have hB5 : Below w.heap.size w w5 := hB4.trans (bl.mono hB4.size); clear bl HM4 HT4)
      have HA5 := Lib.hid (show RdJ w5 A l from HA.out.later hB5)
      have cnm : w5.cell? ⟨w.heap.size, 0, none⟩ = some (.string m.nm) := HM5.out.cellAt 0
      have lt5 : w.heap.size < w5.heap.size := HM5.out.here
      have lt6 : w.heap.size + 1 < w5.heap.size := HT5.out.here
      go_cut [9, 10] (fun s9 s10 wx => ∃ g9 : Nat, s9 = .pointer (some ⟨g9, 0, none⟩) ∧ s10 = .int .i64 0 ∧ Below w5.heap.size w5 wx ∧ Bk wx g9 23 #[.int .i64 (p - t.a), .int .i64 (q - t.b), .int .i64 (s - t.c)])
      case first =>
        refine wp_region_held_drew (S := fun W => Below w5.heap.size w5 W) (by kernel_rfl) (Below.drew (Below.refl _ _)) (fun hS0 => ?_)
        refine wpAnyH_take (i := 0) (v := .agg m.arr) rfl (by kernel_rfl) (by kernel_rfl) (by kernel_rfl) (fun _ _ _ h => h) (yields_bk rfl 28 _ rfl w.heap.size 0 rfl 28 m.arr m.arr _ (fun W hW => HM5.out.later hW) (Part.whole _) Try.underlying28 rfl (by kernel_rfl)) hS0 ?_
        try simp only [Act.put, List.getElem_toArray, List.getElem_cons_zero, List.getElem_cons_succ, List.setIfInBounds_toArray, List.set_cons_zero, List.set_cons_succ]
        refine wpAnyH_take (i := 2) (v := ?_) rfl (by kernel_rfl) (by kernel_rfl) (by kernel_rfl) (fun _ _ _ h => h) (Or.inl ⟨by rfl, ?_⟩) hS0 ?_
        rotate_left
        · intro W _; go_simp; try with_reducible rfl
        try simp only [Act.put, List.getElem_toArray, List.getElem_cons_zero, List.getElem_cons_succ, List.setIfInBounds_toArray, List.set_cons_zero, List.set_cons_succ]
        refine wpAnyH_take (i := 4) (v := .agg t.arr) rfl (by kernel_rfl) (by kernel_rfl) (by kernel_rfl) (fun _ _ _ h => h) (yields_bk rfl 31 _ rfl (w.heap.size + 1) 0 rfl 31 t.arr t.arr _ (fun W hW => HT5.out.later hW) (Part.whole _) Try.underlying31 rfl (by kernel_rfl)) hS0 ?_
        try simp only [Act.put, List.getElem_toArray, List.getElem_cons_zero, List.getElem_cons_succ, List.setIfInBounds_toArray, List.set_cons_zero, List.set_cons_succ]
        refine wpAnyH_take (i := 5) (v := ?_) rfl (by kernel_rfl) (by kernel_rfl) (by kernel_rfl) (fun _ _ _ h => h) (Or.inl ⟨by rfl, ?_⟩) hS0 ?_
        rotate_left
        · intro W _; go_simp; try with_reducible rfl
        try simp only [Act.put, List.getElem_toArray, List.getElem_cons_zero, List.getElem_cons_succ, List.setIfInBounds_toArray, List.set_cons_zero, List.set_cons_succ]
        refine wpAnyH_take (i := 6) (v := ?_) rfl (by kernel_rfl) (by kernel_rfl) (by kernel_rfl) (fun _ _ _ h => h) (Or.inl ⟨by rfl, ?_⟩) hS0 ?_
        rotate_left
        · intro W _; go_simp; try with_reducible rfl
        try simp only [Act.put, List.getElem_toArray, List.getElem_cons_zero, List.getElem_cons_succ, List.setIfInBounds_toArray, List.set_cons_zero, List.set_cons_succ]
        refine wpAnyH_take (i := 7) (v := ?_) rfl (by kernel_rfl) (by kernel_rfl) (by kernel_rfl) (fun _ _ _ h => h) (Or.inl ⟨by rfl, ?_⟩) hS0 ?_
        rotate_left
        · intro W hSW; have hx : ∀ b o, b < w5.heap.size → W.cell? ⟨b, o, none⟩ = w5.cell? ⟨b, o, none⟩ := fun b o h => hSW.cell (p := ⟨b, o, none⟩) h; go_simp; try with_reducible rfl
        try simp only [Act.put, List.getElem_toArray, List.getElem_cons_zero, List.getElem_cons_succ, List.setIfInBounds_toArray, List.set_cons_zero, List.set_cons_succ]
        refine wpAnyH_take (i := 8) (v := ?_) rfl (by kernel_rfl) (by kernel_rfl) (by kernel_rfl) (fun _ _ _ h => h) (Or.inl ⟨by rfl, ?_⟩) hS0 ?_
        rotate_left
        · intro W _; go_simp; try with_reducible rfl
        try simp only [Act.put, List.getElem_toArray, List.getElem_cons_zero, List.getElem_cons_succ, List.setIfInBounds_toArray, List.set_cons_zero, List.set_cons_succ]
        refine wpAnyH_ready (rs := [1, 9, 15]) (by kernel_rfl) (by simp) ?_
        refine (AllReadyH.cons rfl (fun K hK => ?_) (AllReadyH.cons rfl (fun K hK => ?_) (AllReadyH.cons rfl (fun K hK => ?_) AllReadyH.nil)))
        · refine none_op rfl ?_
          intro g46 v1 hg46 hE hbl
          have hg46' : w5.heap.size ≤ g46 := by have := hS0.size; omega
          have HE1 := Lib.hid hE; clear hE hg46
          refine hK.out _ _ (hS0.trans (hbl.mono hS0.size)) (fun hS1 => ?_)
          clear hK K
          try simp only [Act.put, List.getElem_toArray, List.getElem_cons_zero, List.getElem_cons_succ, List.setIfInBounds_toArray, List.set_cons_zero, List.set_cons_succ]
          refine wpAnyH_ready (rs := [3, 9, 15]) (by kernel_rfl) (by simp) ?_
          refine (AllReadyH.cons rfl (fun K hK => ?_) (AllReadyH.cons rfl (fun K hK => ?_) (AllReadyH.cons rfl (fun K hK => ?_) AllReadyH.nil)))
          · refine append_kn_op _ (.tmp 44) (.tmp 45) 29 rfl w5.heap.size 40 _ 13 160 Try.underlying29 infoJ rfl (by omega) (.slice (some ⟨g46, 0, none⟩) 0 0) [] rfl (OwnK.of_empty HE1.out hg46') A cap n (cellsJ l) rfl (RdK.later HA5.out hS1) (cellsJ_k _) (cellsJ_one _) HMJ.out (by simp [cellsJ, maxLen]; omega) (by simp [cellsJ, maxLen]; omega) hS1.size ?_
            intro u48 v2 hV hgr
            have HV2 := Lib.hid (show OwnK _ _ _ _ _ (cellsJ l) from hV); clear hV
            have hbl : Below w5.heap.size _ v2 := grown_base hgr hS1.size (by intro kk ee; cases ee; exact hg46')
            clear HE1 hgr
            refine hK.out _ _ (hS1.trans hbl) (fun hS2 => ?_)
            clear hK K
            try simp only [Act.put, List.getElem_toArray, List.getElem_cons_zero, List.getElem_cons_succ, List.setIfInBounds_toArray, List.set_cons_zero, List.set_cons_succ]
            refine wpAnyH_ready (rs := [9, 15]) (by kernel_rfl) (by simp) ?_
            refine (AllReadyH.cons rfl (fun K hK => ?_) (AllReadyH.cons rfl (fun K hK => ?_) AllReadyH.nil))
            · refine one_op 51 (t.job m.nm).arr rfl rfl rfl ?_
              intro g50 v3 hg50 hF hbl
              have HF3 := Lib.hid hF; clear hF hg50
              have HV3 := Lib.hid (HV2.out.below hbl); clear HV2
              refine hK.out _ _ (hS2.trans (hbl.mono hS2.size)) (fun hS3 => ?_)
              clear hK K
              try simp only [Act.put, List.getElem_toArray, List.getElem_cons_zero, List.getElem_cons_succ, List.setIfInBounds_toArray, List.set_cons_zero, List.set_cons_succ]
              refine wpAnyH_ready (rs := [10, 15]) (by kernel_rfl) (by simp) ?_
              refine (AllReadyH.cons rfl (fun K hK => ?_) (AllReadyH.cons rfl (fun K hK => ?_) AllReadyH.nil))
              · refine append_k_op _ (.tmp 46) (.tmp 52) 29 rfl w5.heap.size 40 _ 13 160 Try.underlying29 infoJ rfl (by omega) u48 (cellsJ l) rfl HV3.out ⟨g50, 0, none⟩ 1 1 (cellsJ [t.job m.nm]) rfl (RdK.of_bk HF3.out) (cellsJ_k _) (cellsJ_one _) rfl (by simp [cellsJ, maxLen]; omega) (by simp [cellsJ, maxLen]; omega) hS3.size ?_
                intro u51 v4 hO hgr
                rw [← cellsJ_append] at hO
                obtain ⟨A2, c2, hv2, hr2, hc3, hc4⟩ := hO.rdj
                rw [← HM2.out] at hv2 hc3
                subst hv2
                have HQ4 := Lib.hid hr2; clear hr2 hO
                have hbl : Below w5.heap.size _ v4 := grown_base hgr hS3.size HV3.out.block
                clear HV3 HF3 hgr
                refine hK.out _ _ (hS3.trans hbl) (fun hS4 => ?_)
                clear hK K
                try simp only [Act.put, List.getElem_toArray, List.getElem_cons_zero, List.getElem_cons_succ, List.setIfInBounds_toArray, List.set_cons_zero, List.set_cons_succ]
                refine wpAnyH_ready (rs := [11, 15]) (by kernel_rfl) (by simp) ?_
                refine (AllReadyH.cons rfl (fun K hK => ?_) (AllReadyH.cons rfl (fun K hK => ?_) AllReadyH.nil))
                · go_simp
                  refine (K4.out A2 c2 _ HQ4).mono ?_
                  rintro r v5 ⟨rfl, hbl⟩
                  go_simp
                  clear HQ4
                  refine hK.out _ _ (hS4.trans (hbl.mono hS4.size)) (fun hS5 => ?_)
                  clear hK K
                  try simp only [Act.put, List.getElem_toArray, List.getElem_cons_zero, List.getElem_cons_succ, List.setIfInBounds_toArray, List.set_cons_zero, List.set_cons_succ]
                  refine wpAnyH_take (i := 12) (v := ?_) rfl (by kernel_rfl) (by kernel_rfl) (by kernel_rfl) (fun _ _ _ h => h) (Or.inl ⟨by rfl, ?_⟩) hS5 ?_
                  rotate_left
                  · intro W _; go_simp; try with_reducible rfl
                  try simp only [Act.put, List.getElem_toArray, List.getElem_cons_zero, List.getElem_cons_succ, List.setIfInBounds_toArray, List.set_cons_zero, List.set_cons_succ]
                  refine wpAnyH_take (i := 13) (v := ?_) rfl (by kernel_rfl) (by kernel_rfl) (by kernel_rfl) (fun _ _ _ h => h) (Or.inl ⟨by rfl, ?_⟩) hS5 ?_
                  rotate_left
                  · intro W _; go_simp; try with_reducible rfl
                  try simp only [Act.put, List.getElem_toArray, List.getElem_cons_zero, List.getElem_cons_succ, List.setIfInBounds_toArray, List.set_cons_zero, List.set_cons_succ]
                  refine wpAnyH_take (i := 14) (v := ?_) rfl (by kernel_rfl) (by kernel_rfl) (by kernel_rfl) (fun _ _ _ h => h) (Or.inl ⟨by rfl, ?_⟩) hS5 ?_
                  rotate_left
                  · intro W _; go_simp; try with_reducible rfl
                  try simp only [Act.put, List.getElem_toArray, List.getElem_cons_zero, List.getElem_cons_succ, List.setIfInBounds_toArray, List.set_cons_zero, List.set_cons_succ]
                  refine wpAnyH_ready (rs := [15]) (by kernel_rfl) (by simp) ?_
                  refine (AllReadyH.cons rfl (fun K hK => ?_) AllReadyH.nil)
                  refine cell_op rfl ?_
                  intro g9 v6 hg9 hZ hbl
                  have hg9' : w5.heap.size ≤ g9 := by have := hS5.size; omega
                  have HZ6 := Lib.hid hZ; clear hZ hg9
                  refine hK.out _ _ (hS5.trans (hbl.mono hS5.size)) (fun hS6 => ?_)
                  clear hK K
                  try simp only [Act.put, List.getElem_toArray, List.getElem_cons_zero, List.getElem_cons_succ, List.setIfInBounds_toArray, List.set_cons_zero, List.set_cons_succ]
                  refine wpAnyH_ready (rs := [16]) (by kernel_rfl) (by simp) ?_
                  refine (AllReadyH.cons rfl (fun K hK => ?_) AllReadyH.nil)
                  refine store_bk_op 23 (.tmp 9) (.tmp 55) rfl g9 0 #[.int .i64 (p - t.a), .int .i64 (q - t.b), .int .i64 (s - t.c)] rfl rfl 23 #[.int .i64 0, .int .i64 0, .int .i64 0] #[.int .i64 (p - t.a), .int .i64 (q - t.b), .int .i64 (s - t.c)] HZ6.out (by kernel_rfl) (by simp) (by kernel_rfl) rfl ?_
                  intro v7 hX hgr hs
                  have HX := Lib.hid hX; clear hX hs
                  have hbl : Below w5.heap.size _ v7 := grown_base hgr hS6.size (by intro kk ee; cases ee; exact hg9')
                  clear HZ6 hgr
                  refine hK.out _ _ (hS6.trans hbl) (fun hS7 => ?_)
                  clear hK K
                  try simp only [Act.put, List.getElem_toArray, List.getElem_cons_zero, List.getElem_cons_succ, List.setIfInBounds_toArray, List.set_cons_zero, List.set_cons_succ]
                  refine wpAnyH_take (i := 17) (v := ?_) rfl (by kernel_rfl) (by kernel_rfl) (by kernel_rfl) (fun _ _ _ h => h) (Or.inl ⟨by rfl, ?_⟩) hS7 ?_
                  rotate_left
                  · intro W _; go_simp; try with_reducible rfl
                  try simp only [Act.put, List.getElem_toArray, List.getElem_cons_zero, List.getElem_cons_succ, List.setIfInBounds_toArray, List.set_cons_zero, List.set_cons_succ]
                  refine wpAnyH_done (by kernel_rfl) ?_ _
                  go_wp2_with fail
                  go_meet
                  exact ⟨g9, rfl, rfl, hS7, HX.out⟩
                · refine cell_op rfl ?_
                  intro g9 v5 hg9 hZ hbl
                  have hg9' : w5.heap.size ≤ g9 := by have := hS4.size; omega
                  have HZ5 := Lib.hid hZ; clear hZ hg9
                  have HQ5 := Lib.hid (HQ4.out.later hbl); clear HQ4
                  refine hK.out _ _ (hS4.trans (hbl.mono hS4.size)) (fun hS5 => ?_)
                  clear hK K
                  try simp only [Act.put, List.getElem_toArray, List.getElem_cons_zero, List.getElem_cons_succ, List.setIfInBounds_toArray, List.set_cons_zero, List.set_cons_succ]
                  refine wpAnyH_ready (rs := [11]) (by kernel_rfl) (by simp) ?_
                  refine (AllReadyH.cons rfl (fun K hK => ?_) AllReadyH.nil)
                  go_simp
                  refine (K4.out A2 c2 _ HQ5).mono ?_
                  rintro r v6 ⟨rfl, hbl⟩
                  go_simp
                  have HZ6 := Lib.hid (HZ5.out.later hbl); clear HZ5
                  clear HQ5
                  refine hK.out _ _ (hS5.trans (hbl.mono hS5.size)) (fun hS6 => ?_)
                  clear hK K
                  try simp only [Act.put, List.getElem_toArray, List.getElem_cons_zero, List.getElem_cons_succ, List.setIfInBounds_toArray, List.set_cons_zero, List.set_cons_succ]
                  refine wpAnyH_take (i := 12) (v := ?_) rfl (by kernel_rfl) (by kernel_rfl) (by kernel_rfl) (fun _ _ _ h => h) (Or.inl ⟨by rfl, ?_⟩) hS6 ?_
                  rotate_left
                  · intro W _; go_simp; try with_reducible rfl
                  try simp only [Act.put, List.getElem_toArray, List.getElem_cons_zero, List.getElem_cons_succ, List.setIfInBounds_toArray, List.set_cons_zero, List.set_cons_succ]
                  refine wpAnyH_take (i := 13) (v := ?_) rfl (by kernel_rfl) (by kernel_rfl) (by kernel_rfl) (fun _ _ _ h => h) (Or.inl ⟨by rfl, ?_⟩) hS6 ?_
                  rotate_left
                  · intro W _; go_simp; try with_reducible rfl
                  try simp only [Act.put, List.getElem_toArray, List.getElem_cons_zero, List.getElem_cons_succ, List.setIfInBounds_toArray, List.set_cons_zero, List.set_cons_succ]
                  refine wpAnyH_take (i := 14) (v := ?_) rfl (by kernel_rfl) (by kernel_rfl) (by kernel_rfl) (fun _ _ _ h => h) (Or.inl ⟨by rfl, ?_⟩) hS6 ?_
                  rotate_left
                  · intro W _; go_simp; try with_reducible rfl
                  try simp only [Act.put, List.getElem_toArray, List.getElem_cons_zero, List.getElem_cons_succ, List.setIfInBounds_toArray, List.set_cons_zero, List.set_cons_succ]
                  refine wpAnyH_ready (rs := [16]) (by kernel_rfl) (by simp) ?_
                  refine (AllReadyH.cons rfl (fun K hK => ?_) AllReadyH.nil)
                  refine store_bk_op 23 (.tmp 9) (.tmp 55) rfl g9 0 #[.int .i64 (p - t.a), .int .i64 (q - t.b), .int .i64 (s - t.c)] rfl rfl 23 #[.int .i64 0, .int .i64 0, .int .i64 0] #[.int .i64 (p - t.a), .int .i64 (q - t.b), .int .i64 (s - t.c)] HZ6.out (by kernel_rfl) (by simp) (by kernel_rfl) rfl ?_
                  intro v7 hX hgr hs
                  have HX := Lib.hid hX; clear hX hs
                  have hbl : Below w5.heap.size _ v7 := grown_base hgr hS6.size (by intro kk ee; cases ee; exact hg9')
                  clear HZ6 hgr
                  refine hK.out _ _ (hS6.trans hbl) (fun hS7 => ?_)
                  clear hK K
                  try simp only [Act.put, List.getElem_toArray, List.getElem_cons_zero, List.getElem_cons_succ, List.setIfInBounds_toArray, List.set_cons_zero, List.set_cons_succ]
                  refine wpAnyH_take (i := 17) (v := ?_) rfl (by kernel_rfl) (by kernel_rfl) (by kernel_rfl) (fun _ _ _ h => h) (Or.inl ⟨by rfl, ?_⟩) hS7 ?_
                  rotate_left
                  · intro W _; go_simp; try with_reducible rfl
                  try simp only [Act.put, List.getElem_toArray, List.getElem_cons_zero, List.getElem_cons_succ, List.setIfInBounds_toArray, List.set_cons_zero, List.set_cons_succ]
                  refine wpAnyH_done (by kernel_rfl) ?_ _
                  go_wp2_with fail
                  go_meet
                  exact ⟨g9, rfl, rfl, hS7, HX.out⟩
              · refine cell_op rfl ?_
                intro g9 v4 hg9 hZ hbl
                have hg9' : w5.heap.size ≤ g9 := by have := hS3.size; omega
                have HZ4 := Lib.hid hZ; clear hZ hg9
                have HV4 := Lib.hid (HV3.out.below hbl); clear HV3
                have HF4 := Lib.hid (HF3.out.later hbl); clear HF3
                refine hK.out _ _ (hS3.trans (hbl.mono hS3.size)) (fun hS4 => ?_)
                clear hK K
                try simp only [Act.put, List.getElem_toArray, List.getElem_cons_zero, List.getElem_cons_succ, List.setIfInBounds_toArray, List.set_cons_zero, List.set_cons_succ]
                refine wpAnyH_ready (rs := [10]) (by kernel_rfl) (by simp) ?_
                refine (AllReadyH.cons rfl (fun K hK => ?_) AllReadyH.nil)
                refine append_k_op _ (.tmp 46) (.tmp 52) 29 rfl w5.heap.size 40 _ 13 160 Try.underlying29 infoJ rfl (by omega) u48 (cellsJ l) rfl HV4.out ⟨g50, 0, none⟩ 1 1 (cellsJ [t.job m.nm]) rfl (RdK.of_bk HF4.out) (cellsJ_k _) (cellsJ_one _) rfl (by simp [cellsJ, maxLen]; omega) (by simp [cellsJ, maxLen]; omega) hS4.size ?_
                intro u51 v5 hO hgr
                rw [← cellsJ_append] at hO
                obtain ⟨A2, c2, hv2, hr2, hc3, hc4⟩ := hO.rdj
                rw [← HM2.out] at hv2 hc3
                subst hv2
                have HQ5 := Lib.hid hr2; clear hr2 hO
                have HZ5 := Lib.hid (HZ4.out.stays hgr (HV4.out.ne HZ4.out (by decide))); clear HZ4
                have hbl : Below w5.heap.size _ v5 := grown_base hgr hS4.size HV4.out.block
                clear HV4 HF4 hgr
                refine hK.out _ _ (hS4.trans hbl) (fun hS5 => ?_)
                clear hK K
                try simp only [Act.put, List.getElem_toArray, List.getElem_cons_zero, List.getElem_cons_succ, List.setIfInBounds_toArray, List.set_cons_zero, List.set_cons_succ]
                refine wpAnyH_ready (rs := [11]) (by kernel_rfl) (by simp) ?_
                refine (AllReadyH.cons rfl (fun K hK => ?_) AllReadyH.nil)
                go_simp
                refine (K4.out A2 c2 _ HQ5).mono ?_
                rintro r v6 ⟨rfl, hbl⟩
                go_simp
                have HZ6 := Lib.hid (HZ5.out.later hbl); clear HZ5
                clear HQ5
                refine hK.out _ _ (hS5.trans (hbl.mono hS5.size)) (fun hS6 => ?_)
                clear hK K
                try simp only [Act.put, List.getElem_toArray, List.getElem_cons_zero, List.getElem_cons_succ, List.setIfInBounds_toArray, List.set_cons_zero, List.set_cons_succ]
                refine wpAnyH_take (i := 12) (v := ?_) rfl (by kernel_rfl) (by kernel_rfl) (by kernel_rfl) (fun _ _ _ h => h) (Or.inl ⟨by rfl, ?_⟩) hS6 ?_
                rotate_left
                · intro W _; go_simp; try with_reducible rfl
                try simp only [Act.put, List.getElem_toArray, List.getElem_cons_zero, List.getElem_cons_succ, List.setIfInBounds_toArray, List.set_cons_zero, List.set_cons_succ]
                refine wpAnyH_take (i := 13) (v := ?_) rfl (by kernel_rfl) (by kernel_rfl) (by kernel_rfl) (fun _ _ _ h => h) (Or.inl ⟨by rfl, ?_⟩) hS6 ?_
                rotate_left
                · intro W _; go_simp; try with_reducible rfl
                try simp only [Act.put, List.getElem_toArray, List.getElem_cons_zero, List.getElem_cons_succ, List.setIfInBounds_toArray, List.set_cons_zero, List.set_cons_succ]
                refine wpAnyH_take (i := 14) (v := ?_) rfl (by kernel_rfl) (by kernel_rfl) (by kernel_rfl) (fun _ _ _ h => h) (Or.inl ⟨by rfl, ?_⟩) hS6 ?_
                rotate_left
                · intro W _; go_simp; try with_reducible rfl
                try simp only [Act.put, List.getElem_toArray, List.getElem_cons_zero, List.getElem_cons_succ, List.setIfInBounds_toArray, List.set_cons_zero, List.set_cons_succ]
                refine wpAnyH_ready (rs := [16]) (by kernel_rfl) (by simp) ?_
                refine (AllReadyH.cons rfl (fun K hK => ?_) AllReadyH.nil)
                refine store_bk_op 23 (.tmp 9) (.tmp 55) rfl g9 0 #[.int .i64 (p - t.a), .int .i64 (q - t.b), .int .i64 (s - t.c)] rfl rfl 23 #[.int .i64 0, .int .i64 0, .int .i64 0] #[.int .i64 (p - t.a), .int .i64 (q - t.b), .int .i64 (s - t.c)] HZ6.out (by kernel_rfl) (by simp) (by kernel_rfl) rfl ?_
                intro v7 hX hgr hs
                have HX := Lib.hid hX; clear hX hs
                have hbl : Below w5.heap.size _ v7 := grown_base hgr hS6.size (by intro kk ee; cases ee; exact hg9')
                clear HZ6 hgr
                refine hK.out _ _ (hS6.trans hbl) (fun hS7 => ?_)
                clear hK K
                try simp only [Act.put, List.getElem_toArray, List.getElem_cons_zero, List.getElem_cons_succ, List.setIfInBounds_toArray, List.set_cons_zero, List.set_cons_succ]
                refine wpAnyH_take (i := 17) (v := ?_) rfl (by kernel_rfl) (by kernel_rfl) (by kernel_rfl) (fun _ _ _ h => h) (Or.inl ⟨by rfl, ?_⟩) hS7 ?_
                rotate_left
                · intro W _; go_simp; try with_reducible rfl
                try simp only [Act.put, List.getElem_toArray, List.getElem_cons_zero, List.getElem_cons_succ, List.setIfInBounds_toArray, List.set_cons_zero, List.set_cons_succ]
                refine wpAnyH_done (by kernel_rfl) ?_ _
                go_wp2_with fail
                go_meet
                exact ⟨g9, rfl, rfl, hS7, HX.out⟩
            · refine cell_op rfl ?_
              intro g9 v3 hg9 hZ hbl
              have hg9' : w5.heap.size ≤ g9 := by have := hS2.size; omega
              have HZ3 := Lib.hid hZ; clear hZ hg9
              have HV3 := Lib.hid (HV2.out.below hbl); clear HV2
              refine hK.out _ _ (hS2.trans (hbl.mono hS2.size)) (fun hS3 => ?_)
              clear hK K
              try simp only [Act.put, List.getElem_toArray, List.getElem_cons_zero, List.getElem_cons_succ, List.setIfInBounds_toArray, List.set_cons_zero, List.set_cons_succ]
              refine wpAnyH_ready (rs := [9]) (by kernel_rfl) (by simp) ?_
              refine (AllReadyH.cons rfl (fun K hK => ?_) AllReadyH.nil)
              refine one_op 51 (t.job m.nm).arr rfl rfl rfl ?_
              intro g50 v4 hg50 hF hbl
              have HF4 := Lib.hid hF; clear hF hg50
              have HV4 := Lib.hid (HV3.out.below hbl); clear HV3
              have HZ4 := Lib.hid (HZ3.out.later hbl); clear HZ3
              refine hK.out _ _ (hS3.trans (hbl.mono hS3.size)) (fun hS4 => ?_)
              clear hK K
              try simp only [Act.put, List.getElem_toArray, List.getElem_cons_zero, List.getElem_cons_succ, List.setIfInBounds_toArray, List.set_cons_zero, List.set_cons_succ]
              refine wpAnyH_ready (rs := [10]) (by kernel_rfl) (by simp) ?_
              refine (AllReadyH.cons rfl (fun K hK => ?_) AllReadyH.nil)
              refine append_k_op _ (.tmp 46) (.tmp 52) 29 rfl w5.heap.size 40 _ 13 160 Try.underlying29 infoJ rfl (by omega) u48 (cellsJ l) rfl HV4.out ⟨g50, 0, none⟩ 1 1 (cellsJ [t.job m.nm]) rfl (RdK.of_bk HF4.out) (cellsJ_k _) (cellsJ_one _) rfl (by simp [cellsJ, maxLen]; omega) (by simp [cellsJ, maxLen]; omega) hS4.size ?_
              intro u51 v5 hO hgr
              rw [← cellsJ_append] at hO
              obtain ⟨A2, c2, hv2, hr2, hc3, hc4⟩ := hO.rdj
              rw [← HM2.out] at hv2 hc3
              subst hv2
              have HQ5 := Lib.hid hr2; clear hr2 hO
              have HZ5 := Lib.hid (HZ4.out.stays hgr (HV4.out.ne HZ4.out (by decide))); clear HZ4
              have hbl : Below w5.heap.size _ v5 := grown_base hgr hS4.size HV4.out.block
              clear HV4 HF4 hgr
              refine hK.out _ _ (hS4.trans hbl) (fun hS5 => ?_)
              clear hK K
              try simp only [Act.put, List.getElem_toArray, List.getElem_cons_zero, List.getElem_cons_succ, List.setIfInBounds_toArray, List.set_cons_zero, List.set_cons_succ]
              refine wpAnyH_ready (rs := [11]) (by kernel_rfl) (by simp) ?_
              refine (AllReadyH.cons rfl (fun K hK => ?_) AllReadyH.nil)
              go_simp
              refine (K4.out A2 c2 _ HQ5).mono ?_
              rintro r v6 ⟨rfl, hbl⟩
              go_simp
              have HZ6 := Lib.hid (HZ5.out.later hbl); clear HZ5
              clear HQ5
              refine hK.out _ _ (hS5.trans (hbl.mono hS5.size)) (fun hS6 => ?_)
              clear hK K
              try simp only [Act.put, List.getElem_toArray, List.getElem_cons_zero, List.getElem_cons_succ, List.setIfInBounds_toArray, List.set_cons_zero, List.set_cons_succ]
              refine wpAnyH_take (i := 12) (v := ?_) rfl (by kernel_rfl) (by kernel_rfl) (by kernel_rfl) (fun _ _ _ h => h) (Or.inl ⟨by rfl, ?_⟩) hS6 ?_
              rotate_left
              · intro W _; go_simp; try with_reducible rfl
              try simp only [Act.put, List.getElem_toArray, List.getElem_cons_zero, List.getElem_cons_succ, List.setIfInBounds_toArray, List.set_cons_zero, List.set_cons_succ]
              refine wpAnyH_take (i := 13) (v := ?_) rfl (by kernel_rfl) (by kernel_rfl) (by kernel_rfl) (fun _ _ _ h => h) (Or.inl ⟨by rfl, ?_⟩) hS6 ?_
              rotate_left
              · intro W _; go_simp; try with_reducible rfl
              try simp only [Act.put, List.getElem_toArray, List.getElem_cons_zero, List.getElem_cons_succ, List.setIfInBounds_toArray, List.set_cons_zero, List.set_cons_succ]
              refine wpAnyH_take (i := 14) (v := ?_) rfl (by kernel_rfl) (by kernel_rfl) (by kernel_rfl) (fun _ _ _ h => h) (Or.inl ⟨by rfl, ?_⟩) hS6 ?_
              rotate_left
              · intro W _; go_simp; try with_reducible rfl
              try simp only [Act.put, List.getElem_toArray, List.getElem_cons_zero, List.getElem_cons_succ, List.setIfInBounds_toArray, List.set_cons_zero, List.set_cons_succ]
              refine wpAnyH_ready (rs := [16]) (by kernel_rfl) (by simp) ?_
              refine (AllReadyH.cons rfl (fun K hK => ?_) AllReadyH.nil)
              refine store_bk_op 23 (.tmp 9) (.tmp 55) rfl g9 0 #[.int .i64 (p - t.a), .int .i64 (q - t.b), .int .i64 (s - t.c)] rfl rfl 23 #[.int .i64 0, .int .i64 0, .int .i64 0] #[.int .i64 (p - t.a), .int .i64 (q - t.b), .int .i64 (s - t.c)] HZ6.out (by kernel_rfl) (by simp) (by kernel_rfl) rfl ?_
              intro v7 hX hgr hs
              have HX := Lib.hid hX; clear hX hs
              have hbl : Below w5.heap.size _ v7 := grown_base hgr hS6.size (by intro kk ee; cases ee; exact hg9')
              clear HZ6 hgr
              refine hK.out _ _ (hS6.trans hbl) (fun hS7 => ?_)
              clear hK K
              try simp only [Act.put, List.getElem_toArray, List.getElem_cons_zero, List.getElem_cons_succ, List.setIfInBounds_toArray, List.set_cons_zero, List.set_cons_succ]
              refine wpAnyH_take (i := 17) (v := ?_) rfl (by kernel_rfl) (by kernel_rfl) (by kernel_rfl) (fun _ _ _ h => h) (Or.inl ⟨by rfl, ?_⟩) hS7 ?_
              rotate_left
              · intro W _; go_simp; try with_reducible rfl
              try simp only [Act.put, List.getElem_toArray, List.getElem_cons_zero, List.getElem_cons_succ, List.setIfInBounds_toArray, List.set_cons_zero, List.set_cons_succ]
              refine wpAnyH_done (by kernel_rfl) ?_ _
              go_wp2_with fail
              go_meet
              exact ⟨g9, rfl, rfl, hS7, HX.out⟩
          · refine one_op 51 (t.job m.nm).arr rfl rfl rfl ?_
            intro g50 v2 hg50 hF hbl
            have HF2 := Lib.hid hF; clear hF hg50
            have HE2 := Lib.hid (HE1.out.later hbl); clear HE1
            refine hK.out _ _ (hS1.trans (hbl.mono hS1.size)) (fun hS2 => ?_)
            clear hK K
            try simp only [Act.put, List.getElem_toArray, List.getElem_cons_zero, List.getElem_cons_succ, List.setIfInBounds_toArray, List.set_cons_zero, List.set_cons_succ]
            refine wpAnyH_ready (rs := [3, 15]) (by kernel_rfl) (by simp) ?_
            refine (AllReadyH.cons rfl (fun K hK => ?_) (AllReadyH.cons rfl (fun K hK => ?_) AllReadyH.nil))
            · refine append_kn_op _ (.tmp 44) (.tmp 45) 29 rfl w5.heap.size 40 _ 13 160 Try.underlying29 infoJ rfl (by omega) (.slice (some ⟨g46, 0, none⟩) 0 0) [] rfl (OwnK.of_empty HE2.out hg46') A cap n (cellsJ l) rfl (RdK.later HA5.out hS2) (cellsJ_k _) (cellsJ_one _) HMJ.out (by simp [cellsJ, maxLen]; omega) (by simp [cellsJ, maxLen]; omega) hS2.size ?_
              intro u48 v3 hV hgr
              have HV3 := Lib.hid (show OwnK _ _ _ _ _ (cellsJ l) from hV); clear hV
              have HF3 := Lib.hid (HF2.out.stays hgr (by intro ee; exact Bk.ne HF2.out HE2.out (by simp) (Option.some.inj ee))); clear HF2
              have hbl : Below w5.heap.size _ v3 := grown_base hgr hS2.size (by intro kk ee; cases ee; exact hg46')
              clear HE2 hgr
              refine hK.out _ _ (hS2.trans hbl) (fun hS3 => ?_)
              clear hK K
              try simp only [Act.put, List.getElem_toArray, List.getElem_cons_zero, List.getElem_cons_succ, List.setIfInBounds_toArray, List.set_cons_zero, List.set_cons_succ]
              refine wpAnyH_ready (rs := [10, 15]) (by kernel_rfl) (by simp) ?_
              refine (AllReadyH.cons rfl (fun K hK => ?_) (AllReadyH.cons rfl (fun K hK => ?_) AllReadyH.nil))
              · refine append_k_op _ (.tmp 46) (.tmp 52) 29 rfl w5.heap.size 40 _ 13 160 Try.underlying29 infoJ rfl (by omega) u48 (cellsJ l) rfl HV3.out ⟨g50, 0, none⟩ 1 1 (cellsJ [t.job m.nm]) rfl (RdK.of_bk HF3.out) (cellsJ_k _) (cellsJ_one _) rfl (by simp [cellsJ, maxLen]; omega) (by simp [cellsJ, maxLen]; omega) hS3.size ?_
                intro u51 v4 hO hgr
                rw [← cellsJ_append] at hO
                obtain ⟨A2, c2, hv2, hr2, hc3, hc4⟩ := hO.rdj
                rw [← HM2.out] at hv2 hc3
                subst hv2
                have HQ4 := Lib.hid hr2; clear hr2 hO
                have hbl : Below w5.heap.size _ v4 := grown_base hgr hS3.size HV3.out.block
                clear HV3 HF3 hgr
                refine hK.out _ _ (hS3.trans hbl) (fun hS4 => ?_)
                clear hK K
                try simp only [Act.put, List.getElem_toArray, List.getElem_cons_zero, List.getElem_cons_succ, List.setIfInBounds_toArray, List.set_cons_zero, List.set_cons_succ]
                refine wpAnyH_ready (rs := [11, 15]) (by kernel_rfl) (by simp) ?_
                refine (AllReadyH.cons rfl (fun K hK => ?_) (AllReadyH.cons rfl (fun K hK => ?_) AllReadyH.nil))
                · go_simp
                  refine (K4.out A2 c2 _ HQ4).mono ?_
                  rintro r v5 ⟨rfl, hbl⟩
                  go_simp
                  clear HQ4
                  refine hK.out _ _ (hS4.trans (hbl.mono hS4.size)) (fun hS5 => ?_)
                  clear hK K
                  try simp only [Act.put, List.getElem_toArray, List.getElem_cons_zero, List.getElem_cons_succ, List.setIfInBounds_toArray, List.set_cons_zero, List.set_cons_succ]
                  refine wpAnyH_take (i := 12) (v := ?_) rfl (by kernel_rfl) (by kernel_rfl) (by kernel_rfl) (fun _ _ _ h => h) (Or.inl ⟨by rfl, ?_⟩) hS5 ?_
                  rotate_left
                  · intro W _; go_simp; try with_reducible rfl
                  try simp only [Act.put, List.getElem_toArray, List.getElem_cons_zero, List.getElem_cons_succ, List.setIfInBounds_toArray, List.set_cons_zero, List.set_cons_succ]
                  refine wpAnyH_take (i := 13) (v := ?_) rfl (by kernel_rfl) (by kernel_rfl) (by kernel_rfl) (fun _ _ _ h => h) (Or.inl ⟨by rfl, ?_⟩) hS5 ?_
                  rotate_left
                  · intro W _; go_simp; try with_reducible rfl
                  try simp only [Act.put, List.getElem_toArray, List.getElem_cons_zero, List.getElem_cons_succ, List.setIfInBounds_toArray, List.set_cons_zero, List.set_cons_succ]
                  refine wpAnyH_take (i := 14) (v := ?_) rfl (by kernel_rfl) (by kernel_rfl) (by kernel_rfl) (fun _ _ _ h => h) (Or.inl ⟨by rfl, ?_⟩) hS5 ?_
                  rotate_left
                  · intro W _; go_simp; try with_reducible rfl
                  try simp only [Act.put, List.getElem_toArray, List.getElem_cons_zero, List.getElem_cons_succ, List.setIfInBounds_toArray, List.set_cons_zero, List.set_cons_succ]
                  refine wpAnyH_ready (rs := [15]) (by kernel_rfl) (by simp) ?_
                  refine (AllReadyH.cons rfl (fun K hK => ?_) AllReadyH.nil)
                  refine cell_op rfl ?_
                  intro g9 v6 hg9 hZ hbl
                  have hg9' : w5.heap.size ≤ g9 := by have := hS5.size; omega
                  have HZ6 := Lib.hid hZ; clear hZ hg9
                  refine hK.out _ _ (hS5.trans (hbl.mono hS5.size)) (fun hS6 => ?_)
                  clear hK K
                  try simp only [Act.put, List.getElem_toArray, List.getElem_cons_zero, List.getElem_cons_succ, List.setIfInBounds_toArray, List.set_cons_zero, List.set_cons_succ]
                  refine wpAnyH_ready (rs := [16]) (by kernel_rfl) (by simp) ?_
                  refine (AllReadyH.cons rfl (fun K hK => ?_) AllReadyH.nil)
                  refine store_bk_op 23 (.tmp 9) (.tmp 55) rfl g9 0 #[.int .i64 (p - t.a), .int .i64 (q - t.b), .int .i64 (s - t.c)] rfl rfl 23 #[.int .i64 0, .int .i64 0, .int .i64 0] #[.int .i64 (p - t.a), .int .i64 (q - t.b), .int .i64 (s - t.c)] HZ6.out (by kernel_rfl) (by simp) (by kernel_rfl) rfl ?_
                  intro v7 hX hgr hs
                  have HX := Lib.hid hX; clear hX hs
                  have hbl : Below w5.heap.size _ v7 := grown_base hgr hS6.size (by intro kk ee; cases ee; exact hg9')
                  clear HZ6 hgr
                  refine hK.out _ _ (hS6.trans hbl) (fun hS7 => ?_)
                  clear hK K
                  try simp only [Act.put, List.getElem_toArray, List.getElem_cons_zero, List.getElem_cons_succ, List.setIfInBounds_toArray, List.set_cons_zero, List.set_cons_succ]
                  refine wpAnyH_take (i := 17) (v := ?_) rfl (by kernel_rfl) (by kernel_rfl) (by kernel_rfl) (fun _ _ _ h => h) (Or.inl ⟨by rfl, ?_⟩) hS7 ?_
                  rotate_left
                  · intro W _; go_simp; try with_reducible rfl
                  try simp only [Act.put, List.getElem_toArray, List.getElem_cons_zero, List.getElem_cons_succ, List.setIfInBounds_toArray, List.set_cons_zero, List.set_cons_succ]
                  refine wpAnyH_done (by kernel_rfl) ?_ _
                  go_wp2_with fail
                  go_meet
                  exact ⟨g9, rfl, rfl, hS7, HX.out⟩
                · refine cell_op rfl ?_
                  intro g9 v5 hg9 hZ hbl
                  have hg9' : w5.heap.size ≤ g9 := by have := hS4.size; omega
                  have HZ5 := Lib.hid hZ; clear hZ hg9
                  have HQ5 := Lib.hid (HQ4.out.later hbl); clear HQ4
                  refine hK.out _ _ (hS4.trans (hbl.mono hS4.size)) (fun hS5 => ?_)
                  clear hK K
                  try simp only [Act.put, List.getElem_toArray, List.getElem_cons_zero, List.getElem_cons_succ, List.setIfInBounds_toArray, List.set_cons_zero, List.set_cons_succ]
                  refine wpAnyH_ready (rs := [11]) (by kernel_rfl) (by simp) ?_
                  refine (AllReadyH.cons rfl (fun K hK => ?_) AllReadyH.nil)
                  go_simp
                  refine (K4.out A2 c2 _ HQ5).mono ?_
                  rintro r v6 ⟨rfl, hbl⟩
                  go_simp
                  have HZ6 := Lib.hid (HZ5.out.later hbl); clear HZ5
                  clear HQ5
                  refine hK.out _ _ (hS5.trans (hbl.mono hS5.size)) (fun hS6 => ?_)
                  clear hK K
                  try simp only [Act.put, List.getElem_toArray, List.getElem_cons_zero, List.getElem_cons_succ, List.setIfInBounds_toArray, List.set_cons_zero, List.set_cons_succ]
                  refine wpAnyH_take (i := 12) (v := ?_) rfl (by kernel_rfl) (by kernel_rfl) (by kernel_rfl) (fun _ _ _ h => h) (Or.inl ⟨by rfl, ?_⟩) hS6 ?_
                  rotate_left
                  · intro W _; go_simp; try with_reducible rfl
                  try simp only [Act.put, List.getElem_toArray, List.getElem_cons_zero, List.getElem_cons_succ, List.setIfInBounds_toArray, List.set_cons_zero, List.set_cons_succ]
                  refine wpAnyH_take (i := 13) (v := ?_) rfl (by kernel_rfl) (by kernel_rfl) (by kernel_rfl) (fun _ _ _ h => h) (Or.inl ⟨by rfl, ?_⟩) hS6 ?_
                  rotate_left
                  · intro W _; go_simp; try with_reducible rfl
                  try simp only [Act.put, List.getElem_toArray, List.getElem_cons_zero, List.getElem_cons_succ, List.setIfInBounds_toArray, List.set_cons_zero, List.set_cons_succ]
                  refine wpAnyH_take (i := 14) (v := ?_) rfl (by kernel_rfl) (by kernel_rfl) (by kernel_rfl) (fun _ _ _ h => h) (Or.inl ⟨by rfl, ?_⟩) hS6 ?_
                  rotate_left
                  · intro W _; go_simp; try with_reducible rfl
                  try simp only [Act.put, List.getElem_toArray, List.getElem_cons_zero, List.getElem_cons_succ, List.setIfInBounds_toArray, List.set_cons_zero, List.set_cons_succ]
                  refine wpAnyH_ready (rs := [16]) (by kernel_rfl) (by simp) ?_
                  refine (AllReadyH.cons rfl (fun K hK => ?_) AllReadyH.nil)
                  refine store_bk_op 23 (.tmp 9) (.tmp 55) rfl g9 0 #[.int .i64 (p - t.a), .int .i64 (q - t.b), .int .i64 (s - t.c)] rfl rfl 23 #[.int .i64 0, .int .i64 0, .int .i64 0] #[.int .i64 (p - t.a), .int .i64 (q - t.b), .int .i64 (s - t.c)] HZ6.out (by kernel_rfl) (by simp) (by kernel_rfl) rfl ?_
                  intro v7 hX hgr hs
                  have HX := Lib.hid hX; clear hX hs
                  have hbl : Below w5.heap.size _ v7 := grown_base hgr hS6.size (by intro kk ee; cases ee; exact hg9')
                  clear HZ6 hgr
                  refine hK.out _ _ (hS6.trans hbl) (fun hS7 => ?_)
                  clear hK K
                  try simp only [Act.put, List.getElem_toArray, List.getElem_cons_zero, List.getElem_cons_succ, List.setIfInBounds_toArray, List.set_cons_zero, List.set_cons_succ]
                  refine wpAnyH_take (i := 17) (v := ?_) rfl (by kernel_rfl) (by kernel_rfl) (by kernel_rfl) (fun _ _ _ h => h) (Or.inl ⟨by rfl, ?_⟩) hS7 ?_
                  rotate_left
                  · intro W _; go_simp; try with_reducible rfl
                  try simp only [Act.put, List.getElem_toArray, List.getElem_cons_zero, List.getElem_cons_succ, List.setIfInBounds_toArray, List.set_cons_zero, List.set_cons_succ]
                  refine wpAnyH_done (by kernel_rfl) ?_ _
                  go_wp2_with fail
                  go_meet
                  exact ⟨g9, rfl, rfl, hS7, HX.out⟩
              · refine cell_op rfl ?_
                intro g9 v4 hg9 hZ hbl
                have hg9' : w5.heap.size ≤ g9 := by have := hS3.size; omega
                have HZ4 := Lib.hid hZ; clear hZ hg9
                have HV4 := Lib.hid (HV3.out.below hbl); clear HV3
                have HF4 := Lib.hid (HF3.out.later hbl); clear HF3
                refine hK.out _ _ (hS3.trans (hbl.mono hS3.size)) (fun hS4 => ?_)
                clear hK K
                try simp only [Act.put, List.getElem_toArray, List.getElem_cons_zero, List.getElem_cons_succ, List.setIfInBounds_toArray, List.set_cons_zero, List.set_cons_succ]
                refine wpAnyH_ready (rs := [10]) (by kernel_rfl) (by simp) ?_
                refine (AllReadyH.cons rfl (fun K hK => ?_) AllReadyH.nil)
                refine append_k_op _ (.tmp 46) (.tmp 52) 29 rfl w5.heap.size 40 _ 13 160 Try.underlying29 infoJ rfl (by omega) u48 (cellsJ l) rfl HV4.out ⟨g50, 0, none⟩ 1 1 (cellsJ [t.job m.nm]) rfl (RdK.of_bk HF4.out) (cellsJ_k _) (cellsJ_one _) rfl (by simp [cellsJ, maxLen]; omega) (by simp [cellsJ, maxLen]; omega) hS4.size ?_
                intro u51 v5 hO hgr
                rw [← cellsJ_append] at hO
                obtain ⟨A2, c2, hv2, hr2, hc3, hc4⟩ := hO.rdj
                rw [← HM2.out] at hv2 hc3
                subst hv2
                have HQ5 := Lib.hid hr2; clear hr2 hO
                have HZ5 := Lib.hid (HZ4.out.stays hgr (HV4.out.ne HZ4.out (by decide))); clear HZ4
                have hbl : Below w5.heap.size _ v5 := grown_base hgr hS4.size HV4.out.block
                clear HV4 HF4 hgr
                refine hK.out _ _ (hS4.trans hbl) (fun hS5 => ?_)
                clear hK K
                try simp only [Act.put, List.getElem_toArray, List.getElem_cons_zero, List.getElem_cons_succ, List.setIfInBounds_toArray, List.set_cons_zero, List.set_cons_succ]
                refine wpAnyH_ready (rs := [11]) (by kernel_rfl) (by simp) ?_
                refine (AllReadyH.cons rfl (fun K hK => ?_) AllReadyH.nil)
                go_simp
                refine (K4.out A2 c2 _ HQ5).mono ?_
                rintro r v6 ⟨rfl, hbl⟩
                go_simp
                have HZ6 := Lib.hid (HZ5.out.later hbl); clear HZ5
                clear HQ5
                refine hK.out _ _ (hS5.trans (hbl.mono hS5.size)) (fun hS6 => ?_)
                clear hK K
                try simp only [Act.put, List.getElem_toArray, List.getElem_cons_zero, List.getElem_cons_succ, List.setIfInBounds_toArray, List.set_cons_zero, List.set_cons_succ]
                refine wpAnyH_take (i := 12) (v := ?_) rfl (by kernel_rfl) (by kernel_rfl) (by kernel_rfl) (fun _ _ _ h => h) (Or.inl ⟨by rfl, ?_⟩) hS6 ?_
                rotate_left
                · intro W _; go_simp; try with_reducible rfl
                try simp only [Act.put, List.getElem_toArray, List.getElem_cons_zero, List.getElem_cons_succ, List.setIfInBounds_toArray, List.set_cons_zero, List.set_cons_succ]
                refine wpAnyH_take (i := 13) (v := ?_) rfl (by kernel_rfl) (by kernel_rfl) (by kernel_rfl) (fun _ _ _ h => h) (Or.inl ⟨by rfl, ?_⟩) hS6 ?_
                rotate_left
                · intro W _; go_simp; try with_reducible rfl
                try simp only [Act.put, List.getElem_toArray, List.getElem_cons_zero, List.getElem_cons_succ, List.setIfInBounds_toArray, List.set_cons_zero, List.set_cons_succ]
                refine wpAnyH_take (i := 14) (v := ?_) rfl (by kernel_rfl) (by kernel_rfl) (by kernel_rfl) (fun _ _ _ h => h) (Or.inl ⟨by rfl, ?_⟩) hS6 ?_
                rotate_left
                · intro W _; go_simp; try with_reducible rfl
                try simp only [Act.put, List.getElem_toArray, List.getElem_cons_zero, List.getElem_cons_succ, List.setIfInBounds_toArray, List.set_cons_zero, List.set_cons_succ]
                refine wpAnyH_ready (rs := [16]) (by kernel_rfl) (by simp) ?_
                refine (AllReadyH.cons rfl (fun K hK => ?_) AllReadyH.nil)
                refine store_bk_op 23 (.tmp 9) (.tmp 55) rfl g9 0 #[.int .i64 (p - t.a), .int .i64 (q - t.b), .int .i64 (s - t.c)] rfl rfl 23 #[.int .i64 0, .int .i64 0, .int .i64 0] #[.int .i64 (p - t.a), .int .i64 (q - t.b), .int .i64 (s - t.c)] HZ6.out (by kernel_rfl) (by simp) (by kernel_rfl) rfl ?_
                intro v7 hX hgr hs
                have HX := Lib.hid hX; clear hX hs
                have hbl : Below w5.heap.size _ v7 := grown_base hgr hS6.size (by intro kk ee; cases ee; exact hg9')
                clear HZ6 hgr
                refine hK.out _ _ (hS6.trans hbl) (fun hS7 => ?_)
                clear hK K
                try simp only [Act.put, List.getElem_toArray, List.getElem_cons_zero, List.getElem_cons_succ, List.setIfInBounds_toArray, List.set_cons_zero, List.set_cons_succ]
                refine wpAnyH_take (i := 17) (v := ?_) rfl (by kernel_rfl) (by kernel_rfl) (by kernel_rfl) (fun _ _ _ h => h) (Or.inl ⟨by rfl, ?_⟩) hS7 ?_
                rotate_left
                · intro W _; go_simp; try with_reducible rfl
                try simp only [Act.put, List.getElem_toArray, List.getElem_cons_zero, List.getElem_cons_succ, List.setIfInBounds_toArray, List.set_cons_zero, List.set_cons_succ]
                refine wpAnyH_done (by kernel_rfl) ?_ _
                go_wp2_with fail
                go_meet
                exact ⟨g9, rfl, rfl, hS7, HX.out⟩
            · refine cell_op rfl ?_
              intro g9 v3 hg9 hZ hbl
              have hg9' : w5.heap.size ≤ g9 := by have := hS2.size; omega
              have HZ3 := Lib.hid hZ; clear hZ hg9
              have HE3 := Lib.hid (HE2.out.later hbl); clear HE2
              have HF3 := Lib.hid (HF2.out.later hbl); clear HF2
              refine hK.out _ _ (hS2.trans (hbl.mono hS2.size)) (fun hS3 => ?_)
              clear hK K
              try simp only [Act.put, List.getElem_toArray, List.getElem_cons_zero, List.getElem_cons_succ, List.setIfInBounds_toArray, List.set_cons_zero, List.set_cons_succ]
              refine wpAnyH_ready (rs := [3]) (by kernel_rfl) (by simp) ?_
              refine (AllReadyH.cons rfl (fun K hK => ?_) AllReadyH.nil)
              refine append_kn_op _ (.tmp 44) (.tmp 45) 29 rfl w5.heap.size 40 _ 13 160 Try.underlying29 infoJ rfl (by omega) (.slice (some ⟨g46, 0, none⟩) 0 0) [] rfl (OwnK.of_empty HE3.out hg46') A cap n (cellsJ l) rfl (RdK.later HA5.out hS3) (cellsJ_k _) (cellsJ_one _) HMJ.out (by simp [cellsJ, maxLen]; omega) (by simp [cellsJ, maxLen]; omega) hS3.size ?_
              intro u48 v4 hV hgr
              have HV4 := Lib.hid (show OwnK _ _ _ _ _ (cellsJ l) from hV); clear hV
              have HF4 := Lib.hid (HF3.out.stays hgr (by intro ee; exact Bk.ne HF3.out HE3.out (by simp) (Option.some.inj ee))); clear HF3
              have HZ4 := Lib.hid (HZ3.out.stays hgr (by intro ee; exact Bk.ne HZ3.out HE3.out (by simp) (Option.some.inj ee))); clear HZ3
              have hbl : Below w5.heap.size _ v4 := grown_base hgr hS3.size (by intro kk ee; cases ee; exact hg46')
              clear HE3 hgr
              refine hK.out _ _ (hS3.trans hbl) (fun hS4 => ?_)
              clear hK K
              try simp only [Act.put, List.getElem_toArray, List.getElem_cons_zero, List.getElem_cons_succ, List.setIfInBounds_toArray, List.set_cons_zero, List.set_cons_succ]
              refine wpAnyH_ready (rs := [10]) (by kernel_rfl) (by simp) ?_
              refine (AllReadyH.cons rfl (fun K hK => ?_) AllReadyH.nil)
              refine append_k_op _ (.tmp 46) (.tmp 52) 29 rfl w5.heap.size 40 _ 13 160 Try.underlying29 infoJ rfl (by omega) u48 (cellsJ l) rfl HV4.out ⟨g50, 0, none⟩ 1 1 (cellsJ [t.job m.nm]) rfl (RdK.of_bk HF4.out) (cellsJ_k _) (cellsJ_one _) rfl (by simp [cellsJ, maxLen]; omega) (by simp [cellsJ, maxLen]; omega) hS4.size ?_
              intro u51 v5 hO hgr
              rw [← cellsJ_append] at hO
              obtain ⟨A2, c2, hv2, hr2, hc3, hc4⟩ := hO.rdj
              rw [← HM2.out] at hv2 hc3
              subst hv2
              have HQ5 := Lib.hid hr2; clear hr2 hO
              have HZ5 := Lib.hid (HZ4.out.stays hgr (HV4.out.ne HZ4.out (by decide))); clear HZ4
              have hbl : Below w5.heap.size _ v5 := grown_base hgr hS4.size HV4.out.block
              clear HV4 HF4 hgr
              refine hK.out _ _ (hS4.trans hbl) (fun hS5 => ?_)
              clear hK K
              try simp only [Act.put, List.getElem_toArray, List.getElem_cons_zero, List.getElem_cons_succ, List.setIfInBounds_toArray, List.set_cons_zero, List.set_cons_succ]
              refine wpAnyH_ready (rs := [11]) (by kernel_rfl) (by simp) ?_
              refine (AllReadyH.cons rfl (fun K hK => ?_) AllReadyH.nil)
              go_simp
              refine (K4.out A2 c2 _ HQ5).mono ?_
              rintro r v6 ⟨rfl, hbl⟩
              go_simp
              have HZ6 := Lib.hid (HZ5.out.later hbl); clear HZ5
              clear HQ5
              refine hK.out _ _ (hS5.trans (hbl.mono hS5.size)) (fun hS6 => ?_)
              clear hK K
              try simp only [Act.put, List.getElem_toArray, List.getElem_cons_zero, List.getElem_cons_succ, List.setIfInBounds_toArray, List.set_cons_zero, List.set_cons_succ]
              refine wpAnyH_take (i := 12) (v := ?_) rfl (by kernel_rfl) (by kernel_rfl) (by kernel_rfl) (fun _ _ _ h => h) (Or.inl ⟨by rfl, ?_⟩) hS6 ?_
              rotate_left
              · intro W _; go_simp; try with_reducible rfl
              try simp only [Act.put, List.getElem_toArray, List.getElem_cons_zero, List.getElem_cons_succ, List.setIfInBounds_toArray, List.set_cons_zero, List.set_cons_succ]
              refine wpAnyH_take (i := 13) (v := ?_) rfl (by kernel_rfl) (by kernel_rfl) (by kernel_rfl) (fun _ _ _ h => h) (Or.inl ⟨by rfl, ?_⟩) hS6 ?_
              rotate_left
              · intro W _; go_simp; try with_reducible rfl
              try simp only [Act.put, List.getElem_toArray, List.getElem_cons_zero, List.getElem_cons_succ, List.setIfInBounds_toArray, List.set_cons_zero, List.set_cons_succ]
              refine wpAnyH_take (i := 14) (v := ?_) rfl (by kernel_rfl) (by kernel_rfl) (by kernel_rfl) (fun _ _ _ h => h) (Or.inl ⟨by rfl, ?_⟩) hS6 ?_
              rotate_left
              · intro W _; go_simp; try with_reducible rfl
              try simp only [Act.put, List.getElem_toArray, List.getElem_cons_zero, List.getElem_cons_succ, List.setIfInBounds_toArray, List.set_cons_zero, List.set_cons_succ]
              refine wpAnyH_ready (rs := [16]) (by kernel_rfl) (by simp) ?_
              refine (AllReadyH.cons rfl (fun K hK => ?_) AllReadyH.nil)
              refine store_bk_op 23 (.tmp 9) (.tmp 55) rfl g9 0 #[.int .i64 (p - t.a), .int .i64 (q - t.b), .int .i64 (s - t.c)] rfl rfl 23 #[.int .i64 0, .int .i64 0, .int .i64 0] #[.int .i64 (p - t.a), .int .i64 (q - t.b), .int .i64 (s - t.c)] HZ6.out (by kernel_rfl) (by simp) (by kernel_rfl) rfl ?_
              intro v7 hX hgr hs
              have HX := Lib.hid hX; clear hX hs
              have hbl : Below w5.heap.size _ v7 := grown_base hgr hS6.size (by intro kk ee; cases ee; exact hg9')
              clear HZ6 hgr
              refine hK.out _ _ (hS6.trans hbl) (fun hS7 => ?_)
              clear hK K
              try simp only [Act.put, List.getElem_toArray, List.getElem_cons_zero, List.getElem_cons_succ, List.setIfInBounds_toArray, List.set_cons_zero, List.set_cons_succ]
              refine wpAnyH_take (i := 17) (v := ?_) rfl (by kernel_rfl) (by kernel_rfl) (by kernel_rfl) (fun _ _ _ h => h) (Or.inl ⟨by rfl, ?_⟩) hS7 ?_
              rotate_left
              · intro W _; go_simp; try with_reducible rfl
              try simp only [Act.put, List.getElem_toArray, List.getElem_cons_zero, List.getElem_cons_succ, List.setIfInBounds_toArray, List.set_cons_zero, List.set_cons_succ]
              refine wpAnyH_done (by kernel_rfl) ?_ _
              go_wp2_with fail
              go_meet
              exact ⟨g9, rfl, rfl, hS7, HX.out⟩
          · refine cell_op rfl ?_
            intro g9 v2 hg9 hZ hbl
            have hg9' : w5.heap.size ≤ g9 := by have := hS1.size; omega
            have HZ2 := Lib.hid hZ; clear hZ hg9
            have HE2 := Lib.hid (HE1.out.later hbl); clear HE1
            refine hK.out _ _ (hS1.trans (hbl.mono hS1.size)) (fun hS2 => ?_)
            clear hK K
            try simp only [Act.put, List.getElem_toArray, List.getElem_cons_zero, List.getElem_cons_succ, List.setIfInBounds_toArray, List.set_cons_zero, List.set_cons_succ]
            refine wpAnyH_ready (rs := [3, 9]) (by kernel_rfl) (by simp) ?_
            refine (AllReadyH.cons rfl (fun K hK => ?_) (AllReadyH.cons rfl (fun K hK => ?_) AllReadyH.nil))
            · refine append_kn_op _ (.tmp 44) (.tmp 45) 29 rfl w5.heap.size 40 _ 13 160 Try.underlying29 infoJ rfl (by omega) (.slice (some ⟨g46, 0, none⟩) 0 0) [] rfl (OwnK.of_empty HE2.out hg46') A cap n (cellsJ l) rfl (RdK.later HA5.out hS2) (cellsJ_k _) (cellsJ_one _) HMJ.out (by simp [cellsJ, maxLen]; omega) (by simp [cellsJ, maxLen]; omega) hS2.size ?_
              intro u48 v3 hV hgr
              have HV3 := Lib.hid (show OwnK _ _ _ _ _ (cellsJ l) from hV); clear hV
              have HZ3 := Lib.hid (HZ2.out.stays hgr (by intro ee; exact Bk.ne HZ2.out HE2.out (by simp) (Option.some.inj ee))); clear HZ2
              have hbl : Below w5.heap.size _ v3 := grown_base hgr hS2.size (by intro kk ee; cases ee; exact hg46')
              clear HE2 hgr
              refine hK.out _ _ (hS2.trans hbl) (fun hS3 => ?_)
              clear hK K
              try simp only [Act.put, List.getElem_toArray, List.getElem_cons_zero, List.getElem_cons_succ, List.setIfInBounds_toArray, List.set_cons_zero, List.set_cons_succ]
              refine wpAnyH_ready (rs := [9]) (by kernel_rfl) (by simp) ?_
              refine (AllReadyH.cons rfl (fun K hK => ?_) AllReadyH.nil)
              refine one_op 51 (t.job m.nm).arr rfl rfl rfl ?_
              intro g50 v4 hg50 hF hbl
              have HF4 := Lib.hid hF; clear hF hg50
              have HV4 := Lib.hid (HV3.out.below hbl); clear HV3
              have HZ4 := Lib.hid (HZ3.out.later hbl); clear HZ3
              refine hK.out _ _ (hS3.trans (hbl.mono hS3.size)) (fun hS4 => ?_)
              clear hK K
              try simp only [Act.put, List.getElem_toArray, List.getElem_cons_zero, List.getElem_cons_succ, List.setIfInBounds_toArray, List.set_cons_zero, List.set_cons_succ]
              refine wpAnyH_ready (rs := [10]) (by kernel_rfl) (by simp) ?_
              refine (AllReadyH.cons rfl (fun K hK => ?_) AllReadyH.nil)
              refine append_k_op _ (.tmp 46) (.tmp 52) 29 rfl w5.heap.size 40 _ 13 160 Try.underlying29 infoJ rfl (by omega) u48 (cellsJ l) rfl HV4.out ⟨g50, 0, none⟩ 1 1 (cellsJ [t.job m.nm]) rfl (RdK.of_bk HF4.out) (cellsJ_k _) (cellsJ_one _) rfl (by simp [cellsJ, maxLen]; omega) (by simp [cellsJ, maxLen]; omega) hS4.size ?_
              intro u51 v5 hO hgr
              rw [← cellsJ_append] at hO
              obtain ⟨A2, c2, hv2, hr2, hc3, hc4⟩ := hO.rdj
              rw [← HM2.out] at hv2 hc3
              subst hv2
              have HQ5 := Lib.hid hr2; clear hr2 hO
              have HZ5 := Lib.hid (HZ4.out.stays hgr (HV4.out.ne HZ4.out (by decide))); clear HZ4
              have hbl : Below w5.heap.size _ v5 := grown_base hgr hS4.size HV4.out.block
              clear HV4 HF4 hgr
              refine hK.out _ _ (hS4.trans hbl) (fun hS5 => ?_)
              clear hK K
              try simp only [Act.put, List.getElem_toArray, List.getElem_cons_zero, List.getElem_cons_succ, List.setIfInBounds_toArray, List.set_cons_zero, List.set_cons_succ]
              refine wpAnyH_ready (rs := [11]) (by kernel_rfl) (by simp) ?_
              refine (AllReadyH.cons rfl (fun K hK => ?_) AllReadyH.nil)
              go_simp
              refine (K4.out A2 c2 _ HQ5).mono ?_
              rintro r v6 ⟨rfl, hbl⟩
              go_simp
              have HZ6 := Lib.hid (HZ5.out.later hbl); clear HZ5
              clear HQ5
              refine hK.out _ _ (hS5.trans (hbl.mono hS5.size)) (fun hS6 => ?_)
              clear hK K
              try simp only [Act.put, List.getElem_toArray, List.getElem_cons_zero, List.getElem_cons_succ, List.setIfInBounds_toArray, List.set_cons_zero, List.set_cons_succ]
              refine wpAnyH_take (i := 12) (v := ?_) rfl (by kernel_rfl) (by kernel_rfl) (by kernel_rfl) (fun _ _ _ h => h) (Or.inl ⟨by rfl, ?_⟩) hS6 ?_
              rotate_left
              · intro W _; go_simp; try with_reducible rfl
              try simp only [Act.put, List.getElem_toArray, List.getElem_cons_zero, List.getElem_cons_succ, List.setIfInBounds_toArray, List.set_cons_zero, List.set_cons_succ]
              refine wpAnyH_take (i := 13) (v := ?_) rfl (by kernel_rfl) (by kernel_rfl) (by kernel_rfl) (fun _ _ _ h => h) (Or.inl ⟨by rfl, ?_⟩) hS6 ?_
              rotate_left
              · intro W _; go_simp; try with_reducible rfl
              try simp only [Act.put, List.getElem_toArray, List.getElem_cons_zero, List.getElem_cons_succ, List.setIfInBounds_toArray, List.set_cons_zero, List.set_cons_succ]
              refine wpAnyH_take (i := 14) (v := ?_) rfl (by kernel_rfl) (by kernel_rfl) (by kernel_rfl) (fun _ _ _ h => h) (Or.inl ⟨by rfl, ?_⟩) hS6 ?_
              rotate_left
              · intro W _; go_simp; try with_reducible rfl
              try simp only [Act.put, List.getElem_toArray, List.getElem_cons_zero, List.getElem_cons_succ, List.setIfInBounds_toArray, List.set_cons_zero, List.set_cons_succ]
              refine wpAnyH_ready (rs := [16]) (by kernel_rfl) (by simp) ?_
              refine (AllReadyH.cons rfl (fun K hK => ?_) AllReadyH.nil)
              refine store_bk_op 23 (.tmp 9) (.tmp 55) rfl g9 0 #[.int .i64 (p - t.a), .int .i64 (q - t.b), .int .i64 (s - t.c)] rfl rfl 23 #[.int .i64 0, .int .i64 0, .int .i64 0] #[.int .i64 (p - t.a), .int .i64 (q - t.b), .int .i64 (s - t.c)] HZ6.out (by kernel_rfl) (by simp) (by kernel_rfl) rfl ?_
              intro v7 hX hgr hs
              have HX := Lib.hid hX; clear hX hs
              have hbl : Below w5.heap.size _ v7 := grown_base hgr hS6.size (by intro kk ee; cases ee; exact hg9')
              clear HZ6 hgr
              refine hK.out _ _ (hS6.trans hbl) (fun hS7 => ?_)
              clear hK K
              try simp only [Act.put, List.getElem_toArray, List.getElem_cons_zero, List.getElem_cons_succ, List.setIfInBounds_toArray, List.set_cons_zero, List.set_cons_succ]
              refine wpAnyH_take (i := 17) (v := ?_) rfl (by kernel_rfl) (by kernel_rfl) (by kernel_rfl) (fun _ _ _ h => h) (Or.inl ⟨by rfl, ?_⟩) hS7 ?_
              rotate_left
              · intro W _; go_simp; try with_reducible rfl
              try simp only [Act.put, List.getElem_toArray, List.getElem_cons_zero, List.getElem_cons_succ, List.setIfInBounds_toArray, List.set_cons_zero, List.set_cons_succ]
              refine wpAnyH_done (by kernel_rfl) ?_ _
              go_wp2_with fail
              go_meet
              exact ⟨g9, rfl, rfl, hS7, HX.out⟩
            · refine one_op 51 (t.job m.nm).arr rfl rfl rfl ?_
              intro g50 v3 hg50 hF hbl
              have HF3 := Lib.hid hF; clear hF hg50
              have HE3 := Lib.hid (HE2.out.later hbl); clear HE2
              have HZ3 := Lib.hid (HZ2.out.later hbl); clear HZ2
              refine hK.out _ _ (hS2.trans (hbl.mono hS2.size)) (fun hS3 => ?_)
              clear hK K
              try simp only [Act.put, List.getElem_toArray, List.getElem_cons_zero, List.getElem_cons_succ, List.setIfInBounds_toArray, List.set_cons_zero, List.set_cons_succ]
              refine wpAnyH_ready (rs := [3]) (by kernel_rfl) (by simp) ?_
              refine (AllReadyH.cons rfl (fun K hK => ?_) AllReadyH.nil)
              refine append_kn_op _ (.tmp 44) (.tmp 45) 29 rfl w5.heap.size 40 _ 13 160 Try.underlying29 infoJ rfl (by omega) (.slice (some ⟨g46, 0, none⟩) 0 0) [] rfl (OwnK.of_empty HE3.out hg46') A cap n (cellsJ l) rfl (RdK.later HA5.out hS3) (cellsJ_k _) (cellsJ_one _) HMJ.out (by simp [cellsJ, maxLen]; omega) (by simp [cellsJ, maxLen]; omega) hS3.size ?_
              intro u48 v4 hV hgr
              have HV4 := Lib.hid (show OwnK _ _ _ _ _ (cellsJ l) from hV); clear hV
              have HF4 := Lib.hid (HF3.out.stays hgr (by intro ee; exact Bk.ne HF3.out HE3.out (by simp) (Option.some.inj ee))); clear HF3
              have HZ4 := Lib.hid (HZ3.out.stays hgr (by intro ee; exact Bk.ne HZ3.out HE3.out (by simp) (Option.some.inj ee))); clear HZ3
              have hbl : Below w5.heap.size _ v4 := grown_base hgr hS3.size (by intro kk ee; cases ee; exact hg46')
              clear HE3 hgr
              refine hK.out _ _ (hS3.trans hbl) (fun hS4 => ?_)
              clear hK K
              try simp only [Act.put, List.getElem_toArray, List.getElem_cons_zero, List.getElem_cons_succ, List.setIfInBounds_toArray, List.set_cons_zero, List.set_cons_succ]
              refine wpAnyH_ready (rs := [10]) (by kernel_rfl) (by simp) ?_
              refine (AllReadyH.cons rfl (fun K hK => ?_) AllReadyH.nil)
              refine append_k_op _ (.tmp 46) (.tmp 52) 29 rfl w5.heap.size 40 _ 13 160 Try.underlying29 infoJ rfl (by omega) u48 (cellsJ l) rfl HV4.out ⟨g50, 0, none⟩ 1 1 (cellsJ [t.job m.nm]) rfl (RdK.of_bk HF4.out) (cellsJ_k _) (cellsJ_one _) rfl (by simp [cellsJ, maxLen]; omega) (by simp [cellsJ, maxLen]; omega) hS4.size ?_
              intro u51 v5 hO hgr
              rw [← cellsJ_append] at hO
              obtain ⟨A2, c2, hv2, hr2, hc3, hc4⟩ := hO.rdj
              rw [← HM2.out] at hv2 hc3
              subst hv2
              have HQ5 := Lib.hid hr2; clear hr2 hO
              have HZ5 := Lib.hid (HZ4.out.stays hgr (HV4.out.ne HZ4.out (by decide))); clear HZ4
              have hbl : Below w5.heap.size _ v5 := grown_base hgr hS4.size HV4.out.block
              clear HV4 HF4 hgr
              refine hK.out _ _ (hS4.trans hbl) (fun hS5 => ?_)
              clear hK K
              try simp only [Act.put, List.getElem_toArray, List.getElem_cons_zero, List.getElem_cons_succ, List.setIfInBounds_toArray, List.set_cons_zero, List.set_cons_succ]
              refine wpAnyH_ready (rs := [11]) (by kernel_rfl) (by simp) ?_
              refine (AllReadyH.cons rfl (fun K hK => ?_) AllReadyH.nil)
              go_simp
              refine (K4.out A2 c2 _ HQ5).mono ?_
              rintro r v6 ⟨rfl, hbl⟩
              go_simp
              have HZ6 := Lib.hid (HZ5.out.later hbl); clear HZ5
              clear HQ5
              refine hK.out _ _ (hS5.trans (hbl.mono hS5.size)) (fun hS6 => ?_)
              clear hK K
              try simp only [Act.put, List.getElem_toArray, List.getElem_cons_zero, List.getElem_cons_succ, List.setIfInBounds_toArray, List.set_cons_zero, List.set_cons_succ]
              refine wpAnyH_take (i := 12) (v := ?_) rfl (by kernel_rfl) (by kernel_rfl) (by kernel_rfl) (fun _ _ _ h => h) (Or.inl ⟨by rfl, ?_⟩) hS6 ?_
              rotate_left
              · intro W _; go_simp; try with_reducible rfl
              try simp only [Act.put, List.getElem_toArray, List.getElem_cons_zero, List.getElem_cons_succ, List.setIfInBounds_toArray, List.set_cons_zero, List.set_cons_succ]
              refine wpAnyH_take (i := 13) (v := ?_) rfl (by kernel_rfl) (by kernel_rfl) (by kernel_rfl) (fun _ _ _ h => h) (Or.inl ⟨by rfl, ?_⟩) hS6 ?_
              rotate_left
              · intro W _; go_simp; try with_reducible rfl
              try simp only [Act.put, List.getElem_toArray, List.getElem_cons_zero, List.getElem_cons_succ, List.setIfInBounds_toArray, List.set_cons_zero, List.set_cons_succ]
              refine wpAnyH_take (i := 14) (v := ?_) rfl (by kernel_rfl) (by kernel_rfl) (by kernel_rfl) (fun _ _ _ h => h) (Or.inl ⟨by rfl, ?_⟩) hS6 ?_
              rotate_left
              · intro W _; go_simp; try with_reducible rfl
              try simp only [Act.put, List.getElem_toArray, List.getElem_cons_zero, List.getElem_cons_succ, List.setIfInBounds_toArray, List.set_cons_zero, List.set_cons_succ]
              refine wpAnyH_ready (rs := [16]) (by kernel_rfl) (by simp) ?_
              refine (AllReadyH.cons rfl (fun K hK => ?_) AllReadyH.nil)
              refine store_bk_op 23 (.tmp 9) (.tmp 55) rfl g9 0 #[.int .i64 (p - t.a), .int .i64 (q - t.b), .int .i64 (s - t.c)] rfl rfl 23 #[.int .i64 0, .int .i64 0, .int .i64 0] #[.int .i64 (p - t.a), .int .i64 (q - t.b), .int .i64 (s - t.c)] HZ6.out (by kernel_rfl) (by simp) (by kernel_rfl) rfl ?_
              intro v7 hX hgr hs
              have HX := Lib.hid hX; clear hX hs
              have hbl : Below w5.heap.size _ v7 := grown_base hgr hS6.size (by intro kk ee; cases ee; exact hg9')
              clear HZ6 hgr
              refine hK.out _ _ (hS6.trans hbl) (fun hS7 => ?_)
              clear hK K
              try simp only [Act.put, List.getElem_toArray, List.getElem_cons_zero, List.getElem_cons_succ, List.setIfInBounds_toArray, List.set_cons_zero, List.set_cons_succ]
              refine wpAnyH_take (i := 17) (v := ?_) rfl (by kernel_rfl) (by kernel_rfl) (by kernel_rfl) (fun _ _ _ h => h) (Or.inl ⟨by rfl, ?_⟩) hS7 ?_
              rotate_left
              · intro W _; go_simp; try with_reducible rfl
              try simp only [Act.put, List.getElem_toArray, List.getElem_cons_zero, List.getElem_cons_succ, List.setIfInBounds_toArray, List.set_cons_zero, List.set_cons_succ]
              refine wpAnyH_done (by kernel_rfl) ?_ _
              go_wp2_with fail
              go_meet
              exact ⟨g9, rfl, rfl, hS7, HX.out⟩
        · refine one_op 51 (t.job m.nm).arr rfl rfl rfl ?_
          intro g50 v1 hg50 hF hbl
          have HF1 := Lib.hid hF; clear hF hg50
          refine hK.out _ _ (hS0.trans (hbl.mono hS0.size)) (fun hS1 => ?_)
          clear hK K
          try simp only [Act.put, List.getElem_toArray, List.getElem_cons_zero, List.getElem_cons_succ, List.setIfInBounds_toArray, List.set_cons_zero, List.set_cons_succ]
          refine wpAnyH_ready (rs := [1, 15]) (by kernel_rfl) (by simp) ?_
          refine (AllReadyH.cons rfl (fun K hK => ?_) (AllReadyH.cons rfl (fun K hK => ?_) AllReadyH.nil))
          · refine none_op rfl ?_
            intro g46 v2 hg46 hE hbl
            have hg46' : w5.heap.size ≤ g46 := by have := hS1.size; omega
            have HE2 := Lib.hid hE; clear hE hg46
            have HF2 := Lib.hid (HF1.out.later hbl); clear HF1
            refine hK.out _ _ (hS1.trans (hbl.mono hS1.size)) (fun hS2 => ?_)
            clear hK K
            try simp only [Act.put, List.getElem_toArray, List.getElem_cons_zero, List.getElem_cons_succ, List.setIfInBounds_toArray, List.set_cons_zero, List.set_cons_succ]
            refine wpAnyH_ready (rs := [3, 15]) (by kernel_rfl) (by simp) ?_
            refine (AllReadyH.cons rfl (fun K hK => ?_) (AllReadyH.cons rfl (fun K hK => ?_) AllReadyH.nil))
            · refine append_kn_op _ (.tmp 44) (.tmp 45) 29 rfl w5.heap.size 40 _ 13 160 Try.underlying29 infoJ rfl (by omega) (.slice (some ⟨g46, 0, none⟩) 0 0) [] rfl (OwnK.of_empty HE2.out hg46') A cap n (cellsJ l) rfl (RdK.later HA5.out hS2) (cellsJ_k _) (cellsJ_one _) HMJ.out (by simp [cellsJ, maxLen]; omega) (by simp [cellsJ, maxLen]; omega) hS2.size ?_
              intro u48 v3 hV hgr
              have HV3 := Lib.hid (show OwnK _ _ _ _ _ (cellsJ l) from hV); clear hV
              have HF3 := Lib.hid (HF2.out.stays hgr (by intro ee; exact Bk.ne HF2.out HE2.out (by simp) (Option.some.inj ee))); clear HF2
              have hbl : Below w5.heap.size _ v3 := grown_base hgr hS2.size (by intro kk ee; cases ee; exact hg46')
              clear HE2 hgr
              refine hK.out _ _ (hS2.trans hbl) (fun hS3 => ?_)
              clear hK K
              try simp only [Act.put, List.getElem_toArray, List.getElem_cons_zero, List.getElem_cons_succ, List.setIfInBounds_toArray, List.set_cons_zero, List.set_cons_succ]
              refine wpAnyH_ready (rs := [10, 15]) (by kernel_rfl) (by simp) ?_
              refine (AllReadyH.cons rfl (fun K hK => ?_) (AllReadyH.cons rfl (fun K hK => ?_) AllReadyH.nil))
              · refine append_k_op _ (.tmp 46) (.tmp 52) 29 rfl w5.heap.size 40 _ 13 160 Try.underlying29 infoJ rfl (by omega) u48 (cellsJ l) rfl HV3.out ⟨g50, 0, none⟩ 1 1 (cellsJ [t.job m.nm]) rfl (RdK.of_bk HF3.out) (cellsJ_k _) (cellsJ_one _) rfl (by simp [cellsJ, maxLen]; omega) (by simp [cellsJ, maxLen]; omega) hS3.size ?_
                intro u51 v4 hO hgr
                rw [← cellsJ_append] at hO
                obtain ⟨A2, c2, hv2, hr2, hc3, hc4⟩ := hO.rdj
                rw [← HM2.out] at hv2 hc3
                subst hv2
                have HQ4 := Lib.hid hr2; clear hr2 hO
                have hbl : Below w5.heap.size _ v4 := grown_base hgr hS3.size HV3.out.block
                clear HV3 HF3 hgr
                refine hK.out _ _ (hS3.trans hbl) (fun hS4 => ?_)
                clear hK K
                try simp only [Act.put, List.getElem_toArray, List.getElem_cons_zero, List.getElem_cons_succ, List.setIfInBounds_toArray, List.set_cons_zero, List.set_cons_succ]
                refine wpAnyH_ready (rs := [11, 15]) (by kernel_rfl) (by simp) ?_
                refine (AllReadyH.cons rfl (fun K hK => ?_) (AllReadyH.cons rfl (fun K hK => ?_) AllReadyH.nil))
                · go_simp
                  refine (K4.out A2 c2 _ HQ4).mono ?_
                  rintro r v5 ⟨rfl, hbl⟩
                  go_simp
                  clear HQ4
                  refine hK.out _ _ (hS4.trans (hbl.mono hS4.size)) (fun hS5 => ?_)
                  clear hK K
                  try simp only [Act.put, List.getElem_toArray, List.getElem_cons_zero, List.getElem_cons_succ, List.setIfInBounds_toArray, List.set_cons_zero, List.set_cons_succ]
                  refine wpAnyH_take (i := 12) (v := ?_) rfl (by kernel_rfl) (by kernel_rfl) (by kernel_rfl) (fun _ _ _ h => h) (Or.inl ⟨by rfl, ?_⟩) hS5 ?_
                  rotate_left
                  · intro W _; go_simp; try with_reducible rfl
                  try simp only [Act.put, List.getElem_toArray, List.getElem_cons_zero, List.getElem_cons_succ, List.setIfInBounds_toArray, List.set_cons_zero, List.set_cons_succ]
                  refine wpAnyH_take (i := 13) (v := ?_) rfl (by kernel_rfl) (by kernel_rfl) (by kernel_rfl) (fun _ _ _ h => h) (Or.inl ⟨by rfl, ?_⟩) hS5 ?_
                  rotate_left
                  · intro W _; go_simp; try with_reducible rfl
                  try simp only [Act.put, List.getElem_toArray, List.getElem_cons_zero, List.getElem_cons_succ, List.setIfInBounds_toArray, List.set_cons_zero, List.set_cons_succ]
                  refine wpAnyH_take (i := 14) (v := ?_) rfl (by kernel_rfl) (by kernel_rfl) (by kernel_rfl) (fun _ _ _ h => h) (Or.inl ⟨by rfl, ?_⟩) hS5 ?_
                  rotate_left
                  · intro W _; go_simp; try with_reducible rfl
                  try simp only [Act.put, List.getElem_toArray, List.getElem_cons_zero, List.getElem_cons_succ, List.setIfInBounds_toArray, List.set_cons_zero, List.set_cons_succ]
                  refine wpAnyH_ready (rs := [15]) (by kernel_rfl) (by simp) ?_
                  refine (AllReadyH.cons rfl (fun K hK => ?_) AllReadyH.nil)
                  refine cell_op rfl ?_
                  intro g9 v6 hg9 hZ hbl
                  have hg9' : w5.heap.size ≤ g9 := by have := hS5.size; omega
                  have HZ6 := Lib.hid hZ; clear hZ hg9
                  refine hK.out _ _ (hS5.trans (hbl.mono hS5.size)) (fun hS6 => ?_)
                  clear hK K
                  try simp only [Act.put, List.getElem_toArray, List.getElem_cons_zero, List.getElem_cons_succ, List.setIfInBounds_toArray, List.set_cons_zero, List.set_cons_succ]
                  refine wpAnyH_ready (rs := [16]) (by kernel_rfl) (by simp) ?_
                  refine (AllReadyH.cons rfl (fun K hK => ?_) AllReadyH.nil)
                  refine store_bk_op 23 (.tmp 9) (.tmp 55) rfl g9 0 #[.int .i64 (p - t.a), .int .i64 (q - t.b), .int .i64 (s - t.c)] rfl rfl 23 #[.int .i64 0, .int .i64 0, .int .i64 0] #[.int .i64 (p - t.a), .int .i64 (q - t.b), .int .i64 (s - t.c)] HZ6.out (by kernel_rfl) (by simp) (by kernel_rfl) rfl ?_
                  intro v7 hX hgr hs
                  have HX := Lib.hid hX; clear hX hs
                  have hbl : Below w5.heap.size _ v7 := grown_base hgr hS6.size (by intro kk ee; cases ee; exact hg9')
                  clear HZ6 hgr
                  refine hK.out _ _ (hS6.trans hbl) (fun hS7 => ?_)
                  clear hK K
                  try simp only [Act.put, List.getElem_toArray, List.getElem_cons_zero, List.getElem_cons_succ, List.setIfInBounds_toArray, List.set_cons_zero, List.set_cons_succ]
                  refine wpAnyH_take (i := 17) (v := ?_) rfl (by kernel_rfl) (by kernel_rfl) (by kernel_rfl) (fun _ _ _ h => h) (Or.inl ⟨by rfl, ?_⟩) hS7 ?_
                  rotate_left
                  · intro W _; go_simp; try with_reducible rfl
                  try simp only [Act.put, List.getElem_toArray, List.getElem_cons_zero, List.getElem_cons_succ, List.setIfInBounds_toArray, List.set_cons_zero, List.set_cons_succ]
                  refine wpAnyH_done (by kernel_rfl) ?_ _
                  go_wp2_with fail
                  go_meet
                  exact ⟨g9, rfl, rfl, hS7, HX.out⟩
                · refine cell_op rfl ?_
                  intro g9 v5 hg9 hZ hbl
                  have hg9' : w5.heap.size ≤ g9 := by have := hS4.size; omega
                  have HZ5 := Lib.hid hZ; clear hZ hg9
                  have HQ5 := Lib.hid (HQ4.out.later hbl); clear HQ4
                  refine hK.out _ _ (hS4.trans (hbl.mono hS4.size)) (fun hS5 => ?_)
                  clear hK K
                  try simp only [Act.put, List.getElem_toArray, List.getElem_cons_zero, List.getElem_cons_succ, List.setIfInBounds_toArray, List.set_cons_zero, List.set_cons_succ]
                  refine wpAnyH_ready (rs := [11]) (by kernel_rfl) (by simp) ?_
                  refine (AllReadyH.cons rfl (fun K hK => ?_) AllReadyH.nil)
                  go_simp
                  refine (K4.out A2 c2 _ HQ5).mono ?_
                  rintro r v6 ⟨rfl, hbl⟩
                  go_simp
                  have HZ6 := Lib.hid (HZ5.out.later hbl); clear HZ5
                  clear HQ5
                  refine hK.out _ _ (hS5.trans (hbl.mono hS5.size)) (fun hS6 => ?_)
                  clear hK K
                  try simp only [Act.put, List.getElem_toArray, List.getElem_cons_zero, List.getElem_cons_succ, List.setIfInBounds_toArray, List.set_cons_zero, List.set_cons_succ]
                  refine wpAnyH_take (i := 12) (v := ?_) rfl (by kernel_rfl) (by kernel_rfl) (by kernel_rfl) (fun _ _ _ h => h) (Or.inl ⟨by rfl, ?_⟩) hS6 ?_
                  rotate_left
                  · intro W _; go_simp; try with_reducible rfl
                  try simp only [Act.put, List.getElem_toArray, List.getElem_cons_zero, List.getElem_cons_succ, List.setIfInBounds_toArray, List.set_cons_zero, List.set_cons_succ]
                  refine wpAnyH_take (i := 13) (v := ?_) rfl (by kernel_rfl) (by kernel_rfl) (by kernel_rfl) (fun _ _ _ h => h) (Or.inl ⟨by rfl, ?_⟩) hS6 ?_
                  rotate_left
                  · intro W _; go_simp; try with_reducible rfl
                  try simp only [Act.put, List.getElem_toArray, List.getElem_cons_zero, List.getElem_cons_succ, List.setIfInBounds_toArray, List.set_cons_zero, List.set_cons_succ]
                  refine wpAnyH_take (i := 14) (v := ?_) rfl (by kernel_rfl) (by kernel_rfl) (by kernel_rfl) (fun _ _ _ h => h) (Or.inl ⟨by rfl, ?_⟩) hS6 ?_
                  rotate_left
                  · intro W _; go_simp; try with_reducible rfl
                  try simp only [Act.put, List.getElem_toArray, List.getElem_cons_zero, List.getElem_cons_succ, List.setIfInBounds_toArray, List.set_cons_zero, List.set_cons_succ]
                  refine wpAnyH_ready (rs := [16]) (by kernel_rfl) (by simp) ?_
                  refine (AllReadyH.cons rfl (fun K hK => ?_) AllReadyH.nil)
                  refine store_bk_op 23 (.tmp 9) (.tmp 55) rfl g9 0 #[.int .i64 (p - t.a), .int .i64 (q - t.b), .int .i64 (s - t.c)] rfl rfl 23 #[.int .i64 0, .int .i64 0, .int .i64 0] #[.int .i64 (p - t.a), .int .i64 (q - t.b), .int .i64 (s - t.c)] HZ6.out (by kernel_rfl) (by simp) (by kernel_rfl) rfl ?_
                  intro v7 hX hgr hs
                  have HX := Lib.hid hX; clear hX hs
                  have hbl : Below w5.heap.size _ v7 := grown_base hgr hS6.size (by intro kk ee; cases ee; exact hg9')
                  clear HZ6 hgr
                  refine hK.out _ _ (hS6.trans hbl) (fun hS7 => ?_)
                  clear hK K
                  try simp only [Act.put, List.getElem_toArray, List.getElem_cons_zero, List.getElem_cons_succ, List.setIfInBounds_toArray, List.set_cons_zero, List.set_cons_succ]
                  refine wpAnyH_take (i := 17) (v := ?_) rfl (by kernel_rfl) (by kernel_rfl) (by kernel_rfl) (fun _ _ _ h => h) (Or.inl ⟨by rfl, ?_⟩) hS7 ?_
                  rotate_left
                  · intro W _; go_simp; try with_reducible rfl
                  try simp only [Act.put, List.getElem_toArray, List.getElem_cons_zero, List.getElem_cons_succ, List.setIfInBounds_toArray, List.set_cons_zero, List.set_cons_succ]
                  refine wpAnyH_done (by kernel_rfl) ?_ _
                  go_wp2_with fail
                  go_meet
                  exact ⟨g9, rfl, rfl, hS7, HX.out⟩
              · refine cell_op rfl ?_
                intro g9 v4 hg9 hZ hbl
                have hg9' : w5.heap.size ≤ g9 := by have := hS3.size; omega
                have HZ4 := Lib.hid hZ; clear hZ hg9
                have HV4 := Lib.hid (HV3.out.below hbl); clear HV3
                have HF4 := Lib.hid (HF3.out.later hbl); clear HF3
                refine hK.out _ _ (hS3.trans (hbl.mono hS3.size)) (fun hS4 => ?_)
                clear hK K
                try simp only [Act.put, List.getElem_toArray, List.getElem_cons_zero, List.getElem_cons_succ, List.setIfInBounds_toArray, List.set_cons_zero, List.set_cons_succ]
                refine wpAnyH_ready (rs := [10]) (by kernel_rfl) (by simp) ?_
                refine (AllReadyH.cons rfl (fun K hK => ?_) AllReadyH.nil)
                refine append_k_op _ (.tmp 46) (.tmp 52) 29 rfl w5.heap.size 40 _ 13 160 Try.underlying29 infoJ rfl (by omega) u48 (cellsJ l) rfl HV4.out ⟨g50, 0, none⟩ 1 1 (cellsJ [t.job m.nm]) rfl (RdK.of_bk HF4.out) (cellsJ_k _) (cellsJ_one _) rfl (by simp [cellsJ, maxLen]; omega) (by simp [cellsJ, maxLen]; omega) hS4.size ?_
                intro u51 v5 hO hgr
                rw [← cellsJ_append] at hO
                obtain ⟨A2, c2, hv2, hr2, hc3, hc4⟩ := hO.rdj
                rw [← HM2.out] at hv2 hc3
                subst hv2
                have HQ5 := Lib.hid hr2; clear hr2 hO
                have HZ5 := Lib.hid (HZ4.out.stays hgr (HV4.out.ne HZ4.out (by decide))); clear HZ4
                have hbl : Below w5.heap.size _ v5 := grown_base hgr hS4.size HV4.out.block
                clear HV4 HF4 hgr
                refine hK.out _ _ (hS4.trans hbl) (fun hS5 => ?_)
                clear hK K
                try simp only [Act.put, List.getElem_toArray, List.getElem_cons_zero, List.getElem_cons_succ, List.setIfInBounds_toArray, List.set_cons_zero, List.set_cons_succ]
                refine wpAnyH_ready (rs := [11]) (by kernel_rfl) (by simp) ?_
                refine (AllReadyH.cons rfl (fun K hK => ?_) AllReadyH.nil)
                go_simp
                refine (K4.out A2 c2 _ HQ5).mono ?_
                rintro r v6 ⟨rfl, hbl⟩
                go_simp
                have HZ6 := Lib.hid (HZ5.out.later hbl); clear HZ5
                clear HQ5
                refine hK.out _ _ (hS5.trans (hbl.mono hS5.size)) (fun hS6 => ?_)
                clear hK K
                try simp only [Act.put, List.getElem_toArray, List.getElem_cons_zero, List.getElem_cons_succ, List.setIfInBounds_toArray, List.set_cons_zero, List.set_cons_succ]
                refine wpAnyH_take (i := 12) (v := ?_) rfl (by kernel_rfl) (by kernel_rfl) (by kernel_rfl) (fun _ _ _ h => h) (Or.inl ⟨by rfl, ?_⟩) hS6 ?_
                rotate_left
                · intro W _; go_simp; try with_reducible rfl
                try simp only [Act.put, List.getElem_toArray, List.getElem_cons_zero, List.getElem_cons_succ, List.setIfInBounds_toArray, List.set_cons_zero, List.set_cons_succ]
                refine wpAnyH_take (i := 13) (v := ?_) rfl (by kernel_rfl) (by kernel_rfl) (by kernel_rfl) (fun _ _ _ h => h) (Or.inl ⟨by rfl, ?_⟩) hS6 ?_
                rotate_left
                · intro W _; go_simp; try with_reducible rfl
                try simp only [Act.put, List.getElem_toArray, List.getElem_cons_zero, List.getElem_cons_succ, List.setIfInBounds_toArray, List.set_cons_zero, List.set_cons_succ]
                refine wpAnyH_take (i := 14) (v := ?_) rfl (by kernel_rfl) (by kernel_rfl) (by kernel_rfl) (fun _ _ _ h => h) (Or.inl ⟨by rfl, ?_⟩) hS6 ?_
                rotate_left
                · intro W _; go_simp; try with_reducible rfl
                try simp only [Act.put, List.getElem_toArray, List.getElem_cons_zero, List.getElem_cons_succ, List.setIfInBounds_toArray, List.set_cons_zero, List.set_cons_succ]
                refine wpAnyH_ready (rs := [16]) (by kernel_rfl) (by simp) ?_
                refine (AllReadyH.cons rfl (fun K hK => ?_) AllReadyH.nil)
                refine store_bk_op 23 (.tmp 9) (.tmp 55) rfl g9 0 #[.int .i64 (p - t.a), .int .i64 (q - t.b), .int .i64 (s - t.c)] rfl rfl 23 #[.int .i64 0, .int .i64 0, .int .i64 0] #[.int .i64 (p - t.a), .int .i64 (q - t.b), .int .i64 (s - t.c)] HZ6.out (by kernel_rfl) (by simp) (by kernel_rfl) rfl ?_
                intro v7 hX hgr hs
                have HX := Lib.hid hX; clear hX hs
                have hbl : Below w5.heap.size _ v7 := grown_base hgr hS6.size (by intro kk ee; cases ee; exact hg9')
                clear HZ6 hgr
                refine hK.out _ _ (hS6.trans hbl) (fun hS7 => ?_)
                clear hK K
                try simp only [Act.put, List.getElem_toArray, List.getElem_cons_zero, List.getElem_cons_succ, List.setIfInBounds_toArray, List.set_cons_zero, List.set_cons_succ]
                refine wpAnyH_take (i := 17) (v := ?_) rfl (by kernel_rfl) (by kernel_rfl) (by kernel_rfl) (fun _ _ _ h => h) (Or.inl ⟨by rfl, ?_⟩) hS7 ?_
                rotate_left
                · intro W _; go_simp; try with_reducible rfl
                try simp only [Act.put, List.getElem_toArray, List.getElem_cons_zero, List.getElem_cons_succ, List.setIfInBounds_toArray, List.set_cons_zero, List.set_cons_succ]
                refine wpAnyH_done (by kernel_rfl) ?_ _
                go_wp2_with fail
                go_meet
                exact ⟨g9, rfl, rfl, hS7, HX.out⟩
            · refine cell_op rfl ?_
              intro g9 v3 hg9 hZ hbl
              have hg9' : w5.heap.size ≤ g9 := by have := hS2.size; omega
              have HZ3 := Lib.hid hZ; clear hZ hg9
              have HE3 := Lib.hid (HE2.out.later hbl); clear HE2
              have HF3 := Lib.hid (HF2.out.later hbl); clear HF2
              refine hK.out _ _ (hS2.trans (hbl.mono hS2.size)) (fun hS3 => ?_)
              clear hK K
              try simp only [Act.put, List.getElem_toArray, List.getElem_cons_zero, List.getElem_cons_succ, List.setIfInBounds_toArray, List.set_cons_zero, List.set_cons_succ]
              refine wpAnyH_ready (rs := [3]) (by kernel_rfl) (by simp) ?_
              refine (AllReadyH.cons rfl (fun K hK => ?_) AllReadyH.nil)
              refine append_kn_op _ (.tmp 44) (.tmp 45) 29 rfl w5.heap.size 40 _ 13 160 Try.underlying29 infoJ rfl (by omega) (.slice (some ⟨g46, 0, none⟩) 0 0) [] rfl (OwnK.of_empty HE3.out hg46') A cap n (cellsJ l) rfl (RdK.later HA5.out hS3) (cellsJ_k _) (cellsJ_one _) HMJ.out (by simp [cellsJ, maxLen]; omega) (by simp [cellsJ, maxLen]; omega) hS3.size ?_
              intro u48 v4 hV hgr
              have HV4 := Lib.hid (show OwnK _ _ _ _ _ (cellsJ l) from hV); clear hV
              have HF4 := Lib.hid (HF3.out.stays hgr (by intro ee; exact Bk.ne HF3.out HE3.out (by simp) (Option.some.inj ee))); clear HF3
              have HZ4 := Lib.hid (HZ3.out.stays hgr (by intro ee; exact Bk.ne HZ3.out HE3.out (by simp) (Option.some.inj ee))); clear HZ3
              have hbl : Below w5.heap.size _ v4 := grown_base hgr hS3.size (by intro kk ee; cases ee; exact hg46')
              clear HE3 hgr
              refine hK.out _ _ (hS3.trans hbl) (fun hS4 => ?_)
              clear hK K
              try simp only [Act.put, List.getElem_toArray, List.getElem_cons_zero, List.getElem_cons_succ, List.setIfInBounds_toArray, List.set_cons_zero, List.set_cons_succ]
              refine wpAnyH_ready (rs := [10]) (by kernel_rfl) (by simp) ?_
              refine (AllReadyH.cons rfl (fun K hK => ?_) AllReadyH.nil)
              refine append_k_op _ (.tmp 46) (.tmp 52) 29 rfl w5.heap.size 40 _ 13 160 Try.underlying29 infoJ rfl (by omega) u48 (cellsJ l) rfl HV4.out ⟨g50, 0, none⟩ 1 1 (cellsJ [t.job m.nm]) rfl (RdK.of_bk HF4.out) (cellsJ_k _) (cellsJ_one _) rfl (by simp [cellsJ, maxLen]; omega) (by simp [cellsJ, maxLen]; omega) hS4.size ?_
              intro u51 v5 hO hgr
              rw [← cellsJ_append] at hO
              obtain ⟨A2, c2, hv2, hr2, hc3, hc4⟩ := hO.rdj
              rw [← HM2.out] at hv2 hc3
              subst hv2
              have HQ5 := Lib.hid hr2; clear hr2 hO
              have HZ5 := Lib.hid (HZ4.out.stays hgr (HV4.out.ne HZ4.out (by decide))); clear HZ4
              have hbl : Below w5.heap.size _ v5 := grown_base hgr hS4.size HV4.out.block
              clear HV4 HF4 hgr
              refine hK.out _ _ (hS4.trans hbl) (fun hS5 => ?_)
              clear hK K
              try simp only [Act.put, List.getElem_toArray, List.getElem_cons_zero, List.getElem_cons_succ, List.setIfInBounds_toArray, List.set_cons_zero, List.set_cons_succ]
              refine wpAnyH_ready (rs := [11]) (by kernel_rfl) (by simp) ?_
              refine (AllReadyH.cons rfl (fun K hK => ?_) AllReadyH.nil)
              go_simp
              refine (K4.out A2 c2 _ HQ5).mono ?_
              rintro r v6 ⟨rfl, hbl⟩
              go_simp
              have HZ6 := Lib.hid (HZ5.out.later hbl); clear HZ5
              clear HQ5
              refine hK.out _ _ (hS5.trans (hbl.mono hS5.size)) (fun hS6 => ?_)
              clear hK K
              try simp only [Act.put, List.getElem_toArray, List.getElem_cons_zero, List.getElem_cons_succ, List.setIfInBounds_toArray, List.set_cons_zero, List.set_cons_succ]
              refine wpAnyH_take (i := 12) (v := ?_) rfl (by kernel_rfl) (by kernel_rfl) (by kernel_rfl) (fun _ _ _ h => h) (Or.inl ⟨by rfl, ?_⟩) hS6 ?_
              rotate_left
              · intro W _; go_simp; try with_reducible rfl
              try simp only [Act.put, List.getElem_toArray, List.getElem_cons_zero, List.getElem_cons_succ, List.setIfInBounds_toArray, List.set_cons_zero, List.set_cons_succ]
              refine wpAnyH_take (i := 13) (v := ?_) rfl (by kernel_rfl) (by kernel_rfl) (by kernel_rfl) (fun _ _ _ h => h) (Or.inl ⟨by rfl, ?_⟩) hS6 ?_
              rotate_left
              · intro W _; go_simp; try with_reducible rfl
              try simp only [Act.put, List.getElem_toArray, List.getElem_cons_zero, List.getElem_cons_succ, List.setIfInBounds_toArray, List.set_cons_zero, List.set_cons_succ]
              refine wpAnyH_take (i := 14) (v := ?_) rfl (by kernel_rfl) (by kernel_rfl) (by kernel_rfl) (fun _ _ _ h => h) (Or.inl ⟨by rfl, ?_⟩) hS6 ?_
              rotate_left
              · intro W _; go_simp; try with_reducible rfl
              try simp only [Act.put, List.getElem_toArray, List.getElem_cons_zero, List.getElem_cons_succ, List.setIfInBounds_toArray, List.set_cons_zero, List.set_cons_succ]
              refine wpAnyH_ready (rs := [16]) (by kernel_rfl) (by simp) ?_
              refine (AllReadyH.cons rfl (fun K hK => ?_) AllReadyH.nil)
              refine store_bk_op 23 (.tmp 9) (.tmp 55) rfl g9 0 #[.int .i64 (p - t.a), .int .i64 (q - t.b), .int .i64 (s - t.c)] rfl rfl 23 #[.int .i64 0, .int .i64 0, .int .i64 0] #[.int .i64 (p - t.a), .int .i64 (q - t.b), .int .i64 (s - t.c)] HZ6.out (by kernel_rfl) (by simp) (by kernel_rfl) rfl ?_
              intro v7 hX hgr hs
              have HX := Lib.hid hX; clear hX hs
              have hbl : Below w5.heap.size _ v7 := grown_base hgr hS6.size (by intro kk ee; cases ee; exact hg9')
              clear HZ6 hgr
              refine hK.out _ _ (hS6.trans hbl) (fun hS7 => ?_)
              clear hK K
              try simp only [Act.put, List.getElem_toArray, List.getElem_cons_zero, List.getElem_cons_succ, List.setIfInBounds_toArray, List.set_cons_zero, List.set_cons_succ]
              refine wpAnyH_take (i := 17) (v := ?_) rfl (by kernel_rfl) (by kernel_rfl) (by kernel_rfl) (fun _ _ _ h => h) (Or.inl ⟨by rfl, ?_⟩) hS7 ?_
              rotate_left
              · intro W _; go_simp; try with_reducible rfl
              try simp only [Act.put, List.getElem_toArray, List.getElem_cons_zero, List.getElem_cons_succ, List.setIfInBounds_toArray, List.set_cons_zero, List.set_cons_succ]
              refine wpAnyH_done (by kernel_rfl) ?_ _
              go_wp2_with fail
              go_meet
              exact ⟨g9, rfl, rfl, hS7, HX.out⟩
          · refine cell_op rfl ?_
            intro g9 v2 hg9 hZ hbl
            have hg9' : w5.heap.size ≤ g9 := by have := hS1.size; omega
            have HZ2 := Lib.hid hZ; clear hZ hg9
            have HF2 := Lib.hid (HF1.out.later hbl); clear HF1
            refine hK.out _ _ (hS1.trans (hbl.mono hS1.size)) (fun hS2 => ?_)
            clear hK K
            try simp only [Act.put, List.getElem_toArray, List.getElem_cons_zero, List.getElem_cons_succ, List.setIfInBounds_toArray, List.set_cons_zero, List.set_cons_succ]
            refine wpAnyH_ready (rs := [1]) (by kernel_rfl) (by simp) ?_
            refine (AllReadyH.cons rfl (fun K hK => ?_) AllReadyH.nil)
            refine none_op rfl ?_
            intro g46 v3 hg46 hE hbl
            have hg46' : w5.heap.size ≤ g46 := by have := hS2.size; omega
            have HE3 := Lib.hid hE; clear hE hg46
            have HF3 := Lib.hid (HF2.out.later hbl); clear HF2
            have HZ3 := Lib.hid (HZ2.out.later hbl); clear HZ2
            refine hK.out _ _ (hS2.trans (hbl.mono hS2.size)) (fun hS3 => ?_)
            clear hK K
            try simp only [Act.put, List.getElem_toArray, List.getElem_cons_zero, List.getElem_cons_succ, List.setIfInBounds_toArray, List.set_cons_zero, List.set_cons_succ]
            refine wpAnyH_ready (rs := [3]) (by kernel_rfl) (by simp) ?_
            refine (AllReadyH.cons rfl (fun K hK => ?_) AllReadyH.nil)
            refine append_kn_op _ (.tmp 44) (.tmp 45) 29 rfl w5.heap.size 40 _ 13 160 Try.underlying29 infoJ rfl (by omega) (.slice (some ⟨g46, 0, none⟩) 0 0) [] rfl (OwnK.of_empty HE3.out hg46') A cap n (cellsJ l) rfl (RdK.later HA5.out hS3) (cellsJ_k _) (cellsJ_one _) HMJ.out (by simp [cellsJ, maxLen]; omega) (by simp [cellsJ, maxLen]; omega) hS3.size ?_
            intro u48 v4 hV hgr
            have HV4 := Lib.hid (show OwnK _ _ _ _ _ (cellsJ l) from hV); clear hV
            have HF4 := Lib.hid (HF3.out.stays hgr (by intro ee; exact Bk.ne HF3.out HE3.out (by simp) (Option.some.inj ee))); clear HF3
            have HZ4 := Lib.hid (HZ3.out.stays hgr (by intro ee; exact Bk.ne HZ3.out HE3.out (by simp) (Option.some.inj ee))); clear HZ3
            have hbl : Below w5.heap.size _ v4 := grown_base hgr hS3.size (by intro kk ee; cases ee; exact hg46')
            clear HE3 hgr
            refine hK.out _ _ (hS3.trans hbl) (fun hS4 => ?_)
            clear hK K
            try simp only [Act.put, List.getElem_toArray, List.getElem_cons_zero, List.getElem_cons_succ, List.setIfInBounds_toArray, List.set_cons_zero, List.set_cons_succ]
            refine wpAnyH_ready (rs := [10]) (by kernel_rfl) (by simp) ?_
            refine (AllReadyH.cons rfl (fun K hK => ?_) AllReadyH.nil)
            refine append_k_op _ (.tmp 46) (.tmp 52) 29 rfl w5.heap.size 40 _ 13 160 Try.underlying29 infoJ rfl (by omega) u48 (cellsJ l) rfl HV4.out ⟨g50, 0, none⟩ 1 1 (cellsJ [t.job m.nm]) rfl (RdK.of_bk HF4.out) (cellsJ_k _) (cellsJ_one _) rfl (by simp [cellsJ, maxLen]; omega) (by simp [cellsJ, maxLen]; omega) hS4.size ?_
            intro u51 v5 hO hgr
            rw [← cellsJ_append] at hO
            obtain ⟨A2, c2, hv2, hr2, hc3, hc4⟩ := hO.rdj
            rw [← HM2.out] at hv2 hc3
            subst hv2
            have HQ5 := Lib.hid hr2; clear hr2 hO
            have HZ5 := Lib.hid (HZ4.out.stays hgr (HV4.out.ne HZ4.out (by decide))); clear HZ4
            have hbl : Below w5.heap.size _ v5 := grown_base hgr hS4.size HV4.out.block
            clear HV4 HF4 hgr
            refine hK.out _ _ (hS4.trans hbl) (fun hS5 => ?_)
            clear hK K
            try simp only [Act.put, List.getElem_toArray, List.getElem_cons_zero, List.getElem_cons_succ, List.setIfInBounds_toArray, List.set_cons_zero, List.set_cons_succ]
            refine wpAnyH_ready (rs := [11]) (by kernel_rfl) (by simp) ?_
            refine (AllReadyH.cons rfl (fun K hK => ?_) AllReadyH.nil)
            go_simp
            refine (K4.out A2 c2 _ HQ5).mono ?_
            rintro r v6 ⟨rfl, hbl⟩
            go_simp
            have HZ6 := Lib.hid (HZ5.out.later hbl); clear HZ5
            clear HQ5
            refine hK.out _ _ (hS5.trans (hbl.mono hS5.size)) (fun hS6 => ?_)
            clear hK K
            try simp only [Act.put, List.getElem_toArray, List.getElem_cons_zero, List.getElem_cons_succ, List.setIfInBounds_toArray, List.set_cons_zero, List.set_cons_succ]
            refine wpAnyH_take (i := 12) (v := ?_) rfl (by kernel_rfl) (by kernel_rfl) (by kernel_rfl) (fun _ _ _ h => h) (Or.inl ⟨by rfl, ?_⟩) hS6 ?_
            rotate_left
            · intro W _; go_simp; try with_reducible rfl
            try simp only [Act.put, List.getElem_toArray, List.getElem_cons_zero, List.getElem_cons_succ, List.setIfInBounds_toArray, List.set_cons_zero, List.set_cons_succ]
            refine wpAnyH_take (i := 13) (v := ?_) rfl (by kernel_rfl) (by kernel_rfl) (by kernel_rfl) (fun _ _ _ h => h) (Or.inl ⟨by rfl, ?_⟩) hS6 ?_
            rotate_left
            · intro W _; go_simp; try with_reducible rfl
            try simp only [Act.put, List.getElem_toArray, List.getElem_cons_zero, List.getElem_cons_succ, List.setIfInBounds_toArray, List.set_cons_zero, List.set_cons_succ]
            refine wpAnyH_take (i := 14) (v := ?_) rfl (by kernel_rfl) (by kernel_rfl) (by kernel_rfl) (fun _ _ _ h => h) (Or.inl ⟨by rfl, ?_⟩) hS6 ?_
            rotate_left
            · intro W _; go_simp; try with_reducible rfl
            try simp only [Act.put, List.getElem_toArray, List.getElem_cons_zero, List.getElem_cons_succ, List.setIfInBounds_toArray, List.set_cons_zero, List.set_cons_succ]
            refine wpAnyH_ready (rs := [16]) (by kernel_rfl) (by simp) ?_
            refine (AllReadyH.cons rfl (fun K hK => ?_) AllReadyH.nil)
            refine store_bk_op 23 (.tmp 9) (.tmp 55) rfl g9 0 #[.int .i64 (p - t.a), .int .i64 (q - t.b), .int .i64 (s - t.c)] rfl rfl 23 #[.int .i64 0, .int .i64 0, .int .i64 0] #[.int .i64 (p - t.a), .int .i64 (q - t.b), .int .i64 (s - t.c)] HZ6.out (by kernel_rfl) (by simp) (by kernel_rfl) rfl ?_
            intro v7 hX hgr hs
            have HX := Lib.hid hX; clear hX hs
            have hbl : Below w5.heap.size _ v7 := grown_base hgr hS6.size (by intro kk ee; cases ee; exact hg9')
            clear HZ6 hgr
            refine hK.out _ _ (hS6.trans hbl) (fun hS7 => ?_)
            clear hK K
            try simp only [Act.put, List.getElem_toArray, List.getElem_cons_zero, List.getElem_cons_succ, List.setIfInBounds_toArray, List.set_cons_zero, List.set_cons_succ]
            refine wpAnyH_take (i := 17) (v := ?_) rfl (by kernel_rfl) (by kernel_rfl) (by kernel_rfl) (fun _ _ _ h => h) (Or.inl ⟨by rfl, ?_⟩) hS7 ?_
            rotate_left
            · intro W _; go_simp; try with_reducible rfl
            try simp only [Act.put, List.getElem_toArray, List.getElem_cons_zero, List.getElem_cons_succ, List.setIfInBounds_toArray, List.set_cons_zero, List.set_cons_succ]
            refine wpAnyH_done (by kernel_rfl) ?_ _
            go_wp2_with fail
            go_meet
            exact ⟨g9, rfl, rfl, hS7, HX.out⟩
        · refine cell_op rfl ?_
          intro g9 v1 hg9 hZ hbl
          have hg9' : w5.heap.size ≤ g9 := by have := hS0.size; omega
          have HZ1 := Lib.hid hZ; clear hZ hg9
          refine hK.out _ _ (hS0.trans (hbl.mono hS0.size)) (fun hS1 => ?_)
          clear hK K
          try simp only [Act.put, List.getElem_toArray, List.getElem_cons_zero, List.getElem_cons_succ, List.setIfInBounds_toArray, List.set_cons_zero, List.set_cons_succ]
          refine wpAnyH_ready (rs := [1, 9]) (by kernel_rfl) (by simp) ?_
          refine (AllReadyH.cons rfl (fun K hK => ?_) (AllReadyH.cons rfl (fun K hK => ?_) AllReadyH.nil))
          · refine none_op rfl ?_
            intro g46 v2 hg46 hE hbl
            have hg46' : w5.heap.size ≤ g46 := by have := hS1.size; omega
            have HE2 := Lib.hid hE; clear hE hg46
            have HZ2 := Lib.hid (HZ1.out.later hbl); clear HZ1
            refine hK.out _ _ (hS1.trans (hbl.mono hS1.size)) (fun hS2 => ?_)
            clear hK K
            try simp only [Act.put, List.getElem_toArray, List.getElem_cons_zero, List.getElem_cons_succ, List.setIfInBounds_toArray, List.set_cons_zero, List.set_cons_succ]
            refine wpAnyH_ready (rs := [3, 9]) (by kernel_rfl) (by simp) ?_
            refine (AllReadyH.cons rfl (fun K hK => ?_) (AllReadyH.cons rfl (fun K hK => ?_) AllReadyH.nil))
            · refine append_kn_op _ (.tmp 44) (.tmp 45) 29 rfl w5.heap.size 40 _ 13 160 Try.underlying29 infoJ rfl (by omega) (.slice (some ⟨g46, 0, none⟩) 0 0) [] rfl (OwnK.of_empty HE2.out hg46') A cap n (cellsJ l) rfl (RdK.later HA5.out hS2) (cellsJ_k _) (cellsJ_one _) HMJ.out (by simp [cellsJ, maxLen]; omega) (by simp [cellsJ, maxLen]; omega) hS2.size ?_
              intro u48 v3 hV hgr
              have HV3 := Lib.hid (show OwnK _ _ _ _ _ (cellsJ l) from hV); clear hV
              have HZ3 := Lib.hid (HZ2.out.stays hgr (by intro ee; exact Bk.ne HZ2.out HE2.out (by simp) (Option.some.inj ee))); clear HZ2
              have hbl : Below w5.heap.size _ v3 := grown_base hgr hS2.size (by intro kk ee; cases ee; exact hg46')
              clear HE2 hgr
              refine hK.out _ _ (hS2.trans hbl) (fun hS3 => ?_)
              clear hK K
              try simp only [Act.put, List.getElem_toArray, List.getElem_cons_zero, List.getElem_cons_succ, List.setIfInBounds_toArray, List.set_cons_zero, List.set_cons_succ]
              refine wpAnyH_ready (rs := [9]) (by kernel_rfl) (by simp) ?_
              refine (AllReadyH.cons rfl (fun K hK => ?_) AllReadyH.nil)
              refine one_op 51 (t.job m.nm).arr rfl rfl rfl ?_
              intro g50 v4 hg50 hF hbl
              have HF4 := Lib.hid hF; clear hF hg50
              have HV4 := Lib.hid (HV3.out.below hbl); clear HV3
              have HZ4 := Lib.hid (HZ3.out.later hbl); clear HZ3
              refine hK.out _ _ (hS3.trans (hbl.mono hS3.size)) (fun hS4 => ?_)
              clear hK K
              try simp only [Act.put, List.getElem_toArray, List.getElem_cons_zero, List.getElem_cons_succ, List.setIfInBounds_toArray, List.set_cons_zero, List.set_cons_succ]
              refine wpAnyH_ready (rs := [10]) (by kernel_rfl) (by simp) ?_
              refine (AllReadyH.cons rfl (fun K hK => ?_) AllReadyH.nil)
              refine append_k_op _ (.tmp 46) (.tmp 52) 29 rfl w5.heap.size 40 _ 13 160 Try.underlying29 infoJ rfl (by omega) u48 (cellsJ l) rfl HV4.out ⟨g50, 0, none⟩ 1 1 (cellsJ [t.job m.nm]) rfl (RdK.of_bk HF4.out) (cellsJ_k _) (cellsJ_one _) rfl (by simp [cellsJ, maxLen]; omega) (by simp [cellsJ, maxLen]; omega) hS4.size ?_
              intro u51 v5 hO hgr
              rw [← cellsJ_append] at hO
              obtain ⟨A2, c2, hv2, hr2, hc3, hc4⟩ := hO.rdj
              rw [← HM2.out] at hv2 hc3
              subst hv2
              have HQ5 := Lib.hid hr2; clear hr2 hO
              have HZ5 := Lib.hid (HZ4.out.stays hgr (HV4.out.ne HZ4.out (by decide))); clear HZ4
              have hbl : Below w5.heap.size _ v5 := grown_base hgr hS4.size HV4.out.block
              clear HV4 HF4 hgr
              refine hK.out _ _ (hS4.trans hbl) (fun hS5 => ?_)
              clear hK K
              try simp only [Act.put, List.getElem_toArray, List.getElem_cons_zero, List.getElem_cons_succ, List.setIfInBounds_toArray, List.set_cons_zero, List.set_cons_succ]
              refine wpAnyH_ready (rs := [11]) (by kernel_rfl) (by simp) ?_
              refine (AllReadyH.cons rfl (fun K hK => ?_) AllReadyH.nil)
              go_simp
              refine (K4.out A2 c2 _ HQ5).mono ?_
              rintro r v6 ⟨rfl, hbl⟩
              go_simp
              have HZ6 := Lib.hid (HZ5.out.later hbl); clear HZ5
              clear HQ5
              refine hK.out _ _ (hS5.trans (hbl.mono hS5.size)) (fun hS6 => ?_)
              clear hK K
              try simp only [Act.put, List.getElem_toArray, List.getElem_cons_zero, List.getElem_cons_succ, List.setIfInBounds_toArray, List.set_cons_zero, List.set_cons_succ]
              refine wpAnyH_take (i := 12) (v := ?_) rfl (by kernel_rfl) (by kernel_rfl) (by kernel_rfl) (fun _ _ _ h => h) (Or.inl ⟨by rfl, ?_⟩) hS6 ?_
              rotate_left
              · intro W _; go_simp; try with_reducible rfl
              try simp only [Act.put, List.getElem_toArray, List.getElem_cons_zero, List.getElem_cons_succ, List.setIfInBounds_toArray, List.set_cons_zero, List.set_cons_succ]
              refine wpAnyH_take (i := 13) (v := ?_) rfl (by kernel_rfl) (by kernel_rfl) (by kernel_rfl) (fun _ _ _ h => h) (Or.inl ⟨by rfl, ?_⟩) hS6 ?_
              rotate_left
              · intro W _; go_simp; try with_reducible rfl
              try simp only [Act.put, List.getElem_toArray, List.getElem_cons_zero, List.getElem_cons_succ, List.setIfInBounds_toArray, List.set_cons_zero, List.set_cons_succ]
              refine wpAnyH_take (i := 14) (v := ?_) rfl (by kernel_rfl) (by kernel_rfl) (by kernel_rfl) (fun _ _ _ h => h) (Or.inl ⟨by rfl, ?_⟩) hS6 ?_
              rotate_left
              · intro W _; go_simp; try with_reducible rfl
              try simp only [Act.put, List.getElem_toArray, List.getElem_cons_zero, List.getElem_cons_succ, List.setIfInBounds_toArray, List.set_cons_zero, List.set_cons_succ]
              refine wpAnyH_ready (rs := [16]) (by kernel_rfl) (by simp) ?_
              refine (AllReadyH.cons rfl (fun K hK => ?_) AllReadyH.nil)
              refine store_bk_op 23 (.tmp 9) (.tmp 55) rfl g9 0 #[.int .i64 (p - t.a), .int .i64 (q - t.b), .int .i64 (s - t.c)] rfl rfl 23 #[.int .i64 0, .int .i64 0, .int .i64 0] #[.int .i64 (p - t.a), .int .i64 (q - t.b), .int .i64 (s - t.c)] HZ6.out (by kernel_rfl) (by simp) (by kernel_rfl) rfl ?_
              intro v7 hX hgr hs
              have HX := Lib.hid hX; clear hX hs
              have hbl : Below w5.heap.size _ v7 := grown_base hgr hS6.size (by intro kk ee; cases ee; exact hg9')
              clear HZ6 hgr
              refine hK.out _ _ (hS6.trans hbl) (fun hS7 => ?_)
              clear hK K
              try simp only [Act.put, List.getElem_toArray, List.getElem_cons_zero, List.getElem_cons_succ, List.setIfInBounds_toArray, List.set_cons_zero, List.set_cons_succ]
              refine wpAnyH_take (i := 17) (v := ?_) rfl (by kernel_rfl) (by kernel_rfl) (by kernel_rfl) (fun _ _ _ h => h) (Or.inl ⟨by rfl, ?_⟩) hS7 ?_
              rotate_left
              · intro W _; go_simp; try with_reducible rfl
              try simp only [Act.put, List.getElem_toArray, List.getElem_cons_zero, List.getElem_cons_succ, List.setIfInBounds_toArray, List.set_cons_zero, List.set_cons_succ]
              refine wpAnyH_done (by kernel_rfl) ?_ _
              go_wp2_with fail
              go_meet
              exact ⟨g9, rfl, rfl, hS7, HX.out⟩
            · refine one_op 51 (t.job m.nm).arr rfl rfl rfl ?_
              intro g50 v3 hg50 hF hbl
              have HF3 := Lib.hid hF; clear hF hg50
              have HE3 := Lib.hid (HE2.out.later hbl); clear HE2
              have HZ3 := Lib.hid (HZ2.out.later hbl); clear HZ2
              refine hK.out _ _ (hS2.trans (hbl.mono hS2.size)) (fun hS3 => ?_)
              clear hK K
              try simp only [Act.put, List.getElem_toArray, List.getElem_cons_zero, List.getElem_cons_succ, List.setIfInBounds_toArray, List.set_cons_zero, List.set_cons_succ]
              refine wpAnyH_ready (rs := [3]) (by kernel_rfl) (by simp) ?_
              refine (AllReadyH.cons rfl (fun K hK => ?_) AllReadyH.nil)
              refine append_kn_op _ (.tmp 44) (.tmp 45) 29 rfl w5.heap.size 40 _ 13 160 Try.underlying29 infoJ rfl (by omega) (.slice (some ⟨g46, 0, none⟩) 0 0) [] rfl (OwnK.of_empty HE3.out hg46') A cap n (cellsJ l) rfl (RdK.later HA5.out hS3) (cellsJ_k _) (cellsJ_one _) HMJ.out (by simp [cellsJ, maxLen]; omega) (by simp [cellsJ, maxLen]; omega) hS3.size ?_
              intro u48 v4 hV hgr
              have HV4 := Lib.hid (show OwnK _ _ _ _ _ (cellsJ l) from hV); clear hV
              have HF4 := Lib.hid (HF3.out.stays hgr (by intro ee; exact Bk.ne HF3.out HE3.out (by simp) (Option.some.inj ee))); clear HF3
              have HZ4 := Lib.hid (HZ3.out.stays hgr (by intro ee; exact Bk.ne HZ3.out HE3.out (by simp) (Option.some.inj ee))); clear HZ3
              have hbl : Below w5.heap.size _ v4 := grown_base hgr hS3.size (by intro kk ee; cases ee; exact hg46')
              clear HE3 hgr
              refine hK.out _ _ (hS3.trans hbl) (fun hS4 => ?_)
              clear hK K
              try simp only [Act.put, List.getElem_toArray, List.getElem_cons_zero, List.getElem_cons_succ, List.setIfInBounds_toArray, List.set_cons_zero, List.set_cons_succ]
              refine wpAnyH_ready (rs := [10]) (by kernel_rfl) (by simp) ?_
              refine (AllReadyH.cons rfl (fun K hK => ?_) AllReadyH.nil)
              refine append_k_op _ (.tmp 46) (.tmp 52) 29 rfl w5.heap.size 40 _ 13 160 Try.underlying29 infoJ rfl (by omega) u48 (cellsJ l) rfl HV4.out ⟨g50, 0, none⟩ 1 1 (cellsJ [t.job m.nm]) rfl (RdK.of_bk HF4.out) (cellsJ_k _) (cellsJ_one _) rfl (by simp [cellsJ, maxLen]; omega) (by simp [cellsJ, maxLen]; omega) hS4.size ?_
              intro u51 v5 hO hgr
              rw [← cellsJ_append] at hO
              obtain ⟨A2, c2, hv2, hr2, hc3, hc4⟩ := hO.rdj
              rw [← HM2.out] at hv2 hc3
              subst hv2
              have HQ5 := Lib.hid hr2; clear hr2 hO
              have HZ5 := Lib.hid (HZ4.out.stays hgr (HV4.out.ne HZ4.out (by decide))); clear HZ4
              have hbl : Below w5.heap.size _ v5 := grown_base hgr hS4.size HV4.out.block
              clear HV4 HF4 hgr
              refine hK.out _ _ (hS4.trans hbl) (fun hS5 => ?_)
              clear hK K
              try simp only [Act.put, List.getElem_toArray, List.getElem_cons_zero, List.getElem_cons_succ, List.setIfInBounds_toArray, List.set_cons_zero, List.set_cons_succ]
              refine wpAnyH_ready (rs := [11]) (by kernel_rfl) (by simp) ?_
              refine (AllReadyH.cons rfl (fun K hK => ?_) AllReadyH.nil)
              go_simp
              refine (K4.out A2 c2 _ HQ5).mono ?_
              rintro r v6 ⟨rfl, hbl⟩
              go_simp
              have HZ6 := Lib.hid (HZ5.out.later hbl); clear HZ5
              clear HQ5
              refine hK.out _ _ (hS5.trans (hbl.mono hS5.size)) (fun hS6 => ?_)
              clear hK K
              try simp only [Act.put, List.getElem_toArray, List.getElem_cons_zero, List.getElem_cons_succ, List.setIfInBounds_toArray, List.set_cons_zero, List.set_cons_succ]
              refine wpAnyH_take (i := 12) (v := ?_) rfl (by kernel_rfl) (by kernel_rfl) (by kernel_rfl) (fun _ _ _ h => h) (Or.inl ⟨by rfl, ?_⟩) hS6 ?_
              rotate_left
              · intro W _; go_simp; try with_reducible rfl
              try simp only [Act.put, List.getElem_toArray, List.getElem_cons_zero, List.getElem_cons_succ, List.setIfInBounds_toArray, List.set_cons_zero, List.set_cons_succ]
              refine wpAnyH_take (i := 13) (v := ?_) rfl (by kernel_rfl) (by kernel_rfl) (by kernel_rfl) (fun _ _ _ h => h) (Or.inl ⟨by rfl, ?_⟩) hS6 ?_
              rotate_left
              · intro W _; go_simp; try with_reducible rfl
              try simp only [Act.put, List.getElem_toArray, List.getElem_cons_zero, List.getElem_cons_succ, List.setIfInBounds_toArray, List.set_cons_zero, List.set_cons_succ]
              refine wpAnyH_take (i := 14) (v := ?_) rfl (by kernel_rfl) (by kernel_rfl) (by kernel_rfl) (fun _ _ _ h => h) (Or.inl ⟨by rfl, ?_⟩) hS6 ?_
              rotate_left
              · intro W _; go_simp; try with_reducible rfl
              try simp only [Act.put, List.getElem_toArray, List.getElem_cons_zero, List.getElem_cons_succ, List.setIfInBounds_toArray, List.set_cons_zero, List.set_cons_succ]
              refine wpAnyH_ready (rs := [16]) (by kernel_rfl) (by simp) ?_
              refine (AllReadyH.cons rfl (fun K hK => ?_) AllReadyH.nil)
              refine store_bk_op 23 (.tmp 9) (.tmp 55) rfl g9 0 #[.int .i64 (p - t.a), .int .i64 (q - t.b), .int .i64 (s - t.c)] rfl rfl 23 #[.int .i64 0, .int .i64 0, .int .i64 0] #[.int .i64 (p - t.a), .int .i64 (q - t.b), .int .i64 (s - t.c)] HZ6.out (by kernel_rfl) (by simp) (by kernel_rfl) rfl ?_
              intro v7 hX hgr hs
              have HX := Lib.hid hX; clear hX hs
              have hbl : Below w5.heap.size _ v7 := grown_base hgr hS6.size (by intro kk ee; cases ee; exact hg9')
              clear HZ6 hgr
              refine hK.out _ _ (hS6.trans hbl) (fun hS7 => ?_)
              clear hK K
              try simp only [Act.put, List.getElem_toArray, List.getElem_cons_zero, List.getElem_cons_succ, List.setIfInBounds_toArray, List.set_cons_zero, List.set_cons_succ]
              refine wpAnyH_take (i := 17) (v := ?_) rfl (by kernel_rfl) (by kernel_rfl) (by kernel_rfl) (fun _ _ _ h => h) (Or.inl ⟨by rfl, ?_⟩) hS7 ?_
              rotate_left
              · intro W _; go_simp; try with_reducible rfl
              try simp only [Act.put, List.getElem_toArray, List.getElem_cons_zero, List.getElem_cons_succ, List.setIfInBounds_toArray, List.set_cons_zero, List.set_cons_succ]
              refine wpAnyH_done (by kernel_rfl) ?_ _
              go_wp2_with fail
              go_meet
              exact ⟨g9, rfl, rfl, hS7, HX.out⟩
          · refine one_op 51 (t.job m.nm).arr rfl rfl rfl ?_
            intro g50 v2 hg50 hF hbl
            have HF2 := Lib.hid hF; clear hF hg50
            have HZ2 := Lib.hid (HZ1.out.later hbl); clear HZ1
            refine hK.out _ _ (hS1.trans (hbl.mono hS1.size)) (fun hS2 => ?_)
            clear hK K
            try simp only [Act.put, List.getElem_toArray, List.getElem_cons_zero, List.getElem_cons_succ, List.setIfInBounds_toArray, List.set_cons_zero, List.set_cons_succ]
            refine wpAnyH_ready (rs := [1]) (by kernel_rfl) (by simp) ?_
            refine (AllReadyH.cons rfl (fun K hK => ?_) AllReadyH.nil)
            refine none_op rfl ?_
            intro g46 v3 hg46 hE hbl
            have hg46' : w5.heap.size ≤ g46 := by have := hS2.size; omega
            have HE3 := Lib.hid hE; clear hE hg46
            have HF3 := Lib.hid (HF2.out.later hbl); clear HF2
            have HZ3 := Lib.hid (HZ2.out.later hbl); clear HZ2
            refine hK.out _ _ (hS2.trans (hbl.mono hS2.size)) (fun hS3 => ?_)
            clear hK K
            try simp only [Act.put, List.getElem_toArray, List.getElem_cons_zero, List.getElem_cons_succ, List.setIfInBounds_toArray, List.set_cons_zero, List.set_cons_succ]
            refine wpAnyH_ready (rs := [3]) (by kernel_rfl) (by simp) ?_
            refine (AllReadyH.cons rfl (fun K hK => ?_) AllReadyH.nil)
            refine append_kn_op _ (.tmp 44) (.tmp 45) 29 rfl w5.heap.size 40 _ 13 160 Try.underlying29 infoJ rfl (by omega) (.slice (some ⟨g46, 0, none⟩) 0 0) [] rfl (OwnK.of_empty HE3.out hg46') A cap n (cellsJ l) rfl (RdK.later HA5.out hS3) (cellsJ_k _) (cellsJ_one _) HMJ.out (by simp [cellsJ, maxLen]; omega) (by simp [cellsJ, maxLen]; omega) hS3.size ?_
            intro u48 v4 hV hgr
            have HV4 := Lib.hid (show OwnK _ _ _ _ _ (cellsJ l) from hV); clear hV
            have HF4 := Lib.hid (HF3.out.stays hgr (by intro ee; exact Bk.ne HF3.out HE3.out (by simp) (Option.some.inj ee))); clear HF3
            have HZ4 := Lib.hid (HZ3.out.stays hgr (by intro ee; exact Bk.ne HZ3.out HE3.out (by simp) (Option.some.inj ee))); clear HZ3
            have hbl : Below w5.heap.size _ v4 := grown_base hgr hS3.size (by intro kk ee; cases ee; exact hg46')
            clear HE3 hgr
            refine hK.out _ _ (hS3.trans hbl) (fun hS4 => ?_)
            clear hK K
            try simp only [Act.put, List.getElem_toArray, List.getElem_cons_zero, List.getElem_cons_succ, List.setIfInBounds_toArray, List.set_cons_zero, List.set_cons_succ]
            refine wpAnyH_ready (rs := [10]) (by kernel_rfl) (by simp) ?_
            refine (AllReadyH.cons rfl (fun K hK => ?_) AllReadyH.nil)
            refine append_k_op _ (.tmp 46) (.tmp 52) 29 rfl w5.heap.size 40 _ 13 160 Try.underlying29 infoJ rfl (by omega) u48 (cellsJ l) rfl HV4.out ⟨g50, 0, none⟩ 1 1 (cellsJ [t.job m.nm]) rfl (RdK.of_bk HF4.out) (cellsJ_k _) (cellsJ_one _) rfl (by simp [cellsJ, maxLen]; omega) (by simp [cellsJ, maxLen]; omega) hS4.size ?_
            intro u51 v5 hO hgr
            rw [← cellsJ_append] at hO
            obtain ⟨A2, c2, hv2, hr2, hc3, hc4⟩ := hO.rdj
            rw [← HM2.out] at hv2 hc3
            subst hv2
            have HQ5 := Lib.hid hr2; clear hr2 hO
            have HZ5 := Lib.hid (HZ4.out.stays hgr (HV4.out.ne HZ4.out (by decide))); clear HZ4
            have hbl : Below w5.heap.size _ v5 := grown_base hgr hS4.size HV4.out.block
            clear HV4 HF4 hgr
            refine hK.out _ _ (hS4.trans hbl) (fun hS5 => ?_)
            clear hK K
            try simp only [Act.put, List.getElem_toArray, List.getElem_cons_zero, List.getElem_cons_succ, List.setIfInBounds_toArray, List.set_cons_zero, List.set_cons_succ]
            refine wpAnyH_ready (rs := [11]) (by kernel_rfl) (by simp) ?_
            refine (AllReadyH.cons rfl (fun K hK => ?_) AllReadyH.nil)
            go_simp
            refine (K4.out A2 c2 _ HQ5).mono ?_
            rintro r v6 ⟨rfl, hbl⟩
            go_simp
            have HZ6 := Lib.hid (HZ5.out.later hbl); clear HZ5
            clear HQ5
            refine hK.out _ _ (hS5.trans (hbl.mono hS5.size)) (fun hS6 => ?_)
            clear hK K
            try simp only [Act.put, List.getElem_toArray, List.getElem_cons_zero, List.getElem_cons_succ, List.setIfInBounds_toArray, List.set_cons_zero, List.set_cons_succ]
            refine wpAnyH_take (i := 12) (v := ?_) rfl (by kernel_rfl) (by kernel_rfl) (by kernel_rfl) (fun _ _ _ h => h) (Or.inl ⟨by rfl, ?_⟩) hS6 ?_
            rotate_left
            · intro W _; go_simp; try with_reducible rfl
            try simp only [Act.put, List.getElem_toArray, List.getElem_cons_zero, List.getElem_cons_succ, List.setIfInBounds_toArray, List.set_cons_zero, List.set_cons_succ]
            refine wpAnyH_take (i := 13) (v := ?_) rfl (by kernel_rfl) (by kernel_rfl) (by kernel_rfl) (fun _ _ _ h => h) (Or.inl ⟨by rfl, ?_⟩) hS6 ?_
            rotate_left
            · intro W _; go_simp; try with_reducible rfl
            try simp only [Act.put, List.getElem_toArray, List.getElem_cons_zero, List.getElem_cons_succ, List.setIfInBounds_toArray, List.set_cons_zero, List.set_cons_succ]
            refine wpAnyH_take (i := 14) (v := ?_) rfl (by kernel_rfl) (by kernel_rfl) (by kernel_rfl) (fun _ _ _ h => h) (Or.inl ⟨by rfl, ?_⟩) hS6 ?_
            rotate_left
            · intro W _; go_simp; try with_reducible rfl
            try simp only [Act.put, List.getElem_toArray, List.getElem_cons_zero, List.getElem_cons_succ, List.setIfInBounds_toArray, List.set_cons_zero, List.set_cons_succ]
            refine wpAnyH_ready (rs := [16]) (by kernel_rfl) (by simp) ?_
            refine (AllReadyH.cons rfl (fun K hK => ?_) AllReadyH.nil)
            refine store_bk_op 23 (.tmp 9) (.tmp 55) rfl g9 0 #[.int .i64 (p - t.a), .int .i64 (q - t.b), .int .i64 (s - t.c)] rfl rfl 23 #[.int .i64 0, .int .i64 0, .int .i64 0] #[.int .i64 (p - t.a), .int .i64 (q - t.b), .int .i64 (s - t.c)] HZ6.out (by kernel_rfl) (by simp) (by kernel_rfl) rfl ?_
            intro v7 hX hgr hs
            have HX := Lib.hid hX; clear hX hs
            have hbl : Below w5.heap.size _ v7 := grown_base hgr hS6.size (by intro kk ee; cases ee; exact hg9')
            clear HZ6 hgr
            refine hK.out _ _ (hS6.trans hbl) (fun hS7 => ?_)
            clear hK K
            try simp only [Act.put, List.getElem_toArray, List.getElem_cons_zero, List.getElem_cons_succ, List.setIfInBounds_toArray, List.set_cons_zero, List.set_cons_succ]
            refine wpAnyH_take (i := 17) (v := ?_) rfl (by kernel_rfl) (by kernel_rfl) (by kernel_rfl) (fun _ _ _ h => h) (Or.inl ⟨by rfl, ?_⟩) hS7 ?_
            rotate_left
            · intro W _; go_simp; try with_reducible rfl
            try simp only [Act.put, List.getElem_toArray, List.getElem_cons_zero, List.getElem_cons_succ, List.setIfInBounds_toArray, List.set_cons_zero, List.set_cons_succ]
            refine wpAnyH_done (by kernel_rfl) ?_ _
            go_wp2_with fail
            go_meet
            exact ⟨g9, rfl, rfl, hS7, HX.out⟩
      case rest =>
        obtain ⟨g9, rfl, rfl, hbc, hX⟩ := hcut
        have HX9 := Lib.hid hX; clear hX
        have hB6 : Below w.heap.size w wc := hB5.trans (hbc.mono hB5.size)
        have HM6 := Lib.hid (HM5.out.later hbc); have HT6 := Lib.hid (HT5.out.later hbc); have HX6 := Lib.hid (HX7.out.later hbc)
        clear cnm lt5 lt6 HM5 HT5 HX7 hbc hB5
        go_wp2_with (first | (with_reducible refine load_bk rfl 23 _ rfl w4.heap.size 0 rfl 23 #[.int .i64 p, .int .i64 q, .int .i64 s] #[.int .i64 p, .int .i64 q, .int .i64 s] _ HX6.out (Part.whole _) Try.underlying23 rfl (by kernel_rfl) ?_) | (with_reducible refine load_bk rfl 23 _ rfl (w.heap.size + 1) 3 rfl 31 t.arr #[.int .i64 t.a, .int .i64 t.b, .int .i64 t.c] _ HT6.out (Part.of rfl) Try.underlying23 rfl (by kernel_rfl) ?_))
        refine (K5.out _).mono ?_; rintro v w7 ⟨rfl, hb7⟩
        have hB7 : Below w.heap.size w w7 := hB6.trans (hb7.mono hB6.size)
        have HM7 := Lib.hid (HM6.out.later hb7); have HX7 := Lib.hid (HX9.out.later hb7)
        have V3b : Array Value := #[.int .i64 (p - t.a), .int .i64 (q - t.b), .int .i64 (s - t.c)]
        clear V3b
        go_wp2_with (first | ((with_reducible refine store_bk rfl 23 (.tmp 11) (.tmp 62) rfl w7.heap.size 0 #[.int .i64 (p - t.a), .int .i64 (q - t.b), .int .i64 (s - t.c)] rfl rfl 23 _ #[.int .i64 (p - t.a), .int .i64 (q - t.b), .int .i64 (s - t.c)] (Bk.fresh _ _ _) (by kernel_rfl) (by simp) (by kernel_rfl) rfl ?_); intro w8 hX hg hs; have HX11 := Lib.hid hX; clear hX hs; have bl : Below w7.heap.size w7 w8 := grown_below ((Below.refl _ _).alloc (Nat.le_refl _) _) hg (Nat.le_refl _); clear hg; have HX8 := Lib.hid (HX7.out.later bl); have HM8 := Lib.hid (HM7.out.later bl); have hB8 : Below w.heap.size w w8 := hB7.trans (bl.mono hB7.size); have c5 : w8.cell? ⟨w.heap.size, 5, none⟩ = some (.bool true) := (by rw [← HUP.out]; exact HM8.out.cellAt 5); have z8 : w.heap.size < w8.heap.size := HM8.out.here) | (with_reducible refine load_bk rfl 23 _ rfl g9 0 rfl 23 #[.int .i64 (p - t.a), .int .i64 (q - t.b), .int .i64 (s - t.c)] #[.int .i64 (p - t.a), .int .i64 (q - t.b), .int .i64 (s - t.c)] _ HX8.out (Part.whole _) Try.underlying23 rfl (by kernel_rfl) ?_) | (with_reducible refine load_bk rfl 23 _ rfl w7.heap.size 0 rfl 23 #[.int .i64 (p - t.a), .int .i64 (q - t.b), .int .i64 (s - t.c)] #[.int .i64 (p - t.a), .int .i64 (q - t.b), .int .i64 (s - t.c)] _ HX11.out (Part.whole _) Try.underlying23 rfl (by kernel_rfl) ?_))
        go_ret
        exact ⟨rfl, hB8⟩
end feasRoom
end Go.Proofs.Ytpmbbhhckhifgaa
