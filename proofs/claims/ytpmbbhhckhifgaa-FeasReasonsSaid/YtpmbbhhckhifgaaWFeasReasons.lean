/- The walk of FeasReasons. No condition beyond the form's own. -/
import Derived.Test.YtpmbbhhckhifgaaWl
import Derived.Test.YtpmbbhhckhifgaaRts
namespace Go.Proofs.Ytpmbbhhckhifgaa
open Go.RowKit
set_option linter.unusedSimpArgs false
set_option linter.unusedVariables false
namespace feasReasons


set_option maxHeartbeats 6400000 in
set_option maxRecDepth 100000 in
theorem walk (m : Mc) (ml : List Lb) (A : Option Addr) (n cap : Nat) (l : List Jb) (t : Kt) (tl : List Lb) (w : World) (hm : McOk w m ml) (hn : n = l.length) (hA : RdJ w A l) (hc : n ≤ cap) (hc2 : cap ≤ 9223372036854775807) (ht : KtOk w t tl) :
    Calls Try.prog 5 #[.agg m.arr, .slice A n cap, .agg t.arr] w fun r w' => r = .returned (.bool true) ∧ Below w.heap.size w w' := by
  obtain ⟨FW, hFW⟩ : ∃ FW, fewM [m] n = FW := ⟨_, rfl⟩
  have kf := fun (A' : Option Addr) (W : World) (h : RdM W A' [m]) => few_any A' 1 1 [m] A n cap W (show 1 = 1 from rfl) (by omega) (by omega) h
  rw [hFW] at kf
  have KF := Lib.hid kf; have HFW := Lib.hid hFW; clear kf hFW
  obtain ⟨N, hN⟩ : ∃ N, m.ok ml = N := ⟨_, rfl⟩
  obtain ⟨K, hK⟩ : ∃ K, t.ok tl = K := ⟨_, rfl⟩
  obtain ⟨f, hf⟩ : ∃ f, freM m l = f := ⟨_, rfl⟩
  obtain ⟨p, q, s, e⟩ := f
  have k1 := fun (W : World) (h : KtOk W t tl) => rtask_any t.nm t.qu t.pr t.a t.b t.c t.A t.n t.cp tl t.ap t.ga t.sz W (by have := h.nm; omega) (by have := h.qu; omega) h.lb.len h.lb.rd h.lb.sz h.lb.cap h.lb.cap2 (by have := h.ap; omega) (by have := h.ga; omega)
  have k2 := fun (W : World) (h : McOk W m ml) => rnode_any m.nm m.a m.b m.c m.A m.n m.cp ml W (by have := h.nm; omega) h.lb.len h.lb.rd h.lb.sz h.lb.cap h.lb.cap2
  have e2 : nodeB m.nm m.a m.b m.c ml = N := hN
  have e1 : taskB t.nm t.qu t.pr t.a t.b t.c tl t.ap t.ga t.sz = K := hK
  rw [e1] at k1
  rw [e2] at k2
  have k3 := fun (hl : n ≤ 1000000) (W : World) (h : RdJ W A l) => freeM_any m A n cap l W hn hl h p q s e hf
  have K1 := Lib.hid k1; have K2 := Lib.hid k2; have K3 := Lib.hid k3; have HA := Lib.hid hA; have HM := Lib.hid hm; have HT := Lib.hid ht; have HN := Lib.hid hN; have HK := Lib.hid hK; have HF := Lib.hid hf; have HL := Lib.hid hn
  clear k1 k2 k3 e1 e2 hA hm ht hN hK hf hn
  go_enter Try.func5, Try.ntmps5
  have HM0 := Lib.hid (show Bk ((w.alloc (.cells m.arr 28)).alloc (.cells t.arr 31)) w.heap.size 28 m.arr from (Bk.fresh w _ _).later ((Below.refl _ _).alloc (Nat.le_refl _) _))
  have HT0 := Lib.hid (show Bk ((w.alloc (.cells m.arr 28)).alloc (.cells t.arr 31)) (w.heap.size + 1) 31 t.arr from Bk.freshAt _ _ _ (by simp))
  have hB0 : Below w.heap.size w ((w.alloc (.cells m.arr 28)).alloc (.cells t.arr 31)) := ((Below.refl _ _).alloc (Nat.le_refl _) _).alloc (by simp) _
  go_wp2_with fail
  refine (awake_any _).mono ?_; rintro v w1 ⟨rfl, hb1⟩
  have hB1 : Below w.heap.size w w1 := hB0.trans (hb1.mono hB0.size)
  have HM1 := Lib.hid (HM0.out.later hb1); have HT1 := Lib.hid (HT0.out.later hb1); clear HM0 HT0
  go_wp2_with (with_reducible refine load_bk rfl 28 _ rfl w.heap.size 0 rfl 28 m.arr m.arr _ HM1.out (Part.whole _) Try.underlying28 rfl (by kernel_rfl) ?_)
  have hF1 : RdM (w1.alloc (.cells m.arr 28)) (some ⟨w1.heap.size, 0, none⟩) [m] := fresh_k w1 7 m.cells 28 rfl
  have bl1 : Below w1.heap.size w1 (w1.alloc (.cells m.arr 28)) := (Below.refl _ _).alloc (Nat.le_refl _) _
  refine (KF.out _ _ hF1).mono ?_; rintro v w2 ⟨rfl, hb2⟩
  have hB1' : Below w.heap.size w (w1.alloc (.cells m.arr 28)) := hB1.alloc hB1.size _
  have hB2 : Below w.heap.size w w2 := hB1'.trans (hb2.mono hB1'.size)
  have HM2 := Lib.hid ((HM1.out.later bl1).later hb2); have HT2 := Lib.hid ((HT1.out.later bl1).later hb2); clear HM1 HT1
  clear hF1 bl1 hb1 hb2 hB0 hB1 hB1'
  cases FW
  case false =>
    go_wp2_with fail
    refine (awake_any _).mono ?_; rintro v wz ⟨rfl, hbz⟩
    go_wp2_with fail
    go_ret
    exact ⟨rfl, hB2.trans (hbz.mono hB2.size)⟩
  case true =>
    have hfw : n ≤ 200 := by have h := HFW.out; unfold fewM at h; simp only [Bool.and_eq_true, decide_eq_true_eq] at h; exact h.1.2
    have ct : w2.cell? ⟨w.heap.size + 1, 6, none⟩ = some (.slice t.A t.n t.cp) := HT2.out.cellAt 6
    have z1 : w.heap.size + 1 < w2.heap.size := HT2.out.here
    by_cases ht20 : t.n ≤ 20
    case neg =>
      go_wp2_with fail
      refine (awake_any _).mono ?_; rintro v wz ⟨rfl, hbz⟩
      go_wp2_with fail
      go_ret
      exact ⟨rfl, hB2.trans (hbz.mono hB2.size)⟩
    case pos =>
      have d20 : decide (20 < (t.n : Int)) = false := by rw [decide_eq_false_iff_not]; omega
      go_wp2_with (with_reducible refine load_bk rfl 31 _ rfl (w.heap.size + 1) 0 rfl 31 t.arr t.arr _ HT2.out (Part.whole _) Try.underlying31 rfl (by kernel_rfl) ?_)
      refine (K1.out _ (HT.out.later hB2)).mono ?_; rintro v w3 ⟨rfl, hb3⟩
      have hB3 : Below w.heap.size w w3 := hB2.trans (hb3.mono hB2.size)
      have HM3 := Lib.hid (HM2.out.later hb3); have HT3 := Lib.hid (HT2.out.later hb3); clear HM2 HT2 ct z1
      cases K
      case false =>
        go_wp2_with fail
        refine (awake_any _).mono ?_; rintro v wz ⟨rfl, hbz⟩
        go_wp2_with fail
        go_ret
        exact ⟨rfl, hB3.trans (hbz.mono hB3.size)⟩
      go_wp2_with (with_reducible refine load_bk rfl 26 _ rfl w.heap.size 0 rfl 28 m.arr m.node _ HM3.out (Part.of rfl) Try.underlying26 rfl (by kernel_rfl) ?_)
      refine (K2.out _ (HM.out.later hB3)).mono ?_; rintro v w4 ⟨rfl, hb4⟩
      have hB4 : Below w.heap.size w w4 := hB3.trans (hb4.mono hB3.size)
      have HM4 := Lib.hid (HM3.out.later hb4); have HT4 := Lib.hid (HT3.out.later hb4); clear HM3 HT3
      cases N
      case false =>
        go_wp2_with fail
        refine (awake_any _).mono ?_; rintro v wz ⟨rfl, hbz⟩
        go_wp2_with fail
        go_ret
        exact ⟨rfl, hB4.trans (hbz.mono hB4.size)⟩
      go_wp2_with (with_reducible refine load_bk rfl 28 _ rfl w.heap.size 0 rfl 28 m.arr m.arr _ HM4.out (Part.whole _) Try.underlying28 rfl (by kernel_rfl) ?_)
      refine (K3.out (by omega) _ (HA.out.later hB4)).mono ?_; rintro v w5 ⟨rfl, hb5⟩
      have hB5 : Below w.heap.size w w5 := hB4.trans (hb5.mono hB4.size)
      have HM5 := Lib.hid (HM4.out.later hb5); have HT5 := Lib.hid (HT4.out.later hb5); clear HM4 HT4
      by_cases he : e = 0
      case neg =>
        have hd : decide (e = 0) = false := decide_eq_false he
        have k4 := fun (W : World) (h1 : RdJ W A l) (h2 : McOk W m ml) (h3 : KtOk W t tl) => why_any m ml A n cap l t tl W HL.out (by omega) h1 h2 h3 5 (why_5 HF.out he)
        have K4 := Lib.hid k4; clear k4
        go_wp2_with (first | ((with_reducible refine store_bk rfl 23 (.tmp 7) (.tmp 43) rfl w5.heap.size 0 #[.int .i64 p, .int .i64 q, .int .i64 s] rfl rfl 23 _ #[.int .i64 p, .int .i64 q, .int .i64 s] (Bk.fresh _ _ _) (by kernel_rfl) (by simp) (by kernel_rfl) rfl ?_); intro w6 hX hg hs; have HX7 := Lib.hid hX; clear hX hs; have bl : Below w5.heap.size w5 w6 := grown_below ((Below.refl _ _).alloc (Nat.le_refl _) _) hg (Nat.le_refl _); clear hg; have HM6 := Lib.hid (HM5.out.later bl); have HT6 := Lib.hid (HT5.out.later bl); have hB6 : Below w.heap.size w w6 := hB5.trans (bl.mono hB5.size)) | (with_reducible refine load_bk rfl 28 _ rfl w.heap.size 0 rfl 28 m.arr m.arr _ HM6.out (Part.whole _) Try.underlying28 rfl (by kernel_rfl) ?_) | (with_reducible refine load_bk rfl 31 _ rfl (w.heap.size + 1) 0 rfl 31 t.arr t.arr _ HT6.out (Part.whole _) Try.underlying31 rfl (by kernel_rfl) ?_))
        refine (K4.out _ (HA.out.later hB6) (HM.out.later hB6) (HT.out.later hB6)).mono ?_; rintro v w7 ⟨rfl, hb7⟩
        go_wp2_with fail
        go_ret
        exact ⟨rfl, hB6.trans (hb7.mono hB6.size)⟩
      case pos =>
        subst he
        have k4 := fun (W : World) (h1 : RdJ W A l) (h2 : McOk W m ml) (h3 : KtOk W t tl) => why_any m.off ml A n cap l t tl W HL.out (by omega) h1 (okOff h2) h3 1 (why_1 HF.out HN.out HK.out)
        have K4 := Lib.hid k4; clear k4
        go_wp2_with (first | ((with_reducible refine store_bk rfl 23 (.tmp 7) (.tmp 43) rfl w5.heap.size 0 #[.int .i64 p, .int .i64 q, .int .i64 s] rfl rfl 23 _ #[.int .i64 p, .int .i64 q, .int .i64 s] (Bk.fresh _ _ _) (by kernel_rfl) (by simp) (by kernel_rfl) rfl ?_); intro w6 hX hg hs; have HX7 := Lib.hid hX; clear hX hs; have bl : Below w5.heap.size w5 w6 := grown_below ((Below.refl _ _).alloc (Nat.le_refl _) _) hg (Nat.le_refl _); clear hg; have HM6 := Lib.hid (HM5.out.later bl); have HT6 := Lib.hid (HT5.out.later bl); have hB6 : Below w.heap.size w w6 := hB5.trans (bl.mono hB5.size)) | (with_reducible refine load_bk rfl 28 _ rfl w.heap.size 0 rfl 28 m.arr m.arr _ HM6.out (Part.whole _) Try.underlying28 rfl (by kernel_rfl) ?_) | ((with_reducible refine store_bk rfl 28 (.tmp 9) (.tmp 52) rfl w6.heap.size 0 m.arr rfl rfl 28 _ m.arr (Bk.fresh _ _ _) (by kernel_rfl) (by simp) (by kernel_rfl) rfl ?_); intro w7 hX hg hs; have bl7 : Below w6.heap.size w6 w7 := grown_below ((Below.refl _ _).alloc (Nat.le_refl _) _) hg (Nat.le_refl _); have z7 : w6.heap.size < w7.heap.size := hX.here; have f5 := hX.free 5; have c5 : w7.cell? ⟨w6.heap.size, 5, none⟩ = some (.bool m.up) := hX.cellAt 5; have hY : Bk (w7.setCell ⟨w6.heap.size, 5, none⟩ (.bool false)) w6.heap.size 28 m.off.arr := (by have := hX.put 5 (.bool false); simpa using this); have HY := Lib.hid hY; clear hX hY hg hs; have bl8 : Below w6.heap.size w6 (w7.setCell ⟨w6.heap.size, 5, none⟩ (.bool false)) := bl7.setCell (Nat.le_refl _) _; have HM8 := Lib.hid (HM6.out.later bl8); have HT8 := Lib.hid (HT6.out.later bl8); have hB8 : Below w.heap.size w (w7.setCell ⟨w6.heap.size, 5, none⟩ (.bool false)) := hB6.trans (bl8.mono hB6.size)) | (with_reducible refine load_bk rfl 28 _ rfl w6.heap.size 0 rfl 28 m.off.arr m.off.arr _ HY.out (Part.whole _) Try.underlying28 rfl (by kernel_rfl) ?_) | (with_reducible refine load_bk rfl 31 _ rfl (w.heap.size + 1) 0 rfl 31 t.arr t.arr _ HT8.out (Part.whole _) Try.underlying31 rfl (by kernel_rfl) ?_))
        refine (K4.out _ (HA.out.later hB8) (HM.out.later hB8) (HT.out.later hB8)).mono ?_; rintro v w9 ⟨rfl, hb9⟩
        have hB9 : Below w.heap.size w w9 := hB8.trans (hb9.mono hB8.size)
        have hM9 := HM8.out.later hb9
        have hT9 := HT8.out.later hb9
        have z9 : w.heap.size < w9.heap.size := hM9.here
        have g5 := hM9.free 5; have g4 := hM9.free 4
        have c5' : w9.cell? ⟨w.heap.size, 5, none⟩ = some (.bool m.up) := hM9.cellAt 5
        have c4' : w9.cell? ⟨w.heap.size, 4, none⟩ = some (.slice m.A m.n m.cp) := hM9.cellAt 4
        clear HM8 HT8 HY K4 bl7 bl8 z7 f5 c5 HX7 HM6 HT6 HM5 HT5
        have W9 : ∃ W', W' = (w9.setCell ⟨w.heap.size, 5, none⟩ (.bool true)).setCell ⟨w.heap.size, 4, none⟩ (.slice none 0 0) := ⟨_, rfl⟩
        obtain ⟨W', hW'⟩ := W9
        have hY1 : Bk (w9.setCell ⟨w.heap.size, 5, none⟩ (.bool true)) w.heap.size 28 #[.string m.nm, .int .i64 m.a, .int .i64 m.b, .int .i64 m.c, .slice m.A m.n m.cp, .bool true, .int .i64 m.un] := by have := hM9.put 5 (.bool true); simpa using this
        have hY2 : Bk W' w.heap.size 28 m.bare.arr := by rw [hW']; have := hY1.put 4 (.slice none 0 0); simpa using this
        have hB10 : Below w.heap.size w W' := by rw [hW']; exact (hB9.setCell (Nat.le_refl _) _).setCell (Nat.le_refl _) _
        have hT10 : Bk W' (w.heap.size + 1) 31 t.arr := by rw [hW']; exact (hT9.other (by simp) _).other (by simp) _
        have HY2 := Lib.hid hY2; have HT10 := Lib.hid hT10
        have c0' : w9.cell? ⟨w.heap.size, 0, none⟩ = some (.string m.nm) := hM9.cellAt 0
        have c6 : w9.cell? ⟨w.heap.size + 1, 6, none⟩ = some (.slice t.A t.n t.cp) := hT9.cellAt 6
        have z10 : w.heap.size + 1 < w9.heap.size := hT9.here
        have HW' := Lib.hid hW'
        clear hM9 hT9 hY1 hY2 hT10 hb9 hB9 hB8
        by_cases h0 : 0 < t.n
        case pos =>
          have k5 := fun (W : World) (h1 : RdJ W A l) (h2 : McOk W m ml) (h3 : KtOk W t tl) => why_any m.bare [] A n cap l t tl W HL.out (by omega) h1 (okBare h2) h3 2 (why_2 HF.out HN.out HK.out (by intro hc; have := HT.out.lb.len; rw [hc] at this; simp at this; omega))
          have K5 := Lib.hid k5; clear k5 hW'
          have hMb := Lib.hid (show Bk ((w9.setCell ⟨w.heap.size, 5, none⟩ (.bool true)).setCell ⟨w.heap.size, 4, none⟩ (.slice none 0 0)) w.heap.size 28 m.bare.arr from HW'.out ▸ HY2.out)
          have hTb := Lib.hid (show Bk ((w9.setCell ⟨w.heap.size, 5, none⟩ (.bool true)).setCell ⟨w.heap.size, 4, none⟩ (.slice none 0 0)) (w.heap.size + 1) 31 t.arr from HW'.out ▸ HT10.out)
          have hBb : Below w.heap.size w ((w9.setCell ⟨w.heap.size, 5, none⟩ (.bool true)).setCell ⟨w.heap.size, 4, none⟩ (.slice none 0 0)) := HW'.out ▸ hB10
          go_wp2_with (first | (with_reducible refine load_bk rfl 28 _ rfl w.heap.size 0 rfl 28 m.bare.arr m.bare.arr _ hMb.out (Part.whole _) Try.underlying28 rfl (by kernel_rfl) ?_) | (with_reducible refine load_bk rfl 31 _ rfl (w.heap.size + 1) 0 rfl 31 t.arr t.arr _ hTb.out (Part.whole _) Try.underlying31 rfl (by kernel_rfl) ?_))
          refine (K5.out _ (HA.out.later hBb) (HM.out.later hBb) (HT.out.later hBb)).mono ?_; rintro v w11 ⟨rfl, hb11⟩
          go_wp2_with fail
          go_ret
          exact ⟨rfl, hBb.trans (hb11.mono hBb.size)⟩
        case neg =>
          have htl : tl = [] := by have := HT.out.lb.len; exact List.length_eq_zero_iff.1 (by omega)
          subst htl
          obtain ⟨r, hr⟩ : ∃ r, why m.bare [] t [] [t.job m.nm] = r := ⟨_, rfl⟩
          have hcase : r = 0 ∨ r = 4 ∨ r = 5 := by rw [← hr]; exact why_own HN.out HK.out
          have k5 := fun (W : World) (A' : Option Addr) (h1 : RdJ W A' [t.job m.nm]) (h2 : McOk W m ml) (h3 : KtOk W t []) => why_any m.bare [] A' 1 1 [t.job m.nm] t [] W (show 1 = 1 from rfl) (by omega) h1 (okBare h2) h3 r hr
          have K5 := Lib.hid k5; have HC := Lib.hid hcase; clear k5 hW' hr hcase
          have hMb := Lib.hid (show Bk ((w9.setCell ⟨w.heap.size, 5, none⟩ (.bool true)).setCell ⟨w.heap.size, 4, none⟩ (.slice none 0 0)) w.heap.size 28 m.bare.arr from HW'.out ▸ HY2.out)
          have hTb := Lib.hid (show Bk ((w9.setCell ⟨w.heap.size, 5, none⟩ (.bool true)).setCell ⟨w.heap.size, 4, none⟩ (.slice none 0 0)) (w.heap.size + 1) 31 t.arr from HW'.out ▸ HT10.out)
          have hBb : Below w.heap.size w ((w9.setCell ⟨w.heap.size, 5, none⟩ (.bool true)).setCell ⟨w.heap.size, 4, none⟩ (.slice none 0 0)) := HW'.out ▸ hB10
          have z11 : ((w9.setCell ⟨w.heap.size, 5, none⟩ (.bool true)).setCell ⟨w.heap.size, 4, none⟩ (.slice none 0 0)).heap.size = w9.heap.size := by simp
          have hJ : RdJ (((w9.setCell ⟨w.heap.size, 5, none⟩ (.bool true)).setCell ⟨w.heap.size, 4, none⟩ (.slice none 0 0)).alloc (.cells (t.job m.nm).arr 40)) (some ⟨w9.heap.size, 0, none⟩) [t.job m.nm] := fresh_k _ 13 (t.job m.nm).cells 40 z11.symm
          have HJ := Lib.hid hJ; clear hJ
          have bl : Below ((w9.setCell ⟨w.heap.size, 5, none⟩ (.bool true)).setCell ⟨w.heap.size, 4, none⟩ (.slice none 0 0)).heap.size ((w9.setCell ⟨w.heap.size, 5, none⟩ (.bool true)).setCell ⟨w.heap.size, 4, none⟩ (.slice none 0 0)) (((w9.setCell ⟨w.heap.size, 5, none⟩ (.bool true)).setCell ⟨w.heap.size, 4, none⟩ (.slice none 0 0)).alloc (.cells (t.job m.nm).arr 40)) := (Below.refl _ _).alloc (Nat.le_refl _) _
          have hMc := Lib.hid (hMb.out.later bl); have hTc := Lib.hid (hTb.out.later bl)
          have hBc := hBb.trans (bl.mono hBb.size)
          go_wp2_with (first | (with_reducible refine load_bk rfl 31 _ rfl (w.heap.size + 1) 0 rfl 31 t.arr t.arr _ hTb.out (Part.whole _) Try.underlying31 rfl (by kernel_rfl) ?_) | (with_reducible refine load_bk rfl 28 _ rfl w.heap.size 0 rfl 28 m.bare.arr m.bare.arr _ hMc.out (Part.whole _) Try.underlying28 rfl (by kernel_rfl) ?_) | (with_reducible refine load_bk rfl 31 _ rfl (w.heap.size + 1) 0 rfl 31 t.arr t.arr _ hTc.out (Part.whole _) Try.underlying31 rfl (by kernel_rfl) ?_))
          refine (K5.out _ _ HJ.out (HM.out.later hBc) (HT.out.later hBc)).mono ?_; rintro v w11 ⟨rfl, hb11⟩
          have hB11 := hBc.trans (hb11.mono hBc.size)
          rcases HC.out with rfl | rfl | rfl
          all_goals
            clear HC
            go_wp2_with fail
            go_ret
            exact ⟨rfl, hB11⟩
end feasReasons
end Go.Proofs.Ytpmbbhhckhifgaa
