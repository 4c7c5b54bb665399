/- The walk of VictimRanks. No condition beyond the form's own. -/
import Derived.Test.YtpifleheammanaaVp
namespace Go.Proofs.Ytpifleheammanaa
open Go.RowKit
set_option linter.unusedSimpArgs false
set_option linter.unusedVariables false
namespace victimRanks

section
variable {o : Oper} {a : Act} {w : World} {K : Act → World → Prop} {Q : Exit → Act → World → Prop}
theorem tcell_op (ho : o.op = .alloc 28) (h : ∀ g w', g = w.heap.size → Bk w' g 28 #[.string ⟨#[]⟩, .string ⟨#[]⟩, .int .i64 0, .int .i64 0, .int .i64 0, .int .i64 0, .slice none 0 0, .string ⟨#[]⟩, .string ⟨#[]⟩, .int .i64 0] → Below w.heap.size w w' → K (a.put o.dst (.pointer (some ⟨g, 0, none⟩))) w') : o.wp Try.prog a w K Q := by
  unfold Oper.wp execOp
  simp only [ho]
  go_simp
  exact h _ _ rfl (Bk.fresh w _ _) ((Below.refl _ _).alloc (Nat.le_refl _) _)
end

set_option maxHeartbeats 12800000 in
set_option maxRecDepth 100000 in
theorem walk (m : Mc) (ml : List Lb) (A : Option Addr) (n cap : Nat) (l : List Jb) (t : Kt) (tl : List Lb) (w : World) (hm : McOk w m ml) (hn : n = l.length) (hA : RdJ w A l) (hc : n ≤ cap) (hc2 : cap ≤ 9223372036854775807) (ht : KtOk w t tl) :
    Calls Try.prog 6 #[.agg m.arr, .slice A n cap, .agg t.arr] w fun r w' => r = .returned (.bool true) ∧ Below w.heap.size w w' := by
  obtain ⟨FX, hFX⟩ : ∃ FX, few13 [m] n t.n = FX := ⟨_, rfl⟩
  have htn : t.n ≤ 9223372036854775807 := by have h1 := ht.lb.cap; have h2 := ht.lb.cap2; omega
  have kx := fun (B : Option Addr) (W : World) (h : RdM W B [m]) => few13_any B 1 1 [m] A n cap t W (show 1 = 1 from rfl) (by omega) (by omega) htn h
  rw [hFX] at kx
  obtain ⟨y, hy⟩ : ∃ y, why m ml (t.of 0) tl l = y := ⟨_, rfl⟩
  obtain ⟨r0, hr0⟩ : ∃ r, places m ml (t.of 0) tl l = r := ⟨_, rfl⟩
  obtain ⟨r1, hr1⟩ : ∃ r, places m ml t tl l = r := ⟨_, rfl⟩
  obtain ⟨r2, hr2⟩ : ∃ r, places m ml (t.of 9) tl l = r := ⟨_, rfl⟩
  have k0 := fun (hl : n ≤ 1000000) (W : World) (h1 : RdJ W A l) (h2 : McOk W m ml) (h3 : KtOk W t tl) => vplan_any m ml A n cap l (t.of 0) tl W hn hl h1 h2 (okOf h3 0) r0 hr0
  have k1 := fun (hl : n ≤ 1000000) (W : World) (h1 : RdJ W A l) (h2 : McOk W m ml) (h3 : KtOk W t tl) => vplan_any m ml A n cap l t tl W hn hl h1 h2 h3 r1 hr1
  have k2 := fun (hl : n ≤ 1000000) (W : World) (h1 : RdJ W A l) (h2 : McOk W m ml) (h3 : KtOk W t tl) => vplan_any m ml A n cap l (t.of 9) tl W hn hl h1 h2 (okOf h3 9) r2 hr2
  have k3 := fun (hl : n ≤ 1000000) (W : World) (h1 : RdJ W A l) (h2 : McOk W m ml) (h3 : KtOk W t tl) => why_any m ml A n cap l (t.of 0) tl W hn hl h1 h2 (okOf h3 0) y hy
  have hlo : (∀ j ∈ l, 0 ≤ j.pr) → r0 = if y = 0 then some [] else none := fun h => by rw [← hr0, ← hy]; exact low_plan h
  have hhi : r1.isSome = true → r2.isSome = true := fun h => by rw [← hr2]; exact high_plan (by rw [hr1]; exact h)
  have KX := Lib.hid kx; have K0 := Lib.hid k0; have K1 := Lib.hid k1; have K2 := Lib.hid k2; have K3 := Lib.hid k3; have HLo := Lib.hid hlo; have HHi := Lib.hid hhi; have HFX := Lib.hid hFX; have HA := Lib.hid hA; have HMo := Lib.hid hm; have HK := Lib.hid ht; have Hn := Lib.hid hn; have HC := Lib.hid hc
  clear kx k0 k1 k2 k3 hlo hhi hr0 hr1 hr2 hy hFX hA hm ht hn hc hc2 htn
  go_enter Try.func6, Try.ntmps6
  have HM0 := Lib.hid (show Bk ((w.alloc (.cells m.arr 37)).alloc (.cells t.arr 28)) w.heap.size 37 m.arr from (Bk.fresh w _ _).later ((Below.refl _ _).alloc (Nat.le_refl _) _))
  have HT0 := Lib.hid (show Bk ((w.alloc (.cells m.arr 37)).alloc (.cells t.arr 28)) (w.heap.size + 1) 28 t.arr from Bk.freshAt _ _ _ (by simp))
  have hB0 : Below w.heap.size w ((w.alloc (.cells m.arr 37)).alloc (.cells t.arr 28)) := ((Below.refl _ _).alloc (Nat.le_refl _) _).alloc (by simp) _
  go_wp2_with fail
  refine (awake13_any _).mono ?_; rintro v w1 ⟨rfl, hb1⟩
  have hB1 : Below w.heap.size w w1 := hB0.trans (hb1.mono hB0.size)
  have HM1 := Lib.hid (HM0.out.later hb1); have HT1 := Lib.hid (HT0.out.later hb1); clear HM0 HT0 hB0 hb1
  have HT1' := Lib.hid (HT1.out.later (w' := w1.alloc (.cells m.arr 37)) ((Below.refl _ _).alloc (Nat.le_refl _) _))
  go_wp2_with (first | (with_reducible refine load_bk rfl 37 _ rfl w.heap.size 0 rfl 37 m.arr m.arr _ HM1.out (Part.whole _) Try.underlying37 rfl (by kernel_rfl) ?_) | (with_reducible refine load_bk rfl 28 _ rfl (w.heap.size + 1) 0 rfl 28 t.arr t.arr _ HT1'.out (Part.whole _) Try.underlying28 rfl (by kernel_rfl) ?_))
  have hF1 : RdM (w1.alloc (.cells m.arr 37)) (some ⟨w1.heap.size, 0, none⟩) [m] := fresh_k w1 7 m.cells 37 rfl
  have bl1 : Below w1.heap.size w1 (w1.alloc (.cells m.arr 37)) := (Below.refl _ _).alloc (Nat.le_refl _) _
  refine (KX.out _ _ hF1).mono ?_; rintro v w2 ⟨rfl, hb2⟩
  have hB1' : Below w.heap.size w (w1.alloc (.cells m.arr 37)) := hB1.alloc hB1.size _
  have hB2 : Below w.heap.size w w2 := hB1'.trans (hb2.mono hB1'.size)
  have HM2 := Lib.hid ((HM1.out.later bl1).later hb2); have HT2 := Lib.hid ((HT1.out.later bl1).later hb2); clear HM1 HT1 HT1'
  clear hF1 bl1 hb2 hB1 hB1'
  cases FX
  case false =>
    go_wp2_with fail
    refine (awake13_any _).mono ?_; rintro v wz ⟨rfl, hbz⟩
    go_wp2_with fail
    go_ret
    exact ⟨rfl, hB2.trans (hbz.mono hB2.size)⟩
  case true =>
    have hn1 : n ≤ 60 := by
      have h := HFX.out; unfold few13 at h; simp only [Bool.and_eq_true, decide_eq_true_eq] at h
      omega
    have hl : n ≤ 1000000 := by omega
    have lt2 : w.heap.size + 1 < w2.heap.size := HT2.out.here
    go_upto_region 3 with fail
    go_cut [7, 8] (fun s7 s8 wx => ∃ g7 g8 : Nat, s7 = .pointer (some ⟨g7, 0, none⟩) ∧ s8 = .pointer (some ⟨g8, 0, none⟩) ∧ Below w2.heap.size w2 wx ∧ Bk wx g7 28 t.arr ∧ Bk wx g8 28 t.arr ∧ g7 ≠ g8 ∧ w2.heap.size ≤ g7 ∧ w2.heap.size ≤ g8)
    case first =>
      refine wp_region_held_drew (S := fun W => Below w2.heap.size w2 W) (by kernel_rfl) (Below.drew (Below.refl _ _)) (fun hS0 => ?_)
      refine wpAnyH_take (i := 0) (v := .agg t.arr) rfl (by kernel_rfl) (by kernel_rfl) (by kernel_rfl) (fun _ _ _ h => h) (yields_bk rfl 28 _ rfl (w.heap.size + 1) 0 rfl 28 t.arr t.arr _ (fun W hW => HT2.out.later hW) (Part.whole _) Try.underlying28 rfl (by kernel_rfl)) hS0 ?_
      try simp only [Act.put, List.getElem_toArray, List.getElem_cons_zero, List.getElem_cons_succ, List.setIfInBounds_toArray, List.set_cons_zero, List.set_cons_succ]
      refine wpAnyH_take (i := 1) (v := .agg t.arr) rfl (by kernel_rfl) (by kernel_rfl) (by kernel_rfl) (fun _ _ _ h => h) (yields_bk rfl 28 _ rfl (w.heap.size + 1) 0 rfl 28 t.arr t.arr _ (fun W hW => HT2.out.later hW) (Part.whole _) Try.underlying28 rfl (by kernel_rfl)) hS0 ?_
      try simp only [Act.put, List.getElem_toArray, List.getElem_cons_zero, List.getElem_cons_succ, List.setIfInBounds_toArray, List.set_cons_zero, List.set_cons_succ]
      refine wpAnyH_ready (rs := [2, 3]) (by kernel_rfl) (by simp) ?_
      refine (AllReadyH.cons rfl (fun K hK => ?_) (AllReadyH.cons rfl (fun K hK => ?_) AllReadyH.nil))
      · simp only [if_pos, Region.wanted]
        refine tcell_op rfl ?_
        intro g7 z7 hg7 hZ hbl
        have hw7 : w2.heap.size ≤ g7 := by have := hS0.size; omega
        have HZ7 := Lib.hid hZ; clear hZ
        have hlt7 : g7 < z7.heap.size := HZ7.out.here
        refine hK.out _ _ (hS0.trans (hbl.mono hS0.size)) (fun hS1 => ?_)
        clear hK K hbl
        try simp only [Act.put, List.getElem_toArray, List.getElem_cons_zero, List.getElem_cons_succ, List.setIfInBounds_toArray, List.set_cons_zero, List.set_cons_succ]
        refine wpAnyH_ready (rs := [3]) (by kernel_rfl) (by simp) ?_
        refine AllReadyH.cons rfl (fun K hK => ?_) AllReadyH.nil
        simp only [if_pos, Region.wanted]
        refine tcell_op rfl ?_
        intro g8 z8 hg8 hZ hbl
        have hw8 : w2.heap.size ≤ g8 := by have := hS1.size; omega
        have HZ8 := Lib.hid hZ; clear hZ
        have hne : g7 ≠ g8 := by omega
        have HY := Lib.hid (HZ7.out.later hbl); clear HZ7; have HZ7 := HY; clear HY
        refine hK.out _ _ (hS1.trans (hbl.mono hS1.size)) (fun hS2 => ?_)
        clear hK K hbl
        try simp only [Act.put, List.getElem_toArray, List.getElem_cons_zero, List.getElem_cons_succ, List.setIfInBounds_toArray, List.set_cons_zero, List.set_cons_succ]
        refine wpAnyH_ready (rs := [4]) (by kernel_rfl) (by simp) ?_
        refine AllReadyH.cons rfl (fun K hK => ?_) AllReadyH.nil
        simp only [if_pos, Region.wanted]
        refine store_bk_op 28 (.tmp 7) (.tmp 27) rfl g7 0 t.arr rfl rfl 28 #[.string ⟨#[]⟩, .string ⟨#[]⟩, .int .i64 0, .int .i64 0, .int .i64 0, .int .i64 0, .slice none 0 0, .string ⟨#[]⟩, .string ⟨#[]⟩, .int .i64 0] t.arr HZ7.out (by kernel_rfl) (by simp) (by kernel_rfl) rfl ?_
        intro za hX hgr hs9
        have HX7 := Lib.hid hX; clear hX hs9
        have HZ8' := Lib.hid (HZ8.out.stays hgr (by simp; omega)); clear HZ8
        have hbl : Below w2.heap.size _ za := grown_base hgr hS2.size (by intro kk ee; cases ee; exact hw7)
        clear hgr HZ7
        refine hK.out _ _ (hS2.trans hbl) (fun hSa => ?_)
        clear hK K hbl
        try simp only [Act.put, List.getElem_toArray, List.getElem_cons_zero, List.getElem_cons_succ, List.setIfInBounds_toArray, List.set_cons_zero, List.set_cons_succ]
        refine wpAnyH_ready (rs := [5]) (by kernel_rfl) (by simp) ?_
        refine AllReadyH.cons rfl (fun K hK => ?_) AllReadyH.nil
        simp only [if_pos, Region.wanted]
        refine store_bk_op 28 (.tmp 8) (.tmp 28) rfl g8 0 t.arr rfl rfl 28 #[.string ⟨#[]⟩, .string ⟨#[]⟩, .int .i64 0, .int .i64 0, .int .i64 0, .int .i64 0, .slice none 0 0, .string ⟨#[]⟩, .string ⟨#[]⟩, .int .i64 0] t.arr HZ8'.out (by kernel_rfl) (by simp) (by kernel_rfl) rfl ?_
        intro zb hX hgr hs9
        have HX8 := Lib.hid hX; clear hX hs9
        have HX7' := Lib.hid (HX7.out.stays hgr (by simp; omega)); clear HX7
        have hbl : Below w2.heap.size _ zb := grown_base hgr hSa.size (by intro kk ee; cases ee; exact hw8)
        clear hgr HZ8'
        refine hK.out _ _ (hSa.trans hbl) (fun hSb => ?_)
        clear hK K hbl
        try simp only [Act.put, List.getElem_toArray, List.getElem_cons_zero, List.getElem_cons_succ, List.setIfInBounds_toArray, List.set_cons_zero, List.set_cons_succ]
        refine wpAnyH_done (by kernel_rfl) ?_ _
        go_wp2_with fail
        go_meet
        exact ⟨g7, g8, rfl, rfl, hSb, HX7'.out, HX8.out, hne, hw7, hw8⟩
      · simp only [if_pos, Region.wanted]
        refine tcell_op rfl ?_
        intro g8 z8 hg8 hZ hbl
        have hw8 : w2.heap.size ≤ g8 := by have := hS0.size; omega
        have HZ8 := Lib.hid hZ; clear hZ
        have hlt8 : g8 < z8.heap.size := HZ8.out.here
        refine hK.out _ _ (hS0.trans (hbl.mono hS0.size)) (fun hS1 => ?_)
        clear hK K hbl
        try simp only [Act.put, List.getElem_toArray, List.getElem_cons_zero, List.getElem_cons_succ, List.setIfInBounds_toArray, List.set_cons_zero, List.set_cons_succ]
        refine wpAnyH_ready (rs := [2]) (by kernel_rfl) (by simp) ?_
        refine AllReadyH.cons rfl (fun K hK => ?_) AllReadyH.nil
        simp only [if_pos, Region.wanted]
        refine tcell_op rfl ?_
        intro g7 z7 hg7 hZ hbl
        have hw7 : w2.heap.size ≤ g7 := by have := hS1.size; omega
        have HZ7 := Lib.hid hZ; clear hZ
        have hne : g7 ≠ g8 := by omega
        have HY := Lib.hid (HZ8.out.later hbl); clear HZ8; have HZ8 := HY; clear HY
        refine hK.out _ _ (hS1.trans (hbl.mono hS1.size)) (fun hS2 => ?_)
        clear hK K hbl
        try simp only [Act.put, List.getElem_toArray, List.getElem_cons_zero, List.getElem_cons_succ, List.setIfInBounds_toArray, List.set_cons_zero, List.set_cons_succ]
        refine wpAnyH_ready (rs := [4]) (by kernel_rfl) (by simp) ?_
        refine AllReadyH.cons rfl (fun K hK => ?_) AllReadyH.nil
        simp only [if_pos, Region.wanted]
        refine store_bk_op 28 (.tmp 7) (.tmp 27) rfl g7 0 t.arr rfl rfl 28 #[.string ⟨#[]⟩, .string ⟨#[]⟩, .int .i64 0, .int .i64 0, .int .i64 0, .int .i64 0, .slice none 0 0, .string ⟨#[]⟩, .string ⟨#[]⟩, .int .i64 0] t.arr HZ7.out (by kernel_rfl) (by simp) (by kernel_rfl) rfl ?_
        intro za hX hgr hs9
        have HX7 := Lib.hid hX; clear hX hs9
        have HZ8' := Lib.hid (HZ8.out.stays hgr (by simp; omega)); clear HZ8
        have hbl : Below w2.heap.size _ za := grown_base hgr hS2.size (by intro kk ee; cases ee; exact hw7)
        clear hgr HZ7
        refine hK.out _ _ (hS2.trans hbl) (fun hSa => ?_)
        clear hK K hbl
        try simp only [Act.put, List.getElem_toArray, List.getElem_cons_zero, List.getElem_cons_succ, List.setIfInBounds_toArray, List.set_cons_zero, List.set_cons_succ]
        refine wpAnyH_ready (rs := [5]) (by kernel_rfl) (by simp) ?_
        refine AllReadyH.cons rfl (fun K hK => ?_) AllReadyH.nil
        simp only [if_pos, Region.wanted]
        refine store_bk_op 28 (.tmp 8) (.tmp 28) rfl g8 0 t.arr rfl rfl 28 #[.string ⟨#[]⟩, .string ⟨#[]⟩, .int .i64 0, .int .i64 0, .int .i64 0, .int .i64 0, .slice none 0 0, .string ⟨#[]⟩, .string ⟨#[]⟩, .int .i64 0] t.arr HZ8'.out (by kernel_rfl) (by simp) (by kernel_rfl) rfl ?_
        intro zb hX hgr hs9
        have HX8 := Lib.hid hX; clear hX hs9
        have HX7' := Lib.hid (HX7.out.stays hgr (by simp; omega)); clear HX7
        have hbl : Below w2.heap.size _ zb := grown_base hgr hSa.size (by intro kk ee; cases ee; exact hw8)
        clear hgr HZ8'
        refine hK.out _ _ (hSa.trans hbl) (fun hSb => ?_)
        clear hK K hbl
        try simp only [Act.put, List.getElem_toArray, List.getElem_cons_zero, List.getElem_cons_succ, List.setIfInBounds_toArray, List.set_cons_zero, List.set_cons_succ]
        refine wpAnyH_done (by kernel_rfl) ?_ _
        go_wp2_with fail
        go_meet
        exact ⟨g7, g8, rfl, rfl, hSb, HX7'.out, HX8.out, hne, hw7, hw8⟩
    case rest =>
      obtain ⟨g7, g8, rfl, rfl, hbc, hX7, hX8, hne, hw7, hw8⟩ := hcut
      have hBc : Below w.heap.size w wc := hB2.trans (hbc.mono hB2.size)
      have hMc := HM2.out.later hbc; have hTc := HT2.out.later hbc
      clear HM2 HT2 hbc hB2
      have c7 : wc.cell? ⟨g7, 2, none⟩ = some (.int .i64 t.pr) := hX7.cellAt 2
      have f7 : wc.frozen? ⟨g7, 2, none⟩ = false := hX7.free 2
      have hY7 : Bk (wc.setCell ⟨g7, 2, none⟩ (.int .i64 0)) g7 28 (t.of 0).arr := hX7.put 2 _
      have hY8 : Bk (wc.setCell ⟨g7, 2, none⟩ (.int .i64 0)) g8 28 t.arr := hX8.other (by simp; omega) _
      have c8 : (wc.setCell ⟨g7, 2, none⟩ (.int .i64 0)).cell? ⟨g8, 2, none⟩ = some (.int .i64 t.pr) := hY8.cellAt 2
      have f8 : (wc.setCell ⟨g7, 2, none⟩ (.int .i64 0)).frozen? ⟨g8, 2, none⟩ = false := hY8.free 2
      have HQ8 := Lib.hid (show Bk ((wc.setCell ⟨g7, 2, none⟩ (.int .i64 0)).setCell ⟨g8, 2, none⟩ (.int .i64 9)) g8 28 (t.of 9).arr from hY8.put 2 _)
      have HQ7 := Lib.hid (show Bk ((wc.setCell ⟨g7, 2, none⟩ (.int .i64 0)).setCell ⟨g8, 2, none⟩ (.int .i64 9)) g7 28 (t.of 0).arr from hY7.other (by simp; omega) _)
      have HMd := Lib.hid (show Bk ((wc.setCell ⟨g7, 2, none⟩ (.int .i64 0)).setCell ⟨g8, 2, none⟩ (.int .i64 9)) w.heap.size 37 m.arr from (hMc.other (by simp; omega) _).other (by simp; omega) _)
      have HTd := Lib.hid (show Bk ((wc.setCell ⟨g7, 2, none⟩ (.int .i64 0)).setCell ⟨g8, 2, none⟩ (.int .i64 9)) (w.heap.size + 1) 28 t.arr from (hTc.other (by simp; omega) _).other (by simp; omega) _)
      have hBd : Below w.heap.size w ((wc.setCell ⟨g7, 2, none⟩ (.int .i64 0)).setCell ⟨g8, 2, none⟩ (.int .i64 9)) := (hBc.setCell (by simp; omega) _).setCell (by simp; omega) _
      clear hX7 hX8 hMc hTc hY7 hY8 hBc
      go_wp2_with fail
      generalize hWd : ((wc.setCell ⟨g7, 2, none⟩ (.int .i64 0)).setCell ⟨g8, 2, none⟩ (.int .i64 9)) = wd at HQ7 HQ8 HMd HTd hBd ⊢
      clear hWd c7 f7 c8 f8
      go_loopw [33] (fun i wr => ∃ k : Nat, k ≤ n ∧ i = .int .i64 k ∧ Hid (∀ j ∈ l.take k, 0 ≤ j.pr) ∧ Hid (Bk wr w.heap.size 37 m.arr) ∧ Hid (Bk wr (w.heap.size + 1) 28 t.arr) ∧ Hid (Bk wr g7 28 (t.of 0).arr) ∧ Hid (Bk wr g8 28 (t.of 9).arr) ∧ Below w.heap.size w wr) (fun i wr => n - (intOf i).toNat)
      case atStart => exact ⟨0, Nat.zero_le _, rfl, (show ∀ j ∈ l.take 0, 0 ≤ j.pr from fun j h => by simp at h), HMd, HTd, HQ7, HQ8, hBd⟩
      case round =>
        clear HMd HTd HQ7 HQ8 hBd
        obtain ⟨k, hk, rfl, HP, HMb, HTb, H7, H8, hb⟩ := hrel
        by_cases hlt : k < n
        · have hlk : k < l.length := by have := Hn.out; omega
          obtain ⟨g, o, rfl, hg, hj⟩ := (HA.out.later hb).at hlk
          obtain ⟨j, hjk⟩ : ∃ j, j = l[k] := ⟨_, rfl⟩
          rw [← hjk] at hj
          have c2 := hj.pr
          clear hj
          by_cases hp : j.pr < 0
          · have hp' : decide (j.pr < 0) = true := decide_eq_true hp
            have HJK := Lib.hid hjk; clear hjk hp
            go_wp2_with fail
            go_ret
            exact ⟨rfl, hb⟩
          · have hp' : decide (j.pr < 0) = false := decide_eq_false hp
            have HP2 : Hid (∀ j ∈ l.take (k + 1), 0 ≤ j.pr) := fun x hx => by
              rw [List.take_succ_eq_append_getElem hlk, List.mem_append] at hx
              rcases hx with hx | hx
              · exact HP.out x hx
              · simp at hx; rw [hx, ← hjk]; omega
            have HJK := Lib.hid hjk; clear hjk hp
            go_wp2_with fail
            go_round
            case rel => exact ⟨k + 1, by omega, by go_num, HP2, HMb, HTb, H7, H8, hb⟩
            case measure => simp [intOf]; omega
        · have hk' : k = n := by omega
          subst hk'
          have hall : ∀ j ∈ l, 0 ≤ j.pr := by
            have h := HP.out
            rwa [show l.take k = l by rw [Hn.out]; exact List.take_length] at h
          have hr0 := HLo.out hall
          clear HP hall
          go_wp2_with (first | (with_reducible refine load_bk rfl 37 _ rfl w.heap.size 0 rfl 37 m.arr m.arr _ HMb.out (Part.whole _) Try.underlying37 rfl (by kernel_rfl) ?_) | (with_reducible refine load_bk rfl 28 _ rfl g7 0 rfl 28 (t.of 0).arr (t.of 0).arr _ H7.out (Part.whole _) Try.underlying28 rfl (by kernel_rfl) ?_))
          refine (K0.out hl _ (HA.out.later hb) (HMo.out.later hb) (HK.out.later hb)).mono ?_; rintro v w4 ⟨⟨uP, rfl, hO⟩, hb4⟩
          obtain ⟨BP, cP, hv, hrP, hcP, hmP⟩ := hO.rds
          subst hv
          have hB4 : Below w.heap.size w w4 := hb.trans (hb4.mono hb.size)
          have HM4 := Lib.hid (HMb.out.later hb4); have HT4 := Lib.hid (HTb.out.later hb4); have H74 := Lib.hid (H7.out.later hb4); have H84 := Lib.hid (H8.out.later hb4)
          have hE0 : (namesAt l (r0.getD [])).length = 0 := by
            rw [hr0]; split <;> rfl
          rw [hE0]
          obtain ⟨b0, hb0⟩ : ∃ b0, r0.isSome = b0 := ⟨_, rfl⟩
          have hb0' : (y == 0) = b0 := by
            rw [← hb0, hr0]
            by_cases h9 : y = 0
            · rw [if_pos h9]; simp [h9]
            · rw [if_neg h9]; simp [h9]
          rw [hb0]
          have HB0 := Lib.hid hb0'
          clear hb0 hb0' hE0 hr0 hO hrP hcP HMb HTb H7 H8 hb hb4
          go_wp2_with (first | (with_reducible refine load_bk rfl 37 _ rfl w.heap.size 0 rfl 37 m.arr m.arr _ HM4.out (Part.whole _) Try.underlying37 rfl (by kernel_rfl) ?_) | (with_reducible refine load_bk rfl 28 _ rfl g7 0 rfl 28 (t.of 0).arr (t.of 0).arr _ H74.out (Part.whole _) Try.underlying28 rfl (by kernel_rfl) ?_))
          refine (K3.out hl _ (HA.out.later hB4) (HMo.out.later hB4) (HK.out.later hB4)).mono ?_; rintro v w5 ⟨rfl, hb5⟩
          have hB5 : Below w.heap.size w w5 := hB4.trans (hb5.mono hB4.size)
          have HM5 := Lib.hid (HM4.out.later hb5); have HT5 := Lib.hid (HT4.out.later hb5); have H85 := Lib.hid (H84.out.later hb5)
          clear HM4 HT4 H74 H84 hB4 hb5
          have hbb := HB0.out
          cases b0
          all_goals
            go_wp2_with (first | (with_reducible refine load_bk rfl 37 _ rfl w.heap.size 0 rfl 37 m.arr m.arr _ HM5.out (Part.whole _) Try.underlying37 rfl (by kernel_rfl) ?_) | (with_reducible refine load_bk rfl 28 _ rfl (w.heap.size + 1) 0 rfl 28 t.arr t.arr _ HT5.out (Part.whole _) Try.underlying28 rfl (by kernel_rfl) ?_))
            refine (K1.out hl _ (HA.out.later hB5) (HMo.out.later hB5) (HK.out.later hB5)).mono ?_; rintro v w6 ⟨⟨uQ, rfl, hO⟩, hb6⟩
            have HO6 := Lib.hid hO; clear hO
            have hB6 : Below w.heap.size w w6 := hB5.trans (hb6.mono hB5.size)
            have HM6 := Lib.hid (HM5.out.later hb6); have H86 := Lib.hid (H85.out.later hb6)
            clear HM5 HT5 H85 hB5 hb6
            generalize r1.isSome = b1 at HHi ⊢
            go_wp2_with (first | (with_reducible refine load_bk rfl 37 _ rfl w.heap.size 0 rfl 37 m.arr m.arr _ HM6.out (Part.whole _) Try.underlying37 rfl (by kernel_rfl) ?_) | (with_reducible refine load_bk rfl 28 _ rfl g8 0 rfl 28 (t.of 9).arr (t.of 9).arr _ H86.out (Part.whole _) Try.underlying28 rfl (by kernel_rfl) ?_))
            refine (K2.out hl _ (HA.out.later hB6) (HMo.out.later hB6) (HK.out.later hB6)).mono ?_; rintro v w7 ⟨⟨uR, rfl, hO⟩, hb7⟩
            have hB7 : Below w.heap.size w w7 := hB6.trans (hb7.mono hB6.size)
            have hh := HHi.out
            clear hO HO6 HHi
            generalize r2.isSome = b2 at hh ⊢
            cases b1
            · clear hh
              go_wp2_with fail
              go_ret
              exact ⟨rfl, hB7⟩
            · have h2 : b2 = true := hh rfl
              subst h2
              clear hh
              go_wp2_with fail
              go_ret
              exact ⟨rfl, hB7⟩
end victimRanks
end Go.Proofs.Ytpifleheammanaa
