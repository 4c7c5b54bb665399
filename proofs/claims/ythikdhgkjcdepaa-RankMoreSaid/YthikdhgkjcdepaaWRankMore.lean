/- The walk of RankMore. No condition beyond the form's own. -/
import Derived.Test.YthikdhgkjcdepaaMor
import Derived.Test.YthikdhgkjcdepaaMsk
import Derived.Test.YthikdhgkjcdepaaRa
import Derived.Test.YthikdhgkjcdepaaRw
import Derived.Test.YthikdhgkjcdepaaSor
namespace Go.Proofs.Ythikdhgkjcdepaa
open Go.RowKit
set_option linter.unusedSimpArgs false
set_option linter.unusedVariables false
namespace rankMore

set_option maxHeartbeats 12800000 in
set_option maxRecDepth 100000 in
theorem walk (A0 : Option Addr) (N c0 : Nat) (L : List Ml) (m : Mc) (ml : List Lb) (A : Option Addr) (n cap : Nat) (l : List Jb) (t : Kt) (tl : List Lb) (w : World) (hN : N = L.length) (hL : RdM w A0 (mcs L)) (hc0 : N ≤ c0) (hc02 : c0 ≤ 9223372036854775807) (hLo : MsOk w L) (hm : McOk w m ml) (hn : n = l.length) (hA : RdJ w A l) (hc : n ≤ cap) (hc2 : cap ≤ 9223372036854775807) (ht : KtOk w t tl) :
    Calls Try.prog 6 #[.slice A0 N c0, .agg m.arr, .slice A n cap, .agg t.arr] w fun r w' => r = .returned (.bool true) ∧ Below w.heap.size w w' := by
  obtain ⟨FW, hFW⟩ : ∃ FW, fewR (mcs L) n t.n = FW := ⟨_, rfl⟩
  obtain ⟨FX, hFX⟩ : ∃ FX, fewR [m] 0 t.n = FX := ⟨_, rfl⟩
  have htn : t.n ≤ 9223372036854775807 := by have h1 := ht.lb.cap; have h2 := ht.lb.cap2; omega
  have kf := fun (W : World) (h : RdM W A0 (mcs L)) => few_any A0 N c0 (mcs L) A n cap t W (show N = (mcs L).length by rw [hN]; simp [mcs]) (by omega) (by omega) htn h
  have kx := fun (B : Option Addr) (W : World) (h : RdM W B [m]) => few_any B 1 1 [m] none 0 0 t W (show 1 = 1 from rfl) (by omega) (by omega) htn h
  rw [hFW] at kf
  rw [hFX] at kx
  obtain ⟨bp, hbp⟩ : ∃ bp, bestP (srt t tl l L) = bp := ⟨_, rfl⟩
  obtain ⟨s1, b1⟩ := bp
  obtain ⟨bq, hbq⟩ : ∃ bq, bestP (srt t tl l (L ++ [(m, ml)])) = bq := ⟨_, rfl⟩
  obtain ⟨s2, b2⟩ := bq
  obtain ⟨r, hr⟩ : ∃ r, sco m ml t tl l = r := ⟨_, rfl⟩
  obtain ⟨can, hcan⟩ : ∃ can, r.isSome = can := ⟨_, rfl⟩
  obtain ⟨sc, hsc⟩ : ∃ sc, r.getD 0 = sc := ⟨_, rfl⟩
  have hfin := more_test (can := can) m ml hbp hbq (by rw [hr]; exact hcan)
  have k1 := fun (hNl : N ≤ 1000000) (hl : n ≤ 1000000) (W : World) (h1 : RdM W A0 (mcs L)) (h2 : MsOk W L) (h3 : RdJ W A l) (h4 : KtOk W t tl) => best_any A0 N c0 L A n cap l t tl W hN hNl h1 h2 hn hl h3 h4
  have k2 := fun (B : Option Addr) (q c : Nat) (hq : Hid (q = (L ++ [(m, ml)]).length)) (hNl : q ≤ 1000000) (hl : n ≤ 1000000) (W : World) (h1 : RdM W B (mcs (L ++ [(m, ml)]))) (h2 : MsOk W (L ++ [(m, ml)])) (h3 : RdJ W A l) (h4 : KtOk W t tl) => best_any B q c (L ++ [(m, ml)]) A n cap l t tl W hq hNl h1 h2 hn hl h3 h4
  have k5 := fun (hl : n ≤ 1000000) (W : World) (h1 : RdJ W A l) (h2 : McOk W m ml) (h3 : KtOk W t tl) => score_any m ml A n cap l t tl W hn hl h1 h2 h3 r hr
  rw [hbp] at k1
  rw [hbq] at k2
  rw [hcan, hsc] at k5
  simp only [retV] at k1 k2
  have KF := Lib.hid kf; have KX := Lib.hid kx; have K1 := Lib.hid k1; have K2 := Lib.hid k2; have K5 := Lib.hid k5; have HFW := Lib.hid hFW; have HA := Lib.hid hA; have HL := Lib.hid hL; have HLo := Lib.hid hLo; have HMo := Lib.hid hm; have HK := Lib.hid ht; have HN := Lib.hid hN; have HFin := Lib.hid hfin
  clear kf kx k1 k2 k5 hFW hFX hbp hbq hr hcan hsc hfin hA hL hLo hm ht hN hn hc hc0 hc2 hc02 htn
  go_enter Try.func6, Try.ntmps6
  have HM0 := Lib.hid (show Bk ((w.alloc (.cells m.arr 36)).alloc (.cells t.arr 28)) w.heap.size 36 m.arr from (Bk.fresh w _ _).later ((Below.refl _ _).alloc (Nat.le_refl _) _))
  have HT0 := Lib.hid (show Bk ((w.alloc (.cells m.arr 36)).alloc (.cells t.arr 28)) (w.heap.size + 1) 28 t.arr from Bk.freshAt _ _ _ (by simp))
  have hB0 : Below w.heap.size w ((w.alloc (.cells m.arr 36)).alloc (.cells t.arr 28)) := ((Below.refl _ _).alloc (Nat.le_refl _) _).alloc (by simp) _
  go_wp2_with fail
  refine (awake_any _).mono ?_; rintro v w1 ⟨rfl, hb1⟩
  have hB1 : Below w.heap.size w w1 := hB0.trans (hb1.mono hB0.size)
  have HM1 := Lib.hid (HM0.out.later hb1); have HT1 := Lib.hid (HT0.out.later hb1); clear HM0 HT0 hB0 hb1
  go_wp2_with (with_reducible refine load_bk rfl 28 _ rfl (w.heap.size + 1) 0 rfl 28 t.arr t.arr _ HT1.out (Part.whole _) Try.underlying28 rfl (by kernel_rfl) ?_)
  refine (KF.out _ (HL.out.later hB1)).mono ?_; rintro v w2 ⟨rfl, hb2⟩
  have hB2 : Below w.heap.size w w2 := hB1.trans (hb2.mono hB1.size)
  have HM2 := Lib.hid (HM1.out.later hb2); have HT2 := Lib.hid (HT1.out.later hb2); clear HM1 HT1 hB1 hb2
  cases FW
  case false =>
    go_wp2_with fail
    refine (awake_any _).mono ?_; rintro v wz ⟨rfl, hbz⟩
    go_wp2_with fail
    go_ret
    exact ⟨rfl, hB2.trans (hbz.mono hB2.size)⟩
  case true =>
    have hfw : N ≤ 40 ∧ n ≤ 100 := by
      have h := HFW.out; unfold fewR at h; simp only [Bool.and_eq_true, decide_eq_true_eq] at h
      have := HN.out
      have e : (mcs L).length = L.length := by simp [mcs]
      omega
    obtain ⟨hN4, hn1⟩ := hfw
    have hNl : N ≤ 1000000 := by omega
    have hl : n ≤ 1000000 := by omega
    have HT2' := Lib.hid (HT2.out.later (w' := w2.alloc (.cells m.arr 36)) ((Below.refl _ _).alloc (Nat.le_refl _) _))
    go_wp2_with (first | (with_reducible refine load_bk rfl 36 _ rfl w.heap.size 0 rfl 36 m.arr m.arr _ HM2.out (Part.whole _) Try.underlying36 rfl (by kernel_rfl) ?_) | (with_reducible refine load_bk rfl 28 _ rfl (w.heap.size + 1) 0 rfl 28 t.arr t.arr _ HT2'.out (Part.whole _) Try.underlying28 rfl (by kernel_rfl) ?_))
    have hF1 : RdM (w2.alloc (.cells m.arr 36)) (some ⟨w2.heap.size, 0, none⟩) [m] := fresh_k w2 7 m.cells 36 rfl
    have bl1 : Below w2.heap.size w2 (w2.alloc (.cells m.arr 36)) := (Below.refl _ _).alloc (Nat.le_refl _) _
    refine (KX.out _ _ hF1).mono ?_; rintro v w3 ⟨rfl, hb3⟩
    have hB2' : Below w.heap.size w (w2.alloc (.cells m.arr 36)) := hB2.alloc hB2.size _
    have hB3 : Below w.heap.size w w3 := hB2'.trans (hb3.mono hB2'.size)
    have HM3 := Lib.hid ((HM2.out.later bl1).later hb3); have HT3 := Lib.hid ((HT2.out.later bl1).later hb3); clear HM2 HT2 HT2'
    clear hF1 bl1 hb3 hB2 hB2'
    cases FX
    case false =>
      go_wp2_with fail
      refine (awake_any _).mono ?_; rintro v wz ⟨rfl, hbz⟩
      go_wp2_with fail
      go_ret
      exact ⟨rfl, hB3.trans (hbz.mono hB3.size)⟩
    case true =>
      have lt3 : w.heap.size + 1 < w3.heap.size := HT3.out.here
      go_wp2_with (with_reducible refine load_bk rfl 28 _ rfl (w.heap.size + 1) 0 rfl 28 t.arr t.arr _ HT3.out (Part.whole _) Try.underlying28 rfl (by kernel_rfl) ?_)
      refine (K1.out hNl hl _ (HL.out.later hB3) (HLo.out.later hB3) (HA.out.later hB3) (HK.out.later hB3)).mono ?_; rintro v w4 ⟨rfl, hb4⟩
      have hB4 : Below w.heap.size w w4 := hB3.trans (hb4.mono hB3.size)
      have HM4 := Lib.hid (HM3.out.later hb4); have HT4 := Lib.hid (HT3.out.later hb4); clear HM3 HT3 hB3 hb4 lt3
      have lt4 : w.heap.size + 1 < w4.heap.size := HT4.out.here
      go_wp2_with fail
      refine wp_region_held_drew (S := fun X => Below w4.heap.size w4 X) (by kernel_rfl) (Below.drew (Below.refl _ _)) (fun hS0 => ?_)
      refine wpAnyH_take (i := 1) (v := ?_) rfl (by kernel_rfl) (by kernel_rfl) (by kernel_rfl) (fun _ _ _ h => h) (Or.inl ⟨by rfl, ?_⟩) hS0 ?_
      rotate_left
      · intro W _; go_simp; try with_reducible rfl
      try simp only [Act.put, List.getElem_toArray, List.getElem_cons_zero, List.getElem_cons_succ, List.setIfInBounds_toArray, List.set_cons_zero, List.set_cons_succ]
      refine wpAnyH_take (i := 3) (v := .agg m.arr) rfl (by kernel_rfl) (by kernel_rfl) (by kernel_rfl) (fun _ _ _ h => h) (yields_bk rfl 36 _ rfl w.heap.size 0 rfl 36 m.arr m.arr _ (fun W hW => HM4.out.later hW) (Part.whole _) Try.underlying36 rfl (by kernel_rfl)) hS0 ?_
      try simp only [Act.put, List.getElem_toArray, List.getElem_cons_zero, List.getElem_cons_succ, List.setIfInBounds_toArray, List.set_cons_zero, List.set_cons_succ]
      refine wpAnyH_take (i := 6) (v := ?_) rfl (by kernel_rfl) (by kernel_rfl) (by kernel_rfl) (fun _ _ _ h => h) (Or.inl ⟨by rfl, ?_⟩) hS0 ?_
      rotate_left
      · intro W _; go_simp; try with_reducible rfl
      try simp only [Act.put, List.getElem_toArray, List.getElem_cons_zero, List.getElem_cons_succ, List.setIfInBounds_toArray, List.set_cons_zero, List.set_cons_succ]
      refine wpAnyH_take (i := 7) (v := .agg t.arr) rfl (by kernel_rfl) (by kernel_rfl) (by kernel_rfl) (fun _ _ _ h => h) (yields_bk rfl 28 _ rfl (w.heap.size + 1) 0 rfl 28 t.arr t.arr _ (fun W hW => HT4.out.later hW) (Part.whole _) Try.underlying28 rfl (by kernel_rfl)) hS0 ?_
      try simp only [Act.put, List.getElem_toArray, List.getElem_cons_zero, List.getElem_cons_succ, List.setIfInBounds_toArray, List.set_cons_zero, List.set_cons_succ]
      refine wpAnyH_ready (rs := [0, 4]) (by kernel_rfl) (by simp) ?_
      refine (AllReadyH.cons rfl (fun K hK => ?_) (AllReadyH.cons rfl (fun K hK => ?_) AllReadyH.nil))
      · simp only [if_pos, Region.wanted]
        refine mnone_op rfl ?_
        intro g0 z1 hg0 hE hbl
        have hg0b : w4.heap.size ≤ g0 := by rw [hg0]; exact hS0.size
        clear hg0
        have HE := Lib.hid hE; clear hE
        refine hK.out _ _ (hS0.trans (hbl.mono hS0.size)) (fun hS10 => ?_)
        clear hK K
        clear hbl
        try simp only [Act.put, List.getElem_toArray, List.getElem_cons_zero, List.getElem_cons_succ, List.setIfInBounds_toArray, List.set_cons_zero, List.set_cons_succ]
        refine wpAnyH_ready (rs := [2, 4]) (by kernel_rfl) (by simp) ?_
        refine (AllReadyH.cons rfl (fun K hK => ?_) (AllReadyH.cons rfl (fun K hK => ?_) AllReadyH.nil))
        · simp only [if_pos, Region.wanted]
          refine append_kn_op _ (.tmp 40) (.tmp 41) 22 rfl w4.heap.size 36 _ 7 80 Try.underlying22 infoM rfl (by omega) (.slice (some ⟨g0, 0, none⟩) 0 0) [] rfl (OwnK.of_empty HE.out hg0b) A0 c0 N (cellsM (mcs L)) rfl ((HL.out.later (hB4.trans (hS10.mono hB4.size)))) (cellsM_k _) (cellsM_one _) (by rw [cellsM_length, HN.out]; simp [mcs]) (by rw [cellsM_length]; have := HN.out; simp [mcs, maxLen]; omega) (by rw [cellsM_length]; have := HN.out; simp [mcs]; omega) hS10.size ?_
          intro v2 z2 hO hgr
          have hbl : Below w4.heap.size _ z2 := grown_base hgr hS10.size (OwnK.of_empty (k := 7) HE.out hg0b).block
          have HO := Lib.hid hO; clear hO
          refine hK.out _ _ (hS10.trans hbl) (fun hS21 => ?_)
          clear hK K
          clear hbl hgr HE
          try simp only [Act.put, List.getElem_toArray, List.getElem_cons_zero, List.getElem_cons_succ, List.setIfInBounds_toArray, List.set_cons_zero, List.set_cons_succ]
          refine wpAnyH_ready (rs := [4]) (by kernel_rfl) (by simp) ?_
          refine (AllReadyH.cons rfl (fun K hK => ?_) AllReadyH.nil)
          simp only [if_pos, Region.wanted]
          refine mone_op 43 m rfl rfl ?_
          intro g4 z3 hg4 hB hbl
          clear hg4
          have HB := Lib.hid hB; clear hB
          have HO9 := Lib.hid (HO.out.below hbl); clear HO; have HO := HO9; clear HO9
          refine hK.out _ _ (hS21.trans (hbl.mono hS21.size)) (fun hS32 => ?_)
          clear hK K
          clear hbl
          try simp only [Act.put, List.getElem_toArray, List.getElem_cons_zero, List.getElem_cons_succ, List.setIfInBounds_toArray, List.set_cons_zero, List.set_cons_succ]
          refine wpAnyH_ready (rs := [5]) (by kernel_rfl) (by simp) ?_
          refine AllReadyH.cons rfl (fun K hK => ?_) AllReadyH.nil
          simp only [if_pos, Region.wanted]
          refine append_k_op _ (.tmp 42) (.tmp 44) 22 rfl w4.heap.size 36 _ 7 80 Try.underlying22 infoM rfl (by omega) v2 (cellsM (mcs L)) rfl HO.out ⟨g4, 0, none⟩ 1 1 [m.cells] rfl (RdK.of_bk HB.out) (by simp [Mc.cells]) (by intro y hy; simp at hy; subst hy; exact m.cells_one) rfl (by rw [cellsM_length]; have := HN.out; simp [mcs, maxLen]; omega) (by rw [cellsM_length]; have := HN.out; simp [mcs]; omega) hS32.size ?_
          intro v5 z5 hO5 hgr
          have hbl : Below w4.heap.size _ z5 := grown_base hgr hS32.size HO.out.block
          clear hgr HO HB
          refine hK.out _ _ (hS32.trans hbl) (fun hS5 => ?_)
          clear hK K hbl
          try simp only [Act.put, List.getElem_toArray, List.getElem_cons_zero, List.getElem_cons_succ, List.setIfInBounds_toArray, List.set_cons_zero, List.set_cons_succ]
          obtain ⟨A5, c5, hv5, hr5, hq5, hm5⟩ := OwnK.rdm (l := mcs (L ++ [(m, ml)])) (by rw [mcs_append, cellsM_append]; exact hO5)
          obtain ⟨q, hq⟩ : ∃ q, q = (mcs (L ++ [(m, ml)])).length := ⟨_, rfl⟩
          rw [← hq] at hv5 hq5
          have HQ : Hid (q = (L ++ [(m, ml)]).length) := by show _ = _; rw [hq]; simp [mcs]
          have hql : q ≤ 1000000 := by have := HQ.out; have := HN.out; simp at *; omega
          subst hv5
          have HR5 := Lib.hid hr5
          clear hr5 hO5 hq
          refine wpAnyH_ready (rs := [8]) (by kernel_rfl) (by simp) ?_
          refine AllReadyH.cons rfl (fun K hK => ?_) AllReadyH.nil
          go_simp
          have hBS : Below w.heap.size w _ := hB4.trans (hS5.mono hB4.size)
          refine (K2.out A5 q c5 HQ hql hl _ HR5.out ((HLo.out.later hBS).append (HMo.out.later hBS)) (HA.out.later hBS) (HK.out.later hBS)).mono ?_
          rintro v x6 ⟨rfl, hbl⟩
          go_simp
          refine hK.out _ _ (hS5.trans (hbl.mono hS5.size)) (fun hS6 => ?_)
          clear hK K hBS hbl
          try simp only [Act.put, List.getElem_toArray, List.getElem_cons_zero, List.getElem_cons_succ, List.setIfInBounds_toArray, List.set_cons_zero, List.set_cons_succ]
          refine wpAnyH_take (i := 9) (v := ?_) rfl (by kernel_rfl) (by kernel_rfl) (by kernel_rfl) (fun _ _ _ h => h) (Or.inl ⟨by rfl, ?_⟩) hS6 ?_
          rotate_left
          · intro W _; go_simp; try with_reducible rfl
          try simp only [Act.put, List.getElem_toArray, List.getElem_cons_zero, List.getElem_cons_succ, List.setIfInBounds_toArray, List.set_cons_zero, List.set_cons_succ]
          refine wpAnyH_take (i := 10) (v := ?_) rfl (by kernel_rfl) (by kernel_rfl) (by kernel_rfl) (fun _ _ _ h => h) (Or.inl ⟨by rfl, ?_⟩) hS6 ?_
          rotate_left
          · intro W _; go_simp; try with_reducible rfl
          try simp only [Act.put, List.getElem_toArray, List.getElem_cons_zero, List.getElem_cons_succ, List.setIfInBounds_toArray, List.set_cons_zero, List.set_cons_succ]
          refine wpAnyH_take (i := 11) (v := ?_) rfl (by kernel_rfl) (by kernel_rfl) (by kernel_rfl) (fun _ _ _ h => h) (Or.inl ⟨by rfl, ?_⟩) hS6 ?_
          rotate_left
          · intro W _; go_simp; try with_reducible rfl
          try simp only [Act.put, List.getElem_toArray, List.getElem_cons_zero, List.getElem_cons_succ, List.setIfInBounds_toArray, List.set_cons_zero, List.set_cons_succ]
          refine wpAnyH_take (i := 12) (v := ?_) rfl (by kernel_rfl) (by kernel_rfl) (by kernel_rfl) (fun _ _ _ h => h) (Or.inl ⟨by rfl, ?_⟩) hS6 ?_
          rotate_left
          · intro W _; go_simp; try with_reducible rfl
          try simp only [Act.put, List.getElem_toArray, List.getElem_cons_zero, List.getElem_cons_succ, List.setIfInBounds_toArray, List.set_cons_zero, List.set_cons_succ]
          refine wpAnyH_take (i := 13) (v := ?_) rfl (by kernel_rfl) (by kernel_rfl) (by kernel_rfl) (fun _ _ _ h => h) (Or.inl ⟨by rfl, ?_⟩) hS6 ?_
          rotate_left
          · intro W _; go_simp; try with_reducible rfl
          try simp only [Act.put, List.getElem_toArray, List.getElem_cons_zero, List.getElem_cons_succ, List.setIfInBounds_toArray, List.set_cons_zero, List.set_cons_succ]
          refine wpAnyH_done (by kernel_rfl) ?_ _
          have hB6 : Below w.heap.size w x6 := hB4.trans (hS6.mono hB4.size)
          have HM6 := Lib.hid (HM4.out.later hS6); have HT6 := Lib.hid (HT4.out.later hS6)
          clear HM4 HT4 hS0 hS5 hS6 hB4 lt4 HR5 hm5 hq5
          have lt6 : w.heap.size + 1 < x6.heap.size := HT6.out.here
          go_wp2_with (first | (with_reducible refine load_bk rfl 36 _ rfl w.heap.size 0 rfl 36 m.arr m.arr _ HM6.out (Part.whole _) Try.underlying36 rfl (by kernel_rfl) ?_) | (with_reducible refine load_bk rfl 28 _ rfl (w.heap.size + 1) 0 rfl 28 t.arr t.arr _ HT6.out (Part.whole _) Try.underlying28 rfl (by kernel_rfl) ?_))
          refine (K5.out hl _ (HA.out.later hB6) (HMo.out.later hB6) (HK.out.later hB6)).mono ?_; rintro v w7 ⟨rfl, hb7⟩
          have hB7 : Below w.heap.size w w7 := hB6.trans (hb7.mono hB6.size)
          have cn : w7.cell? ⟨w.heap.size, 0, none⟩ = some (.string m.nm) := (HM6.out.later hb7).cellAt 0
          have lt7 : w.heap.size < w7.heap.size := (HM6.out.later hb7).here
          have hf := HFin.out
          obtain ⟨X, hX⟩ : ∃ X, sE s2 s1 = X := ⟨_, rfl⟩
          obtain ⟨Y, hY⟩ : ∃ Y, sE s2 m.nm = Y := ⟨_, rfl⟩
          rw [hX, hY] at hf
          unfold sE at hX hY
          clear HM6 HT6 hB6 hb7 lt6 HFin
          revert hf
          cases b1 <;> cases b2 <;> cases can <;> cases X <;> cases Y <;> intro hf <;> first | (exfalso; revert hf; decide) | (clear hf; go_wp2_with fail; go_ret; exact ⟨rfl, hB7⟩)
        · simp only [if_pos, Region.wanted]
          refine mone_op 43 m rfl rfl ?_
          intro g4 z2 hg4 hB hbl
          clear hg4
          have HB := Lib.hid hB; clear hB
          have HE9 := Lib.hid (HE.out.later hbl); clear HE; have HE := HE9; clear HE9
          refine hK.out _ _ (hS10.trans (hbl.mono hS10.size)) (fun hS23 => ?_)
          clear hK K
          clear hbl
          try simp only [Act.put, List.getElem_toArray, List.getElem_cons_zero, List.getElem_cons_succ, List.setIfInBounds_toArray, List.set_cons_zero, List.set_cons_succ]
          refine wpAnyH_ready (rs := [2]) (by kernel_rfl) (by simp) ?_
          refine (AllReadyH.cons rfl (fun K hK => ?_) AllReadyH.nil)
          simp only [if_pos, Region.wanted]
          refine append_kn_op _ (.tmp 40) (.tmp 41) 22 rfl w4.heap.size 36 _ 7 80 Try.underlying22 infoM rfl (by omega) (.slice (some ⟨g0, 0, none⟩) 0 0) [] rfl (OwnK.of_empty HE.out hg0b) A0 c0 N (cellsM (mcs L)) rfl ((HL.out.later (hB4.trans (hS23.mono hB4.size)))) (cellsM_k _) (cellsM_one _) (by rw [cellsM_length, HN.out]; simp [mcs]) (by rw [cellsM_length]; have := HN.out; simp [mcs, maxLen]; omega) (by rw [cellsM_length]; have := HN.out; simp [mcs]; omega) hS23.size ?_
          intro v2 z3 hO hgr
          have hbl : Below w4.heap.size _ z3 := grown_base hgr hS23.size (OwnK.of_empty (k := 7) HE.out hg0b).block
          have HO := Lib.hid hO; clear hO
          have HB9 := Lib.hid (HB.out.stays hgr (fun e => by injection e with e; exact (Bk.ne HB.out HE.out (by simp)) e)); clear HB; have HB := HB9; clear HB9
          refine hK.out _ _ (hS23.trans hbl) (fun hS34 => ?_)
          clear hK K
          clear hbl hgr HE
          try simp only [Act.put, List.getElem_toArray, List.getElem_cons_zero, List.getElem_cons_succ, List.setIfInBounds_toArray, List.set_cons_zero, List.set_cons_succ]
          refine wpAnyH_ready (rs := [5]) (by kernel_rfl) (by simp) ?_
          refine AllReadyH.cons rfl (fun K hK => ?_) AllReadyH.nil
          simp only [if_pos, Region.wanted]
          refine append_k_op _ (.tmp 42) (.tmp 44) 22 rfl w4.heap.size 36 _ 7 80 Try.underlying22 infoM rfl (by omega) v2 (cellsM (mcs L)) rfl HO.out ⟨g4, 0, none⟩ 1 1 [m.cells] rfl (RdK.of_bk HB.out) (by simp [Mc.cells]) (by intro y hy; simp at hy; subst hy; exact m.cells_one) rfl (by rw [cellsM_length]; have := HN.out; simp [mcs, maxLen]; omega) (by rw [cellsM_length]; have := HN.out; simp [mcs]; omega) hS34.size ?_
          intro v5 z5 hO5 hgr
          have hbl : Below w4.heap.size _ z5 := grown_base hgr hS34.size HO.out.block
          clear hgr HO HB
          refine hK.out _ _ (hS34.trans hbl) (fun hS5 => ?_)
          clear hK K hbl
          try simp only [Act.put, List.getElem_toArray, List.getElem_cons_zero, List.getElem_cons_succ, List.setIfInBounds_toArray, List.set_cons_zero, List.set_cons_succ]
          obtain ⟨A5, c5, hv5, hr5, hq5, hm5⟩ := OwnK.rdm (l := mcs (L ++ [(m, ml)])) (by rw [mcs_append, cellsM_append]; exact hO5)
          obtain ⟨q, hq⟩ : ∃ q, q = (mcs (L ++ [(m, ml)])).length := ⟨_, rfl⟩
          rw [← hq] at hv5 hq5
          have HQ : Hid (q = (L ++ [(m, ml)]).length) := by show _ = _; rw [hq]; simp [mcs]
          have hql : q ≤ 1000000 := by have := HQ.out; have := HN.out; simp at *; omega
          subst hv5
          have HR5 := Lib.hid hr5
          clear hr5 hO5 hq
          refine wpAnyH_ready (rs := [8]) (by kernel_rfl) (by simp) ?_
          refine AllReadyH.cons rfl (fun K hK => ?_) AllReadyH.nil
          go_simp
          have hBS : Below w.heap.size w _ := hB4.trans (hS5.mono hB4.size)
          refine (K2.out A5 q c5 HQ hql hl _ HR5.out ((HLo.out.later hBS).append (HMo.out.later hBS)) (HA.out.later hBS) (HK.out.later hBS)).mono ?_
          rintro v x6 ⟨rfl, hbl⟩
          go_simp
          refine hK.out _ _ (hS5.trans (hbl.mono hS5.size)) (fun hS6 => ?_)
          clear hK K hBS hbl
          try simp only [Act.put, List.getElem_toArray, List.getElem_cons_zero, List.getElem_cons_succ, List.setIfInBounds_toArray, List.set_cons_zero, List.set_cons_succ]
          refine wpAnyH_take (i := 9) (v := ?_) rfl (by kernel_rfl) (by kernel_rfl) (by kernel_rfl) (fun _ _ _ h => h) (Or.inl ⟨by rfl, ?_⟩) hS6 ?_
          rotate_left
          · intro W _; go_simp; try with_reducible rfl
          try simp only [Act.put, List.getElem_toArray, List.getElem_cons_zero, List.getElem_cons_succ, List.setIfInBounds_toArray, List.set_cons_zero, List.set_cons_succ]
          refine wpAnyH_take (i := 10) (v := ?_) rfl (by kernel_rfl) (by kernel_rfl) (by kernel_rfl) (fun _ _ _ h => h) (Or.inl ⟨by rfl, ?_⟩) hS6 ?_
          rotate_left
          · intro W _; go_simp; try with_reducible rfl
          try simp only [Act.put, List.getElem_toArray, List.getElem_cons_zero, List.getElem_cons_succ, List.setIfInBounds_toArray, List.set_cons_zero, List.set_cons_succ]
          refine wpAnyH_take (i := 11) (v := ?_) rfl (by kernel_rfl) (by kernel_rfl) (by kernel_rfl) (fun _ _ _ h => h) (Or.inl ⟨by rfl, ?_⟩) hS6 ?_
          rotate_left
          · intro W _; go_simp; try with_reducible rfl
          try simp only [Act.put, List.getElem_toArray, List.getElem_cons_zero, List.getElem_cons_succ, List.setIfInBounds_toArray, List.set_cons_zero, List.set_cons_succ]
          refine wpAnyH_take (i := 12) (v := ?_) rfl (by kernel_rfl) (by kernel_rfl) (by kernel_rfl) (fun _ _ _ h => h) (Or.inl ⟨by rfl, ?_⟩) hS6 ?_
          rotate_left
          · intro W _; go_simp; try with_reducible rfl
          try simp only [Act.put, List.getElem_toArray, List.getElem_cons_zero, List.getElem_cons_succ, List.setIfInBounds_toArray, List.set_cons_zero, List.set_cons_succ]
          refine wpAnyH_take (i := 13) (v := ?_) rfl (by kernel_rfl) (by kernel_rfl) (by kernel_rfl) (fun _ _ _ h => h) (Or.inl ⟨by rfl, ?_⟩) hS6 ?_
          rotate_left
          · intro W _; go_simp; try with_reducible rfl
          try simp only [Act.put, List.getElem_toArray, List.getElem_cons_zero, List.getElem_cons_succ, List.setIfInBounds_toArray, List.set_cons_zero, List.set_cons_succ]
          refine wpAnyH_done (by kernel_rfl) ?_ _
          have hB6 : Below w.heap.size w x6 := hB4.trans (hS6.mono hB4.size)
          have HM6 := Lib.hid (HM4.out.later hS6); have HT6 := Lib.hid (HT4.out.later hS6)
          clear HM4 HT4 hS0 hS5 hS6 hB4 lt4 HR5 hm5 hq5
          have lt6 : w.heap.size + 1 < x6.heap.size := HT6.out.here
          go_wp2_with (first | (with_reducible refine load_bk rfl 36 _ rfl w.heap.size 0 rfl 36 m.arr m.arr _ HM6.out (Part.whole _) Try.underlying36 rfl (by kernel_rfl) ?_) | (with_reducible refine load_bk rfl 28 _ rfl (w.heap.size + 1) 0 rfl 28 t.arr t.arr _ HT6.out (Part.whole _) Try.underlying28 rfl (by kernel_rfl) ?_))
          refine (K5.out hl _ (HA.out.later hB6) (HMo.out.later hB6) (HK.out.later hB6)).mono ?_; rintro v w7 ⟨rfl, hb7⟩
          have hB7 : Below w.heap.size w w7 := hB6.trans (hb7.mono hB6.size)
          have cn : w7.cell? ⟨w.heap.size, 0, none⟩ = some (.string m.nm) := (HM6.out.later hb7).cellAt 0
          have lt7 : w.heap.size < w7.heap.size := (HM6.out.later hb7).here
          have hf := HFin.out
          obtain ⟨X, hX⟩ : ∃ X, sE s2 s1 = X := ⟨_, rfl⟩
          obtain ⟨Y, hY⟩ : ∃ Y, sE s2 m.nm = Y := ⟨_, rfl⟩
          rw [hX, hY] at hf
          unfold sE at hX hY
          clear HM6 HT6 hB6 hb7 lt6 HFin
          revert hf
          cases b1 <;> cases b2 <;> cases can <;> cases X <;> cases Y <;> intro hf <;> first | (exfalso; revert hf; decide) | (clear hf; go_wp2_with fail; go_ret; exact ⟨rfl, hB7⟩)
      · simp only [if_pos, Region.wanted]
        refine mone_op 43 m rfl rfl ?_
        intro g4 z1 hg4 hB hbl
        clear hg4
        have HB := Lib.hid hB; clear hB
        refine hK.out _ _ (hS0.trans (hbl.mono hS0.size)) (fun hS15 => ?_)
        clear hK K
        clear hbl
        try simp only [Act.put, List.getElem_toArray, List.getElem_cons_zero, List.getElem_cons_succ, List.setIfInBounds_toArray, List.set_cons_zero, List.set_cons_succ]
        refine wpAnyH_ready (rs := [0]) (by kernel_rfl) (by simp) ?_
        refine (AllReadyH.cons rfl (fun K hK => ?_) AllReadyH.nil)
        simp only [if_pos, Region.wanted]
        refine mnone_op rfl ?_
        intro g0 z2 hg0 hE hbl
        have hg0b : w4.heap.size ≤ g0 := by rw [hg0]; exact hS15.size
        clear hg0
        have HE := Lib.hid hE; clear hE
        have HB9 := Lib.hid (HB.out.later hbl); clear HB; have HB := HB9; clear HB9
        refine hK.out _ _ (hS15.trans (hbl.mono hS15.size)) (fun hS26 => ?_)
        clear hK K
        clear hbl
        try simp only [Act.put, List.getElem_toArray, List.getElem_cons_zero, List.getElem_cons_succ, List.setIfInBounds_toArray, List.set_cons_zero, List.set_cons_succ]
        refine wpAnyH_ready (rs := [2]) (by kernel_rfl) (by simp) ?_
        refine (AllReadyH.cons rfl (fun K hK => ?_) AllReadyH.nil)
        simp only [if_pos, Region.wanted]
        refine append_kn_op _ (.tmp 40) (.tmp 41) 22 rfl w4.heap.size 36 _ 7 80 Try.underlying22 infoM rfl (by omega) (.slice (some ⟨g0, 0, none⟩) 0 0) [] rfl (OwnK.of_empty HE.out hg0b) A0 c0 N (cellsM (mcs L)) rfl ((HL.out.later (hB4.trans (hS26.mono hB4.size)))) (cellsM_k _) (cellsM_one _) (by rw [cellsM_length, HN.out]; simp [mcs]) (by rw [cellsM_length]; have := HN.out; simp [mcs, maxLen]; omega) (by rw [cellsM_length]; have := HN.out; simp [mcs]; omega) hS26.size ?_
        intro v2 z3 hO hgr
        have hbl : Below w4.heap.size _ z3 := grown_base hgr hS26.size (OwnK.of_empty (k := 7) HE.out hg0b).block
        have HO := Lib.hid hO; clear hO
        have HB9 := Lib.hid (HB.out.stays hgr (fun e => by injection e with e; exact (Bk.ne HB.out HE.out (by simp)) e)); clear HB; have HB := HB9; clear HB9
        refine hK.out _ _ (hS26.trans hbl) (fun hS37 => ?_)
        clear hK K
        clear hbl hgr HE
        try simp only [Act.put, List.getElem_toArray, List.getElem_cons_zero, List.getElem_cons_succ, List.setIfInBounds_toArray, List.set_cons_zero, List.set_cons_succ]
        refine wpAnyH_ready (rs := [5]) (by kernel_rfl) (by simp) ?_
        refine AllReadyH.cons rfl (fun K hK => ?_) AllReadyH.nil
        simp only [if_pos, Region.wanted]
        refine append_k_op _ (.tmp 42) (.tmp 44) 22 rfl w4.heap.size 36 _ 7 80 Try.underlying22 infoM rfl (by omega) v2 (cellsM (mcs L)) rfl HO.out ⟨g4, 0, none⟩ 1 1 [m.cells] rfl (RdK.of_bk HB.out) (by simp [Mc.cells]) (by intro y hy; simp at hy; subst hy; exact m.cells_one) rfl (by rw [cellsM_length]; have := HN.out; simp [mcs, maxLen]; omega) (by rw [cellsM_length]; have := HN.out; simp [mcs]; omega) hS37.size ?_
        intro v5 z5 hO5 hgr
        have hbl : Below w4.heap.size _ z5 := grown_base hgr hS37.size HO.out.block
        clear hgr HO HB
        refine hK.out _ _ (hS37.trans hbl) (fun hS5 => ?_)
        clear hK K hbl
        try simp only [Act.put, List.getElem_toArray, List.getElem_cons_zero, List.getElem_cons_succ, List.setIfInBounds_toArray, List.set_cons_zero, List.set_cons_succ]
        obtain ⟨A5, c5, hv5, hr5, hq5, hm5⟩ := OwnK.rdm (l := mcs (L ++ [(m, ml)])) (by rw [mcs_append, cellsM_append]; exact hO5)
        obtain ⟨q, hq⟩ : ∃ q, q = (mcs (L ++ [(m, ml)])).length := ⟨_, rfl⟩
        rw [← hq] at hv5 hq5
        have HQ : Hid (q = (L ++ [(m, ml)]).length) := by show _ = _; rw [hq]; simp [mcs]
        have hql : q ≤ 1000000 := by have := HQ.out; have := HN.out; simp at *; omega
        subst hv5
        have HR5 := Lib.hid hr5
        clear hr5 hO5 hq
        refine wpAnyH_ready (rs := [8]) (by kernel_rfl) (by simp) ?_
        refine AllReadyH.cons rfl (fun K hK => ?_) AllReadyH.nil
        go_simp
        have hBS : Below w.heap.size w _ := hB4.trans (hS5.mono hB4.size)
        refine (K2.out A5 q c5 HQ hql hl _ HR5.out ((HLo.out.later hBS).append (HMo.out.later hBS)) (HA.out.later hBS) (HK.out.later hBS)).mono ?_
        rintro v x6 ⟨rfl, hbl⟩
        go_simp
        refine hK.out _ _ (hS5.trans (hbl.mono hS5.size)) (fun hS6 => ?_)
        clear hK K hBS hbl
        try simp only [Act.put, List.getElem_toArray, List.getElem_cons_zero, List.getElem_cons_succ, List.setIfInBounds_toArray, List.set_cons_zero, List.set_cons_succ]
        refine wpAnyH_take (i := 9) (v := ?_) rfl (by kernel_rfl) (by kernel_rfl) (by kernel_rfl) (fun _ _ _ h => h) (Or.inl ⟨by rfl, ?_⟩) hS6 ?_
        rotate_left
        · intro W _; go_simp; try with_reducible rfl
        try simp only [Act.put, List.getElem_toArray, List.getElem_cons_zero, List.getElem_cons_succ, List.setIfInBounds_toArray, List.set_cons_zero, List.set_cons_succ]
        refine wpAnyH_take (i := 10) (v := ?_) rfl (by kernel_rfl) (by kernel_rfl) (by kernel_rfl) (fun _ _ _ h => h) (Or.inl ⟨by rfl, ?_⟩) hS6 ?_
        rotate_left
        · intro W _; go_simp; try with_reducible rfl
        try simp only [Act.put, List.getElem_toArray, List.getElem_cons_zero, List.getElem_cons_succ, List.setIfInBounds_toArray, List.set_cons_zero, List.set_cons_succ]
        refine wpAnyH_take (i := 11) (v := ?_) rfl (by kernel_rfl) (by kernel_rfl) (by kernel_rfl) (fun _ _ _ h => h) (Or.inl ⟨by rfl, ?_⟩) hS6 ?_
        rotate_left
        · intro W _; go_simp; try with_reducible rfl
        try simp only [Act.put, List.getElem_toArray, List.getElem_cons_zero, List.getElem_cons_succ, List.setIfInBounds_toArray, List.set_cons_zero, List.set_cons_succ]
        refine wpAnyH_take (i := 12) (v := ?_) rfl (by kernel_rfl) (by kernel_rfl) (by kernel_rfl) (fun _ _ _ h => h) (Or.inl ⟨by rfl, ?_⟩) hS6 ?_
        rotate_left
        · intro W _; go_simp; try with_reducible rfl
        try simp only [Act.put, List.getElem_toArray, List.getElem_cons_zero, List.getElem_cons_succ, List.setIfInBounds_toArray, List.set_cons_zero, List.set_cons_succ]
        refine wpAnyH_take (i := 13) (v := ?_) rfl (by kernel_rfl) (by kernel_rfl) (by kernel_rfl) (fun _ _ _ h => h) (Or.inl ⟨by rfl, ?_⟩) hS6 ?_
        rotate_left
        · intro W _; go_simp; try with_reducible rfl
        try simp only [Act.put, List.getElem_toArray, List.getElem_cons_zero, List.getElem_cons_succ, List.setIfInBounds_toArray, List.set_cons_zero, List.set_cons_succ]
        refine wpAnyH_done (by kernel_rfl) ?_ _
        have hB6 : Below w.heap.size w x6 := hB4.trans (hS6.mono hB4.size)
        have HM6 := Lib.hid (HM4.out.later hS6); have HT6 := Lib.hid (HT4.out.later hS6)
        clear HM4 HT4 hS0 hS5 hS6 hB4 lt4 HR5 hm5 hq5
        have lt6 : w.heap.size + 1 < x6.heap.size := HT6.out.here
        go_wp2_with (first | (with_reducible refine load_bk rfl 36 _ rfl w.heap.size 0 rfl 36 m.arr m.arr _ HM6.out (Part.whole _) Try.underlying36 rfl (by kernel_rfl) ?_) | (with_reducible refine load_bk rfl 28 _ rfl (w.heap.size + 1) 0 rfl 28 t.arr t.arr _ HT6.out (Part.whole _) Try.underlying28 rfl (by kernel_rfl) ?_))
        refine (K5.out hl _ (HA.out.later hB6) (HMo.out.later hB6) (HK.out.later hB6)).mono ?_; rintro v w7 ⟨rfl, hb7⟩
        have hB7 : Below w.heap.size w w7 := hB6.trans (hb7.mono hB6.size)
        have cn : w7.cell? ⟨w.heap.size, 0, none⟩ = some (.string m.nm) := (HM6.out.later hb7).cellAt 0
        have lt7 : w.heap.size < w7.heap.size := (HM6.out.later hb7).here
        have hf := HFin.out
        obtain ⟨X, hX⟩ : ∃ X, sE s2 s1 = X := ⟨_, rfl⟩
        obtain ⟨Y, hY⟩ : ∃ Y, sE s2 m.nm = Y := ⟨_, rfl⟩
        rw [hX, hY] at hf
        unfold sE at hX hY
        clear HM6 HT6 hB6 hb7 lt6 HFin
        revert hf
        cases b1 <;> cases b2 <;> cases can <;> cases X <;> cases Y <;> intro hf <;> first | (exfalso; revert hf; decide) | (clear hf; go_wp2_with fail; go_ret; exact ⟨rfl, hB7⟩)
end rankMore
end Go.Proofs.Ythikdhgkjcdepaa
