/- The walk of OrderTells. No condition beyond the form's own. -/
import Derived.Test.YtamlcjepkoagmaaQaw
import Derived.Deep.DeepCutAuto
import Derived.Deep.RegionHeld3
namespace Go.Proofs.Ytamlcjepkoagmaa
open Go.RowKit
set_option linter.unusedSimpArgs false
set_option linter.unusedVariables false
namespace orderTells

set_option maxHeartbeats 12800000 in
set_option maxRecDepth 100000 in
theorem walk (A : Option Addr) (n cap : Nat) (l : List Jb) (a b : Jb) (w : World) (hn : n = l.length) (hA : RdJ w A l) (hc : n ≤ cap) (hc2 : cap ≤ 9223372036854775807) :
    Calls Try.prog 3 #[.slice A n cap, .agg a.arr, .agg b.arr] w fun r w' => r = .returned (.bool true) ∧ Below w.heap.size w w' := by
  obtain ⟨FW, hFW⟩ : ∃ FW, few14 l = FW := ⟨_, rfl⟩
  have kf := fun (W : World) (h : RdJ W A l) => few14_any A n cap l W hn (by omega) h
  rw [hFW] at kf
  have ku := fun (hl : n ≤ 1000000) (W : World) (h : RdJ W A l) => units_any A n cap l W hn hl h
  have kr := fun (hl : n ≤ 1000000) (W : World) (h : RdJ W A l) => runits_any A n cap l W hn hl h
  have hUq : unitsK l (srt14 l n) (srt14 l n).length = unitsU l := by rw [hn]
  rw [hUq] at kr
  have hUl : n ≤ 100 → (unitsU l).length ≤ 100 := fun h => Nat.le_trans (unitsK_len l _ _) (Nat.le_trans (wk_len _) (by omega))
  generalize unitsU l = U at ku kr hUl
  have k1 := fun (W : World) => ahead_any a b W
  have k2 := fun (W : World) => rahead14_any a b W
  generalize tryB a b = tb at k1 k2
  have KF := Lib.hid kf; have KU := Lib.hid ku; have KR := Lib.hid kr; have HUl := Lib.hid hUl; have K1 := Lib.hid k1; have K2 := Lib.hid k2; have HFW := Lib.hid hFW; have HA := Lib.hid hA; have Hn := Lib.hid hn
  clear kf ku kr hUq hUl k1 k2 hFW hA hn hc hc2
  go_enter Try.func3, Try.ntmps3
  have HX0 := Lib.hid (show Bk ((w.alloc (.cells a.arr 29)).alloc (.cells b.arr 29)) w.heap.size 29 a.arr from (Bk.fresh w _ _).later ((Below.refl _ _).alloc (Nat.le_refl _) _))
  have HY0 := Lib.hid (show Bk ((w.alloc (.cells a.arr 29)).alloc (.cells b.arr 29)) (w.heap.size + 1) 29 b.arr from Bk.freshAt _ _ _ (by simp))
  have hB0 : Below w.heap.size w ((w.alloc (.cells a.arr 29)).alloc (.cells b.arr 29)) := ((Below.refl _ _).alloc (Nat.le_refl _) _).alloc (by simp) _
  go_wp2_with fail
  refine (awake14_any _).mono ?_; rintro v w1 ⟨rfl, hb1⟩
  have hB1 : Below w.heap.size w w1 := hB0.trans (hb1.mono hB0.size)
  have HX1 := Lib.hid (HX0.out.later hb1); have HY1 := Lib.hid (HY0.out.later hb1); clear HX0 HY0
  clear hB0
  go_wp2_with fail
  refine (KF.out _ (HA.out.later hB1)).mono ?_; rintro v w2 ⟨rfl, hb2⟩
  have hB2 : Below w.heap.size w w2 := hB1.trans (hb2.mono hB1.size)
  have HX2 := Lib.hid (HX1.out.later hb2); have HY2 := Lib.hid (HY1.out.later hb2); clear HX1 HY1 hb1 hb2 hB1
  cases FW
  case false =>
    go_wp2_with fail
    refine (awake14_any _).mono ?_; rintro v wz ⟨rfl, hbz⟩
    go_wp2_with fail
    go_ret
    exact ⟨rfl, hB2.trans (hbz.mono hB2.size)⟩
  case true =>
    have hn1 : n ≤ 100 := by
      have h := HFW.out; unfold few14 at h; simp only [Bool.and_eq_true, decide_eq_true_eq] at h
      have := Hn.out; omega
    have hl : n ≤ 1000000 := by omega
    obtain ⟨q, hq⟩ : ∃ q, U.length = q := ⟨_, rfl⟩
    have hql : q ≤ 100 := by rw [← hq]; exact HUl.out hn1
    have HQ := Lib.hid hq; clear hq
    have ks := fun (BP BQ : Option Addr) (cP cQ : Nat) (W : World) (h1 : URd W BP U) (h2 : URd W BQ U) => (show Calls Try.prog 10 #[.slice BP q cP, .slice BQ q cQ] W fun e w' => e = .returned (.bool true) ∧ Below W.heap.size W w' from by
      obtain ⟨vs, a1, a2⟩ := h1
      obtain ⟨xs, b1, b2⟩ := h2
      exact rsame14_any BP q cP vs (U.map ints) BQ q cQ xs (U.map ints) W (show q = _ by rw [List.length_map]; exact HQ.out.symm) (show q = _ by rw [List.length_map]; exact HQ.out.symm) (by omega) (by omega) a1 a2 b1 b2 true (show _ = _ by simp))
    have KS := Lib.hid ks; clear ks
    go_wp2_with fail
    refine wp_region_held_drew (S := fun X => Below w2.heap.size w2 X) (by kernel_rfl) (Below.drew (Below.refl _ _)) (fun hS0 => ?_)
    refine wpAnyH_take (i := 0) (v := ?_) rfl (by kernel_rfl) (by kernel_rfl) (by kernel_rfl) (fun _ _ _ h => h) (Or.inl ⟨by rfl, ?_⟩) hS0 ?_
    rotate_left
    · intro W _; go_simp; try with_reducible rfl
    try simp only [Act.put, List.getElem_toArray, List.getElem_cons_zero, List.getElem_cons_succ, List.setIfInBounds_toArray, List.set_cons_zero, List.set_cons_succ]
    refine wpAnyH_take (i := 2) (v := ?_) rfl (by kernel_rfl) (by kernel_rfl) (by kernel_rfl) (fun _ _ _ h => h) (Or.inl ⟨by rfl, ?_⟩) hS0 ?_
    rotate_left
    · intro W _; go_simp; try with_reducible rfl
    try simp only [Act.put, List.getElem_toArray, List.getElem_cons_zero, List.getElem_cons_succ, List.setIfInBounds_toArray, List.set_cons_zero, List.set_cons_succ]
    refine wpAnyH_ready (rs := [1]) (by kernel_rfl) (by simp) ?_
    refine AllReadyH.cons rfl (fun K hK => ?_) AllReadyH.nil
    go_simp
    have hBS : Below w.heap.size w _ := hB2.trans (hS0.mono hB2.size)
    refine (KU.out hl _ (HA.out.later hBS)).mono ?_
    rintro v x1 ⟨hU, hbl⟩
    obtain ⟨BP, cP, rfl, hrP, hcP, hmP⟩ := hU.rd
    rw [HQ.out] at hcP ⊢
    have HRP := Lib.hid hrP; clear hrP hU
    go_simp
    refine hK.out _ _ (hS0.trans (hbl.mono hS0.size)) (fun hS1 => ?_)
    clear hK K hBS
    try simp only [Act.put, List.getElem_toArray, List.getElem_cons_zero, List.getElem_cons_succ, List.setIfInBounds_toArray, List.set_cons_zero, List.set_cons_succ]
    clear hbl
    refine wpAnyH_ready (rs := [3]) (by kernel_rfl) (by simp) ?_
    refine AllReadyH.cons rfl (fun K hK => ?_) AllReadyH.nil
    go_simp
    have hBS : Below w.heap.size w _ := hB2.trans (hS1.mono hB2.size)
    refine (KR.out hl _ (HA.out.later hBS)).mono ?_
    rintro v x2 ⟨hU, hbl⟩
    obtain ⟨BQ, cQ, rfl, hrQ, hcQ, hmQ⟩ := hU.rd
    rw [HQ.out] at hcQ ⊢
    have HRQ := Lib.hid hrQ; clear hrQ hU
    go_simp
    refine hK.out _ _ (hS1.trans (hbl.mono hS1.size)) (fun hS2 => ?_)
    clear hK K hBS
    try simp only [Act.put, List.getElem_toArray, List.getElem_cons_zero, List.getElem_cons_succ, List.setIfInBounds_toArray, List.set_cons_zero, List.set_cons_succ]
    have HRP2 := Lib.hid (HRP.out.later hbl); clear hbl HRP
    refine wpAnyH_ready (rs := [4]) (by kernel_rfl) (by simp) ?_
    refine AllReadyH.cons rfl (fun K hK => ?_) AllReadyH.nil
    go_simp
    refine (KS.out BP BQ cP cQ _ HRP2.out HRQ.out).mono ?_
    rintro v x3 ⟨rfl, hbl⟩
    go_simp
    refine hK.out _ _ (hS2.trans (hbl.mono hS2.size)) (fun hS3 => ?_)
    clear hK K hbl HRP2 HRQ
    try simp only [Act.put, List.getElem_toArray, List.getElem_cons_zero, List.getElem_cons_succ, List.setIfInBounds_toArray, List.set_cons_zero, List.set_cons_succ]
    refine wpAnyH_take (i := 5) (v := ?_) rfl (by kernel_rfl) (by kernel_rfl) (by kernel_rfl) (fun _ _ _ h => h) (Or.inl ⟨by rfl, ?_⟩) hS3 ?_
    rotate_left
    · intro W _; go_simp; try with_reducible rfl
    try simp only [Act.put, List.getElem_toArray, List.getElem_cons_zero, List.getElem_cons_succ, List.setIfInBounds_toArray, List.set_cons_zero, List.set_cons_succ]
    refine wpAnyH_take (i := 6) (v := .agg a.arr) rfl (by kernel_rfl) (by kernel_rfl) (by kernel_rfl) (fun _ _ _ h => h) (yields_bk rfl 29 _ rfl (w.heap.size) 0 rfl 29 a.arr a.arr _ (fun W hW => HX2.out.later hW) (Part.whole _) Try.underlying29 rfl (by kernel_rfl)) hS3 ?_
    try simp only [Act.put, List.getElem_toArray, List.getElem_cons_zero, List.getElem_cons_succ, List.setIfInBounds_toArray, List.set_cons_zero, List.set_cons_succ]
    refine wpAnyH_take (i := 7) (v := .agg b.arr) rfl (by kernel_rfl) (by kernel_rfl) (by kernel_rfl) (fun _ _ _ h => h) (yields_bk rfl 29 _ rfl (w.heap.size + 1) 0 rfl 29 b.arr b.arr _ (fun W hW => HY2.out.later hW) (Part.whole _) Try.underlying29 rfl (by kernel_rfl)) hS3 ?_
    try simp only [Act.put, List.getElem_toArray, List.getElem_cons_zero, List.getElem_cons_succ, List.setIfInBounds_toArray, List.set_cons_zero, List.set_cons_succ]
    refine wpAnyH_take (i := 9) (v := .agg a.arr) rfl (by kernel_rfl) (by kernel_rfl) (by kernel_rfl) (fun _ _ _ h => h) (yields_bk rfl 29 _ rfl (w.heap.size) 0 rfl 29 a.arr a.arr _ (fun W hW => HX2.out.later hW) (Part.whole _) Try.underlying29 rfl (by kernel_rfl)) hS3 ?_
    try simp only [Act.put, List.getElem_toArray, List.getElem_cons_zero, List.getElem_cons_succ, List.setIfInBounds_toArray, List.set_cons_zero, List.set_cons_succ]
    refine wpAnyH_take (i := 10) (v := .agg b.arr) rfl (by kernel_rfl) (by kernel_rfl) (by kernel_rfl) (fun _ _ _ h => h) (yields_bk rfl 29 _ rfl (w.heap.size + 1) 0 rfl 29 b.arr b.arr _ (fun W hW => HY2.out.later hW) (Part.whole _) Try.underlying29 rfl (by kernel_rfl)) hS3 ?_
    try simp only [Act.put, List.getElem_toArray, List.getElem_cons_zero, List.getElem_cons_succ, List.setIfInBounds_toArray, List.set_cons_zero, List.set_cons_succ]
    refine wpAnyH_ready (rs := [8]) (by kernel_rfl) (by simp) ?_
    refine AllReadyH.cons rfl (fun K hK => ?_) AllReadyH.nil
    go_simp
    refine (K1.out _).mono ?_
    rintro v x4 ⟨rfl, hbl⟩
    go_simp
    refine hK.out _ _ (hS3.trans (hbl.mono hS3.size)) (fun hS4 => ?_)
    clear hK K hbl
    try simp only [Act.put, List.getElem_toArray, List.getElem_cons_zero, List.getElem_cons_succ, List.setIfInBounds_toArray, List.set_cons_zero, List.set_cons_succ]
    refine wpAnyH_ready (rs := [11]) (by kernel_rfl) (by simp) ?_
    refine AllReadyH.cons rfl (fun K hK => ?_) AllReadyH.nil
    go_simp
    refine (K2.out _).mono ?_
    rintro v x5 ⟨rfl, hbl⟩
    go_simp
    refine hK.out _ _ (hS4.trans (hbl.mono hS4.size)) (fun hS5 => ?_)
    clear hK K hbl
    try simp only [Act.put, List.getElem_toArray, List.getElem_cons_zero, List.getElem_cons_succ, List.setIfInBounds_toArray, List.set_cons_zero, List.set_cons_succ]
    refine wpAnyH_take (i := 12) (v := ?_) rfl (by kernel_rfl) (by kernel_rfl) (by kernel_rfl) (fun _ _ _ h => h) (Or.inl ⟨by rfl, ?_⟩) hS5 ?_
    rotate_left
    · intro W _; go_simp; try with_reducible rfl
    try simp only [Act.put, List.getElem_toArray, List.getElem_cons_zero, List.getElem_cons_succ, List.setIfInBounds_toArray, List.set_cons_zero, List.set_cons_succ]
    refine wpAnyH_take (i := 13) (v := ?_) rfl (by kernel_rfl) (by kernel_rfl) (by kernel_rfl) (fun _ _ _ h => h) (Or.inl ⟨by rfl, ?_⟩) hS5 ?_
    rotate_left
    · intro W _; go_simp; try with_reducible rfl
    try simp only [Act.put, List.getElem_toArray, List.getElem_cons_zero, List.getElem_cons_succ, List.setIfInBounds_toArray, List.set_cons_zero, List.set_cons_succ]
    refine wpAnyH_take (i := 14) (v := ?_) rfl (by kernel_rfl) (by kernel_rfl) (by kernel_rfl) (fun _ _ _ h => h) (Or.inl ⟨by rfl, ?_⟩) hS5 ?_
    rotate_left
    · intro W _; go_simp; try with_reducible rfl
    try simp only [Act.put, List.getElem_toArray, List.getElem_cons_zero, List.getElem_cons_succ, List.setIfInBounds_toArray, List.set_cons_zero, List.set_cons_succ]
    refine wpAnyH_done (by kernel_rfl) ?_ _
    go_wp2_with fail
    go_ret
    exact ⟨by cases tb <;> rfl, hB2.trans (hS5.mono hB2.size)⟩
end orderTells
end Go.Proofs.Ytamlcjepkoagmaa
