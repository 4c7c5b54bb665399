/- The walk of VictimTells. No condition beyond the form's own. -/
import Derived.Test.YtpifleheammanaaVp
import Derived.Test.YtpifleheammanaaRtx
namespace Go.Proofs.Ytpifleheammanaa
open Go.RowKit
set_option linter.unusedSimpArgs false
set_option linter.unusedVariables false
namespace victimTells

set_option maxHeartbeats 12800000 in
set_option maxRecDepth 100000 in
theorem walk (A0 : Option Addr) (N c0 : Nat) (L : List Ml) (A : Option Addr) (n cap : Nat) (l : List Jb) (t : Kt) (tl : List Lb) (w : World) (hN : N = L.length) (hL : RdM w A0 (mcs L)) (hc0 : N ≤ c0) (hc02 : c0 ≤ 9223372036854775807) (hLo : MsOk w L) (hn : n = l.length) (hA : RdJ w A l) (hc : n ≤ cap) (hc2 : cap ≤ 9223372036854775807) (ht : KtOk w t tl) :
    Calls Try.prog 3 #[.slice A0 N c0, .slice A n cap, .agg t.arr] w fun r w' => r = .returned (.bool true) ∧ Below w.heap.size w w' := by
  obtain ⟨FW, hFW⟩ : ∃ FW, few13 (mcs L) n t.n = FW := ⟨_, rfl⟩
  have kf := fun (W : World) (h : RdM W A0 (mcs L)) => few13_any A0 N c0 (mcs L) A n cap t W (show N = (mcs L).length by rw [hN]; simp [mcs]) (by omega) (by omega) (by have h1 := ht.lb.cap; have h2 := ht.lb.cap2; omega) h
  rw [hFW] at kf
  obtain ⟨oc, hoc⟩ : ∃ oc, cho (plansOf L t tl l) l L N = oc := ⟨_, rfl⟩
  have k1 := fun (hl : n ≤ 1000000) (x : Ml) (r : Option (List Nat)) (hr : Hid (places x.1 x.2 t tl l = r)) (W : World) (h1 : RdJ W A l) (h2 : McOk W x.1 x.2) (h3 : KtOk W t tl) => vplan_any x.1 x.2 A n cap l t tl W hn hl h1 h2 h3 r hr
  have k2 := fun (hl : n ≤ 1000000) (x : Ml) (r : Option (List Nat)) (hr : Hid (places x.1 x.2 t tl l = r)) (W : World) (h1 : RdJ W A l) (h2 : McOk W x.1 x.2) (h3 : KtOk W t tl) => rplan_any x.1 x.2 A n cap l t tl W hn hl h1 h2 h3 r hr
  have k3 := fun (hNl : N ≤ 1000000) (hl : n ≤ 1000000) (W : World) (h1 : RdM W A0 (mcs L)) (h2 : MsOk W L) (h3 : RdJ W A l) (h4 : KtOk W t tl) => vchoose_any A0 N c0 L A n cap l t tl W hN hNl h1 h2 hn hl h3 h4 oc hoc
  have k4 := fun (hNl : N ≤ 1000000) (hl : n ≤ 1000000) (W : World) (h1 : RdM W A0 (mcs L)) (h2 : MsOk W L) (h3 : RdJ W A l) (h4 : KtOk W t tl) => rchoose_any A0 N c0 L A n cap l t tl W hN hNl h1 h2 hn hl h3 h4 oc hoc
  have hGl : (n ≤ 1000000) → (chG L t tl l oc).length ≤ 1000000 := fun h => by rw [chG_is, List.length_map]; exact chJ_len hoc (by omega) (by omega)
  generalize chG L t tl l oc = Gs at k3 k4 hGl
  generalize chN L oc = Ns at k3 k4
  generalize oc.isSome = ob at k3 k4
  have KF := Lib.hid kf; have K1 := Lib.hid k1; have K2 := Lib.hid k2; have K3 := Lib.hid k3; have K4 := Lib.hid k4; have HGl := Lib.hid hGl; have HFW := Lib.hid hFW; have HA := Lib.hid hA; have HL := Lib.hid hL; have HLo := Lib.hid hLo; have HK := Lib.hid ht; have HN := Lib.hid hN; have Hn := Lib.hid hn; have HC := Lib.hid hc; have HC0 := Lib.hid hc0
  clear kf k1 k2 k3 k4 hGl hoc hFW hA hL hLo ht hN hn hc hc0 hc2 hc02
  go_enter Try.func3, Try.ntmps3
  have HT0 := Lib.hid (show Bk (w.alloc (.cells t.arr 28)) w.heap.size 28 t.arr from Bk.fresh _ _ _)
  have hB0 : Below w.heap.size w (w.alloc (.cells t.arr 28)) := (Below.refl _ _).alloc (Nat.le_refl _) _
  go_wp2_with fail
  refine (awake13_any _).mono ?_; rintro v w1 ⟨rfl, hb1⟩
  have hB1 : Below w.heap.size w w1 := hB0.trans (hb1.mono hB0.size)
  have HT1 := Lib.hid (HT0.out.later hb1); clear HT0 hB0 hb1
  go_wp2_with (with_reducible refine load_bk rfl 28 _ rfl w.heap.size 0 rfl 28 t.arr t.arr _ HT1.out (Part.whole _) Try.underlying28 rfl (by kernel_rfl) ?_)
  refine (KF.out _ (HL.out.later hB1)).mono ?_; rintro v w2 ⟨rfl, hb2⟩
  have hB2 : Below w.heap.size w w2 := hB1.trans (hb2.mono hB1.size)
  have HT2 := Lib.hid (HT1.out.later hb2); clear HT1 hB1 hb2
  cases FW
  case false =>
    go_wp2_with fail
    refine (awake13_any _).mono ?_; rintro v wz ⟨rfl, hbz⟩
    go_wp2_with fail
    go_ret
    exact ⟨rfl, hB2.trans (hbz.mono hB2.size)⟩
  case true =>
    have hfw : N ≤ 30 ∧ n ≤ 60 := by
      have h := HFW.out; unfold few13 at h; simp only [Bool.and_eq_true, decide_eq_true_eq] at h
      have := HN.out
      have e : (mcs L).length = L.length := by simp [mcs]
      omega
    obtain ⟨hN4, hn1⟩ := hfw
    have hNl : N ≤ 1000000 := by omega
    have hl : n ≤ 1000000 := by omega
    go_wp2_with fail
    go_loopw [30] (fun i wr => ∃ k : Nat, k ≤ N ∧ i = .int .i64 k ∧ Hid (Bk wr w.heap.size 28 t.arr) ∧ Below w.heap.size w wr) (fun i wr => N - (intOf i).toNat)
    case atStart => exact ⟨0, Nat.zero_le _, rfl, HT2, hB2⟩
    case round =>
      clear HT2 hB2
      obtain ⟨k, hk, rfl, HTb, hb⟩ := hrel
      have lt0 : w.heap.size < wr.heap.size := HTb.out.here
      by_cases hlt : k < N
      · have hlk : k < L.length := by have := HN.out; omega
        obtain ⟨g, o, rfl, hg, hm⟩ := (HL.out.later hb).at (i := k) (by simpa [mcs] using hlk)
        rw [mcs_at hlk] at hm
        obtain ⟨x, hx⟩ : ∃ x, x = L[k] := ⟨_, rfl⟩
        rw [← hx] at hm
        have HMt1 := Lib.hid hm; clear hm
        have hxo : McOk w x.1 x.2 := by rw [hx]; exact HLo.out.at hlk
        have HXo := Lib.hid hxo; clear hxo
        obtain ⟨r, hr⟩ : ∃ r, places x.1 x.2 t tl l = r := ⟨_, rfl⟩
        have KS := Lib.hid (K1.out hl x r hr); have KR := Lib.hid (K2.out hl x r hr)
        have hel : (namesAt l (r.getD [])).length ≤ 1000000 := by
          rw [namesAt_len]
          cases r with
          | none => simp
          | some G => have := places_len hr; have := Hn.out; simp; omega
        generalize namesAt l (r.getD []) = E at KS KR hel
        generalize r.isSome = sb at KS KR
        obtain ⟨e, he⟩ : ∃ e, e = E.length := ⟨_, rfl⟩
        rw [← he] at hel
        have HEl : Hid (E.length = e) := he.symm
        have HX := Lib.hid hx; clear hx hr he
        go_wp2_with fail
        refine wp_region_held_drew (S := fun X => Below wr.heap.size wr X) (by kernel_rfl) (Below.drew (Below.refl _ _)) (fun hS0 => ?_)
        refine wpAnyH_take (i := 0) (v := ?_) rfl (by kernel_rfl) (by kernel_rfl) (by kernel_rfl) (fun _ _ _ h => h) (Or.inl ⟨by rfl, ?_⟩) hS0 ?_
        rotate_left
        · intro W _; go_simp; try with_reducible rfl
        try simp only [Act.put, List.getElem_toArray, List.getElem_cons_zero, List.getElem_cons_succ, List.setIfInBounds_toArray, List.set_cons_zero, List.set_cons_succ]
        refine wpAnyH_take (i := 1) (v := ?_) rfl (by kernel_rfl) (by kernel_rfl) (by kernel_rfl) (fun _ _ _ h => h) (Or.inl ⟨by rfl, ?_⟩) hS0 ?_
        rotate_left
        · intro W _; go_simp; try with_reducible rfl
        try simp only [Act.put, List.getElem_toArray, List.getElem_cons_zero, List.getElem_cons_succ, List.setIfInBounds_toArray, List.set_cons_zero, List.set_cons_succ]
        refine wpAnyH_take (i := 2) (v := ?_) rfl (by kernel_rfl) (by kernel_rfl) (by kernel_rfl) (fun _ _ _ h => h) (Or.inl ⟨by rfl, ?_⟩) hS0 ?_
        rotate_left
        · intro W _; go_simp; try with_reducible rfl
        try simp only [Act.put, List.getElem_toArray, List.getElem_cons_zero, List.getElem_cons_succ, List.setIfInBounds_toArray, List.set_cons_zero, List.set_cons_succ]
        refine wpAnyH_take (i := 3) (v := .agg x.1.arr) rfl (by kernel_rfl) (by kernel_rfl) (by kernel_rfl) (fun _ _ _ h => h) (yields_rg rfl 37 _ rfl g (o + k * 7) rfl x.1.arr _ (fun W hW => (HMt1.out.later hW).rg) Try.underlying37 rfl (by kernel_rfl)) hS0 ?_
        try simp only [Act.put, List.getElem_toArray, List.getElem_cons_zero, List.getElem_cons_succ, List.setIfInBounds_toArray, List.set_cons_zero, List.set_cons_succ]
        refine wpAnyH_take (i := 4) (v := ?_) rfl (by kernel_rfl) (by kernel_rfl) (by kernel_rfl) (fun _ _ _ h => h) (Or.inl ⟨by rfl, ?_⟩) hS0 ?_
        rotate_left
        · intro W _; go_simp; try with_reducible rfl
        try simp only [Act.put, List.getElem_toArray, List.getElem_cons_zero, List.getElem_cons_succ, List.setIfInBounds_toArray, List.set_cons_zero, List.set_cons_succ]
        refine wpAnyH_take (i := 5) (v := .agg t.arr) rfl (by kernel_rfl) (by kernel_rfl) (by kernel_rfl) (fun _ _ _ h => h) (yields_bk rfl 28 _ rfl (w.heap.size) 0 rfl 28 t.arr t.arr _ (fun W hW => HTb.out.later hW) (Part.whole _) Try.underlying28 rfl (by kernel_rfl)) hS0 ?_
        try simp only [Act.put, List.getElem_toArray, List.getElem_cons_zero, List.getElem_cons_succ, List.setIfInBounds_toArray, List.set_cons_zero, List.set_cons_succ]
        refine wpAnyH_ready (rs := [6]) (by kernel_rfl) (by simp) ?_
        refine AllReadyH.cons rfl (fun K hK => ?_) AllReadyH.nil
        go_simp
        have hBS : Below w.heap.size w _ := hb.trans (hS0.mono hb.size)
        refine (KS.out _ (HA.out.later hBS) (HXo.out.later hBS) (HK.out.later hBS)).mono ?_
        rintro v v1 ⟨⟨uP, rfl, hO⟩, hbl⟩
        obtain ⟨BP, cP, hv, hrP, hcP, hmP⟩ := hO.rds
        subst hv
        have HRP := Lib.hid hrP; clear hrP hO
        rw [HEl.out]
        go_simp
        refine hK.out _ _ (hS0.trans (hbl.mono hS0.size)) (fun hS1 => ?_)
        clear hK K hBS hbl
        try simp only [Act.put, List.getElem_toArray, List.getElem_cons_zero, List.getElem_cons_succ, List.setIfInBounds_toArray, List.set_cons_zero, List.set_cons_succ]
        refine wpAnyH_take (i := 7) (v := ?_) rfl (by kernel_rfl) (by kernel_rfl) (by kernel_rfl) (fun _ _ _ h => h) (Or.inl ⟨by rfl, ?_⟩) hS1 ?_
        rotate_left
        · intro W _; go_simp; try with_reducible rfl
        try simp only [Act.put, List.getElem_toArray, List.getElem_cons_zero, List.getElem_cons_succ, List.setIfInBounds_toArray, List.set_cons_zero, List.set_cons_succ]
        refine wpAnyH_take (i := 8) (v := ?_) rfl (by kernel_rfl) (by kernel_rfl) (by kernel_rfl) (fun _ _ _ h => h) (Or.inl ⟨by rfl, ?_⟩) hS1 ?_
        rotate_left
        · intro W _; go_simp; try with_reducible rfl
        try simp only [Act.put, List.getElem_toArray, List.getElem_cons_zero, List.getElem_cons_succ, List.setIfInBounds_toArray, List.set_cons_zero, List.set_cons_succ]
        refine wpAnyH_take (i := 9) (v := ?_) rfl (by kernel_rfl) (by kernel_rfl) (by kernel_rfl) (fun _ _ _ h => h) (Or.inl ⟨by rfl, ?_⟩) hS1 ?_
        rotate_left
        · intro W _; go_simp; try with_reducible rfl
        try simp only [Act.put, List.getElem_toArray, List.getElem_cons_zero, List.getElem_cons_succ, List.setIfInBounds_toArray, List.set_cons_zero, List.set_cons_succ]
        refine wpAnyH_take (i := 10) (v := ?_) rfl (by kernel_rfl) (by kernel_rfl) (by kernel_rfl) (fun _ _ _ h => h) (Or.inl ⟨by rfl, ?_⟩) hS1 ?_
        rotate_left
        · intro W _; go_simp; try with_reducible rfl
        try simp only [Act.put, List.getElem_toArray, List.getElem_cons_zero, List.getElem_cons_succ, List.setIfInBounds_toArray, List.set_cons_zero, List.set_cons_succ]
        refine wpAnyH_take (i := 11) (v := ?_) rfl (by kernel_rfl) (by kernel_rfl) (by kernel_rfl) (fun _ _ _ h => h) (Or.inl ⟨by rfl, ?_⟩) hS1 ?_
        rotate_left
        · intro W _; go_simp; try with_reducible rfl
        try simp only [Act.put, List.getElem_toArray, List.getElem_cons_zero, List.getElem_cons_succ, List.setIfInBounds_toArray, List.set_cons_zero, List.set_cons_succ]
        refine wpAnyH_done (by kernel_rfl) ?_ _
        have hB1 : Below w.heap.size w v1 := hb.trans (hS1.mono hb.size)
        have HT1 := Lib.hid (HTb.out.later hS1); have HMt2 := Lib.hid (HMt1.out.later hS1)
        have hg1 : g < v1.heap.size := HMt2.out.lt
        clear HTb HMt1 hS0 hS1 hb hg
        go_wp2_with fail
        refine wp_region_held_drew (S := fun X => Below v1.heap.size v1 X) (by kernel_rfl) (Below.drew (Below.refl _ _)) (fun hS0 => ?_)
        refine wpAnyH_take (i := 0) (v := ?_) rfl (by kernel_rfl) (by kernel_rfl) (by kernel_rfl) (fun _ _ _ h => h) (Or.inl ⟨by rfl, ?_⟩) hS0 ?_
        rotate_left
        · intro W _; go_simp; try with_reducible rfl
        try simp only [Act.put, List.getElem_toArray, List.getElem_cons_zero, List.getElem_cons_succ, List.setIfInBounds_toArray, List.set_cons_zero, List.set_cons_succ]
        refine wpAnyH_take (i := 1) (v := ?_) rfl (by kernel_rfl) (by kernel_rfl) (by kernel_rfl) (fun _ _ _ h => h) (Or.inl ⟨by rfl, ?_⟩) hS0 ?_
        rotate_left
        · intro W _; go_simp; try with_reducible rfl
        try simp only [Act.put, List.getElem_toArray, List.getElem_cons_zero, List.getElem_cons_succ, List.setIfInBounds_toArray, List.set_cons_zero, List.set_cons_succ]
        refine wpAnyH_take (i := 2) (v := ?_) rfl (by kernel_rfl) (by kernel_rfl) (by kernel_rfl) (fun _ _ _ h => h) (Or.inl ⟨by rfl, ?_⟩) hS0 ?_
        rotate_left
        · intro W _; go_simp; try with_reducible rfl
        try simp only [Act.put, List.getElem_toArray, List.getElem_cons_zero, List.getElem_cons_succ, List.setIfInBounds_toArray, List.set_cons_zero, List.set_cons_succ]
        refine wpAnyH_take (i := 3) (v := .agg x.1.arr) rfl (by kernel_rfl) (by kernel_rfl) (by kernel_rfl) (fun _ _ _ h => h) (yields_rg rfl 37 _ rfl g (o + k * 7) rfl x.1.arr _ (fun W hW => (HMt2.out.later hW).rg) Try.underlying37 rfl (by kernel_rfl)) hS0 ?_
        try simp only [Act.put, List.getElem_toArray, List.getElem_cons_zero, List.getElem_cons_succ, List.setIfInBounds_toArray, List.set_cons_zero, List.set_cons_succ]
        refine wpAnyH_take (i := 4) (v := ?_) rfl (by kernel_rfl) (by kernel_rfl) (by kernel_rfl) (fun _ _ _ h => h) (Or.inl ⟨by rfl, ?_⟩) hS0 ?_
        rotate_left
        · intro W _; go_simp; try with_reducible rfl
        try simp only [Act.put, List.getElem_toArray, List.getElem_cons_zero, List.getElem_cons_succ, List.setIfInBounds_toArray, List.set_cons_zero, List.set_cons_succ]
        refine wpAnyH_take (i := 5) (v := .agg t.arr) rfl (by kernel_rfl) (by kernel_rfl) (by kernel_rfl) (fun _ _ _ h => h) (yields_bk rfl 28 _ rfl (w.heap.size) 0 rfl 28 t.arr t.arr _ (fun W hW => HT1.out.later hW) (Part.whole _) Try.underlying28 rfl (by kernel_rfl)) hS0 ?_
        try simp only [Act.put, List.getElem_toArray, List.getElem_cons_zero, List.getElem_cons_succ, List.setIfInBounds_toArray, List.set_cons_zero, List.set_cons_succ]
        refine wpAnyH_ready (rs := [6]) (by kernel_rfl) (by simp) ?_
        refine AllReadyH.cons rfl (fun K hK => ?_) AllReadyH.nil
        go_simp
        have hBS : Below w.heap.size w _ := hB1.trans (hS0.mono hB1.size)
        refine (KR.out _ (HA.out.later hBS) (HXo.out.later hBS) (HK.out.later hBS)).mono ?_
        rintro v v2 ⟨⟨uQ, rfl, hO⟩, hbl⟩
        obtain ⟨BQ, cQ, hv, hrQ, hcQ, hmQ⟩ := hO.rds
        subst hv
        have HRQ := Lib.hid hrQ; clear hrQ hO
        rw [HEl.out]
        go_simp
        refine hK.out _ _ (hS0.trans (hbl.mono hS0.size)) (fun hS1 => ?_)
        clear hK K hBS hbl
        try simp only [Act.put, List.getElem_toArray, List.getElem_cons_zero, List.getElem_cons_succ, List.setIfInBounds_toArray, List.set_cons_zero, List.set_cons_succ]
        refine wpAnyH_take (i := 7) (v := ?_) rfl (by kernel_rfl) (by kernel_rfl) (by kernel_rfl) (fun _ _ _ h => h) (Or.inl ⟨by rfl, ?_⟩) hS1 ?_
        rotate_left
        · intro W _; go_simp; try with_reducible rfl
        try simp only [Act.put, List.getElem_toArray, List.getElem_cons_zero, List.getElem_cons_succ, List.setIfInBounds_toArray, List.set_cons_zero, List.set_cons_succ]
        refine wpAnyH_take (i := 8) (v := ?_) rfl (by kernel_rfl) (by kernel_rfl) (by kernel_rfl) (fun _ _ _ h => h) (Or.inl ⟨by rfl, ?_⟩) hS1 ?_
        rotate_left
        · intro W _; go_simp; try with_reducible rfl
        try simp only [Act.put, List.getElem_toArray, List.getElem_cons_zero, List.getElem_cons_succ, List.setIfInBounds_toArray, List.set_cons_zero, List.set_cons_succ]
        refine wpAnyH_take (i := 9) (v := ?_) rfl (by kernel_rfl) (by kernel_rfl) (by kernel_rfl) (fun _ _ _ h => h) (Or.inl ⟨by rfl, ?_⟩) hS1 ?_
        rotate_left
        · intro W _; go_simp; try with_reducible rfl
        try simp only [Act.put, List.getElem_toArray, List.getElem_cons_zero, List.getElem_cons_succ, List.setIfInBounds_toArray, List.set_cons_zero, List.set_cons_succ]
        refine wpAnyH_take (i := 10) (v := ?_) rfl (by kernel_rfl) (by kernel_rfl) (by kernel_rfl) (fun _ _ _ h => h) (Or.inl ⟨by rfl, ?_⟩) hS1 ?_
        rotate_left
        · intro W _; go_simp; try with_reducible rfl
        try simp only [Act.put, List.getElem_toArray, List.getElem_cons_zero, List.getElem_cons_succ, List.setIfInBounds_toArray, List.set_cons_zero, List.set_cons_succ]
        refine wpAnyH_take (i := 11) (v := ?_) rfl (by kernel_rfl) (by kernel_rfl) (by kernel_rfl) (fun _ _ _ h => h) (Or.inl ⟨by rfl, ?_⟩) hS1 ?_
        rotate_left
        · intro W _; go_simp; try with_reducible rfl
        try simp only [Act.put, List.getElem_toArray, List.getElem_cons_zero, List.getElem_cons_succ, List.setIfInBounds_toArray, List.set_cons_zero, List.set_cons_succ]
        refine wpAnyH_done (by kernel_rfl) ?_ _
        have hB2 : Below w.heap.size w v2 := hB1.trans (hS1.mono hB1.size)
        have HT2 := Lib.hid (HT1.out.later hS1); have HRP2 := Lib.hid (HRP.out.later hS1)
        clear HT1 HMt2 hS0 hS1 hB1 hg1 HRP
        have kt := fun (W : World) (h1 : RdS W BP E) (h2 : RdS W BQ E) => rtexts_any BP e cP E BQ e cQ E W HEl.out.symm HEl.out.symm (by omega) (by omega) h1 h2
        rw [show sameS E E = true by simp [sameS]] at kt
        have KT := Lib.hid kt; clear kt
        cases sb
        · go_wp2_with fail
          refine (KT.out _ HRP2.out HRQ.out).mono ?_; rintro v w3 ⟨rfl, hb3⟩
          go_wp2_with fail
          go_round
          case rel => exact ⟨k + 1, by omega, by go_num, Lib.hid (HT2.out.later hb3), hB2.trans (hb3.mono hB2.size)⟩
          case measure => simp [intOf]; omega
        · go_wp2_with fail
          refine (KT.out _ HRP2.out HRQ.out).mono ?_; rintro v w3 ⟨rfl, hb3⟩
          go_wp2_with fail
          go_round
          case rel => exact ⟨k + 1, by omega, by go_num, Lib.hid (HT2.out.later hb3), hB2.trans (hb3.mono hB2.size)⟩
          case measure => simp [intOf]; omega
      · have hk' : k = N := by omega
        subst hk'
        go_wp2_with (with_reducible refine load_bk rfl 28 _ rfl w.heap.size 0 rfl 28 t.arr t.arr _ HTb.out (Part.whole _) Try.underlying28 rfl (by kernel_rfl) ?_)
        refine (K3.out hNl hl _ (HL.out.later hb) (HLo.out.later hb) (HA.out.later hb) (HK.out.later hb)).mono ?_; rintro v w3 ⟨⟨uP, rfl, hO⟩, hb3⟩
        obtain ⟨BP, cP, hv, hrP, hcP, hmP⟩ := hO.rds
        subst hv
        have hGl := HGl.out hl
        obtain ⟨e, he⟩ : ∃ e, e = Gs.length := ⟨_, rfl⟩
        rw [← he] at hGl hcP ⊢
        have HEl : Hid (Gs.length = e) := he.symm
        have hB3 : Below w.heap.size w w3 := hb.trans (hb3.mono hb.size)
        have HT3 := Lib.hid (HTb.out.later hb3); have HRP := Lib.hid hrP; clear HTb hb hb3 he hrP hO
        have lt3 : w.heap.size < w3.heap.size := HT3.out.here
        go_wp2_with (with_reducible refine load_bk rfl 28 _ rfl w.heap.size 0 rfl 28 t.arr t.arr _ HT3.out (Part.whole _) Try.underlying28 rfl (by kernel_rfl) ?_)
        refine (K4.out hNl hl _ (HL.out.later hB3) (HLo.out.later hB3) (HA.out.later hB3) (HK.out.later hB3)).mono ?_; rintro v w4 ⟨⟨uQ, rfl, hO⟩, hb4⟩
        obtain ⟨BQ, cQ, hv, hrQ, hcQ, hmQ⟩ := hO.rds
        subst hv
        rw [HEl.out] at hcQ ⊢
        have hB4 : Below w.heap.size w w4 := hB3.trans (hb4.mono hB3.size)
        have HRP4 := Lib.hid (HRP.out.later hb4); have HRQ := Lib.hid hrQ; clear HT3 HRP hB3 hb4 hrQ hO
        have kt := fun (W : World) (h1 : RdS W BP Gs) (h2 : RdS W BQ Gs) => rtexts_any BP e cP Gs BQ e cQ Gs W HEl.out.symm HEl.out.symm (by omega) (by omega) h1 h2
        rw [show sameS Gs Gs = true by simp [sameS]] at kt
        have KT := Lib.hid kt; clear kt
        have hss : (Ns.toList == Ns.toList) = true := by simp
        cases ob
        · go_wp2_with fail
          refine (KT.out _ HRP4.out HRQ.out).mono ?_; rintro v w5 ⟨rfl, hb5⟩
          go_wp2_with fail
          go_ret
          exact ⟨rfl, hB4.trans (hb5.mono hB4.size)⟩
        · go_wp2_with fail
          refine (KT.out _ HRP4.out HRQ.out).mono ?_; rintro v w5 ⟨rfl, hb5⟩
          go_wp2_with fail
          go_ret
          exact ⟨rfl, hB4.trans (hb5.mono hB4.size)⟩
end victimTells
end Go.Proofs.Ytpifleheammanaa
