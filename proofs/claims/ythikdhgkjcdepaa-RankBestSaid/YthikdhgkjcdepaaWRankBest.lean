/- The walk of RankBest. No condition beyond the form's own. -/
import Derived.Test.YthikdhgkjcdepaaBst
import Derived.Test.YthikdhgkjcdepaaRa
import Derived.Test.YthikdhgkjcdepaaRw
import Derived.Test.YthikdhgkjcdepaaSor
namespace Go.Proofs.Ythikdhgkjcdepaa
open Go.RowKit
set_option linter.unusedSimpArgs false
set_option linter.unusedVariables false
namespace rankBest

set_option maxHeartbeats 12800000 in
set_option maxRecDepth 100000 in
theorem walk (A0 : Option Addr) (N c0 : Nat) (L : List Ml) (A : Option Addr) (n cap : Nat) (l : List Jb) (t : Kt) (tl : List Lb) (w : World) (hN : N = L.length) (hL : RdM w A0 (mcs L)) (hc0 : N ≤ c0) (hc02 : c0 ≤ 9223372036854775807) (hLo : MsOk w L) (hn : n = l.length) (hA : RdJ w A l) (hc : n ≤ cap) (hc2 : cap ≤ 9223372036854775807) (ht : KtOk w t tl) :
    Calls Try.prog 4 #[.slice A0 N c0, .slice A n cap, .agg t.arr] w fun r w' => r = .returned (.bool true) ∧ Below w.heap.size w w' := by
  obtain ⟨FW, hFW⟩ : ∃ FW, fewR (mcs L) n t.n = FW := ⟨_, rfl⟩
  have kf := fun (W : World) (h : RdM W A0 (mcs L)) => few_any A0 N c0 (mcs L) A n cap t W (show N = (mcs L).length by rw [hN]; simp [mcs]) (by omega) (by omega) (by have h1 := ht.lb.cap; have h2 := ht.lb.cap2; omega) h
  rw [hFW] at kf
  obtain ⟨E, hE⟩ : ∃ E, srt t tl l L = E := ⟨_, rfl⟩
  obtain ⟨bp, hbp⟩ : ∃ bp, bestP (srt t tl l L) = bp := ⟨_, rfl⟩
  obtain ⟨nm, ok⟩ := bp
  have k1 := fun (hNl : N ≤ 1000000) (hl : n ≤ 1000000) (W : World) (h1 : RdM W A0 (mcs L)) (h2 : MsOk W L) (h3 : RdJ W A l) (h4 : KtOk W t tl) => best_any A0 N c0 L A n cap l t tl W hN hNl h1 h2 hn hl h3 h4
  have k3 := fun (hNl : N ≤ 1000000) (hl : n ≤ 1000000) (W : World) (h1 : RdM W A0 (mcs L)) (h2 : MsOk W L) (h3 : RdJ W A l) (h4 : KtOk W t tl) => sorted_any A0 N c0 L A n cap l t tl W hN hNl h1 h2 hn hl h3 h4
  have k5 := fun (hl : n ≤ 1000000) (x : Ml) (r : Option Int) (hr : Hid (sco x.1 x.2 t tl l = r)) (W : World) (h1 : RdJ W A l) (h2 : McOk W x.1 x.2) (h3 : KtOk W t tl) => score_any x.1 x.2 A n cap l t tl W hn hl h1 h2 h3 r hr
  have k7 := fun (hl : n ≤ 1000000) (x : Ml) (y : Int) (hy : Hid (why x.1 x.2 t tl l = y)) (W : World) (h1 : RdJ W A l) (h2 : McOk W x.1 x.2) (h3 : KtOk W t tl) => why_any x.1 x.2 A n cap l t tl W hn hl h1 h2 h3 y hy
  rw [hbp] at k1
  rw [hE] at k3
  simp only [retV] at k1
  have KF := Lib.hid kf; have K1 := Lib.hid k1; have K3 := Lib.hid k3; have K5 := Lib.hid k5; have K7 := Lib.hid k7; have HFW := Lib.hid hFW; have HA := Lib.hid hA; have HL := Lib.hid hL; have HLo := Lib.hid hLo; have HK := Lib.hid ht; have HN := Lib.hid hN; have HE := Lib.hid hE; have HBP := Lib.hid hbp
  clear kf k1 k3 k5 k7 hFW hbp hE hA hL hLo ht hN hn hc hc0 hc2 hc02
  go_enter Try.func4, Try.ntmps4
  have HT0 := Lib.hid (show Bk (w.alloc (.cells t.arr 28)) w.heap.size 28 t.arr from Bk.fresh _ _ _)
  have hB0 : Below w.heap.size w (w.alloc (.cells t.arr 28)) := (Below.refl _ _).alloc (Nat.le_refl _) _
  go_wp2_with fail
  refine (awake_any _).mono ?_; rintro v w1 ⟨rfl, hb1⟩
  have hB1 : Below w.heap.size w w1 := hB0.trans (hb1.mono hB0.size)
  have HT1 := Lib.hid (HT0.out.later hb1); clear HT0 hB0 hb1
  go_wp2_with (with_reducible refine load_bk rfl 28 _ rfl w.heap.size 0 rfl 28 t.arr t.arr _ HT1.out (Part.whole _) Try.underlying28 rfl (by kernel_rfl) ?_)
  refine (KF.out _ (HL.out.later hB1)).mono ?_; rintro v w2 ⟨rfl, hb2⟩
  have hB2 : Below w.heap.size w w2 := hB1.trans (hb2.mono hB1.size)
  have HT2 := Lib.hid (HT1.out.later hb2); clear HT1 hB1 hb2
  cases FW
  case false =>
    go_wp2_with fail
    refine (awake_any _).mono ?_; rintro v wz ⟨rfl, hbz⟩
    go_wp2_with fail
    go_ret
    exact ⟨rfl, hB2.trans (hbz.mono hB2.size)⟩
  case true =>
    have hfw : N ≤ 40 ∧ n ≤ 100 := by
      have h := HFW.out; unfold fewR at h; simp only [Bool.and_eq_true, decide_eq_true_eq] at h
      have := HN.out
      have e : (mcs L).length = L.length := by simp [mcs]
      omega
    obtain ⟨hN4, hn1⟩ := hfw
    have hNl : N ≤ 1000000 := by omega
    have hl : n ≤ 1000000 := by omega
    have lt2 : w.heap.size < w2.heap.size := HT2.out.here
    go_wp2_with (with_reducible refine load_bk rfl 28 _ rfl w.heap.size 0 rfl 28 t.arr t.arr _ HT2.out (Part.whole _) Try.underlying28 rfl (by kernel_rfl) ?_)
    refine (K1.out hNl hl _ (HL.out.later hB2) (HLo.out.later hB2) (HA.out.later hB2) (HK.out.later hB2)).mono ?_; rintro v w3 ⟨rfl, hb3⟩
    have hB3 : Below w.heap.size w w3 := hB2.trans (hb3.mono hB2.size)
    have HT3 := Lib.hid (HT2.out.later hb3); clear HT2 hB2 hb3 lt2
    have lt3 : w.heap.size < w3.heap.size := HT3.out.here
    go_wp2_with (with_reducible refine load_bk rfl 28 _ rfl w.heap.size 0 rfl 28 t.arr t.arr _ HT3.out (Part.whole _) Try.underlying28 rfl (by kernel_rfl) ?_)
    refine (K3.out hNl hl _ (HL.out.later hB3) (HLo.out.later hB3) (HA.out.later hB3) (HK.out.later hB3)).mono ?_; rintro v w4 ⟨⟨u, rfl, hO⟩, hb4⟩
    have hB4 : Below w.heap.size w w4 := hB3.trans (hb4.mono hB3.size)
    have HT4 := Lib.hid (HT3.out.later hb4); clear HT3 hB3 hb4 lt3
    obtain ⟨B, c, hv, hr4, hc4, hc4'⟩ := hO.rds
    subst hv
    clear hO
    cases E with
    | nil =>
      have hbp := HBP.out
      rw [HE.out] at hbp
      injection hbp with e1 e2
      subst e1 e2
      have HNO : Hid (∀ (k : Nat) (hk : k < L.length), sco L[k].1 L[k].2 t tl l = none) := fun k hk => srt_nil HE.out hk
      clear hr4 hc4 hc4'
      go_wp2_with fail
      go_loopw [10, 11, 64] (fun v10 v11 i wr => ∃ (k : Nat) (lo : Int) (fo : Bool), k ≤ N ∧ i = .int .i64 k ∧ v10 = .int .i64 lo ∧ v11 = .bool fo ∧ Hid (lows ⟨#[]⟩ t tl l (L.take k) = (lo, fo)) ∧ Hid (Bk wr w.heap.size 28 t.arr) ∧ Below w.heap.size w wr) (fun _ _ i wr => N - (intOf i).toNat)
      case atStart => exact ⟨0, 0, false, Nat.zero_le _, rfl, rfl, rfl, (show _ = _ by simp [lows]), HT4, hB4⟩
      case round =>
        clear HT4 hB4
        obtain ⟨k, lo, fo, hk, rfl, rfl, rfl, HLW, HTb, hb⟩ := hrel
        have lt0 : w.heap.size < wr.heap.size := HTb.out.here
        by_cases hlt : k < N
        · have hlk : k < L.length := by have := HN.out; omega
          obtain ⟨g, o, rfl, hg, hm⟩ := (HL.out.later hb).at (i := k) (by simpa [mcs] using hlk)
          rw [mcs_at hlk] at hm
          obtain ⟨x, hx⟩ : ∃ x, x = L[k] := ⟨_, rfl⟩
          rw [← hx] at hm
          have HMt1 := Lib.hid hm; clear hm
          have hxo : McOk w x.1 x.2 := by rw [hx]; exact HLo.out.at hlk
          have HXo := Lib.hid hxo; clear hxo
          obtain ⟨r, hr⟩ : ∃ r, sco x.1 x.2 t tl l = r := ⟨_, rfl⟩
          obtain ⟨y, hy⟩ : ∃ y, why x.1 x.2 t tl l = y := ⟨_, rfl⟩
          have KS := Lib.hid (K5.out hl x r hr); have KR := Lib.hid (K7.out hl x y hy)
          obtain ⟨sc, hsc⟩ : ∃ sc, r.getD 0 = sc := ⟨_, rfl⟩
          obtain ⟨can, hcan⟩ : ∃ can, r.isSome = can := ⟨_, rfl⟩
          rw [hsc, hcan] at KS
          have hyc : (y == 0) = can := by
            rw [← hcan, ← hr, sco_some, hy]
            by_cases h0 : y = 0 <;> simp [h0]
          have HR := Lib.hid hr; have HSC := Lib.hid hsc; have HC := Lib.hid hcan; have HYC := Lib.hid hyc; clear hr hy hsc hcan hyc
          have HX := Lib.hid hx; clear hx
          go_wp2_with fail
          refine wp_region_held_drew (S := fun X => Below wr.heap.size wr X) (by kernel_rfl) (Below.drew (Below.refl _ _)) (fun hS0 => ?_)
          refine wpAnyH_take (i := 0) (v := ?_) rfl (by kernel_rfl) (by kernel_rfl) (by kernel_rfl) (fun _ _ _ h => h) (Or.inl ⟨by rfl, ?_⟩) hS0 ?_
          rotate_left
          · intro W _; go_simp; try with_reducible rfl
          try simp only [Act.put, List.getElem_toArray, List.getElem_cons_zero, List.getElem_cons_succ, List.setIfInBounds_toArray, List.set_cons_zero, List.set_cons_succ]
          refine wpAnyH_take (i := 1) (v := ?_) rfl (by kernel_rfl) (by kernel_rfl) (by kernel_rfl) (fun _ _ _ h => h) (Or.inl ⟨by rfl, ?_⟩) hS0 ?_
          rotate_left
          · intro W _; go_simp; try with_reducible rfl
          try simp only [Act.put, List.getElem_toArray, List.getElem_cons_zero, List.getElem_cons_succ, List.setIfInBounds_toArray, List.set_cons_zero, List.set_cons_succ]
          refine wpAnyH_take (i := 2) (v := ?_) rfl (by kernel_rfl) (by kernel_rfl) (by kernel_rfl) (fun _ _ _ h => h) (Or.inl ⟨by rfl, ?_⟩) hS0 ?_
          rotate_left
          · intro W _; go_simp; try with_reducible rfl
          try simp only [Act.put, List.getElem_toArray, List.getElem_cons_zero, List.getElem_cons_succ, List.setIfInBounds_toArray, List.set_cons_zero, List.set_cons_succ]
          refine wpAnyH_take (i := 3) (v := .agg x.1.arr) rfl (by kernel_rfl) (by kernel_rfl) (by kernel_rfl) (fun _ _ _ h => h) (yields_rg rfl 36 _ rfl g (o + k * 7) rfl x.1.arr _ (fun W hW => (HMt1.out.later hW).rg) Try.underlying36 rfl (by kernel_rfl)) hS0 ?_
          try simp only [Act.put, List.getElem_toArray, List.getElem_cons_zero, List.getElem_cons_succ, List.setIfInBounds_toArray, List.set_cons_zero, List.set_cons_succ]
          refine wpAnyH_take (i := 4) (v := ?_) rfl (by kernel_rfl) (by kernel_rfl) (by kernel_rfl) (fun _ _ _ h => h) (Or.inl ⟨by rfl, ?_⟩) hS0 ?_
          rotate_left
          · intro W _; go_simp; try with_reducible rfl
          try simp only [Act.put, List.getElem_toArray, List.getElem_cons_zero, List.getElem_cons_succ, List.setIfInBounds_toArray, List.set_cons_zero, List.set_cons_succ]
          refine wpAnyH_take (i := 5) (v := .agg t.arr) rfl (by kernel_rfl) (by kernel_rfl) (by kernel_rfl) (fun _ _ _ h => h) (yields_bk rfl 28 _ rfl (w.heap.size) 0 rfl 28 t.arr t.arr _ (fun W hW => HTb.out.later hW) (Part.whole _) Try.underlying28 rfl (by kernel_rfl)) hS0 ?_
          try simp only [Act.put, List.getElem_toArray, List.getElem_cons_zero, List.getElem_cons_succ, List.setIfInBounds_toArray, List.set_cons_zero, List.set_cons_succ]
          refine wpAnyH_ready (rs := [6]) (by kernel_rfl) (by simp) ?_
          refine AllReadyH.cons rfl (fun K hK => ?_) AllReadyH.nil
          go_simp
          have hBS : Below w.heap.size w _ := hb.trans (hS0.mono hb.size)
          refine (KS.out _ (HA.out.later hBS) (HXo.out.later hBS) (HK.out.later hBS)).mono ?_
          rintro v v1 ⟨rfl, hbl⟩
          go_simp
          refine hK.out _ _ (hS0.trans (hbl.mono hS0.size)) (fun hS1 => ?_)
          clear hK K hBS hbl
          try simp only [Act.put, List.getElem_toArray, List.getElem_cons_zero, List.getElem_cons_succ, List.setIfInBounds_toArray, List.set_cons_zero, List.set_cons_succ]
          refine wpAnyH_take (i := 7) (v := ?_) rfl (by kernel_rfl) (by kernel_rfl) (by kernel_rfl) (fun _ _ _ h => h) (Or.inl ⟨by rfl, ?_⟩) hS1 ?_
          rotate_left
          · intro W _; go_simp; try with_reducible rfl
          try simp only [Act.put, List.getElem_toArray, List.getElem_cons_zero, List.getElem_cons_succ, List.setIfInBounds_toArray, List.set_cons_zero, List.set_cons_succ]
          refine wpAnyH_take (i := 8) (v := ?_) rfl (by kernel_rfl) (by kernel_rfl) (by kernel_rfl) (fun _ _ _ h => h) (Or.inl ⟨by rfl, ?_⟩) hS1 ?_
          rotate_left
          · intro W _; go_simp; try with_reducible rfl
          try simp only [Act.put, List.getElem_toArray, List.getElem_cons_zero, List.getElem_cons_succ, List.setIfInBounds_toArray, List.set_cons_zero, List.set_cons_succ]
          refine wpAnyH_take (i := 9) (v := ?_) rfl (by kernel_rfl) (by kernel_rfl) (by kernel_rfl) (fun _ _ _ h => h) (Or.inl ⟨by rfl, ?_⟩) hS1 ?_
          rotate_left
          · intro W _; go_simp; try with_reducible rfl
          try simp only [Act.put, List.getElem_toArray, List.getElem_cons_zero, List.getElem_cons_succ, List.setIfInBounds_toArray, List.set_cons_zero, List.set_cons_succ]
          refine wpAnyH_take (i := 10) (v := ?_) rfl (by kernel_rfl) (by kernel_rfl) (by kernel_rfl) (fun _ _ _ h => h) (Or.inl ⟨by rfl, ?_⟩) hS1 ?_
          rotate_left
          · intro W _; go_simp; try with_reducible rfl
          try simp only [Act.put, List.getElem_toArray, List.getElem_cons_zero, List.getElem_cons_succ, List.setIfInBounds_toArray, List.set_cons_zero, List.set_cons_succ]
          refine wpAnyH_take (i := 11) (v := ?_) rfl (by kernel_rfl) (by kernel_rfl) (by kernel_rfl) (fun _ _ _ h => h) (Or.inl ⟨by rfl, ?_⟩) hS1 ?_
          rotate_left
          · intro W _; go_simp; try with_reducible rfl
          try simp only [Act.put, List.getElem_toArray, List.getElem_cons_zero, List.getElem_cons_succ, List.setIfInBounds_toArray, List.set_cons_zero, List.set_cons_succ]
          refine wpAnyH_done (by kernel_rfl) ?_ _
          have hB1 : Below w.heap.size w v1 := hb.trans (hS1.mono hb.size)
          have HT1 := Lib.hid (HTb.out.later hS1); have HMt2 := Lib.hid (HMt1.out.later hS1)
          have hg1 : g < v1.heap.size := HMt2.out.lt
          clear HTb HMt1 hS0 hS1 hb hg
          go_wp2_with fail
          refine wp_region_held_drew (S := fun X => Below v1.heap.size v1 X) (by kernel_rfl) (Below.drew (Below.refl _ _)) (fun hS0 => ?_)
          refine wpAnyH_take (i := 0) (v := ?_) rfl (by kernel_rfl) (by kernel_rfl) (by kernel_rfl) (fun _ _ _ h => h) (Or.inl ⟨by rfl, ?_⟩) hS0 ?_
          rotate_left
          · intro W _; go_simp; try with_reducible rfl
          try simp only [Act.put, List.getElem_toArray, List.getElem_cons_zero, List.getElem_cons_succ, List.setIfInBounds_toArray, List.set_cons_zero, List.set_cons_succ]
          refine wpAnyH_take (i := 1) (v := ?_) rfl (by kernel_rfl) (by kernel_rfl) (by kernel_rfl) (fun _ _ _ h => h) (Or.inl ⟨by rfl, ?_⟩) hS0 ?_
          rotate_left
          · intro W _; go_simp; try with_reducible rfl
          try simp only [Act.put, List.getElem_toArray, List.getElem_cons_zero, List.getElem_cons_succ, List.setIfInBounds_toArray, List.set_cons_zero, List.set_cons_succ]
          refine wpAnyH_take (i := 2) (v := ?_) rfl (by kernel_rfl) (by kernel_rfl) (by kernel_rfl) (fun _ _ _ h => h) (Or.inl ⟨by rfl, ?_⟩) hS0 ?_
          rotate_left
          · intro W _; go_simp; try with_reducible rfl
          try simp only [Act.put, List.getElem_toArray, List.getElem_cons_zero, List.getElem_cons_succ, List.setIfInBounds_toArray, List.set_cons_zero, List.set_cons_succ]
          refine wpAnyH_take (i := 3) (v := ?_) rfl (by kernel_rfl) (by kernel_rfl) (by kernel_rfl) (fun _ _ _ h => h) (Or.inl ⟨by rfl, ?_⟩) hS0 ?_
          rotate_left
          · intro W _; go_simp; try with_reducible rfl
          try simp only [Act.put, List.getElem_toArray, List.getElem_cons_zero, List.getElem_cons_succ, List.setIfInBounds_toArray, List.set_cons_zero, List.set_cons_succ]
          refine wpAnyH_take (i := 4) (v := .agg x.1.arr) rfl (by kernel_rfl) (by kernel_rfl) (by kernel_rfl) (fun _ _ _ h => h) (yields_rg rfl 36 _ rfl g (o + k * 7) rfl x.1.arr _ (fun W hW => (HMt2.out.later hW).rg) Try.underlying36 rfl (by kernel_rfl)) hS0 ?_
          try simp only [Act.put, List.getElem_toArray, List.getElem_cons_zero, List.getElem_cons_succ, List.setIfInBounds_toArray, List.set_cons_zero, List.set_cons_succ]
          refine wpAnyH_take (i := 5) (v := ?_) rfl (by kernel_rfl) (by kernel_rfl) (by kernel_rfl) (fun _ _ _ h => h) (Or.inl ⟨by rfl, ?_⟩) hS0 ?_
          rotate_left
          · intro W _; go_simp; try with_reducible rfl
          try simp only [Act.put, List.getElem_toArray, List.getElem_cons_zero, List.getElem_cons_succ, List.setIfInBounds_toArray, List.set_cons_zero, List.set_cons_succ]
          refine wpAnyH_take (i := 6) (v := .agg t.arr) rfl (by kernel_rfl) (by kernel_rfl) (by kernel_rfl) (fun _ _ _ h => h) (yields_bk rfl 28 _ rfl (w.heap.size) 0 rfl 28 t.arr t.arr _ (fun W hW => HT1.out.later hW) (Part.whole _) Try.underlying28 rfl (by kernel_rfl)) hS0 ?_
          try simp only [Act.put, List.getElem_toArray, List.getElem_cons_zero, List.getElem_cons_succ, List.setIfInBounds_toArray, List.set_cons_zero, List.set_cons_succ]
          refine wpAnyH_ready (rs := [7]) (by kernel_rfl) (by simp) ?_
          refine AllReadyH.cons rfl (fun K hK => ?_) AllReadyH.nil
          go_simp
          have hBS : Below w.heap.size w _ := hB1.trans (hS0.mono hB1.size)
          refine (KR.out _ (HA.out.later hBS) (HXo.out.later hBS) (HK.out.later hBS)).mono ?_
          rintro v v2 ⟨rfl, hbl⟩
          go_simp
          refine hK.out _ _ (hS0.trans (hbl.mono hS0.size)) (fun hS1 => ?_)
          clear hK K hBS hbl
          try simp only [Act.put, List.getElem_toArray, List.getElem_cons_zero, List.getElem_cons_succ, List.setIfInBounds_toArray, List.set_cons_zero, List.set_cons_succ]
          have hyc := HYC.out
          refine wpAnyH_take (i := 8) (v := ?_) rfl (by kernel_rfl) (by kernel_rfl) (by kernel_rfl) (fun _ _ _ h => h) (Or.inl ⟨by rfl, ?_⟩) hS1 ?_
          rotate_left
          · intro W _; go_simp; try with_reducible rfl
          try simp only [Act.put, List.getElem_toArray, List.getElem_cons_zero, List.getElem_cons_succ, List.setIfInBounds_toArray, List.set_cons_zero, List.set_cons_succ]
          refine wpAnyH_take (i := 9) (v := ?_) rfl (by kernel_rfl) (by kernel_rfl) (by kernel_rfl) (fun _ _ _ h => h) (Or.inl ⟨by rfl, ?_⟩) hS1 ?_
          rotate_left
          · intro W _; go_simp; try with_reducible rfl
          try simp only [Act.put, List.getElem_toArray, List.getElem_cons_zero, List.getElem_cons_succ, List.setIfInBounds_toArray, List.set_cons_zero, List.set_cons_succ]
          refine wpAnyH_done (by kernel_rfl) ?_ _
          have hB2 : Below w.heap.size w v2 := hB1.trans (hS1.mono hB1.size)
          have HT2 := Lib.hid (HT1.out.later hS1); have HMt3 := Lib.hid (HMt2.out.later hS1)
          have hg2 : g < v2.heap.size := HMt3.out.lt
          clear HT1 HMt2 hS0 hS1 hB1 hg1 hyc HYC
          cases r with
          | none =>
            have e1 : can = false := HC.out.symm
            subst e1
            have HLW2 : Hid (lows ⟨#[]⟩ t tl l (L.take (k + 1)) = (lo, fo)) := by
              show _ = _
              rw [lows_no hlk (by rw [← HX.out]; exact HR.out)]; exact HLW.out
            go_wp2_with fail
            go_round
            case rel => exact ⟨k + 1, lo, fo, by omega, by go_num, rfl, rfl, HLW2, HT2, hB2⟩
            case measure => simp [intOf]; omega
          | some s =>
            exfalso
            have := HNO.out k hlk
            rw [← HX.out, HR.out] at this
            cases this
        · have hk' : k = N := by omega
          subst hk'
          have hlw := HLW.out
          rw [show L.take k = L by rw [HN.out]; exact List.take_length] at hlw
          obtain ⟨hfo, hbad⟩ := best_low HBP.out hlw
          subst hfo
          have HBad := Lib.hid hbad; clear hbad hlw HLW
          obtain ⟨wo, hwo⟩ : ∃ wo, wo = wr := ⟨_, rfl⟩
          subst hwo
          have HTo := HTb; clear HTb
          have hbo := hb; clear hb
          go_wp2_with fail
          go_loopw [111] (fun i wr => ∃ j : Nat, j ≤ k ∧ i = .int .i64 j ∧ Hid (Bk wr w.heap.size 28 t.arr) ∧ Below w.heap.size w wr) (fun i wr => k - (intOf i).toNat)
          case atStart => exact ⟨0, Nat.zero_le _, rfl, HTo, hbo⟩
          case round =>
            clear HTo hbo lt0 hlt
            obtain ⟨j, hj, rfl, HTb, hb⟩ := hrel
            have lt0 : w.heap.size < wr.heap.size := HTb.out.here
            by_cases hlt : j < k
            · have hlk : j < L.length := by have := HN.out; omega
              obtain ⟨g, o, rfl, hg, hm⟩ := (HL.out.later hb).at (i := j) (by simpa [mcs] using hlk)
              rw [mcs_at hlk] at hm
              obtain ⟨x, hx⟩ : ∃ x, x = L[j] := ⟨_, rfl⟩
              rw [← hx] at hm
              have HMt1 := Lib.hid hm; clear hm
              have hxo : McOk w x.1 x.2 := by rw [hx]; exact HLo.out.at hlk
              have HXo := Lib.hid hxo; clear hxo
              obtain ⟨r, hr⟩ : ∃ r, sco x.1 x.2 t tl l = r := ⟨_, rfl⟩
              have KS := Lib.hid (K5.out hl x r hr)
              obtain ⟨sc, hsc⟩ : ∃ sc, r.getD 0 = sc := ⟨_, rfl⟩
              obtain ⟨can, hcan⟩ : ∃ can, r.isSome = can := ⟨_, rfl⟩
              rw [hsc, hcan] at KS
              have HR := Lib.hid hr; have HSC := Lib.hid hsc; have HC := Lib.hid hcan; clear hr hsc hcan
              have HX := Lib.hid hx; clear hx
              go_wp2_with fail
              refine wp_region_held_drew (S := fun X => Below wr.heap.size wr X) (by kernel_rfl) (Below.drew (Below.refl _ _)) (fun hS0 => ?_)
              refine wpAnyH_take (i := 0) (v := ?_) rfl (by kernel_rfl) (by kernel_rfl) (by kernel_rfl) (fun _ _ _ h => h) (Or.inl ⟨by rfl, ?_⟩) hS0 ?_
              rotate_left
              · intro W _; go_simp; try with_reducible rfl
              try simp only [Act.put, List.getElem_toArray, List.getElem_cons_zero, List.getElem_cons_succ, List.setIfInBounds_toArray, List.set_cons_zero, List.set_cons_succ]
              refine wpAnyH_take (i := 1) (v := ?_) rfl (by kernel_rfl) (by kernel_rfl) (by kernel_rfl) (fun _ _ _ h => h) (Or.inl ⟨by rfl, ?_⟩) hS0 ?_
              rotate_left
              · intro W _; go_simp; try with_reducible rfl
              try simp only [Act.put, List.getElem_toArray, List.getElem_cons_zero, List.getElem_cons_succ, List.setIfInBounds_toArray, List.set_cons_zero, List.set_cons_succ]
              refine wpAnyH_take (i := 2) (v := ?_) rfl (by kernel_rfl) (by kernel_rfl) (by kernel_rfl) (fun _ _ _ h => h) (Or.inl ⟨by rfl, ?_⟩) hS0 ?_
              rotate_left
              · intro W _; go_simp; try with_reducible rfl
              try simp only [Act.put, List.getElem_toArray, List.getElem_cons_zero, List.getElem_cons_succ, List.setIfInBounds_toArray, List.set_cons_zero, List.set_cons_succ]
              refine wpAnyH_take (i := 3) (v := .agg x.1.arr) rfl (by kernel_rfl) (by kernel_rfl) (by kernel_rfl) (fun _ _ _ h => h) (yields_rg rfl 36 _ rfl g (o + j * 7) rfl x.1.arr _ (fun W hW => (HMt1.out.later hW).rg) Try.underlying36 rfl (by kernel_rfl)) hS0 ?_
              try simp only [Act.put, List.getElem_toArray, List.getElem_cons_zero, List.getElem_cons_succ, List.setIfInBounds_toArray, List.set_cons_zero, List.set_cons_succ]
              refine wpAnyH_take (i := 4) (v := ?_) rfl (by kernel_rfl) (by kernel_rfl) (by kernel_rfl) (fun _ _ _ h => h) (Or.inl ⟨by rfl, ?_⟩) hS0 ?_
              rotate_left
              · intro W _; go_simp; try with_reducible rfl
              try simp only [Act.put, List.getElem_toArray, List.getElem_cons_zero, List.getElem_cons_succ, List.setIfInBounds_toArray, List.set_cons_zero, List.set_cons_succ]
              refine wpAnyH_take (i := 5) (v := .agg t.arr) rfl (by kernel_rfl) (by kernel_rfl) (by kernel_rfl) (fun _ _ _ h => h) (yields_bk rfl 28 _ rfl (w.heap.size) 0 rfl 28 t.arr t.arr _ (fun W hW => HTb.out.later hW) (Part.whole _) Try.underlying28 rfl (by kernel_rfl)) hS0 ?_
              try simp only [Act.put, List.getElem_toArray, List.getElem_cons_zero, List.getElem_cons_succ, List.setIfInBounds_toArray, List.set_cons_zero, List.set_cons_succ]
              refine wpAnyH_ready (rs := [6]) (by kernel_rfl) (by simp) ?_
              refine AllReadyH.cons rfl (fun K hK => ?_) AllReadyH.nil
              go_simp
              have hBS : Below w.heap.size w _ := hb.trans (hS0.mono hb.size)
              refine (KS.out _ (HA.out.later hBS) (HXo.out.later hBS) (HK.out.later hBS)).mono ?_
              rintro v v1 ⟨rfl, hbl⟩
              go_simp
              refine hK.out _ _ (hS0.trans (hbl.mono hS0.size)) (fun hS1 => ?_)
              clear hK K hBS hbl
              try simp only [Act.put, List.getElem_toArray, List.getElem_cons_zero, List.getElem_cons_succ, List.setIfInBounds_toArray, List.set_cons_zero, List.set_cons_succ]
              refine wpAnyH_take (i := 7) (v := ?_) rfl (by kernel_rfl) (by kernel_rfl) (by kernel_rfl) (fun _ _ _ h => h) (Or.inl ⟨by rfl, ?_⟩) hS1 ?_
              rotate_left
              · intro W _; go_simp; try with_reducible rfl
              try simp only [Act.put, List.getElem_toArray, List.getElem_cons_zero, List.getElem_cons_succ, List.setIfInBounds_toArray, List.set_cons_zero, List.set_cons_succ]
              refine wpAnyH_take (i := 8) (v := ?_) rfl (by kernel_rfl) (by kernel_rfl) (by kernel_rfl) (fun _ _ _ h => h) (Or.inl ⟨by rfl, ?_⟩) hS1 ?_
              rotate_left
              · intro W _; go_simp; try with_reducible rfl
              try simp only [Act.put, List.getElem_toArray, List.getElem_cons_zero, List.getElem_cons_succ, List.setIfInBounds_toArray, List.set_cons_zero, List.set_cons_succ]
              refine wpAnyH_take (i := 9) (v := ?_) rfl (by kernel_rfl) (by kernel_rfl) (by kernel_rfl) (fun _ _ _ h => h) (Or.inl ⟨by rfl, ?_⟩) hS1 ?_
              rotate_left
              · intro W _; go_simp; try with_reducible rfl
              try simp only [Act.put, List.getElem_toArray, List.getElem_cons_zero, List.getElem_cons_succ, List.setIfInBounds_toArray, List.set_cons_zero, List.set_cons_succ]
              refine wpAnyH_take (i := 10) (v := ?_) rfl (by kernel_rfl) (by kernel_rfl) (by kernel_rfl) (fun _ _ _ h => h) (Or.inl ⟨by rfl, ?_⟩) hS1 ?_
              rotate_left
              · intro W _; go_simp; try with_reducible rfl
              try simp only [Act.put, List.getElem_toArray, List.getElem_cons_zero, List.getElem_cons_succ, List.setIfInBounds_toArray, List.set_cons_zero, List.set_cons_succ]
              refine wpAnyH_take (i := 11) (v := ?_) rfl (by kernel_rfl) (by kernel_rfl) (by kernel_rfl) (fun _ _ _ h => h) (Or.inl ⟨by rfl, ?_⟩) hS1 ?_
              rotate_left
              · intro W _; go_simp; try with_reducible rfl
              try simp only [Act.put, List.getElem_toArray, List.getElem_cons_zero, List.getElem_cons_succ, List.setIfInBounds_toArray, List.set_cons_zero, List.set_cons_succ]
              refine wpAnyH_done (by kernel_rfl) ?_ _
              have hB1 : Below w.heap.size w v1 := hb.trans (hS1.mono hb.size)
              have HT1 := Lib.hid (HTb.out.later hS1); have HMt2 := Lib.hid (HMt1.out.later hS1)
              have hg1 : g < v1.heap.size := HMt2.out.lt
              clear HTb HMt1 hS0 hS1 hb hg
              cases r with
              | none =>
                have e1 : can = false := HC.out.symm
                subst e1
                go_wp2_with fail
                go_round
                case rel => exact ⟨j + 1, by omega, by go_num, HT1, hB1⟩
                case measure => simp [intOf]; omega
              | some s =>
                exfalso
                have := HNO.out j hlk
                rw [← HX.out, HR.out] at this
                cases this
            · have hj' : j = k := by omega
              subst hj'
              go_wp2_with fail
              go_ret
              exact ⟨rfl, hb⟩
      
    | cons y E =>
      have hbp := HBP.out
      rw [HE.out] at hbp
      injection hbp with e1 e2
      subst e2
      obtain ⟨g, o, rfl, hg, c0⟩ := hr4.at (i := 0) (by simp [nms])
      rw [show (nms (y :: E))[0]'(by simp [nms]) = y.1 by simp [nms], Nat.add_zero, e1] at c0
      obtain ⟨q, hq⟩ : ∃ q, q = (nms (y :: E)).length := ⟨_, rfl⟩
      have hq0 : 0 < q := by rw [hq]; simp [nms]
      rw [← hq] at hc4
      rw [← hq]
      clear hr4 hq e1
      have d1 : decide (0 < (q : Int)) = true := by simp; omega
      go_wp2_with fail
      go_loopw [10, 11, 64] (fun v10 v11 i wr => ∃ (k : Nat) (lo : Int) (fo : Bool), k ≤ N ∧ i = .int .i64 k ∧ v10 = .int .i64 lo ∧ v11 = .bool fo ∧ Hid (lows nm t tl l (L.take k) = (lo, fo)) ∧ Hid (Bk wr w.heap.size 28 t.arr) ∧ Below w.heap.size w wr) (fun _ _ i wr => N - (intOf i).toNat)
      case atStart => exact ⟨0, 0, false, Nat.zero_le _, rfl, rfl, rfl, (show _ = _ by simp [lows]), HT4, hB4⟩
      case round =>
        clear HT4 hB4 c0 hq0 d1 hc4 hc4' hg
        obtain ⟨k, lo, fo, hk, rfl, rfl, rfl, HLW, HTb, hb⟩ := hrel
        have lt0 : w.heap.size < wr.heap.size := HTb.out.here
        by_cases hlt : k < N
        · have hlk : k < L.length := by have := HN.out; omega
          obtain ⟨g, o, rfl, hg, hm⟩ := (HL.out.later hb).at (i := k) (by simpa [mcs] using hlk)
          rw [mcs_at hlk] at hm
          obtain ⟨x, hx⟩ : ∃ x, x = L[k] := ⟨_, rfl⟩
          rw [← hx] at hm
          have HMt1 := Lib.hid hm; clear hm
          have hxo : McOk w x.1 x.2 := by rw [hx]; exact HLo.out.at hlk
          have HXo := Lib.hid hxo; clear hxo
          obtain ⟨r, hr⟩ : ∃ r, sco x.1 x.2 t tl l = r := ⟨_, rfl⟩
          obtain ⟨y, hy⟩ : ∃ y, why x.1 x.2 t tl l = y := ⟨_, rfl⟩
          have KS := Lib.hid (K5.out hl x r hr); have KR := Lib.hid (K7.out hl x y hy)
          obtain ⟨sc, hsc⟩ : ∃ sc, r.getD 0 = sc := ⟨_, rfl⟩
          obtain ⟨can, hcan⟩ : ∃ can, r.isSome = can := ⟨_, rfl⟩
          rw [hsc, hcan] at KS
          have hyc : (y == 0) = can := by
            rw [← hcan, ← hr, sco_some, hy]
            by_cases h0 : y = 0 <;> simp [h0]
          have HR := Lib.hid hr; have HSC := Lib.hid hsc; have HC := Lib.hid hcan; have HYC := Lib.hid hyc; clear hr hy hsc hcan hyc
          have HX := Lib.hid hx; clear hx
          go_wp2_with fail
          refine wp_region_held_drew (S := fun X => Below wr.heap.size wr X) (by kernel_rfl) (Below.drew (Below.refl _ _)) (fun hS0 => ?_)
          refine wpAnyH_take (i := 0) (v := ?_) rfl (by kernel_rfl) (by kernel_rfl) (by kernel_rfl) (fun _ _ _ h => h) (Or.inl ⟨by rfl, ?_⟩) hS0 ?_
          rotate_left
          · intro W _; go_simp; try with_reducible rfl
          try simp only [Act.put, List.getElem_toArray, List.getElem_cons_zero, List.getElem_cons_succ, List.setIfInBounds_toArray, List.set_cons_zero, List.set_cons_succ]
          refine wpAnyH_take (i := 1) (v := ?_) rfl (by kernel_rfl) (by kernel_rfl) (by kernel_rfl) (fun _ _ _ h => h) (Or.inl ⟨by rfl, ?_⟩) hS0 ?_
          rotate_left
          · intro W _; go_simp; try with_reducible rfl
          try simp only [Act.put, List.getElem_toArray, List.getElem_cons_zero, List.getElem_cons_succ, List.setIfInBounds_toArray, List.set_cons_zero, List.set_cons_succ]
          refine wpAnyH_take (i := 2) (v := ?_) rfl (by kernel_rfl) (by kernel_rfl) (by kernel_rfl) (fun _ _ _ h => h) (Or.inl ⟨by rfl, ?_⟩) hS0 ?_
          rotate_left
          · intro W _; go_simp; try with_reducible rfl
          try simp only [Act.put, List.getElem_toArray, List.getElem_cons_zero, List.getElem_cons_succ, List.setIfInBounds_toArray, List.set_cons_zero, List.set_cons_succ]
          refine wpAnyH_take (i := 3) (v := .agg x.1.arr) rfl (by kernel_rfl) (by kernel_rfl) (by kernel_rfl) (fun _ _ _ h => h) (yields_rg rfl 36 _ rfl g (o + k * 7) rfl x.1.arr _ (fun W hW => (HMt1.out.later hW).rg) Try.underlying36 rfl (by kernel_rfl)) hS0 ?_
          try simp only [Act.put, List.getElem_toArray, List.getElem_cons_zero, List.getElem_cons_succ, List.setIfInBounds_toArray, List.set_cons_zero, List.set_cons_succ]
          refine wpAnyH_take (i := 4) (v := ?_) rfl (by kernel_rfl) (by kernel_rfl) (by kernel_rfl) (fun _ _ _ h => h) (Or.inl ⟨by rfl, ?_⟩) hS0 ?_
          rotate_left
          · intro W _; go_simp; try with_reducible rfl
          try simp only [Act.put, List.getElem_toArray, List.getElem_cons_zero, List.getElem_cons_succ, List.setIfInBounds_toArray, List.set_cons_zero, List.set_cons_succ]
          refine wpAnyH_take (i := 5) (v := .agg t.arr) rfl (by kernel_rfl) (by kernel_rfl) (by kernel_rfl) (fun _ _ _ h => h) (yields_bk rfl 28 _ rfl (w.heap.size) 0 rfl 28 t.arr t.arr _ (fun W hW => HTb.out.later hW) (Part.whole _) Try.underlying28 rfl (by kernel_rfl)) hS0 ?_
          try simp only [Act.put, List.getElem_toArray, List.getElem_cons_zero, List.getElem_cons_succ, List.setIfInBounds_toArray, List.set_cons_zero, List.set_cons_succ]
          refine wpAnyH_ready (rs := [6]) (by kernel_rfl) (by simp) ?_
          refine AllReadyH.cons rfl (fun K hK => ?_) AllReadyH.nil
          go_simp
          have hBS : Below w.heap.size w _ := hb.trans (hS0.mono hb.size)
          refine (KS.out _ (HA.out.later hBS) (HXo.out.later hBS) (HK.out.later hBS)).mono ?_
          rintro v v1 ⟨rfl, hbl⟩
          go_simp
          refine hK.out _ _ (hS0.trans (hbl.mono hS0.size)) (fun hS1 => ?_)
          clear hK K hBS hbl
          try simp only [Act.put, List.getElem_toArray, List.getElem_cons_zero, List.getElem_cons_succ, List.setIfInBounds_toArray, List.set_cons_zero, List.set_cons_succ]
          refine wpAnyH_take (i := 7) (v := ?_) rfl (by kernel_rfl) (by kernel_rfl) (by kernel_rfl) (fun _ _ _ h => h) (Or.inl ⟨by rfl, ?_⟩) hS1 ?_
          rotate_left
          · intro W _; go_simp; try with_reducible rfl
          try simp only [Act.put, List.getElem_toArray, List.getElem_cons_zero, List.getElem_cons_succ, List.setIfInBounds_toArray, List.set_cons_zero, List.set_cons_succ]
          refine wpAnyH_take (i := 8) (v := ?_) rfl (by kernel_rfl) (by kernel_rfl) (by kernel_rfl) (fun _ _ _ h => h) (Or.inl ⟨by rfl, ?_⟩) hS1 ?_
          rotate_left
          · intro W _; go_simp; try with_reducible rfl
          try simp only [Act.put, List.getElem_toArray, List.getElem_cons_zero, List.getElem_cons_succ, List.setIfInBounds_toArray, List.set_cons_zero, List.set_cons_succ]
          refine wpAnyH_take (i := 9) (v := ?_) rfl (by kernel_rfl) (by kernel_rfl) (by kernel_rfl) (fun _ _ _ h => h) (Or.inl ⟨by rfl, ?_⟩) hS1 ?_
          rotate_left
          · intro W _; go_simp; try with_reducible rfl
          try simp only [Act.put, List.getElem_toArray, List.getElem_cons_zero, List.getElem_cons_succ, List.setIfInBounds_toArray, List.set_cons_zero, List.set_cons_succ]
          refine wpAnyH_take (i := 10) (v := ?_) rfl (by kernel_rfl) (by kernel_rfl) (by kernel_rfl) (fun _ _ _ h => h) (Or.inl ⟨by rfl, ?_⟩) hS1 ?_
          rotate_left
          · intro W _; go_simp; try with_reducible rfl
          try simp only [Act.put, List.getElem_toArray, List.getElem_cons_zero, List.getElem_cons_succ, List.setIfInBounds_toArray, List.set_cons_zero, List.set_cons_succ]
          refine wpAnyH_take (i := 11) (v := ?_) rfl (by kernel_rfl) (by kernel_rfl) (by kernel_rfl) (fun _ _ _ h => h) (Or.inl ⟨by rfl, ?_⟩) hS1 ?_
          rotate_left
          · intro W _; go_simp; try with_reducible rfl
          try simp only [Act.put, List.getElem_toArray, List.getElem_cons_zero, List.getElem_cons_succ, List.setIfInBounds_toArray, List.set_cons_zero, List.set_cons_succ]
          refine wpAnyH_done (by kernel_rfl) ?_ _
          have hB1 : Below w.heap.size w v1 := hb.trans (hS1.mono hb.size)
          have HT1 := Lib.hid (HTb.out.later hS1); have HMt2 := Lib.hid (HMt1.out.later hS1)
          have hg1 : g < v1.heap.size := HMt2.out.lt
          clear HTb HMt1 hS0 hS1 hb hg
          go_wp2_with fail
          refine wp_region_held_drew (S := fun X => Below v1.heap.size v1 X) (by kernel_rfl) (Below.drew (Below.refl _ _)) (fun hS0 => ?_)
          refine wpAnyH_take (i := 0) (v := ?_) rfl (by kernel_rfl) (by kernel_rfl) (by kernel_rfl) (fun _ _ _ h => h) (Or.inl ⟨by rfl, ?_⟩) hS0 ?_
          rotate_left
          · intro W _; go_simp; try with_reducible rfl
          try simp only [Act.put, List.getElem_toArray, List.getElem_cons_zero, List.getElem_cons_succ, List.setIfInBounds_toArray, List.set_cons_zero, List.set_cons_succ]
          refine wpAnyH_take (i := 1) (v := ?_) rfl (by kernel_rfl) (by kernel_rfl) (by kernel_rfl) (fun _ _ _ h => h) (Or.inl ⟨by rfl, ?_⟩) hS0 ?_
          rotate_left
          · intro W _; go_simp; try with_reducible rfl
          try simp only [Act.put, List.getElem_toArray, List.getElem_cons_zero, List.getElem_cons_succ, List.setIfInBounds_toArray, List.set_cons_zero, List.set_cons_succ]
          refine wpAnyH_take (i := 2) (v := ?_) rfl (by kernel_rfl) (by kernel_rfl) (by kernel_rfl) (fun _ _ _ h => h) (Or.inl ⟨by rfl, ?_⟩) hS0 ?_
          rotate_left
          · intro W _; go_simp; try with_reducible rfl
          try simp only [Act.put, List.getElem_toArray, List.getElem_cons_zero, List.getElem_cons_succ, List.setIfInBounds_toArray, List.set_cons_zero, List.set_cons_succ]
          refine wpAnyH_take (i := 3) (v := ?_) rfl (by kernel_rfl) (by kernel_rfl) (by kernel_rfl) (fun _ _ _ h => h) (Or.inl ⟨by rfl, ?_⟩) hS0 ?_
          rotate_left
          · intro W _; go_simp; try with_reducible rfl
          try simp only [Act.put, List.getElem_toArray, List.getElem_cons_zero, List.getElem_cons_succ, List.setIfInBounds_toArray, List.set_cons_zero, List.set_cons_succ]
          refine wpAnyH_take (i := 4) (v := .agg x.1.arr) rfl (by kernel_rfl) (by kernel_rfl) (by kernel_rfl) (fun _ _ _ h => h) (yields_rg rfl 36 _ rfl g (o + k * 7) rfl x.1.arr _ (fun W hW => (HMt2.out.later hW).rg) Try.underlying36 rfl (by kernel_rfl)) hS0 ?_
          try simp only [Act.put, List.getElem_toArray, List.getElem_cons_zero, List.getElem_cons_succ, List.setIfInBounds_toArray, List.set_cons_zero, List.set_cons_succ]
          refine wpAnyH_take (i := 5) (v := ?_) rfl (by kernel_rfl) (by kernel_rfl) (by kernel_rfl) (fun _ _ _ h => h) (Or.inl ⟨by rfl, ?_⟩) hS0 ?_
          rotate_left
          · intro W _; go_simp; try with_reducible rfl
          try simp only [Act.put, List.getElem_toArray, List.getElem_cons_zero, List.getElem_cons_succ, List.setIfInBounds_toArray, List.set_cons_zero, List.set_cons_succ]
          refine wpAnyH_take (i := 6) (v := .agg t.arr) rfl (by kernel_rfl) (by kernel_rfl) (by kernel_rfl) (fun _ _ _ h => h) (yields_bk rfl 28 _ rfl (w.heap.size) 0 rfl 28 t.arr t.arr _ (fun W hW => HT1.out.later hW) (Part.whole _) Try.underlying28 rfl (by kernel_rfl)) hS0 ?_
          try simp only [Act.put, List.getElem_toArray, List.getElem_cons_zero, List.getElem_cons_succ, List.setIfInBounds_toArray, List.set_cons_zero, List.set_cons_succ]
          refine wpAnyH_ready (rs := [7]) (by kernel_rfl) (by simp) ?_
          refine AllReadyH.cons rfl (fun K hK => ?_) AllReadyH.nil
          go_simp
          have hBS : Below w.heap.size w _ := hB1.trans (hS0.mono hB1.size)
          refine (KR.out _ (HA.out.later hBS) (HXo.out.later hBS) (HK.out.later hBS)).mono ?_
          rintro v v2 ⟨rfl, hbl⟩
          go_simp
          refine hK.out _ _ (hS0.trans (hbl.mono hS0.size)) (fun hS1 => ?_)
          clear hK K hBS hbl
          try simp only [Act.put, List.getElem_toArray, List.getElem_cons_zero, List.getElem_cons_succ, List.setIfInBounds_toArray, List.set_cons_zero, List.set_cons_succ]
          have hyc := HYC.out
          refine wpAnyH_take (i := 8) (v := ?_) rfl (by kernel_rfl) (by kernel_rfl) (by kernel_rfl) (fun _ _ _ h => h) (Or.inl ⟨by rfl, ?_⟩) hS1 ?_
          rotate_left
          · intro W _; go_simp; try with_reducible rfl
          try simp only [Act.put, List.getElem_toArray, List.getElem_cons_zero, List.getElem_cons_succ, List.setIfInBounds_toArray, List.set_cons_zero, List.set_cons_succ]
          refine wpAnyH_take (i := 9) (v := ?_) rfl (by kernel_rfl) (by kernel_rfl) (by kernel_rfl) (fun _ _ _ h => h) (Or.inl ⟨by rfl, ?_⟩) hS1 ?_
          rotate_left
          · intro W _; go_simp; try with_reducible rfl
          try simp only [Act.put, List.getElem_toArray, List.getElem_cons_zero, List.getElem_cons_succ, List.setIfInBounds_toArray, List.set_cons_zero, List.set_cons_succ]
          refine wpAnyH_done (by kernel_rfl) ?_ _
          have hB2 : Below w.heap.size w v2 := hB1.trans (hS1.mono hB1.size)
          have HT2 := Lib.hid (HT1.out.later hS1); have HMt3 := Lib.hid (HMt2.out.later hS1)
          have hg2 : g < v2.heap.size := HMt3.out.lt
          clear HT1 HMt2 hS0 hS1 hB1 hg1 hyc HYC
          cases r with
          | none =>
            have e1 : can = false := HC.out.symm
            subst e1
            have HLW2 : Hid (lows nm t tl l (L.take (k + 1)) = (lo, fo)) := by
              show _ = _
              rw [lows_no hlk (by rw [← HX.out]; exact HR.out)]; exact HLW.out
            go_wp2_with fail
            go_round
            case rel => exact ⟨k + 1, lo, fo, by omega, by go_num, rfl, rfl, HLW2, HT2, hB2⟩
            case measure => simp [intOf]; omega
          | some s =>
            have e1 : can = true := HC.out.symm
            have e2 : sc = s := HSC.out.symm
            subst e1 e2
            have cx : v2.cell? ⟨g, o + k * 7, none⟩ = some (.string x.1.nm) := HMt3.out.nm
            have hly := fun {a : Int} {b : Bool} => lows_yes (nm := nm) (t := t) (tl := tl) (l := l) (s := sc) hlk (by rw [← HX.out]; exact HR.out) HLW.out
            rw [← HX.out] at hly
            cases he : sE x.1.nm nm
            · have HLW2 : Hid (lows nm t tl l (L.take (k + 1)) = (lo, fo)) := by show _ = _; rw [@hly 0 false, he]; simp
              have he' : (x.1.nm.toList == nm.toList) = false := he
              clear he hly
              go_wp2_with fail
              go_round
              case rel => exact ⟨k + 1, lo, fo, by omega, by go_num, rfl, rfl, HLW2, HT2, hB2⟩
              case measure => simp [intOf]; omega
            · cases fo
              · have HLW2 : Hid (lows nm t tl l (L.take (k + 1)) = (sc, true)) := by show _ = _; rw [@hly 0 false, he]; simp
                have he' : (x.1.nm.toList == nm.toList) = true := he
                clear he hly
                go_wp2_with fail
                go_round
                case rel => exact ⟨k + 1, sc, true, by omega, by go_num, rfl, rfl, HLW2, HT2, hB2⟩
                case measure => simp [intOf]; omega
              · by_cases hs : sc < lo
                · have HLW2 : Hid (lows nm t tl l (L.take (k + 1)) = (sc, true)) := by show _ = _; rw [@hly 0 false, he, decide_eq_true hs]; simp
                  have he' : (x.1.nm.toList == nm.toList) = true := he
                  have hd : decide (sc < lo) = true := decide_eq_true hs
                  clear he hly hs
                  go_wp2_with fail
                  go_round
                  case rel => exact ⟨k + 1, sc, true, by omega, by go_num, rfl, rfl, HLW2, HT2, hB2⟩
                  case measure => simp [intOf]; omega
                · have HLW2 : Hid (lows nm t tl l (L.take (k + 1)) = (lo, true)) := by show _ = _; rw [@hly 0 false, he, decide_eq_false hs]; simp
                  have he' : (x.1.nm.toList == nm.toList) = true := he
                  have hd : decide (sc < lo) = false := decide_eq_false hs
                  clear he hly hs
                  go_wp2_with fail
                  go_round
                  case rel => exact ⟨k + 1, lo, true, by omega, by go_num, rfl, rfl, HLW2, HT2, hB2⟩
                  case measure => simp [intOf]; omega
        · have hk' : k = N := by omega
          subst hk'
          have hlw := HLW.out
          rw [show L.take k = L by rw [HN.out]; exact List.take_length] at hlw
          obtain ⟨hfo, hbad⟩ := best_low HBP.out hlw
          subst hfo
          have HBad := Lib.hid hbad; clear hbad hlw HLW
          obtain ⟨wo, hwo⟩ : ∃ wo, wo = wr := ⟨_, rfl⟩
          subst hwo
          have HTo := HTb; clear HTb
          have hbo := hb; clear hb
          go_wp2_with fail
          go_loopw [111] (fun i wr => ∃ j : Nat, j ≤ k ∧ i = .int .i64 j ∧ Hid (Bk wr w.heap.size 28 t.arr) ∧ Below w.heap.size w wr) (fun i wr => k - (intOf i).toNat)
          case atStart => exact ⟨0, Nat.zero_le _, rfl, HTo, hbo⟩
          case round =>
            clear HTo hbo lt0 hlt
            obtain ⟨j, hj, rfl, HTb, hb⟩ := hrel
            have lt0 : w.heap.size < wr.heap.size := HTb.out.here
            by_cases hlt : j < k
            · have hlk : j < L.length := by have := HN.out; omega
              obtain ⟨g, o, rfl, hg, hm⟩ := (HL.out.later hb).at (i := j) (by simpa [mcs] using hlk)
              rw [mcs_at hlk] at hm
              obtain ⟨x, hx⟩ : ∃ x, x = L[j] := ⟨_, rfl⟩
              rw [← hx] at hm
              have HMt1 := Lib.hid hm; clear hm
              have hxo : McOk w x.1 x.2 := by rw [hx]; exact HLo.out.at hlk
              have HXo := Lib.hid hxo; clear hxo
              obtain ⟨r, hr⟩ : ∃ r, sco x.1 x.2 t tl l = r := ⟨_, rfl⟩
              have KS := Lib.hid (K5.out hl x r hr)
              obtain ⟨sc, hsc⟩ : ∃ sc, r.getD 0 = sc := ⟨_, rfl⟩
              obtain ⟨can, hcan⟩ : ∃ can, r.isSome = can := ⟨_, rfl⟩
              rw [hsc, hcan] at KS
              have HR := Lib.hid hr; have HSC := Lib.hid hsc; have HC := Lib.hid hcan; clear hr hsc hcan
              have HX := Lib.hid hx; clear hx
              go_wp2_with fail
              refine wp_region_held_drew (S := fun X => Below wr.heap.size wr X) (by kernel_rfl) (Below.drew (Below.refl _ _)) (fun hS0 => ?_)
              refine wpAnyH_take (i := 0) (v := ?_) rfl (by kernel_rfl) (by kernel_rfl) (by kernel_rfl) (fun _ _ _ h => h) (Or.inl ⟨by rfl, ?_⟩) hS0 ?_
              rotate_left
              · intro W _; go_simp; try with_reducible rfl
              try simp only [Act.put, List.getElem_toArray, List.getElem_cons_zero, List.getElem_cons_succ, List.setIfInBounds_toArray, List.set_cons_zero, List.set_cons_succ]
              refine wpAnyH_take (i := 1) (v := ?_) rfl (by kernel_rfl) (by kernel_rfl) (by kernel_rfl) (fun _ _ _ h => h) (Or.inl ⟨by rfl, ?_⟩) hS0 ?_
              rotate_left
              · intro W _; go_simp; try with_reducible rfl
              try simp only [Act.put, List.getElem_toArray, List.getElem_cons_zero, List.getElem_cons_succ, List.setIfInBounds_toArray, List.set_cons_zero, List.set_cons_succ]
              refine wpAnyH_take (i := 2) (v := ?_) rfl (by kernel_rfl) (by kernel_rfl) (by kernel_rfl) (fun _ _ _ h => h) (Or.inl ⟨by rfl, ?_⟩) hS0 ?_
              rotate_left
              · intro W _; go_simp; try with_reducible rfl
              try simp only [Act.put, List.getElem_toArray, List.getElem_cons_zero, List.getElem_cons_succ, List.setIfInBounds_toArray, List.set_cons_zero, List.set_cons_succ]
              refine wpAnyH_take (i := 3) (v := .agg x.1.arr) rfl (by kernel_rfl) (by kernel_rfl) (by kernel_rfl) (fun _ _ _ h => h) (yields_rg rfl 36 _ rfl g (o + j * 7) rfl x.1.arr _ (fun W hW => (HMt1.out.later hW).rg) Try.underlying36 rfl (by kernel_rfl)) hS0 ?_
              try simp only [Act.put, List.getElem_toArray, List.getElem_cons_zero, List.getElem_cons_succ, List.setIfInBounds_toArray, List.set_cons_zero, List.set_cons_succ]
              refine wpAnyH_take (i := 4) (v := ?_) rfl (by kernel_rfl) (by kernel_rfl) (by kernel_rfl) (fun _ _ _ h => h) (Or.inl ⟨by rfl, ?_⟩) hS0 ?_
              rotate_left
              · intro W _; go_simp; try with_reducible rfl
              try simp only [Act.put, List.getElem_toArray, List.getElem_cons_zero, List.getElem_cons_succ, List.setIfInBounds_toArray, List.set_cons_zero, List.set_cons_succ]
              refine wpAnyH_take (i := 5) (v := .agg t.arr) rfl (by kernel_rfl) (by kernel_rfl) (by kernel_rfl) (fun _ _ _ h => h) (yields_bk rfl 28 _ rfl (w.heap.size) 0 rfl 28 t.arr t.arr _ (fun W hW => HTb.out.later hW) (Part.whole _) Try.underlying28 rfl (by kernel_rfl)) hS0 ?_
              try simp only [Act.put, List.getElem_toArray, List.getElem_cons_zero, List.getElem_cons_succ, List.setIfInBounds_toArray, List.set_cons_zero, List.set_cons_succ]
              refine wpAnyH_ready (rs := [6]) (by kernel_rfl) (by simp) ?_
              refine AllReadyH.cons rfl (fun K hK => ?_) AllReadyH.nil
              go_simp
              have hBS : Below w.heap.size w _ := hb.trans (hS0.mono hb.size)
              refine (KS.out _ (HA.out.later hBS) (HXo.out.later hBS) (HK.out.later hBS)).mono ?_
              rintro v v1 ⟨rfl, hbl⟩
              go_simp
              refine hK.out _ _ (hS0.trans (hbl.mono hS0.size)) (fun hS1 => ?_)
              clear hK K hBS hbl
              try simp only [Act.put, List.getElem_toArray, List.getElem_cons_zero, List.getElem_cons_succ, List.setIfInBounds_toArray, List.set_cons_zero, List.set_cons_succ]
              refine wpAnyH_take (i := 7) (v := ?_) rfl (by kernel_rfl) (by kernel_rfl) (by kernel_rfl) (fun _ _ _ h => h) (Or.inl ⟨by rfl, ?_⟩) hS1 ?_
              rotate_left
              · intro W _; go_simp; try with_reducible rfl
              try simp only [Act.put, List.getElem_toArray, List.getElem_cons_zero, List.getElem_cons_succ, List.setIfInBounds_toArray, List.set_cons_zero, List.set_cons_succ]
              refine wpAnyH_take (i := 8) (v := ?_) rfl (by kernel_rfl) (by kernel_rfl) (by kernel_rfl) (fun _ _ _ h => h) (Or.inl ⟨by rfl, ?_⟩) hS1 ?_
              rotate_left
              · intro W _; go_simp; try with_reducible rfl
              try simp only [Act.put, List.getElem_toArray, List.getElem_cons_zero, List.getElem_cons_succ, List.setIfInBounds_toArray, List.set_cons_zero, List.set_cons_succ]
              refine wpAnyH_take (i := 9) (v := ?_) rfl (by kernel_rfl) (by kernel_rfl) (by kernel_rfl) (fun _ _ _ h => h) (Or.inl ⟨by rfl, ?_⟩) hS1 ?_
              rotate_left
              · intro W _; go_simp; try with_reducible rfl
              try simp only [Act.put, List.getElem_toArray, List.getElem_cons_zero, List.getElem_cons_succ, List.setIfInBounds_toArray, List.set_cons_zero, List.set_cons_succ]
              refine wpAnyH_take (i := 10) (v := ?_) rfl (by kernel_rfl) (by kernel_rfl) (by kernel_rfl) (fun _ _ _ h => h) (Or.inl ⟨by rfl, ?_⟩) hS1 ?_
              rotate_left
              · intro W _; go_simp; try with_reducible rfl
              try simp only [Act.put, List.getElem_toArray, List.getElem_cons_zero, List.getElem_cons_succ, List.setIfInBounds_toArray, List.set_cons_zero, List.set_cons_succ]
              refine wpAnyH_take (i := 11) (v := ?_) rfl (by kernel_rfl) (by kernel_rfl) (by kernel_rfl) (fun _ _ _ h => h) (Or.inl ⟨by rfl, ?_⟩) hS1 ?_
              rotate_left
              · intro W _; go_simp; try with_reducible rfl
              try simp only [Act.put, List.getElem_toArray, List.getElem_cons_zero, List.getElem_cons_succ, List.setIfInBounds_toArray, List.set_cons_zero, List.set_cons_succ]
              refine wpAnyH_done (by kernel_rfl) ?_ _
              have hB1 : Below w.heap.size w v1 := hb.trans (hS1.mono hb.size)
              have HT1 := Lib.hid (HTb.out.later hS1); have HMt2 := Lib.hid (HMt1.out.later hS1)
              have hg1 : g < v1.heap.size := HMt2.out.lt
              clear HTb HMt1 hS0 hS1 hb hg
              cases r with
              | none =>
                have e1 : can = false := HC.out.symm
                subst e1
                go_wp2_with fail
                go_round
                case rel => exact ⟨j + 1, by omega, by go_num, HT1, hB1⟩
                case measure => simp [intOf]; omega
              | some s =>
                have e1 : can = true := HC.out.symm
                have e2 : sc = s := HSC.out.symm
                subst e1 e2
                have cx : v1.cell? ⟨g, o + j * 7, none⟩ = some (.string x.1.nm) := HMt2.out.nm
                have hb0 := HBad.out (x.1.nm, sc) (by rw [HX.out]; exact able_mem hlk (by rw [← HX.out]; exact HR.out))
                obtain ⟨hb1, hb2⟩ := hb0
                have hd : decide (sc < lo) = false := by have h := hb1; (try simp only at h); rw [decide_eq_false_iff_not]; omega
                by_cases hs : sc = lo
                · have h2 : Op.bytesLess x.1.nm.toList nm.toList = false := hb2 hs
                  have h1 : (sc == lo) = true := by simpa using hs
                  clear hb1 hb2 hs
                  go_wp2_with fail
                  go_round
                  case rel => exact ⟨j + 1, by omega, by go_num, HT1, hB1⟩
                  case measure => simp [intOf]; omega
                · have h1 : (sc == lo) = false := by simpa using hs
                  clear hb1 hb2 hs
                  go_wp2_with fail
                  go_round
                  case rel => exact ⟨j + 1, by omega, by go_num, HT1, hB1⟩
                  case measure => simp [intOf]; omega
            · have hj' : j = k := by omega
              subst hj'
              go_wp2_with fail
              go_ret
              exact ⟨rfl, hb⟩
      
end rankBest
end Go.Proofs.Ythikdhgkjcdepaa
