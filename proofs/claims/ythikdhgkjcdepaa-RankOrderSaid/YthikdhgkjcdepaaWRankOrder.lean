/- The walk of RankOrder. No condition beyond the form's own. -/
import Derived.Test.YthikdhgkjcdepaaTur
import Derived.Test.YthikdhgkjcdepaaRkl
import Derived.Test.YthikdhgkjcdepaaMsk
import Derived.Test.YthikdhgkjcdepaaRa
import Derived.Test.YthikdhgkjcdepaaRw
import Derived.Test.YthikdhgkjcdepaaSor
import Derived.Test.YthikdhgkjcdepaaRtx
namespace Go.Proofs.Ythikdhgkjcdepaa
open Go.RowKit
set_option linter.unusedSimpArgs false
set_option linter.unusedVariables false
namespace rankOrder

set_option maxHeartbeats 12800000 in
set_option maxRecDepth 100000 in
theorem walk (A0 : Option Addr) (N c0 : Nat) (L : List Ml) (A : Option Addr) (n cap : Nat) (l : List Jb) (t : Kt) (tl : List Lb) (by0 : Int) (w : World) (hN : N = L.length) (hL : RdM w A0 (mcs L)) (hc0 : N ≤ c0) (hc02 : c0 ≤ 9223372036854775807) (hLo : MsOk w L) (hn : n = l.length) (hA : RdJ w A l) (hc : n ≤ cap) (hc2 : cap ≤ 9223372036854775807) (ht : KtOk w t tl) (hby : (Lit.int .u64 by0).wf = true) :
    Calls Try.prog 5 #[.slice A0 N c0, .slice A n cap, .agg t.arr, .int .u64 by0] w fun r w' => r = .returned (.bool true) ∧ Below w.heap.size w w' := by
  obtain ⟨b, rfl, hb64⟩ : ∃ b : Nat, by0 = (b : Int) ∧ b < 18446744073709551616 := by
    have h := hby
    simp only [Lit.wf, Bool.and_eq_true, decide_eq_true_eq] at h
    have hmin : IntKind.u64.min = 0 := rfl
    have hmax : IntKind.u64.max = 18446744073709551615 := rfl
    rw [hmin, hmax] at h
    exact ⟨by0.toNat, by omega, by omega⟩
  clear hby
  obtain ⟨FW, hFW⟩ : ∃ FW, fewR (mcs L) n t.n = FW := ⟨_, rfl⟩
  have kf := fun (W : World) (h : RdM W A0 (mcs L)) => few_any A0 N c0 (mcs L) A n cap t W (show N = (mcs L).length by rw [hN]; simp [mcs]) (by omega) (by omega) (by have h1 := ht.lb.cap; have h2 := ht.lb.cap2; omega) h
  rw [hFW] at kf
  obtain ⟨E, hE⟩ : ∃ E, nms (srt t tl l L) = E := ⟨_, rfl⟩
  have k3 := fun (B : Option Addr) (q c : Nat) (T : List Ml) (hq : Hid (q = T.length)) (hT : Hid (srt t tl l T = srt t tl l L)) (hNl : q ≤ 1000000) (hl : n ≤ 1000000) (W : World) (h1 : RdM W B (mcs T)) (h2 : MsOk W T) (h3 : RdJ W A l) (h4 : KtOk W t tl) => (show Calls Try.prog 14 #[.slice B q c, .slice A n cap, .agg t.arr] W fun e w' => RetS W.heap.size w' e E ∧ Below W.heap.size W w' from by
    have := sorted_any B q c T A n cap l t tl W hq hNl h1 h2 hn hl h3 h4
    rw [hT.out, hE] at this
    exact this)
  have k7 := fun (hl : n ≤ 1000000) (x : Ml) (y : Int) (hy : Hid (why x.1 x.2 t tl l = y)) (W : World) (h1 : RdJ W A l) (h2 : McOk W x.1 x.2) (h3 : KtOk W t tl) => why_any x.1 x.2 A n cap l t tl W hn hl h1 h2 h3 y hy
  have KF := Lib.hid kf; have K3 := Lib.hid k3; have K7 := Lib.hid k7; have HFW := Lib.hid hFW; have HA := Lib.hid hA; have HL := Lib.hid hL; have HLo := Lib.hid hLo; have HK := Lib.hid ht; have HN := Lib.hid hN; have HE := Lib.hid hE; have HB64 := Lib.hid hb64; have HC0 := Lib.hid hc0
  clear kf k3 k7 hFW hE hA hL hLo ht hN hn hc hc0 hc2 hc02
  go_enter Try.func5, Try.ntmps5
  have HT0 := Lib.hid (show Bk (w.alloc (.cells t.arr 28)) w.heap.size 28 t.arr from Bk.fresh _ _ _)
  have hB0 : Below w.heap.size w (w.alloc (.cells t.arr 28)) := (Below.refl _ _).alloc (Nat.le_refl _) _
  go_wp2_with fail
  refine (awake_any _).mono ?_; rintro v w1 ⟨rfl, hb1⟩
  have hB1 : Below w.heap.size w w1 := hB0.trans (hb1.mono hB0.size)
  have HT1 := Lib.hid (HT0.out.later hb1); clear HT0 hB0 hb1
  go_wp2_with (with_reducible refine load_bk rfl 28 _ rfl w.heap.size 0 rfl 28 t.arr t.arr _ HT1.out (Part.whole _) Try.underlying28 rfl (by kernel_rfl) ?_)
  refine (KF.out _ (HL.out.later hB1)).mono ?_; rintro v w2 ⟨rfl, hb2⟩
  have hB2 : Below w.heap.size w w2 := hB1.trans (hb2.mono hB1.size)
  have HT2 := Lib.hid (HT1.out.later hb2); clear HT1 hB1 hb2
  cases FW
  case false =>
    go_wp2_with fail
    refine (awake_any _).mono ?_; rintro v wz ⟨rfl, hbz⟩
    go_wp2_with fail
    go_ret
    exact ⟨rfl, hB2.trans (hbz.mono hB2.size)⟩
  case true =>
    have hfw : N ≤ 40 ∧ n ≤ 100 := by
      have h := HFW.out; unfold fewR at h; simp only [Bool.and_eq_true, decide_eq_true_eq] at h
      have := HN.out
      have e : (mcs L).length = L.length := by simp [mcs]
      omega
    obtain ⟨hN4, hn1⟩ := hfw
    have hl : n ≤ 1000000 := by omega
    by_cases hN0 : N = 0
    case pos =>
      have dN : ((N : Int) == 0) = true := by simp; omega
      clear hN0
      go_wp2_with fail
      refine (awake_any _).mono ?_; rintro v wz ⟨rfl, hbz⟩
      go_wp2_with fail
      go_ret
      exact ⟨rfl, hB2.trans (hbz.mono hB2.size)⟩
    case neg =>
      have dN : ((N : Int) == 0) = false := by simp; omega
      obtain ⟨k, hk⟩ : ∃ k, k = b % N := ⟨_, rfl⟩
      have hkN : k < N := by rw [hk]; exact Nat.mod_lt _ (by omega)
      have hwk : wrap64 ((b : Int) % (N : Int)) = (k : Int) := by
        have e : (b : Int) % (N : Int) = (k : Int) := by rw [hk]; exact (Int.natCast_emod b N).symm
        rw [e]; simp [wrap64]; omega
      have HWK := Lib.hid hwk
      clear hb64 hwk hk
      have hN1 : 1 ≤ N := by omega
      go_wp2_with fail
      rw [HWK.out]
      clear dN hN0
      go_loopw [10, 11, 12] (fun v10 v11 i wr => ∃ (j : Nat) (z : Int), j ≤ N ∧ i = .int .i64 z ∧ Hid (z = (j : Int) - 1) ∧ Hid (OwnK wr (w.heap.size + 1) 36 7 v10 (cellsM (mcs (tur L k j)))) ∧ Hid (OwnK wr (w.heap.size + 1) 36 7 v11 (cellsM (mcs (cand t tl l (tur L k j))))) ∧ Hid (Apart v10 v11) ∧ Hid (Bk wr w.heap.size 28 t.arr) ∧ Below w.heap.size w wr) (fun _ _ i wr => (intOf i + 1).toNat)
      case atStart => exact ⟨N, (N : Int) - 1, Nat.le_refl _, rfl, (show _ = _ from rfl), (show OwnK _ _ _ _ _ _ by rw [show tur L k N = [] by rw [HN.out]; exact tur_end L k]; exact OwnK.nil _ _ _ _), (show OwnK _ _ _ _ _ _ by rw [show tur L k N = [] by rw [HN.out]; exact tur_end L k]; exact OwnK.nil _ _ _ _), Apart.nil_left _, HT2, hB2⟩
      case round =>
        clear HT2 hB2
        obtain ⟨j, z, hj, rfl, HZ, HO1, HO2, HAp, HTb, hb⟩ := hrel
        have lt0 : w.heap.size < wr.heap.size := HTb.out.here
        by_cases hj0 : j = 0
        case neg =>
          obtain ⟨i, rfl⟩ : ∃ i, j = i + 1 := ⟨j - 1, by omega⟩
          have hz : z = (i : Int) := by have := HZ.out; omega
          subst hz
          clear HZ hj0
          have hiN : i < N := by omega
          have hiL : i < L.length := by have := HN.out; omega
          have hkL : k < L.length := by have := HN.out; omega
          obtain ⟨p, hp⟩ : ∃ p, p = (i + k) % N := ⟨_, rfl⟩
          have hpN : p < N := by rw [hp]; exact Nat.mod_lt _ (by omega)
          have hpL : p < L.length := by have := HN.out; omega
          have hpi : ((i : Int) + (k : Int)) % (N : Int) = (p : Int) := by rw [hp, ← Int.natCast_add]; exact (Int.natCast_emod (i + k) N).symm
          obtain ⟨g, o, rfl, hg, hm⟩ := (HL.out.later hb).at (i := p) (by simpa [mcs] using hpL)
          rw [mcs_at hpL] at hm
          obtain ⟨x, hx⟩ : ∃ x, x = L[p] := ⟨_, rfl⟩
          rw [← hx] at hm
          have HMt := Lib.hid hm; clear hm
          have hxo : McOk w x.1 x.2 := by rw [hx]; exact HLo.out.at hpL
          have HXo := Lib.hid hxo; clear hxo
          have hrx : (rot L k)[i]'(by rw [rot_len]; exact hiL) = x := by
            rw [rot_at hkL hiL, hx]
            congr 1
            rw [hp, HN.out]
          have hst : tur L k i = tur L k (i + 1) ++ [x] := by rw [tur_step hiL, hrx]
          have HST := Lib.hid hst
          obtain ⟨y, hy⟩ : ∃ y, why x.1 x.2 t tl l = y := ⟨_, rfl⟩
          have KR := Lib.hid (K7.out hl x y hy)
          have HY := Lib.hid hy
          have l1 : (cellsM (mcs (tur L k (i + 1)))).length ≤ 40 := by rw [cellsM_length, List.length_map, tur_len]; have := HN.out; omega
          have l2 : (cellsM (mcs (cand t tl l (tur L k (i + 1))))).length ≤ 40 := by rw [cellsM_length, List.length_map]; refine Nat.le_trans (cand_len _) ?_; rw [tur_len]; have := HN.out; omega
          obtain ⟨T1, hT1⟩ : ∃ T1, T1 = cellsM (mcs (tur L k (i + 1))) := ⟨_, rfl⟩
          obtain ⟨T2, hT2⟩ : ∃ T2, T2 = cellsM (mcs (cand t tl l (tur L k (i + 1)))) := ⟨_, rfl⟩
          have ho1 := HO1.out
          have ho2 := HO2.out
          rw [← hT1] at ho1 l1
          rw [← hT2] at ho2 l2
          have HQ1 := Lib.hid ho1; have HQ2 := Lib.hid ho2; have HT1' := Lib.hid hT1; have HT2' := Lib.hid hT2
          have HPI := Lib.hid hpi
          have kx : ∀ (y0 : Unit), True := fun _ => trivial
          clear ho1 ho2 HO1 HO2 hT1 hT2 hst hrx hy hx hp kx hj
          go_wp2_with (first | (with_reducible refine load_rg rfl 36 _ rfl g (o + p * 7) rfl x.1.arr _ HMt.out.rg Try.underlying36 rfl (by kernel_rfl) ?_) | ((with_reducible refine store_bk rfl 36 (.tmp 13) (.tmp 53) rfl wr.heap.size 0 x.1.arr rfl rfl 36 _ x.1.arr (Bk.fresh _ _ _) (by kernel_rfl) (by simp) (by kernel_rfl) rfl ?_); intro w3 hB1 hg1 hs1; clear hs1; have HX3 := Lib.hid hB1; clear hB1; have bl3 : Below wr.heap.size wr w3 := grown_below ((Below.refl _ _).alloc (Nat.le_refl _) _) hg1 (Nat.le_refl _); clear hg1; have HT3 := Lib.hid (HTb.out.later bl3); have hb3 : Below w.heap.size w w3 := hb.trans (bl3.mono hb.size); have HP1 := Lib.hid (HQ1.out.below bl3); have HP2 := Lib.hid (HQ2.out.below bl3); have lx3 : wr.heap.size < w3.heap.size := HX3.out.here) | ((with_reducible refine append_kl _ rfl (.tmp 54) (.tmp 56) 22 rfl (w.heap.size + 1) 36 _ 7 80 Try.underlying22 infoM rfl (by omega) u10 T1 rfl (HP1.out.alloc _) ⟨w3.heap.size, 0, none⟩ 1 1 (cellsM [x.1]) rfl (fresh_k w3 7 _ _ rfl) (cellsM_k _) (cellsM_one _) rfl (by simp [maxLen, cellsM_length]; omega) (by simp [cellsM_length]; omega) (by simp; omega) ?_); intro u10' w4 hO4 hg4 hl4; have HO4 := Lib.hid hO4; have HL4 := Lib.hid hl4; have HX4 := Lib.hid ((HX3.out.later ((Below.refl _ _).alloc (Nat.le_refl _) _)).stays hg4 (fun e => by have := HQ1.out.lt _ e.symm; omega)); have HT4 := Lib.hid ((HT3.out.later ((Below.refl _ _).alloc (Nat.le_refl _) _)).stays hg4 (fun e => by have := HQ1.out.block _ e.symm; omega)); have HR4 := Lib.hid ((HP2.out.alloc _).kept hg4 HAp.out); have hb4 : Below w.heap.size w w4 := (hb3.alloc hb3.size _).grown hg4 (by simp; omega) (fun g e => by have := HQ1.out.block _ e; omega); have lt4 : w.heap.size < w4.heap.size := HT4.out.here; have lx4 : wr.heap.size < w4.heap.size := HX4.out.here; clear hO4 hl4 hg4) | (with_reducible refine load_bk rfl 36 _ rfl wr.heap.size 0 rfl 36 x.1.arr x.1.arr _ HX3.out (Part.whole _) Try.underlying36 rfl (by kernel_rfl) ?_) | (with_reducible refine load_bk rfl 36 _ rfl wr.heap.size 0 rfl 36 x.1.arr x.1.arr _ HX4.out (Part.whole _) Try.underlying36 rfl (by kernel_rfl) ?_) | (with_reducible refine load_bk rfl 28 _ rfl w.heap.size 0 rfl 28 t.arr t.arr _ HT4.out (Part.whole _) Try.underlying28 rfl (by kernel_rfl) ?_))
          refine (KR.out _ (HA.out.later hb4) (HXo.out.later hb4) (HK.out.later hb4)).mono ?_; rintro v w5 ⟨rfl, hb5⟩
          have hB5 : Below w.heap.size w w5 := hb4.trans (hb5.mono hb4.size)
          have HX5 := Lib.hid (HX4.out.later hb5); have HT5 := Lib.hid (HT4.out.later hb5); have HO5 := Lib.hid (HO4.out.below hb5); have HR5 := Lib.hid (HR4.out.below hb5)
          have HAp5 : Hid (Apart u10' u11) := HAp.out.step HL4.out (fun g hg => by have := HQ2.out.lt g hg; simp; omega)
          have lt5 : w.heap.size < w5.heap.size := HT5.out.here
          have lx5 : wr.heap.size < w5.heap.size := HX5.out.here
          have HN1 : Hid (OwnK w5 (w.heap.size + 1) 36 7 u10' (cellsM (mcs (tur L k i)))) := by
            show OwnK _ _ _ _ _ _
            rw [HST.out, mcs_append, cellsM_append, ← HT1'.out]; exact HO5.out
          clear HX4 HT4 HO4 HR4 HL4 HX3 HT3 HP1 HP2 HQ1 HQ2 bl3 hb3 hb4 hb5 lx3 lt4 lx4 hpi HTb HMt lt0 hb hg HAp HT1'
          by_cases hy0 : y = 0
          case neg =>
            have dy : (y == 0) = false := by simpa using hy0
            have HN2 : Hid (OwnK w5 (w.heap.size + 1) 36 7 u11 (cellsM (mcs (cand t tl l (tur L k i))))) := by
              show OwnK _ _ _ _ _ _
              rw [HST.out, cand_no _ (by rw [HY.out]; exact hy0), ← HT2'.out]; exact HR5.out
            clear hy0
            go_wp2_with fail
            go_round
            case rel => exact ⟨i, (i : Int) - 1, by omega, by go_num, (show _ = _ from rfl), HN1, HN2, HAp5, HT5, hB5⟩
            case measure => first | (simp [intOf]; done) | (simp [intOf]; omega)
          case pos =>
            subst hy0
            have HE2 : Hid (cellsM (mcs (cand t tl l (tur L k i))) = T2 ++ cellsM [x.1]) := by
              show _ = _
              rw [HST.out, cand_yes _ HY.out, mcs_append, cellsM_append, ← HT2'.out]
            go_wp2_with (first | (with_reducible refine load_bk rfl 36 _ rfl wr.heap.size 0 rfl 36 x.1.arr x.1.arr _ HX5.out (Part.whole _) Try.underlying36 rfl (by kernel_rfl) ?_) | ((with_reducible refine append_kl _ rfl (.tmp 63) (.tmp 65) 22 rfl (w.heap.size + 1) 36 _ 7 80 Try.underlying22 infoM rfl (by omega) u11 T2 rfl (HR5.out.alloc _) ⟨w5.heap.size, 0, none⟩ 1 1 (cellsM [x.1]) rfl (fresh_k w5 7 _ _ rfl) (cellsM_k _) (cellsM_one _) rfl (by simp [maxLen, cellsM_length]; omega) (by simp [cellsM_length]; omega) (by simp; omega) ?_); intro u11' w6 hO6 hg6 hl6; have HO6 := Lib.hid hO6; have HL6 := Lib.hid hl6; have HG6 := Lib.hid hg6; clear hO6 hl6 hg6))
            go_round
            case rel => exact ⟨i, (i : Int) - 1, by omega, by go_num, (show _ = _ from rfl), Lib.hid ((HN1.out.alloc _).kept HG6.out HAp5.out.symm), (by show OwnK _ _ _ _ _ _; rw [HE2.out]; exact HO6.out), Lib.hid ((HAp5.out.symm.step HL6.out (fun g hg => by have := HN1.out.lt g hg; simp; omega)).symm), Lib.hid ((HT5.out.later ((Below.refl _ _).alloc (Nat.le_refl _) _)).stays HG6.out (fun e => by have := HR5.out.block _ e.symm; omega)), (hB5.alloc hB5.size _).grown HG6.out (by simp; omega) (fun g e => by have := HR5.out.block _ e; omega)⟩
            case measure => first | (simp [intOf]; done) | (simp [intOf]; omega)
        case pos =>
          subst hj0
          have hz : z = -1 := by have := HZ.out; omega
          subst hz
          obtain ⟨A1, c1, hv1, hr1, hc1, hm1⟩ := OwnK.rdm HO1.out
          obtain ⟨A2, c2, hv2, hr2, hc2, hm2⟩ := OwnK.rdm HO2.out
          have e1 : (mcs (tur L k 0)).length = N := by rw [List.length_map, tur_len]; have := HN.out; omega
          have e2 : (mcs (cand t tl l (tur L k 0))).length = E.length := by
            have h1 := srt_cand_len (t := t) (tl := tl) (l := l) (tur L k 0)
            rw [srt_cand, srt_tur] at h1
            rw [List.length_map, ← h1, ← HE.out]; simp [nms]
          have hel : E.length ≤ N := by
            rw [← e2, List.length_map]
            refine Nat.le_trans (cand_len _) ?_
            rw [tur_len]; have := HN.out; omega
          rw [e1] at hv1 hc1
          rw [e2] at hv2 hc2
          subst hv1 hv2
          have HR1 := Lib.hid hr1; have HR2 := Lib.hid hr2
          have HLN : Hid (N = (tur L k 0).length) := by show _ = _; rw [tur_len]; have := HN.out; omega
          have HLE : Hid (E.length = (cand t tl l (tur L k 0)).length) := by show _ = _; rw [← e2, List.length_map]
          have HS1 : Hid (srt t tl l (tur L k 0) = srt t tl l L) := srt_tur L k
          have HS2 : Hid (srt t tl l (cand t tl l (tur L k 0)) = srt t tl l L) := (srt_cand _).trans (srt_tur L k)
          have HM1 : Hid (MsOk w (tur L k 0)) := fun x hx => HLo.out x (tur_sub L k 0 x hx)
          have HM2 : Hid (MsOk w (cand t tl l (tur L k 0))) := fun x hx => HLo.out x (tur_sub L k 0 x (cand_sub _ x hx))
          have hNl : N ≤ 1000000 := by omega
          have hEl : E.length ≤ 1000000 := by omega
          clear HO1 HO2 HAp hr1 hr2 e1 e2 HZ
          go_wp2_with fail
          refine wp_region_held_drew (S := fun X => Below wr.heap.size wr X) (by kernel_rfl) (Below.drew (Below.refl _ _)) (fun hS0 => ?_)
          refine wpAnyH_take (i := 0) (v := ?_) rfl (by kernel_rfl) (by kernel_rfl) (by kernel_rfl) (fun _ _ _ h => h) (Or.inl ⟨by rfl, ?_⟩) hS0 ?_
          rotate_left
          · intro W _; go_simp; try with_reducible rfl
          try simp only [Act.put, List.getElem_toArray, List.getElem_cons_zero, List.getElem_cons_succ, List.setIfInBounds_toArray, List.set_cons_zero, List.set_cons_succ]
          refine wpAnyH_take (i := 1) (v := ?_) rfl (by kernel_rfl) (by kernel_rfl) (by kernel_rfl) (fun _ _ _ h => h) (Or.inl ⟨by rfl, ?_⟩) hS0 ?_
          rotate_left
          · intro W _; go_simp; try with_reducible rfl
          try simp only [Act.put, List.getElem_toArray, List.getElem_cons_zero, List.getElem_cons_succ, List.setIfInBounds_toArray, List.set_cons_zero, List.set_cons_succ]
          refine wpAnyH_take (i := 4) (v := ?_) rfl (by kernel_rfl) (by kernel_rfl) (by kernel_rfl) (fun _ _ _ h => h) (Or.inl ⟨by rfl, ?_⟩) hS0 ?_
          rotate_left
          · intro W _; go_simp; try with_reducible rfl
          try simp only [Act.put, List.getElem_toArray, List.getElem_cons_zero, List.getElem_cons_succ, List.setIfInBounds_toArray, List.set_cons_zero, List.set_cons_succ]
          refine wpAnyH_take (i := 5) (v := ?_) rfl (by kernel_rfl) (by kernel_rfl) (by kernel_rfl) (fun _ _ _ h => h) (Or.inl ⟨by rfl, ?_⟩) hS0 ?_
          rotate_left
          · intro W _; go_simp; try with_reducible rfl
          try simp only [Act.put, List.getElem_toArray, List.getElem_cons_zero, List.getElem_cons_succ, List.setIfInBounds_toArray, List.set_cons_zero, List.set_cons_succ]
          refine wpAnyH_take (i := 8) (v := ?_) rfl (by kernel_rfl) (by kernel_rfl) (by kernel_rfl) (fun _ _ _ h => h) (Or.inl ⟨by rfl, ?_⟩) hS0 ?_
          rotate_left
          · intro W _; go_simp; try with_reducible rfl
          try simp only [Act.put, List.getElem_toArray, List.getElem_cons_zero, List.getElem_cons_succ, List.setIfInBounds_toArray, List.set_cons_zero, List.set_cons_succ]
          refine wpAnyH_take (i := 9) (v := ?_) rfl (by kernel_rfl) (by kernel_rfl) (by kernel_rfl) (fun _ _ _ h => h) (Or.inl ⟨by rfl, ?_⟩) hS0 ?_
          rotate_left
          · intro W _; go_simp; try with_reducible rfl
          try simp only [Act.put, List.getElem_toArray, List.getElem_cons_zero, List.getElem_cons_succ, List.setIfInBounds_toArray, List.set_cons_zero, List.set_cons_succ]
          refine wpAnyH_take (i := 2) (v := .agg t.arr) rfl (by kernel_rfl) (by kernel_rfl) (by kernel_rfl) (fun _ _ _ h => h) (yields_bk rfl 28 _ rfl (w.heap.size) 0 rfl 28 t.arr t.arr _ (fun W hW => HTb.out.later hW) (Part.whole _) Try.underlying28 rfl (by kernel_rfl)) hS0 ?_
          try simp only [Act.put, List.getElem_toArray, List.getElem_cons_zero, List.getElem_cons_succ, List.setIfInBounds_toArray, List.set_cons_zero, List.set_cons_succ]
          refine wpAnyH_take (i := 6) (v := .agg t.arr) rfl (by kernel_rfl) (by kernel_rfl) (by kernel_rfl) (fun _ _ _ h => h) (yields_bk rfl 28 _ rfl (w.heap.size) 0 rfl 28 t.arr t.arr _ (fun W hW => HTb.out.later hW) (Part.whole _) Try.underlying28 rfl (by kernel_rfl)) hS0 ?_
          try simp only [Act.put, List.getElem_toArray, List.getElem_cons_zero, List.getElem_cons_succ, List.setIfInBounds_toArray, List.set_cons_zero, List.set_cons_succ]
          refine wpAnyH_take (i := 10) (v := .agg t.arr) rfl (by kernel_rfl) (by kernel_rfl) (by kernel_rfl) (fun _ _ _ h => h) (yields_bk rfl 28 _ rfl (w.heap.size) 0 rfl 28 t.arr t.arr _ (fun W hW => HTb.out.later hW) (Part.whole _) Try.underlying28 rfl (by kernel_rfl)) hS0 ?_
          try simp only [Act.put, List.getElem_toArray, List.getElem_cons_zero, List.getElem_cons_succ, List.setIfInBounds_toArray, List.set_cons_zero, List.set_cons_succ]
          refine wpAnyH_ready (rs := [3]) (by kernel_rfl) (by simp) ?_
          refine AllReadyH.cons rfl (fun K hK => ?_) AllReadyH.nil
          go_simp
          have hBS : Below w.heap.size w _ := hb.trans (hS0.mono hb.size)
          refine (K3.out _ _ _ L HN (show _ = _ from rfl) hNl hl _ (HL.out.later hBS) (HLo.out.later hBS) (HA.out.later hBS) (HK.out.later hBS)).mono ?_
          rintro v x1 ⟨⟨uP, rfl, hO⟩, hbl⟩
          obtain ⟨BP, cP, hv, hrP, hcP, hmP⟩ := hO.rds
          subst hv
          have HRP := Lib.hid hrP; clear hrP hO
          go_simp
          refine hK.out _ _ (hS0.trans (hbl.mono hS0.size)) (fun hS1 => ?_)
          clear hK K hBS
          try simp only [Act.put, List.getElem_toArray, List.getElem_cons_zero, List.getElem_cons_succ, List.setIfInBounds_toArray, List.set_cons_zero, List.set_cons_succ]
          clear hbl
          refine wpAnyH_ready (rs := [7]) (by kernel_rfl) (by simp) ?_
          refine AllReadyH.cons rfl (fun K hK => ?_) AllReadyH.nil
          go_simp
          have hBS : Below w.heap.size w _ := hb.trans (hS1.mono hb.size)
          refine (K3.out _ _ _ (tur L k 0) HLN HS1 hNl hl _ (HR1.out.later hS1) (HM1.out.later hBS) (HA.out.later hBS) (HK.out.later hBS)).mono ?_
          rintro v x2 ⟨⟨uQ, rfl, hO⟩, hbl⟩
          obtain ⟨BQ, cQ, hv, hrQ, hcQ, hmQ⟩ := hO.rds
          subst hv
          have HRQ := Lib.hid hrQ; clear hrQ hO
          go_simp
          refine hK.out _ _ (hS1.trans (hbl.mono hS1.size)) (fun hS2 => ?_)
          clear hK K hBS
          try simp only [Act.put, List.getElem_toArray, List.getElem_cons_zero, List.getElem_cons_succ, List.setIfInBounds_toArray, List.set_cons_zero, List.set_cons_succ]
          have HRP2 := Lib.hid (HRP.out.later hbl); clear hbl HRP
          refine wpAnyH_ready (rs := [11]) (by kernel_rfl) (by simp) ?_
          refine AllReadyH.cons rfl (fun K hK => ?_) AllReadyH.nil
          go_simp
          have hBS : Below w.heap.size w _ := hb.trans (hS2.mono hb.size)
          refine (K3.out _ _ _ (cand t tl l (tur L k 0)) HLE HS2 hEl hl _ (HR2.out.later hS2) (HM2.out.later hBS) (HA.out.later hBS) (HK.out.later hBS)).mono ?_
          rintro v x3 ⟨⟨uR, rfl, hO⟩, hbl⟩
          obtain ⟨BR, cR, hv, hrR, hcR, hmR⟩ := hO.rds
          subst hv
          have HRR := Lib.hid hrR; clear hrR hO
          go_simp
          refine hK.out _ _ (hS2.trans (hbl.mono hS2.size)) (fun hS3 => ?_)
          clear hK K hBS
          try simp only [Act.put, List.getElem_toArray, List.getElem_cons_zero, List.getElem_cons_succ, List.setIfInBounds_toArray, List.set_cons_zero, List.set_cons_succ]
          have HRP3 := Lib.hid (HRP2.out.later hbl); have HRQ3 := Lib.hid (HRQ.out.later hbl); clear hbl HRP2 HRQ
          refine wpAnyH_take (i := 12) (v := ?_) rfl (by kernel_rfl) (by kernel_rfl) (by kernel_rfl) (fun _ _ _ h => h) (Or.inl ⟨by rfl, ?_⟩) hS3 ?_
          rotate_left
          · intro W _; go_simp; try with_reducible rfl
          try simp only [Act.put, List.getElem_toArray, List.getElem_cons_zero, List.getElem_cons_succ, List.setIfInBounds_toArray, List.set_cons_zero, List.set_cons_succ]
          refine wpAnyH_take (i := 13) (v := ?_) rfl (by kernel_rfl) (by kernel_rfl) (by kernel_rfl) (fun _ _ _ h => h) (Or.inl ⟨by rfl, ?_⟩) hS3 ?_
          rotate_left
          · intro W _; go_simp; try with_reducible rfl
          try simp only [Act.put, List.getElem_toArray, List.getElem_cons_zero, List.getElem_cons_succ, List.setIfInBounds_toArray, List.set_cons_zero, List.set_cons_succ]
          refine wpAnyH_take (i := 14) (v := ?_) rfl (by kernel_rfl) (by kernel_rfl) (by kernel_rfl) (fun _ _ _ h => h) (Or.inl ⟨by rfl, ?_⟩) hS3 ?_
          rotate_left
          · intro W _; go_simp; try with_reducible rfl
          try simp only [Act.put, List.getElem_toArray, List.getElem_cons_zero, List.getElem_cons_succ, List.setIfInBounds_toArray, List.set_cons_zero, List.set_cons_succ]
          refine wpAnyH_done (by kernel_rfl) ?_ _
          have hB3 : Below w.heap.size w x3 := hb.trans (hS3.mono hb.size)
          clear hS0 hS1 hS2 hS3 HTb hb
          go_wp2_with fail
          refine (rtexts_any BP E.length cP E BQ E.length cQ E _ (show E.length = E.length from rfl) (show E.length = E.length from rfl) (by omega) (by omega) HRP3.out HRQ3.out).mono ?_; rintro v x4 ⟨rfl, hb4⟩
          have hB4 : Below w.heap.size w x4 := hB3.trans (hb4.mono hB3.size)
          have HRP4 := Lib.hid (HRP3.out.later hb4); have HRR4 := Lib.hid (HRR.out.later hb4); clear hb4 hB3 HRP3 HRQ3 HRR
          have hsm : sameS E E = true := by simp [sameS]
          rw [hsm]
          go_wp2_with fail
          refine (rtexts_any BP E.length cP E BR E.length cR E _ (show E.length = E.length from rfl) (show E.length = E.length from rfl) (by omega) (by omega) HRP4.out HRR4.out).mono ?_; rintro v x5 ⟨rfl, hb5⟩
          rw [hsm]
          go_wp2_with fail
          go_ret
          exact ⟨rfl, hB4.trans (hb5.mono hB4.size)⟩
end rankOrder
end Go.Proofs.Ythikdhgkjcdepaa
