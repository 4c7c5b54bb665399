/- The walk of FeasLess. No condition beyond the form's own. -/
import Derived.Test.YtpmbbhhckhifgaaWl
import Derived.Deep.DeepCutAuto
import Derived.Deep.RegionHeld3
namespace Go.Proofs.Ytpmbbhhckhifgaa
open Go.RowKit
set_option linter.unusedSimpArgs false
set_option linter.unusedVariables false
namespace feasLess


theorem rdj_take {w : World} {A : Option Addr} {l : List Jb} (h : RdJ w A l) (k : Nat) : RdJ w A (l.take k) := by
  have := RdK.take h k
  unfold RdJ cellsJ at *
  rw [List.map_take]; exact this
theorem rdj_drop {w : World} {A : Option Addr} {l : List Jb} (h : RdJ w A l) {j cap : Nat} (hl : l.length ≤ cap) : RdJ w (if cap = j then A else Option.map (fun x => x.add (j * 13)) A) (l.drop j) := by
  intro i x hx
  have hx' : (cellsJ l)[j + i]? = some x := by
    unfold cellsJ at hx ⊢
    rw [List.map_drop, List.getElem?_drop] at hx; exact hx
  have hlt := (List.getElem?_eq_some_iff.1 hx').1
  rw [cellsJ_length] at hlt
  obtain ⟨g, o, rfl, hr⟩ := h _ _ hx'
  rw [if_neg (by omega)]
  exact ⟨g, o + j * 13, by simp [Addr.add_lit], by rw [Nat.add_assoc, ← Nat.add_mul]; exact hr⟩

set_option maxHeartbeats 12800000 in
set_option maxRecDepth 100000 in
theorem walk (m : Mc) (ml : List Lb) (A : Option Addr) (n cap : Nat) (l : List Jb) (t : Kt) (tl : List Lb) (at_ d e f : Int) (w : World) (hm : McOk w m ml) (hn : n = l.length) (hA : RdJ w A l) (hc : n ≤ cap) (hc2 : cap ≤ 9223372036854775807) (ht : KtOk w t tl) (hat : (Lit.int .u64 at_).wf = true) :
    Calls Try.prog 4 #[.agg m.arr, .slice A n cap, .agg t.arr, .int .u64 at_, .agg #[.int .i64 d, .int .i64 e, .int .i64 f]] w fun r w' => r = .returned (.bool true) ∧ Below w.heap.size w w' := by
  obtain ⟨FT, hFT⟩ : ∃ FT, fB d e f t.a t.b t.c = FT := ⟨_, rfl⟩
  obtain ⟨RT, hRT⟩ : ∃ RT, rB d e f = RT := ⟨_, rfl⟩
  have k5 := fun W => fits_any d e f t.a t.b t.c W
  have k7 := fun W => right_any d e f W
  rw [hFT] at k5
  rw [hRT] at k7
  have K5 := Lib.hid k5; have K7 := Lib.hid k7; have HFT := Lib.hid hFT; have HRT := Lib.hid hRT
  clear k5 k7 hFT hRT
  obtain ⟨FW, hFW⟩ : ∃ FW, fewM [m] n = FW := ⟨_, rfl⟩
  have kf := fun (A' : Option Addr) (W : World) (h : RdM W A' [m]) => few_any A' 1 1 [m] A n cap W (show 1 = 1 from rfl) (by omega) (by omega) h
  rw [hFW] at kf
  have KF := Lib.hid kf; have HFW := Lib.hid hFW; clear kf hFW

  obtain ⟨r, hr⟩ : ∃ r, why m ml t tl l = r := ⟨_, rfl⟩
  have kw := fun (hl : n ≤ 1000000) (W : World) (h1 : RdJ W A l) (h2 : McOk W m ml) (h3 : KtOk W t tl) => why_any m ml A n cap l t tl W hn hl h1 h2 h3 r hr
  have KW := Lib.hid kw; have HA := Lib.hid hA; have HM := Lib.hid hm; have HT := Lib.hid ht; have HR := Lib.hid hr; have HL := Lib.hid hn
  clear kw hA hm ht hr hn
  go_enter Try.func4, Try.ntmps4
  have HM0 := Lib.hid (show Bk (((w.alloc (.cells m.arr 28)).alloc (.cells t.arr 31)).alloc (.cells #[.int .i64 d, .int .i64 e, .int .i64 f] 23)) w.heap.size 28 m.arr from ((Bk.fresh w _ _).later ((Below.refl _ _).alloc (Nat.le_refl _) _)).later ((Below.refl _ _).alloc (Nat.le_refl _) _))
  have HT0 := Lib.hid (show Bk (((w.alloc (.cells m.arr 28)).alloc (.cells t.arr 31)).alloc (.cells #[.int .i64 d, .int .i64 e, .int .i64 f] 23)) (w.heap.size + 1) 31 t.arr from (Bk.freshAt _ _ _ (by simp)).later ((Below.refl _ _).alloc (Nat.le_refl _) _))
  have HN0 := Lib.hid (show Bk (((w.alloc (.cells m.arr 28)).alloc (.cells t.arr 31)).alloc (.cells #[.int .i64 d, .int .i64 e, .int .i64 f] 23)) (w.heap.size + 1 + 1) 23 #[.int .i64 d, .int .i64 e, .int .i64 f] from Bk.freshAt _ _ _ (by simp))
  have hB0 : Below w.heap.size w (((w.alloc (.cells m.arr 28)).alloc (.cells t.arr 31)).alloc (.cells #[.int .i64 d, .int .i64 e, .int .i64 f] 23)) := (((Below.refl _ _).alloc (Nat.le_refl _) _).alloc (by simp) _).alloc (by simp; omega) _
  go_wp2_with fail
  refine (awake_any _).mono ?_; rintro v w1 ⟨rfl, hb1⟩
  have hB1 : Below w.heap.size w w1 := hB0.trans (hb1.mono hB0.size)
  have HM1 := Lib.hid (HM0.out.later hb1); have HT1 := Lib.hid (HT0.out.later hb1); clear HM0 HT0; have HN1 := Lib.hid (HN0.out.later hb1); clear HN0
  go_wp2_with (with_reducible refine load_bk rfl 28 _ rfl w.heap.size 0 rfl 28 m.arr m.arr _ HM1.out (Part.whole _) Try.underlying28 rfl (by kernel_rfl) ?_)
  have hF1 : RdM (w1.alloc (.cells m.arr 28)) (some ⟨w1.heap.size, 0, none⟩) [m] := fresh_k w1 7 m.cells 28 rfl
  have bl1 : Below w1.heap.size w1 (w1.alloc (.cells m.arr 28)) := (Below.refl _ _).alloc (Nat.le_refl _) _
  refine (KF.out _ _ hF1).mono ?_; rintro v w2 ⟨rfl, hb2⟩
  have hB1' : Below w.heap.size w (w1.alloc (.cells m.arr 28)) := hB1.alloc hB1.size _
  have hB2 : Below w.heap.size w w2 := hB1'.trans (hb2.mono hB1'.size)
  have HM2 := Lib.hid ((HM1.out.later bl1).later hb2); have HT2 := Lib.hid ((HT1.out.later bl1).later hb2); clear HM1 HT1; have HN2 := Lib.hid ((HN1.out.later bl1).later hb2); clear HN1
  clear hF1 bl1 hb1 hb2 hB0 hB1 hB1'
  cases FW
  case false =>
    go_wp2_with fail
    refine (awake_any _).mono ?_; rintro v wz ⟨rfl, hbz⟩
    go_wp2_with fail
    go_ret
    exact ⟨rfl, hB2.trans (hbz.mono hB2.size)⟩
  case true =>
    have hfw : n ≤ 200 := by have h := HFW.out; unfold fewM at h; simp only [Bool.and_eq_true, decide_eq_true_eq] at h; exact h.1.2
    have ct : w2.cell? ⟨w.heap.size + 1, 6, none⟩ = some (.slice t.A t.n t.cp) := HT2.out.cellAt 6
    have z1 : w.heap.size + 1 < w2.heap.size := HT2.out.here
    by_cases ht20 : t.n ≤ 20
    case neg =>
      go_wp2_with fail
      refine (awake_any _).mono ?_; rintro v wz ⟨rfl, hbz⟩
      go_wp2_with fail
      go_ret
      exact ⟨rfl, hB2.trans (hbz.mono hB2.size)⟩
    case pos =>
      have d20 : decide (20 < (t.n : Int)) = false := by rw [decide_eq_false_iff_not]; omega
      go_wp2_with (first | (with_reducible refine load_bk rfl 28 _ rfl w.heap.size 0 rfl 28 m.arr m.arr _ HM2.out (Part.whole _) Try.underlying28 rfl (by kernel_rfl) ?_) | (with_reducible refine load_bk rfl 31 _ rfl (w.heap.size + 1) 0 rfl 31 t.arr t.arr _ HT2.out (Part.whole _) Try.underlying31 rfl (by kernel_rfl) ?_))
      refine (KW.out (by omega) _ (HA.out.later hB2) (HM.out.later hB2) (HT.out.later hB2)).mono ?_; rintro v w3 ⟨rfl, hb3⟩
      have hB3 : Below w.heap.size w w3 := hB2.trans (hb3.mono hB2.size)
      have HM3 := Lib.hid (HM2.out.later hb3); have HT3 := Lib.hid (HT2.out.later hb3); clear HM2 HT2 ct z1; have HN3 := Lib.hid (HN2.out.later hb3); clear HN2
      by_cases h0 : r = 0
      case neg =>
        have hd : decide (r = 0) = false := decide_eq_false h0
        go_wp2_with fail
        refine (awake_any _).mono ?_; rintro v wz ⟨rfl, hbz⟩
        go_wp2_with fail
        go_ret
        exact ⟨rfl, hB3.trans (hbz.mono hB3.size)⟩
      subst h0

      have hok : t.ok tl = true := by obtain ⟨_, _, _, _, _, h, _⟩ := why_0 HR.out; exact h
      have k6 := fun (W : World) (h1 : RdJ W A l) (h2 : McOk W m ml) (h3 : KtOk W t tl) => why_any m ml A n cap l (t.plain t.a t.b t.c) [] W HL.out (by omega) h1 h2 (okPlain h3) 0 (why_plain HR.out (taskB_r hok) (fB_mk ⟨Int.le_refl _, Int.le_refl _, Int.le_refl _⟩))
      have K6 := Lib.hid k6; clear k6 hok KW KF HFW
      by_cases hn0 : 0 < n
      case pos =>
        obtain ⟨k, hk, hkn⟩ : ∃ k : Nat, k < n ∧ wrap64 (at_.tmod (n : Int)) = (k : Int) := by
          have h0 : 0 ≤ at_ := by have h := hat; simp only [Lit.wf, Bool.and_eq_true, decide_eq_true_eq] at h; exact h.1
          have h1 := Int.tmod_nonneg (n : Int) h0
          have h2 := Int.tmod_lt_of_pos at_ (show (0 : Int) < n by omega)
          refine ⟨(at_.tmod (n : Int)).toNat, by omega, ?_⟩
          rw [Int.toNat_of_nonneg h1]
          unfold wrap64; omega
        go_upto_region 5 with fail
        simp only [hkn]
        clear hkn
        have hkc : k ≤ cap := by omega
        obtain ⟨j, hj⟩ : ∃ j, j = k + 1 := ⟨_, rfl⟩
        have hjn : j ≤ n := by omega
        have hjc : j ≤ cap := by omega
        have hw : IntKind.i64.wrap ((k : Int) + 1) = (j : Int) := by rw [IntKind.wrap_i64, hj]; omega
        have hnl : l.length ≤ 200 := by have := HL.out; omega
        have hlj : (l.take k ++ l.drop j).Sublist l := by
          rw [hj]
          conv => rhs; rw [← List.take_append_drop k l]
          exact (List.Sublist.refl _).append (by rw [← List.drop_drop]; exact List.drop_sublist _ _)
        have hwl := why_less HR.out hlj
        obtain ⟨n2, hn2⟩ : ∃ n2, n2 = (l.take k ++ l.drop j).length := ⟨_, rfl⟩
        have hn2l : n2 ≤ 200 := by rw [hn2]; exact Nat.le_trans hlj.length_le hnl
        have k9 := fun (A2 : Option Addr) (c2 : Nat) (W : World) (h : Hid (RdJ W A2 (l.take k ++ l.drop j))) (h2 : McOk W m ml) (h3 : KtOk W t tl) => why_any m ml A2 n2 c2 (l.take k ++ l.drop j) t tl W hn2 (by omega) h h2 h3 0 hwl
        have K9 := Lib.hid k9; have HL2 := Lib.hid hn2; have HJ := Lib.hid hj
        obtain ⟨A8, hA8⟩ : ∃ A8, (if cap = j then A else Option.map (fun x => x.add (j * 13)) A) = A8 := ⟨_, rfl⟩
        have hA3 := HA.out.later hB3
        have hAd := rdj_drop (j := j) (cap := cap) hA3 (by have := HL.out; omega)
        rw [hA8] at hAd
        have HAt := Lib.hid (show RdK w3 13 A (cellsJ (l.take k)) from rdj_take hA3 k)
        have HAd := Lib.hid (show RdK w3 13 A8 (cellsJ (l.drop j)) from hAd)
        have HMt : Hid (k = (cellsJ (l.take k)).length) := by show _ = _; rw [cellsJ_length, List.length_take]; have := HL.out; omega
        have HMd : Hid (n - j = (cellsJ (l.drop j)).length) := by show _ = _; rw [cellsJ_length, List.length_drop, HL.out]
        have HA8 := Lib.hid hA8
        clear hj hlj hwl hn2 k9 hA8 hA3 hAd
        refine wp_region_held_drew (S := fun W => Below w3.heap.size w3 W) (by kernel_rfl) (Below.drew (Below.refl _ _)) (fun hS0 => ?_)
        refine wpAnyH_take (i := 1) (v := ?_) rfl (by kernel_rfl) (by kernel_rfl) (by kernel_rfl) (fun _ _ _ h => h) (Or.inl ⟨by rfl, ?_⟩) hS0 ?_
        rotate_left
        · intro W _; go_simp; try with_reducible rfl
        try simp only [Act.put, List.getElem_toArray, List.getElem_cons_zero, List.getElem_cons_succ, List.setIfInBounds_toArray, List.set_cons_zero, List.set_cons_succ]
        refine wpAnyH_take (i := 2) (v := ?_) rfl (by kernel_rfl) (by kernel_rfl) (by kernel_rfl) (fun _ _ _ h => h) (Or.inl ⟨by rfl, ?_⟩) hS0 ?_
        rotate_left
        · intro W _; go_simp; try with_reducible rfl
        try simp only [Act.put, List.getElem_toArray, List.getElem_cons_zero, List.getElem_cons_succ, List.setIfInBounds_toArray, List.set_cons_zero, List.set_cons_succ]
        refine wpAnyH_take (i := 3) (v := ?_) rfl (by kernel_rfl) (by kernel_rfl) (by kernel_rfl) (fun _ _ _ h => h) (Or.inl ⟨by rfl, ?_⟩) hS0 ?_
        rotate_left
        · intro W _; go_simp; try with_reducible rfl
        try simp only [Act.put, List.getElem_toArray, List.getElem_cons_zero, List.getElem_cons_succ, List.setIfInBounds_toArray, List.set_cons_zero, List.set_cons_succ]
        refine wpAnyH_take (i := 5) (v := ?_) rfl (by kernel_rfl) (by kernel_rfl) (by kernel_rfl) (fun _ _ _ h => h) (Or.inl ⟨by rfl, ?_⟩) hS0 ?_
        rotate_left
        · intro W _; go_simp; try with_reducible rfl
        try simp only [Act.put, List.getElem_toArray, List.getElem_cons_zero, List.getElem_cons_succ, List.setIfInBounds_toArray, List.set_cons_zero, List.set_cons_succ]
        refine wpAnyH_take (i := 6) (v := ?_) rfl (by kernel_rfl) (by kernel_rfl) (by kernel_rfl) (fun _ _ _ h => h) (Or.inl ⟨by rfl, ?_⟩) hS0 ?_
        rotate_left
        · intro W _; go_simp; try with_reducible rfl
        try simp only [Act.put, List.getElem_toArray, List.getElem_cons_zero, List.getElem_cons_succ, List.setIfInBounds_toArray, List.set_cons_zero, List.set_cons_succ]
        refine wpAnyH_take (i := 7) (v := ?_) rfl (by kernel_rfl) (by kernel_rfl) (by kernel_rfl) (fun _ _ _ h => h) (Or.inl ⟨by rfl, ?_⟩) hS0 ?_
        rotate_left
        · intro W _; go_simp; try with_reducible rfl
        try simp only [Act.put, List.getElem_toArray, List.getElem_cons_zero, List.getElem_cons_succ, List.setIfInBounds_toArray, List.set_cons_zero, List.set_cons_succ]
        refine wpAnyH_take (i := 8) (v := .slice A8 (n - j) (cap - j)) rfl (by kernel_rfl) (by kernel_rfl) (by kernel_rfl) (fun _ _ _ h => h) (Or.inl ⟨by rfl, ?_⟩) hS0 ?_
        · intro W _; go_simp; rw [HA8.out]
        try simp only [Act.put, List.getElem_toArray, List.getElem_cons_zero, List.getElem_cons_succ, List.setIfInBounds_toArray, List.set_cons_zero, List.set_cons_succ]
        refine wpAnyH_ready (rs := [0]) (by kernel_rfl) (by simp) ?_
        refine AllReadyH.cons rfl (fun K hK => ?_) AllReadyH.nil
        refine none_op rfl ?_
        intro g46 v1 hg46 hE hbl
        have hg46' : w3.heap.size ≤ g46 := by have := hS0.size; omega
        have HE := Lib.hid hE; clear hE hg46
        refine hK.out _ _ (hS0.trans (hbl.mono hS0.size)) (fun hS1 => ?_)
        clear hK K
        try simp only [Act.put, List.getElem_toArray, List.getElem_cons_zero, List.getElem_cons_succ, List.setIfInBounds_toArray, List.set_cons_zero, List.set_cons_succ]
        refine wpAnyH_ready (rs := [4]) (by kernel_rfl) (by simp) ?_
        refine AllReadyH.cons rfl (fun K hK => ?_) AllReadyH.nil
        refine append_kn_op _ (.tmp 46) (.tmp 49) 29 rfl w3.heap.size 40 _ 13 160 Try.underlying29 infoJ rfl (by omega) (.slice (some ⟨g46, 0, none⟩) 0 0) [] rfl (OwnK.of_empty HE.out hg46') A cap k (cellsJ (l.take k)) rfl (RdK.later HAt.out hS1) (cellsJ_k _) (cellsJ_one _) HMt.out (by simp [cellsJ, maxLen]; omega) (by simp [cellsJ, maxLen]; omega) hS1.size ?_
        intro u48 v2 hV hgr
        have HV := Lib.hid (show OwnK _ _ _ _ _ (cellsJ (l.take k)) from hV); clear hV
        have hbl2 : Below w3.heap.size _ v2 := grown_base hgr hS1.size (by intro kk ee; cases ee; exact hg46')
        clear HE hgr
        refine hK.out _ _ (hS1.trans hbl2) (fun hS2 => ?_)
        clear hK K
        try simp only [Act.put, List.getElem_toArray, List.getElem_cons_zero, List.getElem_cons_succ, List.setIfInBounds_toArray, List.set_cons_zero, List.set_cons_succ]
        refine wpAnyH_ready (rs := [9]) (by kernel_rfl) (by simp) ?_
        refine AllReadyH.cons rfl (fun K hK => ?_) AllReadyH.nil
        refine append_kn_op _ (.tmp 50) (.tmp 54) 29 rfl w3.heap.size 40 _ 13 160 Try.underlying29 infoJ rfl (by omega) u48 (cellsJ (l.take k)) rfl HV.out A8 (cap - j) (n - j) (cellsJ (l.drop j)) rfl (RdK.later HAd.out hS2) (cellsJ_k _) (cellsJ_one _) HMd.out (by simp [cellsJ, maxLen]; omega) (by simp [cellsJ, maxLen]; omega) hS2.size ?_
        intro u51 v3 hO hgr
        rw [← cellsJ_append] at hO
        obtain ⟨A2, c2, hv2, hr2, hc3, hc4⟩ := hO.rdj
        rw [← HL2.out] at hv2 hc3
        subst hv2
        have HQ := Lib.hid hr2; clear hr2 hO
        have hbl3 : Below w3.heap.size _ v3 := grown_base hgr hS2.size HV.out.block
        clear HV hgr
        refine hK.out _ _ (hS2.trans hbl3) (fun hS3 => ?_)
        clear hK K
        try simp only [Act.put, List.getElem_toArray, List.getElem_cons_zero, List.getElem_cons_succ, List.setIfInBounds_toArray, List.set_cons_zero, List.set_cons_succ]
        refine wpAnyH_take (i := 10) (v := ?_) rfl (by kernel_rfl) (by kernel_rfl) (by kernel_rfl) (fun _ _ _ h => h) (Or.inl ⟨by rfl, ?_⟩) hS3 ?_
        rotate_left
        · intro W _; go_simp; try with_reducible rfl
        try simp only [Act.put, List.getElem_toArray, List.getElem_cons_zero, List.getElem_cons_succ, List.setIfInBounds_toArray, List.set_cons_zero, List.set_cons_succ]
        refine wpAnyH_done (by kernel_rfl) ?_ _
        have hB4 : Below w.heap.size w v3 := hB3.trans (hS3.mono hB3.size)
        have HM4 := Lib.hid (HM3.out.later hS3); have HT4 := Lib.hid (HT3.out.later hS3); have HN4 := Lib.hid (HN3.out.later hS3)
        clear hS0 hS1 hS2 hbl hbl2 hbl3 HM3 HT3 HN3 HA8 HAt HAd HMt HMd hw
        go_wp2_with (first | (with_reducible refine load_bk rfl 28 _ rfl w.heap.size 0 rfl 28 m.arr m.arr _ HM4.out (Part.whole _) Try.underlying28 rfl (by kernel_rfl) ?_) | (with_reducible refine load_bk rfl 31 _ rfl (w.heap.size + 1) 0 rfl 31 t.arr t.arr _ HT4.out (Part.whole _) Try.underlying31 rfl (by kernel_rfl) ?_))
        refine (K9.out A2 c2 _ HQ (HM.out.later hB4) (HT.out.later hB4)).mono ?_; rintro v w5 ⟨rfl, hb5⟩
        have hB5 : Below w.heap.size w w5 := hB4.trans (hb5.mono hB4.size)
        have HM5 := Lib.hid (HM4.out.later hb5); have HT5 := Lib.hid (HT4.out.later hb5); have HN5 := Lib.hid (HN4.out.later hb5)
        have HzU : w.heap.size < w5.heap.size := HM5.out.here
        have z5 : w.heap.size + 1 + 1 < w5.heap.size := HN5.out.here
        clear HM4 HT4 HN4 hb5 hS3 K9 HQ
        go_wp2_with (first | (with_reducible refine load_bk rfl 31 _ rfl (w.heap.size + 1) 0 rfl 31 t.arr t.arr _ HT5.out (Part.whole _) Try.underlying31 rfl (by kernel_rfl) ?_) | ((with_reducible refine store_bk rfl 31 (.tmp 13) (.tmp 61) rfl w5.heap.size 0 t.arr rfl rfl 31 _ t.arr (Bk.fresh _ _ _) (by kernel_rfl) (by simp) (by kernel_rfl) rfl ?_); intro wA hX hg hs; have blA : Below w5.heap.size w5 wA := grown_below ((Below.refl _ _).alloc (Nat.le_refl _) _) hg (Nat.le_refl _); have zA : w5.heap.size < wA.heap.size := hX.here; have f6 := hX.free 6; have f7 := hX.free 7; have c6 : wA.cell? ⟨w5.heap.size, 6, none⟩ = some (.slice t.A t.n t.cp) := hX.cellAt 6; have c7 : wA.cell? ⟨w5.heap.size, 7, none⟩ = some (.string t.ap) := hX.cellAt 7; have hY : Bk ((wA.setCell ⟨w5.heap.size, 6, none⟩ (.slice none 0 0)).setCell ⟨w5.heap.size, 7, none⟩ (.string ⟨#[]⟩)) w5.heap.size 31 (t.plain t.a t.b t.c).arr := (by have := (hX.put 6 (.slice none 0 0)).put 7 (.string ⟨#[]⟩); simpa using this); have HY := Lib.hid hY; clear hX hY hg hs; have blB : Below w5.heap.size w5 ((wA.setCell ⟨w5.heap.size, 6, none⟩ (.slice none 0 0)).setCell ⟨w5.heap.size, 7, none⟩ (.string ⟨#[]⟩)) := (blA.setCell (Nat.le_refl _) _).setCell (Nat.le_refl _) _; have HMb := Lib.hid (HM5.out.later blB); have HTb := Lib.hid (HT5.out.later blB); have HNb := Lib.hid (HN5.out.later blB); have hBb : Below w.heap.size w ((wA.setCell ⟨w5.heap.size, 6, none⟩ (.slice none 0 0)).setCell ⟨w5.heap.size, 7, none⟩ (.string ⟨#[]⟩)) := hB5.trans (blB.mono hB5.size); clear blA blB) | (with_reducible refine load_bk rfl 23 _ rfl (w.heap.size + 1 + 1) 0 rfl 23 #[.int .i64 d, .int .i64 e, .int .i64 f] #[.int .i64 d, .int .i64 e, .int .i64 f] _ HNb.out (Part.whole _) Try.underlying23 rfl (by kernel_rfl) ?_) | (with_reducible refine load_bk rfl 23 _ rfl (w.heap.size + 1) 3 rfl 31 t.arr #[.int .i64 t.a, .int .i64 t.b, .int .i64 t.c] _ HTb.out (Part.of rfl) Try.underlying23 rfl (by kernel_rfl) ?_))
        refine (K5.out _).mono ?_; rintro v wB ⟨rfl, hbB⟩
        have hBB : Below w.heap.size w wB := hBb.trans (hbB.mono hBb.size)
        have HMB := Lib.hid (HMb.out.later hbB); have HNB := Lib.hid (HNb.out.later hbB); have HYB := Lib.hid (HY.out.later hbB)
        have zuB : w.heap.size ≤ w5.heap.size := hB5.size
        clear HMb HTb HNb HY hBb hbB f6 f7 c6 c7 zA
        cases FT
        case false =>
          go_wp2_with (first | (with_reducible refine load_bk rfl 28 _ rfl w.heap.size 0 rfl 28 m.arr m.arr _ HMB.out (Part.whole _) Try.underlying28 rfl (by kernel_rfl) ?_) | (with_reducible refine load_bk rfl 31 _ rfl w5.heap.size 0 rfl 31 (t.plain t.a t.b t.c).arr (t.plain t.a t.b t.c).arr _ HYB.out (Part.whole _) Try.underlying31 rfl (by kernel_rfl) ?_))
          refine (K6.out _ (HA.out.later hBB) (HM.out.later hBB) (HT.out.later hBB)).mono ?_; rintro v wz ⟨rfl, hbz⟩
          go_wp2_with fail
          go_ret
          exact ⟨rfl, hBB.trans (hbz.mono hBB.size)⟩
        case true =>
          go_wp2_with (first | (with_reducible refine load_bk rfl 23 _ rfl (w.heap.size + 1 + 1) 0 rfl 23 #[.int .i64 d, .int .i64 e, .int .i64 f] #[.int .i64 d, .int .i64 e, .int .i64 f] _ HNB.out (Part.whole _) Try.underlying23 rfl (by kernel_rfl) ?_))
          refine (K7.out _).mono ?_; rintro v wC ⟨rfl, hbC⟩
          have hBC : Below w.heap.size w wC := hBB.trans (hbC.mono hBB.size)
          have HMC := Lib.hid (HMB.out.later hbC); have HNC := Lib.hid (HNB.out.later hbC); have HYC := Lib.hid (HYB.out.later hbC)
          clear HMB HNB HYB hBB hbC
          cases RT
          case false =>
            go_wp2_with (first | (with_reducible refine load_bk rfl 28 _ rfl w.heap.size 0 rfl 28 m.arr m.arr _ HMC.out (Part.whole _) Try.underlying28 rfl (by kernel_rfl) ?_) | (with_reducible refine load_bk rfl 31 _ rfl w5.heap.size 0 rfl 31 (t.plain t.a t.b t.c).arr (t.plain t.a t.b t.c).arr _ HYC.out (Part.whole _) Try.underlying31 rfl (by kernel_rfl) ?_))
            refine (K6.out _ (HA.out.later hBC) (HM.out.later hBC) (HT.out.later hBC)).mono ?_; rintro v wz ⟨rfl, hbz⟩
            go_wp2_with fail
            go_ret
            exact ⟨rfl, hBC.trans (hbz.mono hBC.size)⟩
          case true =>
            have k8 := fun (W : World) (h1 : RdJ W A l) (h2 : McOk W m ml) (h3 : KtOk W t tl) => why_any m ml A n cap l (t.plain d e f) [] W HL.out (by omega) h1 h2 (okPlain h3) 0 (why_plain HR.out HRT.out HFT.out)
            have K8 := Lib.hid k8; clear k8
            have zM : w.heap.size < w5.heap.size := HzU
            go_wp2_with (first | (with_reducible refine load_bk rfl 23 _ rfl (w.heap.size + 1 + 1) 0 rfl 23 #[.int .i64 d, .int .i64 e, .int .i64 f] #[.int .i64 d, .int .i64 e, .int .i64 f] _ HNC.out (Part.whole _) Try.underlying23 rfl (by kernel_rfl) ?_) | ((with_reducible refine store_bk rfl 23 (.tmp 80) (.tmp 79) rfl w5.heap.size 3 #[.int .i64 d, .int .i64 e, .int .i64 f] rfl rfl 31 _ (t.plain d e f).arr HYC.out (by kernel_rfl) (by simp) (by kernel_rfl) rfl ?_); intro wD hX hg hs; have HYD := Lib.hid hX; clear hX hs; have hBD : Below w.heap.size w wD := grown_below hBC hg zuB; have HMD := Lib.hid (HMC.out.stays hg (by intro ee; injection ee with ee; omega))) | (with_reducible refine load_bk rfl 28 _ rfl w.heap.size 0 rfl 28 m.arr m.arr _ HMD.out (Part.whole _) Try.underlying28 rfl (by kernel_rfl) ?_) | (with_reducible refine load_bk rfl 31 _ rfl w5.heap.size 0 rfl 31 (t.plain d e f).arr (t.plain d e f).arr _ HYD.out (Part.whole _) Try.underlying31 rfl (by kernel_rfl) ?_))
            refine (K8.out _ (HA.out.later hBD) (HM.out.later hBD) (HT.out.later hBD)).mono ?_; rintro v wE ⟨rfl, hbE⟩
            go_wp2_with fail
            go_ret
            exact ⟨rfl, hBD.trans (hbE.mono hBD.size)⟩
      case neg =>
        have HzU : w.heap.size < w3.heap.size := HM3.out.here
        have z3 : w.heap.size + 1 + 1 < w3.heap.size := HN3.out.here
        have hd0 : decide (0 < (n : Int)) = false := by rw [decide_eq_false_iff_not]; omega
        go_wp2_with (first | (with_reducible refine load_bk rfl 31 _ rfl (w.heap.size + 1) 0 rfl 31 t.arr t.arr _ HT3.out (Part.whole _) Try.underlying31 rfl (by kernel_rfl) ?_) | ((with_reducible refine store_bk rfl 31 (.tmp 13) (.tmp 61) rfl w3.heap.size 0 t.arr rfl rfl 31 _ t.arr (Bk.fresh _ _ _) (by kernel_rfl) (by simp) (by kernel_rfl) rfl ?_); intro wA hX hg hs; have blA : Below w3.heap.size w3 wA := grown_below ((Below.refl _ _).alloc (Nat.le_refl _) _) hg (Nat.le_refl _); have zA : w3.heap.size < wA.heap.size := hX.here; have f6 := hX.free 6; have f7 := hX.free 7; have c6 : wA.cell? ⟨w3.heap.size, 6, none⟩ = some (.slice t.A t.n t.cp) := hX.cellAt 6; have c7 : wA.cell? ⟨w3.heap.size, 7, none⟩ = some (.string t.ap) := hX.cellAt 7; have hY : Bk ((wA.setCell ⟨w3.heap.size, 6, none⟩ (.slice none 0 0)).setCell ⟨w3.heap.size, 7, none⟩ (.string ⟨#[]⟩)) w3.heap.size 31 (t.plain t.a t.b t.c).arr := (by have := (hX.put 6 (.slice none 0 0)).put 7 (.string ⟨#[]⟩); simpa using this); have HY := Lib.hid hY; clear hX hY hg hs; have blB : Below w3.heap.size w3 ((wA.setCell ⟨w3.heap.size, 6, none⟩ (.slice none 0 0)).setCell ⟨w3.heap.size, 7, none⟩ (.string ⟨#[]⟩)) := (blA.setCell (Nat.le_refl _) _).setCell (Nat.le_refl _) _; have HMb := Lib.hid (HM3.out.later blB); have HTb := Lib.hid (HT3.out.later blB); have HNb := Lib.hid (HN3.out.later blB); have hBb : Below w.heap.size w ((wA.setCell ⟨w3.heap.size, 6, none⟩ (.slice none 0 0)).setCell ⟨w3.heap.size, 7, none⟩ (.string ⟨#[]⟩)) := hB3.trans (blB.mono hB3.size); clear blA blB) | (with_reducible refine load_bk rfl 23 _ rfl (w.heap.size + 1 + 1) 0 rfl 23 #[.int .i64 d, .int .i64 e, .int .i64 f] #[.int .i64 d, .int .i64 e, .int .i64 f] _ HNb.out (Part.whole _) Try.underlying23 rfl (by kernel_rfl) ?_) | (with_reducible refine load_bk rfl 23 _ rfl (w.heap.size + 1) 3 rfl 31 t.arr #[.int .i64 t.a, .int .i64 t.b, .int .i64 t.c] _ HTb.out (Part.of rfl) Try.underlying23 rfl (by kernel_rfl) ?_))
        refine (K5.out _).mono ?_; rintro v wB ⟨rfl, hbB⟩
        have hBB : Below w.heap.size w wB := hBb.trans (hbB.mono hBb.size)
        have HMB := Lib.hid (HMb.out.later hbB); have HNB := Lib.hid (HNb.out.later hbB); have HYB := Lib.hid (HY.out.later hbB)
        have zuB : w.heap.size ≤ w3.heap.size := hB3.size
        clear HMb HTb HNb HY hBb hbB f6 f7 c6 c7 zA
        cases FT
        case false =>
          go_wp2_with (first | (with_reducible refine load_bk rfl 28 _ rfl w.heap.size 0 rfl 28 m.arr m.arr _ HMB.out (Part.whole _) Try.underlying28 rfl (by kernel_rfl) ?_) | (with_reducible refine load_bk rfl 31 _ rfl w3.heap.size 0 rfl 31 (t.plain t.a t.b t.c).arr (t.plain t.a t.b t.c).arr _ HYB.out (Part.whole _) Try.underlying31 rfl (by kernel_rfl) ?_))
          refine (K6.out _ (HA.out.later hBB) (HM.out.later hBB) (HT.out.later hBB)).mono ?_; rintro v wz ⟨rfl, hbz⟩
          go_wp2_with fail
          go_ret
          exact ⟨rfl, hBB.trans (hbz.mono hBB.size)⟩
        case true =>
          go_wp2_with (first | (with_reducible refine load_bk rfl 23 _ rfl (w.heap.size + 1 + 1) 0 rfl 23 #[.int .i64 d, .int .i64 e, .int .i64 f] #[.int .i64 d, .int .i64 e, .int .i64 f] _ HNB.out (Part.whole _) Try.underlying23 rfl (by kernel_rfl) ?_))
          refine (K7.out _).mono ?_; rintro v wC ⟨rfl, hbC⟩
          have hBC : Below w.heap.size w wC := hBB.trans (hbC.mono hBB.size)
          have HMC := Lib.hid (HMB.out.later hbC); have HNC := Lib.hid (HNB.out.later hbC); have HYC := Lib.hid (HYB.out.later hbC)
          clear HMB HNB HYB hBB hbC
          cases RT
          case false =>
            go_wp2_with (first | (with_reducible refine load_bk rfl 28 _ rfl w.heap.size 0 rfl 28 m.arr m.arr _ HMC.out (Part.whole _) Try.underlying28 rfl (by kernel_rfl) ?_) | (with_reducible refine load_bk rfl 31 _ rfl w3.heap.size 0 rfl 31 (t.plain t.a t.b t.c).arr (t.plain t.a t.b t.c).arr _ HYC.out (Part.whole _) Try.underlying31 rfl (by kernel_rfl) ?_))
            refine (K6.out _ (HA.out.later hBC) (HM.out.later hBC) (HT.out.later hBC)).mono ?_; rintro v wz ⟨rfl, hbz⟩
            go_wp2_with fail
            go_ret
            exact ⟨rfl, hBC.trans (hbz.mono hBC.size)⟩
          case true =>
            have k8 := fun (W : World) (h1 : RdJ W A l) (h2 : McOk W m ml) (h3 : KtOk W t tl) => why_any m ml A n cap l (t.plain d e f) [] W HL.out (by omega) h1 h2 (okPlain h3) 0 (why_plain HR.out HRT.out HFT.out)
            have K8 := Lib.hid k8; clear k8
            have zM : w.heap.size < w3.heap.size := HzU
            go_wp2_with (first | (with_reducible refine load_bk rfl 23 _ rfl (w.heap.size + 1 + 1) 0 rfl 23 #[.int .i64 d, .int .i64 e, .int .i64 f] #[.int .i64 d, .int .i64 e, .int .i64 f] _ HNC.out (Part.whole _) Try.underlying23 rfl (by kernel_rfl) ?_) | ((with_reducible refine store_bk rfl 23 (.tmp 80) (.tmp 79) rfl w3.heap.size 3 #[.int .i64 d, .int .i64 e, .int .i64 f] rfl rfl 31 _ (t.plain d e f).arr HYC.out (by kernel_rfl) (by simp) (by kernel_rfl) rfl ?_); intro wD hX hg hs; have HYD := Lib.hid hX; clear hX hs; have hBD : Below w.heap.size w wD := grown_below hBC hg zuB; have HMD := Lib.hid (HMC.out.stays hg (by intro ee; injection ee with ee; omega))) | (with_reducible refine load_bk rfl 28 _ rfl w.heap.size 0 rfl 28 m.arr m.arr _ HMD.out (Part.whole _) Try.underlying28 rfl (by kernel_rfl) ?_) | (with_reducible refine load_bk rfl 31 _ rfl w3.heap.size 0 rfl 31 (t.plain d e f).arr (t.plain d e f).arr _ HYD.out (Part.whole _) Try.underlying31 rfl (by kernel_rfl) ?_))
            refine (K8.out _ (HA.out.later hBD) (HM.out.later hBD) (HT.out.later hBD)).mono ?_; rintro v wE ⟨rfl, hbE⟩
            go_wp2_with fail
            go_ret
            exact ⟨rfl, hBD.trans (hbE.mono hBD.size)⟩
end feasLess
end Go.Proofs.Ytpmbbhhckhifgaa
