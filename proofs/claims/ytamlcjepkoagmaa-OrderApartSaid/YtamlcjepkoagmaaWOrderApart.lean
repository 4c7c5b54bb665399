/- The walk of OrderApart. No condition beyond the form's own. -/
import Derived.Test.YtamlcjepkoagmaaQaw
import Derived.Test.YtamlcjepkoagmaaOav
import Derived.Test.YtamlcjepkoagmaaMod
import Derived.Deep.DeepCutAuto
import Derived.Deep.RegionHeld3
namespace Go.Proofs.Ytamlcjepkoagmaa
open Go.RowKit
set_option linter.unusedSimpArgs false
set_option linter.unusedVariables false
namespace orderApart

set_option maxHeartbeats 25600000 in
set_option maxRecDepth 100000 in
theorem walk (A : Option Addr) (n cap : Nat) (l : List Jb) (at0 : Int) (w : World) (hn : n = l.length) (hA : RdJ w A l) (hc : n ≤ cap) (hc2 : cap ≤ 9223372036854775807) (hat : (Lit.int .u64 at0).wf = true) :
    Calls Try.prog 7 #[.slice A n cap, .int .u64 at0] w fun r w' => r = .returned (.bool true) ∧ Below w.heap.size w w' := by
  obtain ⟨b, rfl, hb64⟩ : ∃ b : Nat, at0 = (b : Int) ∧ b < 18446744073709551616 := by
    have h := hat
    simp only [Lit.wf, Bool.and_eq_true, decide_eq_true_eq] at h
    have hmin : IntKind.u64.min = 0 := rfl
    have hmax : IntKind.u64.max = 18446744073709551615 := rfl
    rw [hmin, hmax] at h
    exact ⟨at0.toNat, by omega, by omega⟩
  obtain ⟨FW, hFW⟩ : ∃ FW, few14 l = FW := ⟨_, rfl⟩
  have kf := fun (W : World) (h : RdJ W A l) => few14_any A n cap l W hn (by omega) h
  rw [hFW] at kf
  have ku := fun (hl : n ≤ 1000000) (W : World) (h : RdJ W A l) => units_any A n cap l W hn hl h
  have ku2 := fun (l' : List Jb) (q c : Nat) (B : Option Addr) (hq : q = l'.length) (hl : q ≤ 1000000) (W : World) (h : RdJ W B l') => units_any B q c l' W hq hl h
  have KF := Lib.hid kf; have KU := Lib.hid ku; have KU2 := Lib.hid ku2; have HFW := Lib.hid hFW; have HA := Lib.hid hA; have Hn := Lib.hid hn; have HB64 := Lib.hid hb64; have HC := Lib.hid hc
  clear kf ku ku2 hFW hA hn hat hb64
  go_enter Try.func7, Try.ntmps7
  have hB0 : Below w.heap.size w w := (Below.refl w.heap.size w)
  go_wp2_with fail
  refine (awake14_any _).mono ?_; rintro v w1 ⟨rfl, hb1⟩
  have hB1 : Below w.heap.size w w1 := hB0.trans (hb1.mono hB0.size)
  clear hB0
  go_wp2_with fail
  refine (KF.out _ (HA.out.later hB1)).mono ?_; rintro v w2 ⟨rfl, hb2⟩
  have hB2 : Below w.heap.size w w2 := hB1.trans (hb2.mono hB1.size)
  clear hb1 hb2 hB1
  cases FW
  case false =>
    go_wp2_with fail
    refine (awake14_any _).mono ?_; rintro v wz ⟨rfl, hbz⟩
    go_wp2_with fail
    go_ret
    exact ⟨rfl, hB2.trans (hbz.mono hB2.size)⟩
  case true =>
    have hn1 : n ≤ 100 := by
      have h := HFW.out; unfold few14 at h; simp only [Bool.and_eq_true, decide_eq_true_eq] at h
      have := Hn.out; omega
    have hl : n ≤ 1000000 := by omega
    by_cases hn0 : n = 0
    case pos =>
      have dn : ((n : Int) == 0) = true := by simp; omega
      have dn2 : (n == 0) = true := by simpa using hn0
      clear hn0
      go_wp2_with fail
      refine (awake14_any _).mono ?_; rintro v wz ⟨rfl, hbz⟩
      go_wp2_with fail
      go_ret
      exact ⟨rfl, hB2.trans (hbz.mono hB2.size)⟩
    case neg =>
      have dn : ((n : Int) == 0) = false := by simp; omega
      have dn2 : (n == 0) = false := by simpa using hn0
      obtain ⟨k, hk⟩ : ∃ k, k = b % n := ⟨_, rfl⟩
      have hkn : k < n := by rw [hk]; exact Nat.mod_lt _ (by omega)
      have hwk : wrap64 ((b : Int) % (n : Int)) = (k : Int) := by
        have e : (b : Int) % (n : Int) = (k : Int) := by rw [hk]; exact (Int.natCast_emod b n).symm
        rw [e]; simp [wrap64]; omega
      have HWK := Lib.hid hwk
      clear hwk hk
      have hkl : k < l.length := by have := Hn.out; omega
      obtain ⟨g, o, hAg, hg, hj⟩ := (HA.out.later hB2).at hkl
      subst hAg
      have c11 := hj.nd
      have c8 := hj.ga
      obtain ⟨nd, hnd⟩ : ∃ s, s = l[k].nd := ⟨_, rfl⟩
      obtain ⟨ga, hga⟩ : ∃ s, s = l[k].ga := ⟨_, rfl⟩
      rw [← hnd] at c11
      rw [← hga] at c8
      have HNd := Lib.hid hnd; have HGa := Lib.hid hga
      clear hj hnd hga hn0
      go_upto_region 4 with fail
      rw [HWK.out]
      by_cases h1 : nd.size = 0
      · have hne := empty_of h1
        rw [hne] at c11
        clear h1 hne
        go_wp2_with fail
        go_ret
        exact ⟨rfl, hB2⟩
      obtain ⟨hf1, hf2⟩ := full_of h1
      by_cases h2 : ga.size = 0
      case neg =>
        obtain ⟨hg1, hg2⟩ := full_of h2
        clear h1 h2
        go_wp2_with fail
        go_ret
        exact ⟨rfl, hB2⟩
      have hge := empty_of h2
      rw [hge] at c8
      have HN1 : Hid ((jat l k).nd.size ≠ 0) := by show _ ≠ _; rw [jat_at hkl, ← HNd.out]; exact h1
      have HG1 : Hid ((jat l k).ga.size = 0) := by show _ = _; rw [jat_at hkl, ← HGa.out]; exact h2
      clear h1 h2 hge
      go_wp2_with fail
      clear c8 c11 hf1 hf2 dn dn2
      have hkc : k ≤ cap := by have := HC.out; omega
      have hkc' : (k : Int) ≤ (cap : Int) := by omega
      obtain ⟨k1, hk1⟩ : ∃ k1, k1 = k + 1 := ⟨_, rfl⟩
      have HW1 : Hid (IntKind.i64.wrap ((k : Int) + 1) = (k1 : Int)) := by show _ = _; rw [IntKind.wrap_i64]; omega
      have HW2 : Hid (wrap64 ((k : Int) + 1) = (k1 : Int)) := by show _ = _; simp [wrap64]; omega
      have hkn' : (k1 : Int) ≤ (n : Int) := by omega
      have hkn2 : k1 ≤ n := by omega
      have hkc2 : k1 ≤ cap := by have := HC.out; omega
      have hkc3 : (k1 : Int) ≤ (cap : Int) := by omega
      have HK1 := Lib.hid hk1; clear hk1
      have hnc' : (n : Int) ≤ (cap : Int) := by have := HC.out; omega
      obtain ⟨q1, hq1⟩ : ∃ q1, (outK l k).length = q1 := ⟨_, rfl⟩
      have hq1n : q1 + 1 = n := by rw [← hq1, outK_len hkl]; have := Hn.out; omega
      have hq1l : q1 < n := by omega
      have HQ1 := Lib.hid hq1; have HQN := Lib.hid hq1n; clear hq1 hq1n
      have htk : ∀ W, Below w2.heap.size w2 W → RdK W 13 (some ⟨g, o, none⟩) (cellsJ (l.take k)) := fun W hW => by
        have h := RdK.take (HA.out.later (hB2.trans (hW.mono hB2.size))) k
        unfold cellsJ at h ⊢
        rw [List.map_take]; exact h
      have hdr : ∀ W, Below w2.heap.size w2 W → RdK W 13 (if cap = k1 then some ⟨g, o, none⟩ else some ⟨g, o + k1 * 13, none⟩) (cellsJ (l.drop k1)) := fun W hW => by
        have h := RdK.drop (HA.out.later (hB2.trans (hW.mono hB2.size))) (j := k1) (cap := cap) (by rw [cellsJ_length]; have := Hn.out; have := HC.out; omega)
        unfold cellsJ at h ⊢
        rw [List.map_drop]
        simpa [Addr.add_lit] using h
      have HTk := Lib.hid htk; have HDr := Lib.hid hdr; clear htk hdr
      refine wp_region_held_drew (S := fun W => Below w2.heap.size w2 W) (by kernel_rfl) (Below.drew (Below.refl _ _)) (fun hS0 => ?_)
      refine wpAnyH_take (i := 1) (v := ?_) rfl (by kernel_rfl) (by kernel_rfl) (by kernel_rfl) (fun _ _ _ h => h) (Or.inl ⟨by rfl, ?_⟩) hS0 ?_
      rotate_left
      · intro W _; go_simp; try with_reducible rfl
      try simp only [Act.put, List.getElem_toArray, List.getElem_cons_zero, List.getElem_cons_succ, List.setIfInBounds_toArray, List.set_cons_zero, List.set_cons_succ]
      refine wpAnyH_take (i := 2) (v := ?_) rfl (by kernel_rfl) (by kernel_rfl) (by kernel_rfl) (fun _ _ _ h => h) (Or.inl ⟨by rfl, ?_⟩) hS0 ?_
      rotate_left
      · intro W _; go_simp; try with_reducible rfl
      try simp only [Act.put, List.getElem_toArray, List.getElem_cons_zero, List.getElem_cons_succ, List.setIfInBounds_toArray, List.set_cons_zero, List.set_cons_succ]
      refine wpAnyH_take (i := 3) (v := ?_) rfl (by kernel_rfl) (by kernel_rfl) (by kernel_rfl) (fun _ _ _ h => h) (Or.inl ⟨by rfl, ?_⟩) hS0 ?_
      rotate_left
      · intro W _; go_simp; try with_reducible rfl
      try simp only [Act.put, List.getElem_toArray, List.getElem_cons_zero, List.getElem_cons_succ, List.setIfInBounds_toArray, List.set_cons_zero, List.set_cons_succ]
      refine wpAnyH_take (i := 5) (v := ?_) rfl (by kernel_rfl) (by kernel_rfl) (by kernel_rfl) (fun _ _ _ h => h) (Or.inl ⟨by rfl, ?_⟩) hS0 ?_
      rotate_left
      · intro W _; go_simp; try with_reducible rfl
      try simp only [Act.put, List.getElem_toArray, List.getElem_cons_zero, List.getElem_cons_succ, List.setIfInBounds_toArray, List.set_cons_zero, List.set_cons_succ]
      refine wpAnyH_take (i := 6) (v := ?_) rfl (by kernel_rfl) (by kernel_rfl) (by kernel_rfl) (fun _ _ _ h => h) (Or.inl ⟨by rfl, ?_⟩) hS0 ?_
      rotate_left
      · intro W _; go_simp; try with_reducible rfl
      try simp only [Act.put, List.getElem_toArray, List.getElem_cons_zero, List.getElem_cons_succ, List.setIfInBounds_toArray, List.set_cons_zero, List.set_cons_succ]
      refine wpAnyH_take (i := 7) (v := ?_) rfl (by kernel_rfl) (by kernel_rfl) (by kernel_rfl) (fun _ _ _ h => h) (Or.inl ⟨by rfl, ?_⟩) hS0 ?_
      rotate_left
      · intro W _; go_simp; try with_reducible rfl
      try simp only [Act.put, List.getElem_toArray, List.getElem_cons_zero, List.getElem_cons_succ, List.setIfInBounds_toArray, List.set_cons_zero, List.set_cons_succ]
      first | rw [HW1.out] | rw [HW2.out]
      refine wpAnyH_take (i := 8) (v := ?_) rfl (by kernel_rfl) (by kernel_rfl) (by kernel_rfl) (fun _ _ _ h => h) (Or.inl ⟨by rfl, ?_⟩) hS0 ?_
      rotate_left
      · intro W _; go_simp; try with_reducible rfl
      try simp only [Act.put, List.getElem_toArray, List.getElem_cons_zero, List.getElem_cons_succ, List.setIfInBounds_toArray, List.set_cons_zero, List.set_cons_succ]
      obtain ⟨AX, hAX⟩ : ∃ AX, AX = (if cap = k1 then some (⟨g, o, none⟩ : Addr) else some ⟨g, o + k1 * 13, none⟩) := ⟨_, rfl⟩
      have hdr := HDr.out
      rw [← hAX] at hdr ⊢
      have HDx := Lib.hid hdr
      clear hAX hdr
      refine wpAnyH_ready (rs := [0]) (by kernel_rfl) (by simp) ?_
      refine AllReadyH.cons rfl (fun K hK => ?_) AllReadyH.nil
      simp only [if_pos, Region.wanted]
      refine none_op rfl ?_
      intro g46 v1 hg46 hE hbl
      have hg46' : w2.heap.size ≤ g46 := by have := hS0.size; omega
      have HE := Lib.hid hE; clear hE hg46
      refine hK.out _ _ (hS0.trans (hbl.mono hS0.size)) (fun hS1 => ?_)
      clear hK K hbl
      try simp only [Act.put, List.getElem_toArray, List.getElem_cons_zero, List.getElem_cons_succ, List.setIfInBounds_toArray, List.set_cons_zero, List.set_cons_succ]
      refine wpAnyH_ready (rs := [4]) (by kernel_rfl) (by simp) ?_
      refine AllReadyH.cons rfl (fun K hK => ?_) AllReadyH.nil
      simp only [if_pos, Region.wanted]
      refine append_kn_op _ (.tmp 44) (.tmp 47) 22 rfl w2.heap.size 29 _ 13 160 Try.underlying22 infoJ rfl (by omega) (.slice (some ⟨g46, 0, none⟩) 0 0) [] rfl (OwnK.of_empty HE.out hg46') (some ⟨g, o, none⟩) cap k (cellsJ (l.take k)) rfl (HTk.out _ hS1) (cellsJ_k _) (cellsJ_one _) (by rw [cellsJ_length, List.length_take]; have := Hn.out; omega) (by rw [cellsJ_length, List.length_take]; simp [maxLen]; omega) (by rw [cellsJ_length, List.length_take]; simp; omega) hS1.size ?_
      intro u48 v2 hV hgr
      have HV := Lib.hid (show OwnK _ _ _ _ _ (cellsJ (l.take k)) from hV); clear hV
      have hbl : Below w2.heap.size _ v2 := grown_base hgr hS1.size (by intro kk ee; cases ee; exact hg46')
      clear HE hgr
      refine hK.out _ _ (hS1.trans hbl) (fun hS2 => ?_)
      clear hK K hbl
      try simp only [Act.put, List.getElem_toArray, List.getElem_cons_zero, List.getElem_cons_succ, List.setIfInBounds_toArray, List.set_cons_zero, List.set_cons_succ]
      refine wpAnyH_ready (rs := [9]) (by kernel_rfl) (by simp) ?_
      refine AllReadyH.cons rfl (fun K hK => ?_) AllReadyH.nil
      simp only [if_pos, Region.wanted]
      refine append_kn_op _ (.tmp 48) (.tmp 52) 22 rfl w2.heap.size 29 _ 13 160 Try.underlying22 infoJ rfl (by omega) u48 (cellsJ (l.take k)) rfl HV.out AX (cap - k1) (n - k1) (cellsJ (l.drop k1)) rfl (HDx.out _ hS2) (cellsJ_k _) (cellsJ_one _) (by rw [cellsJ_length, List.length_drop]; have := Hn.out; omega) (by rw [cellsJ_length, cellsJ_length, List.length_take, List.length_drop]; have := Hn.out; simp [maxLen]; omega) (by rw [cellsJ_length, cellsJ_length, List.length_take, List.length_drop]; have := Hn.out; simp; omega) hS2.size ?_
      intro u53 v3 hV hgr
      have hV2 := hV
      rw [← cellsJ_append, HK1.out, outK_is] at hV2
      obtain ⟨B3, c3, hv3, hr3, hc3, hm3⟩ := hV2.rdj
      rw [HQ1.out] at hv3 hc3
      subst hv3
      have HR3 := Lib.hid hr3
      have hbl : Below w2.heap.size _ v3 := grown_base hgr hS2.size HV.out.block
      clear HV hgr hV hV2 hr3
      refine hK.out _ _ (hS2.trans hbl) (fun hS3 => ?_)
      clear hK K hbl
      try simp only [Act.put, List.getElem_toArray, List.getElem_cons_zero, List.getElem_cons_succ, List.setIfInBounds_toArray, List.set_cons_zero, List.set_cons_succ]
      refine wpAnyH_take (i := 10) (v := ?_) rfl (by kernel_rfl) (by kernel_rfl) (by kernel_rfl) (fun _ _ _ h => h) (Or.inl ⟨by rfl, ?_⟩) hS3 ?_
      rotate_left
      · intro W _; go_simp; try with_reducible rfl
      try simp only [Act.put, List.getElem_toArray, List.getElem_cons_zero, List.getElem_cons_succ, List.setIfInBounds_toArray, List.set_cons_zero, List.set_cons_succ]
      refine wpAnyH_done (by kernel_rfl) ?_ _
      have hB3 : Below w.heap.size w v3 := hB2.trans (hS3.mono hB2.size)
      clear hS0 hS1 hS2 hS3 hB2 HTk HDr HW1 HW2
      go_wp2_with fail
      refine (KU2.out (outK l k) q1 c3 B3 HQ1.out.symm (by omega) _ HR3.out).mono ?_; rintro v w4 ⟨hU, hb4⟩
      obtain ⟨vO, vs, rfl, hO, hUk⟩ := hU
      have hB4 : Below w.heap.size w w4 := hB3.trans (hb4.mono hB3.size)
      have hne : ∀ u ∈ unitsU (outK l k), 0 < u.length ∧ ∀ q ∈ u, q < q1 := fun u hu => by
        obtain ⟨p, r, h1, h2, _⟩ := units_in hu
        exact ⟨by rw [h1]; simp, fun q hq => by have := (h2 q hq).1; rwa [HQ1.out] at this⟩
      have hend := apart_is hkl HN1.out HG1.out
      have hul : (unitsU (outK l k)).length ≤ 100 := Nat.le_trans (unitsK_len _ _ _) (Nat.le_trans (wk_len _) (by rw [HQ1.out]; omega))
      have hul2 : n ≤ 100 → (unitsU l).length ≤ 100 := fun h => Nat.le_trans (unitsK_len l _ _) (Nat.le_trans (wk_len _) (by have := Hn.out; omega))
      have hap : Apv vs := by
        have hp := (List.pairwise_flatten.1 (units_nodup (outK l k))).2
        refine UOk.apv hUk (fun u hu => (hne u hu).1) fun i j hi hj hij a c => ?_
        rcases Nat.lt_or_gt_of_ne hij with h | h
        · exact List.pairwise_iff_getElem.1 hp i j hi hj h _ (List.getElem_mem a) _ (List.getElem_mem c)
        · exact fun e => List.pairwise_iff_getElem.1 hp j i hj hi h _ (List.getElem_mem c) _ (List.getElem_mem a) e.symm
      generalize unitsU (outK l k) = U at hUk hne hend hul
      obtain ⟨q, hq⟩ : ∃ q, U.length = q := ⟨_, rfl⟩
      have hvl : vs.length = q := by rw [← hq]; exact hUk.len
      obtain ⟨BO, cO, hvO, hrO, hcO, hmO, _⟩ := hO.sl
      rw [cellsW_length, hvl] at hvO hcO
      subst hvO
      have hql : q ≤ 100 := by omega
      have hmO2 : cO ≤ 9223372036854775807 := by unfold maxLen at hmO; omega
      have HNe := Lib.hid hne; have HEnd := Lib.hid hend; have HUl2 := Lib.hid hul2; have HAp := Lib.hid hap; have HQ := Lib.hid hq; have HVl := Lib.hid hvl
      have HO4 := Lib.hid hO
      have HU4 : Hid (UOk w4 v3.heap.size vs (mvU k U 0)) := by show UOk _ _ _ _; rw [mvU_zero]; exact hUk
      clear hne hend hul hul2 hap hq hvl hO hUk hrO HR3
      go_wp2_with fail
      go_loopw [58] (fun i wr => ∃ x : Nat, x ≤ q ∧ i = .int .i64 x ∧ Hid (OwnK wr v3.heap.size 37 1 (.slice BO q cO) (cellsW vs)) ∧ Hid (UOk wr v3.heap.size vs (mvU k U x)) ∧ Below v3.heap.size v3 wr) (fun i wr => q - (intOf i).toNat)
      case atStart => exact ⟨0, Nat.zero_le _, rfl, HO4, HU4, hb4⟩
      case round =>
        clear HO4 HU4 hb4 hB4
        obtain ⟨x, hx, rfl, HO, HU, hb⟩ := hrel
        by_cases hxq : x < q
        · have hxU : x < U.length := by have := HQ.out; omega
          have hxM : x < (mvU k U x).length := by rw [mvU_len]; exact hxU
          have hxV : x < vs.length := by have := HVl.out; omega
          obtain ⟨u, hu⟩ : ∃ u, u = U[x] := ⟨_, rfl⟩
          obtain ⟨hu0, hult⟩ := HNe.out u (by rw [hu]; exact List.getElem_mem _)
          have hmx : (mvU k U x)[x] = u := by rw [mvU_at hxU, hu]
          have hrow := HU.out.own hxM
          rw [hmx] at hrow
          obtain ⟨gI, cI, hvI, hgb, hgI⟩ := hrow.some_row (by simpa [ints] using hu0)
          obtain ⟨m, hm⟩ : ∃ m, m = u.length := ⟨_, rfl⟩
          rw [show (ints u).length = m by rw [hm]; simp [ints]] at hvI
          have hv : vs[x]? = some (.slice (some ⟨gI, 0, none⟩) m cI) := by rw [← hvI, List.getD, List.getElem?_eq_getElem hxV]; rfl
          obtain ⟨_, _, hvO, hrO, _, _, _⟩ := HO.out.sl
          injection hvO with e1 e2 e3
          clear e2 e3
          subst e1
          obtain ⟨gO, oO, hBO, hgO, cO'⟩ := cellW hrO hv
          subst hBO
          have hmI : m ≤ cI := by
            rw [hvI] at hrow
            have := (OwnK.bkI hrow).2.2
            obtain ⟨cur, _, h9, _⟩ := this
            exact h9
          have hcI2 : cI ≤ 9223372036854775807 := by
            rw [hvI] at hrow
            obtain ⟨cur, _, _, h9, _⟩ := (OwnK.bkI hrow).2.2
            unfold maxLen at h9; omega
          have HV := Lib.hid hv; have HVI := Lib.hid hvI; have HM := Lib.hid hm; have HMx := Lib.hid hmx; have HUx := Lib.hid hu; have HUlt := Lib.hid hult
          have HUS : Hid (UOk wr v3.heap.size vs ((mvU k U x).set x (mvA k u 0))) := by
            show UOk _ _ _ _
            rw [mvA_zero, ← hmx, List.set_getElem_self]; exact HU.out
          clear hu hmx hrow hvI hm hv hrO hult HU
          go_wp2_with fail
          clear cO'
          go_loopw [66] (fun v wi => ∃ a : Nat, a ≤ m ∧ v = .int .i64 a ∧ Hid (OwnK wi v3.heap.size 37 1 (.slice (some ⟨gO, oO, none⟩) q cO) (cellsW vs)) ∧ Hid (UOk wi v3.heap.size vs ((mvU k U x).set x (mvA k u a))) ∧ Below v3.heap.size v3 wi) (fun v wi => m - (intOf v).toNat)
          case atStart => exact ⟨0, Nat.zero_le _, rfl, HO, HUS, hb⟩
          case round =>
            clear HO HUS hb hgO hgI
            obtain ⟨a, ha, rfl, HO, HU, hb⟩ := hrel
            by_cases ham : a < m
            · have hau : a < u.length := by have := HM.out; omega
              have hxS : x < ((mvU k U x).set x (mvA k u a)).length := by rw [List.length_set]; exact hxM
              have hself : ((mvU k U x).set x (mvA k u a))[x] = mvA k u a := by rw [List.getElem_set_self]
              have hrow := HU.out.own hxS
              rw [hself, HVI.out] at hrow
              have hAl : a < (mvA k u a).length := by rw [mvA_len]; exact hau
              obtain ⟨cI1, cI2⟩ := OwnK.cellI hrow (p := a) (by simpa [ints] using hAl)
              have hpa : (ints (mvA k u a))[a]'(by simpa [ints] using hAl) = ((u[a] : Nat) : Int) := by simp only [ints, List.getElem_map]; rw [mvA_at hau]
              rw [hpa] at cI1
              have hgI : gI < wr.heap.size := by
                obtain ⟨_, _, cur, h9, _⟩ := OwnK.bkI hrow
                exact h9.here
              obtain ⟨_, _, hvO, hrO, _, _, _⟩ := HO.out.sl
              injection hvO with e1 e2 e3
              clear e2 e3
              subst e1
              obtain ⟨gO2, oO2, hBO, hgO, cO'⟩ := cellW hrO HV.out
              injection hBO with hBO; injection hBO with e4 e5; subst e4 e5
              obtain ⟨p, hp⟩ : ∃ p, p = u[a] := ⟨_, rfl⟩
              rw [← hp] at cI1
              have hpq : p < q1 := by rw [hp]; exact HUlt.out _ (List.getElem_mem hau)
              have hsucc := mvA_succ (k := k) hau
              rw [← hp] at hsucc
              have hold : (mvA k u a)[a] = p := by rw [mvA_at hau, hp]
              have hset : ∀ y : Nat, UOk (wr.setCell ⟨gI, a, none⟩ (.int .i64 (y : Int))) v3.heap.size vs ((mvU k U x).set x ((mvA k u a).set a y)) := fun y => by
                have h := UOk.set HU.out HAp.out hxS HVI.out (p := a) (by rw [hself]; exact hAl) y
                rw [hself, List.set_set] at h
                exact h
              have hOap := (HO.out.apart (HU.out.own hxS) (by decide))
              rw [HVI.out] at hOap
              have HSet := Lib.hid hset; have HOap := Lib.hid hOap
              clear hself hrow hpa hrO hp hset hOap
              by_cases hkp : k ≤ p
              · have hsh : sh k p = p + 1 := by unfold sh; rw [if_pos hkp]
                rw [hsh] at hsucc
                have HSu := Lib.hid hsucc
                have dk : decide ((k : Int) ≤ (p : Int)) = true := decide_eq_true (by omega)
                have dk2 : decide (k ≤ p) = true := decide_eq_true hkp
                have HU2 : Hid (UOk (wr.setCell ⟨gI, a, none⟩ (.int .i64 ((p : Int) + 1))) v3.heap.size vs ((mvU k U x).set x (mvA k u (a + 1)))) := by
                  show UOk _ _ _ _
                  rw [HSu.out]
                  have h9 := HSet.out (p + 1)
                  rw [show (((p + 1 : Nat)) : Int) = (p : Int) + 1 from rfl] at h9
                  exact h9
                have HO2 : Hid (OwnK (wr.setCell ⟨gI, a, none⟩ (.int .i64 ((p : Int) + 1))) v3.heap.size 37 1 (.slice (some ⟨gO, oO, none⟩) q cO) (cellsW vs)) := OwnK.grown HO.out (grown_cell _ _ _ _) (by
                  rcases HOap.out with h9 | h9
                  · exact .inl h9
                  · exact .inr h9)
                have hbn : Below v3.heap.size v3 (wr.setCell ⟨gI, a, none⟩ (.int .i64 ((p : Int) + 1))) := hb.setCell hgb _
                clear hsucc hsh hold HSet HU HO
                go_wp2_with fail
                go_round
                case rel => exact ⟨a + 1, by omega, by go_num, HO2, HU2, hbn⟩
                case measure => simp [intOf]; omega
              · have hsh : sh k p = p := by unfold sh; rw [if_neg hkp]
                have dk : decide ((k : Int) ≤ (p : Int)) = false := by rw [decide_eq_false_iff_not]; omega
                have dk2 : decide (k ≤ p) = false := decide_eq_false hkp
                have HU2 : Hid (UOk wr v3.heap.size vs ((mvU k U x).set x (mvA k u (a + 1)))) := by
                  show UOk _ _ _ _
                  rw [hsucc, hsh]
                  have h9 : (mvA k u a).set a p = mvA k u a := by
                    have : (mvA k u a).set a (mvA k u a)[a] = mvA k u a := by simp
                    rwa [hold] at this
                  rw [h9]; exact HU.out
                clear hsucc hsh hold HSet HU
                go_wp2_with fail
                go_round
                case rel => exact ⟨a + 1, by omega, by go_num, HO, HU2, hb⟩
                case measure => simp [intOf]; omega
            · have ham' : a = m := by omega
              subst ham'
              have HU2 : Hid (UOk wr v3.heap.size vs (mvU k U (x + 1))) := by
                show UOk _ _ _ _
                have h9 := HU.out
                rw [HM.out, mvA_all] at h9
                rw [mvU_succ hxU, ← HUx.out]; exact h9
              clear HU
              go_wp2_with fail
              go_round
              case rel => exact ⟨x + 1, by omega, by go_num, HO, HU2, hb⟩
              case measure => simp [intOf]; omega
        · have hxq' : x = q := by omega
          subst hxq'
          have hV := HU.out
          rw [← HQ.out, mvU_all, HEnd.out] at hV
          have HV := Lib.hid hV
          have hlen : (unitsU l).length = x := by rw [← HEnd.out, List.length_map]; exact HQ.out
          have hbw : Below w.heap.size w wr := hB3.trans (hb.mono hB3.size)
          have ku := KU.out hl
          generalize unitsU l = V at HV hlen ku
          have KU3 := Lib.hid ku; have HLen := Lib.hid hlen
          clear ku hlen hV HU HEnd HNe
          go_wp2_with fail
          refine (KU3.out _ (HA.out.later hbw)).mono ?_; rintro v w5 ⟨hU5, hb5⟩
          obtain ⟨BQ, cQ, rfl, hrQ, hcQ, hmQ⟩ := hU5.rd
          rw [HLen.out] at hcQ ⊢
          obtain ⟨_, _, hvO, hrO, _, _, _⟩ := HO.out.sl
          injection hvO with e1 e2 e3
          clear e2 e3
          subst e1
          have HUO : Hid (URd w5 BO V) := ⟨vs, hrO.later hb5, (HV.out.later hb5).ui⟩
          have HUQ := Lib.hid hrQ
          have ks := fun (W : World) (h1 : URd W BO V) (h2 : URd W BQ V) => (show Calls Try.prog 10 #[.slice BO x cO, .slice BQ x cQ] W fun e w' => e = .returned (.bool true) ∧ Below W.heap.size W w' from by
            obtain ⟨vs1, a1, a2⟩ := h1
            obtain ⟨vs2, b1, b2⟩ := h2
            exact rsame14_any BO x cO vs1 (V.map ints) BQ x cQ vs2 (V.map ints) W (show x = _ by rw [List.length_map]; exact HLen.out.symm) (show x = _ by rw [List.length_map]; exact HLen.out.symm) (by omega) (by omega) a1 a2 b1 b2 true (show _ = _ by simp))
          have KS := Lib.hid ks
          have hB5 : Below w.heap.size w w5 := hbw.trans (hb5.mono hbw.size)
          clear ks hrQ hrO hU5 HV HO HAp HVl HUl2
          go_wp2_with fail
          refine (KS.out _ HUO.out HUQ.out).mono ?_; rintro v w6 ⟨rfl, hb6⟩
          go_wp2_with fail
          go_ret
          exact ⟨rfl, hB5.trans (hb6.mono hB5.size)⟩
end orderApart
end Go.Proofs.Ytamlcjepkoagmaa
