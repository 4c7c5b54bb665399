/- The walk of OrderOnce. No condition beyond the form's own. -/
import Derived.Test.YtamlcjepkoagmaaQaw
import Derived.Test.YtamlcjepkoagmaaOsn
import Derived.Test.YtamlcjepkoagmaaMod
import Derived.Deep.DeepCutAuto
import Derived.Deep.RegionHeld3
namespace Go.Proofs.Ytamlcjepkoagmaa
open Go.RowKit
set_option linter.unusedSimpArgs false
set_option linter.unusedVariables false
namespace orderOnce

set_option maxHeartbeats 12800000 in
set_option maxRecDepth 100000 in
theorem walk (A : Option Addr) (n cap : Nat) (l : List Jb) (w : World) (hn : n = l.length) (hA : RdJ w A l) (hc : n ≤ cap) (hc2 : cap ≤ 9223372036854775807) :
    Calls Try.prog 4 #[.slice A n cap] w fun r w' => r = .returned (.bool true) ∧ Below w.heap.size w w' := by
  obtain ⟨FW, hFW⟩ : ∃ FW, few14 l = FW := ⟨_, rfl⟩
  have kf := fun (W : World) (h : RdJ W A l) => few14_any A n cap l W hn (by omega) h
  rw [hFW] at kf
  have ku := fun (hl : n ≤ 1000000) (W : World) (h : RdJ W A l) => units_any A n cap l W hn hl h
  have hIn : ∀ u ∈ unitsU l, 0 < u.length ∧ (∀ q ∈ u, q < l.length ∧ (jat l q).nd.size = 0) ∧ (∀ k (h : k < u.length) (h0 : 0 < u.length), (jat l u[k]).ga = (jat l u[0]).ga ∧ (0 < k → (jat l u[k]).ga.size ≠ 0)) := fun u hu => by
    obtain ⟨p, r, h1, h2, h3⟩ := units_in hu
    subst h1
    refine ⟨by simp, fun q hq => ⟨(h2 q hq).1, (h2 q hq).2.1⟩, fun k h h0 => ⟨(h2 _ (List.getElem_mem h)).2.2, fun hk => ?_⟩⟩
    obtain ⟨k', rfl⟩ : ∃ k', k = k' + 1 := ⟨k - 1, by omega⟩
    exact h3 _ (by simp)
  have hUl : n ≤ 100 → (unitsU l).length ≤ 100 := fun h => Nat.le_trans (unitsK_len l _ _) (Nat.le_trans (wk_len _) (by omega))
  have hNd := units_nodup l
  have hHas : ∀ p, p < l.length → (jat l p).nd.size = 0 → (jat l p).ga.size = 0 → p ∈ (unitsU l).flatten := fun p h1 h2 h3 => units_has h1 h2 h3
  generalize unitsU l = U at ku hUl hIn hNd hHas
  have KF := Lib.hid kf; have KU := Lib.hid ku; have HUl := Lib.hid hUl; have HIn := Lib.hid hIn; have HNd := Lib.hid hNd; have HHas := Lib.hid hHas; have HFW := Lib.hid hFW; have HA := Lib.hid hA; have Hn := Lib.hid hn
  clear kf ku hUl hIn hNd hHas hFW hA hn hc hc2
  go_enter Try.func4, Try.ntmps4
  have hB0 : Below w.heap.size w w := (Below.refl w.heap.size w)
  go_wp2_with fail
  refine (awake14_any _).mono ?_; rintro v w1 ⟨rfl, hb1⟩
  have hB1 : Below w.heap.size w w1 := hB0.trans (hb1.mono hB0.size)
  clear hB0
  go_wp2_with fail
  refine (KF.out _ (HA.out.later hB1)).mono ?_; rintro v w2 ⟨rfl, hb2⟩
  have hB2 : Below w.heap.size w w2 := hB1.trans (hb2.mono hB1.size)
  clear hb1 hb2 hB1
  cases FW
  case false =>
    go_wp2_with fail
    refine (awake14_any _).mono ?_; rintro v wz ⟨rfl, hbz⟩
    go_wp2_with fail
    go_ret
    exact ⟨rfl, hB2.trans (hbz.mono hB2.size)⟩
  case true =>
    have hn1 : n ≤ 100 := by
      have h := HFW.out; unfold few14 at h; simp only [Bool.and_eq_true, decide_eq_true_eq] at h
      have := Hn.out; omega
    have hl : n ≤ 1000000 := by omega
    obtain ⟨q, hq⟩ : ∃ q, U.length = q := ⟨_, rfl⟩
    have hql : q ≤ 100 := by rw [← hq]; exact HUl.out hn1
    have HQ := Lib.hid hq; clear hq
    have hmk := run_make_row' (P := Try.prog) 37 3 (.int .i64 0) 8 Try.underlying37 infoI rfl .i64 .i64 n (by omega) (by omega)
    go_wp2_with fail
    refine (KU.out hl _ (HA.out.later hB2)).mono ?_; rintro v w3 ⟨hU, hb3⟩
    obtain ⟨BP, cP, rfl, hrP, hcP, hmP⟩ := hU.rd
    rw [HQ.out] at hcP ⊢
    have HRP := Lib.hid hrP; clear hrP hU
    have hB3 : Below w.heap.size w w3 := hB2.trans (hb3.mono hB2.size)
    have HS0 := Lib.hid (made_own w3 w3.heap.size 3 n (Nat.le_refl _) (by unfold maxLen; omega))
    have hbk0 : Below w3.heap.size w3 (w3.alloc (.cells (madeCells #[.int .i64 0] n) 3)) := (Below.refl _ _).alloc (Nat.le_refl _) _
    clear hB2 hb3
    go_wp2_with fail
    clear hmk
    go_loopw [24] (fun i wr => ∃ k : Nat, k ≤ q ∧ i = .int .i64 k ∧ Hid (OwnK wr w3.heap.size 3 1 (.slice (some ⟨w3.heap.size, 0, none⟩) n n) (cellsI (cntL n (U.take k).flatten))) ∧ Below w3.heap.size w3 wr) (fun i wr => q - (intOf i).toNat)
    case atStart => exact ⟨0, Nat.zero_le _, rfl, HS0, hbk0⟩
    case round =>
      clear HS0 hbk0
      obtain ⟨i, hi, rfl, HS, hb⟩ := hrel
      have hbw : Below w.heap.size w wr := hB3.trans (hb.mono hB3.size)
      by_cases hiq : i < q
      · obtain ⟨gO, oO, A1, cc, hBo, hgO, cO, hrI, hcI, _⟩ := (HRP.out.later hb).at (i := i) (by have := HQ.out; omega)
        obtain ⟨u, hu⟩ : ∃ u, u = U[i]'(by have := HQ.out; omega) := ⟨_, rfl⟩
        rw [← hu] at cO hrI hcI
        have hum : u ∈ U := by rw [hu]; exact List.getElem_mem _
        obtain ⟨hl0, hin, hga⟩ := HIn.out _ hum
        have htk : (U.take (i + 1)).flatten = (U.take i).flatten ++ u := by rw [List.take_succ_eq_append_getElem (by have := HQ.out; omega), List.flatten_append, hu]; simp
        obtain ⟨T, hT⟩ : ∃ T, T = (U.take i).flatten := ⟨_, rfl⟩
        have hs := HS.out
        rw [← hT] at hs htk
        obtain ⟨m, hm⟩ : ∃ m, m = u.length := ⟨_, rfl⟩
        rw [← hm] at cO hcI
        have hm0 : 0 < m := by omega
        have dm : ((m : Int) == 0) = false := by simp; omega
        have HrI := Lib.hid hrI; have HIu := Lib.hid hin; have HGu := Lib.hid hga; have HTk := Lib.hid htk; have HM := Lib.hid hm; have HUi := Lib.hid hu; have HST := Lib.hid hs; have HcO := Lib.hid cO
        subst hBo
        clear hrI hin hga htk hum hu hm hT hs HS hl0
        obtain ⟨wo, hwo⟩ : ∃ wo, wo = wr := ⟨_, rfl⟩
        subst hwo
        go_wp2_with fail
        clear cO dm
        go_loopw [38] (fun v wi => ∃ k : Nat, k ≤ m ∧ v = .int .i64 k ∧ Hid (OwnK wi w3.heap.size 3 1 (.slice (some ⟨w3.heap.size, 0, none⟩) n n) (cellsI (cntL n (T ++ u.take k)))) ∧ Below w3.heap.size w3 wi) (fun v wi => m - (intOf v).toNat)
        case atStart => exact ⟨0, Nat.zero_le _, rfl, (by show OwnK _ _ _ _ _ _; rw [List.take_zero, List.append_nil]; exact HST.out), hb⟩
        case round =>
          obtain ⟨k, hk, rfl, HS, hbi⟩ := hrel
          have hbz : Below w.heap.size w wr := hB3.trans (hbi.mono hB3.size)
          by_cases hkm : k < m
          · obtain ⟨gO2, oO2, A2, cc2, hBo, hgO2, cO2, hrI, hcI2, _⟩ := (HRP.out.later hbi).at (i := i) (by have := HQ.out; omega)
            injection hBo with hBo; injection hBo with e1 e2; subst e1 e2
            have huU : u = U[i]'(by have := HQ.out; omega) := HUi.out
            rw [← huU, ← HM.out] at cO2
            rw [← huU] at hrI hcI2
            rw [← HM.out] at hcI2
            have hku : k < u.length := by have := HM.out; omega
            have h0u : 0 < u.length := by omega
            obtain ⟨gI, oI, hAI, hgI, cX⟩ := RdI.nat hrI hku
            obtain ⟨gI2, oI2, hAI2, hgI2, cY⟩ := RdI.nat hrI h0u
            rw [hAI] at hAI2
            injection hAI2 with hAI2; injection hAI2 with e1 e2; subst e1 e2
            subst hAI
            rw [Nat.add_zero] at cY
            obtain ⟨hplx, hndx⟩ := HIu.out _ (List.getElem_mem hku)
            have hply := (HIu.out _ (List.getElem_mem h0u)).1
            obtain ⟨hgaE, hgaK⟩ := HGu.out k hku h0u
            have hcnt : ((T ++ u.take k).count u[k]) ≤ 1 := by
              have h1 : (T ++ u.take k).Sublist U.flatten := by
                refine List.Sublist.trans (List.Sublist.append (List.Sublist.refl T) (List.take_sublist k u)) ?_
                rw [← HTk.out]
                have e9 : U.flatten = (U.take (i + 1)).flatten ++ (U.drop (i + 1)).flatten := by rw [← List.flatten_append, List.take_append_drop]
                rw [e9]
                exact List.sublist_append_left _ _
              exact List.nodup_iff_count.1 (HNd.out.sublist h1) _
            have htk : T ++ u.take (k + 1) = (T ++ u.take k) ++ [u[k]] := by rw [List.take_succ_eq_append_getElem hku, List.append_assoc]
            obtain ⟨px, hpx⟩ : ∃ p, p = u[k] := ⟨_, rfl⟩
            obtain ⟨py, hpy⟩ : ∃ p, p = u[0] := ⟨_, rfl⟩
            rw [← hpx] at cX hplx hndx hgaE hgaK hcnt htk
            rw [← hpy] at cY hply hgaE
            have hpnx : px < n := by have := Hn.out; omega
            have hpny : py < n := by have := Hn.out; omega
            obtain ⟨gx, ox, hAgx, hgx, hjx⟩ := (HA.out.later hbz).at hplx
            obtain ⟨gy, oy, hAgy, hgy, hjy⟩ := (HA.out.later hbz).at hply
            rw [hAgx] at hAgy
            injection hAgy with hAgy; injection hAgy with e1 e2; subst e1 e2
            subst hAgx
            rw [jat_at hplx] at hndx hgaE hgaK
            rw [jat_at hply] at hgaE
            have c11 := hjx.nd
            have c8 := hjx.ga
            have c8h := hjy.ga
            rw [empty_of hndx] at c11
            rw [← hgaE] at c8h
            obtain ⟨ga, hgae⟩ : ∃ s, s = l[px].ga := ⟨_, rfl⟩
            rw [← hgae] at c8 c8h hgaK
            have hss : (ga.toList == ga.toList) = true := by simp
            have dneg : decide ((px : Int) < 0) = false := by rw [decide_eq_false_iff_not]; omega
            have dge : decide ((n : Int) ≤ (px : Int)) = false := by rw [decide_eq_false_iff_not]; omega
            have dge2 : decide (n ≤ px) = false := by rw [decide_eq_false_iff_not]; omega
            obtain ⟨cx, hcx⟩ : ∃ c, c = (T ++ u.take k).count px := ⟨_, rfl⟩
            rw [← hcx] at hcnt
            have hlenC : px < (cntL n (T ++ u.take k)).length := by rw [cntL_len]; exact hpnx
            have hnew : cntL n (T ++ u.take (k + 1)) = (cntL n (T ++ u.take k)).set px ((cx : Int) + 1) := by rw [htk, cntL_snoc, hcx]
            have hold : ∀ h9 : px < (cntL n (T ++ u.take k)).length, (cntL n (T ++ u.take k))[px] = (cx : Int) := fun h9 => by rw [cntL_at, hcx]
            have HPP : Hid (k = 0 → px = py) := fun h9 => by subst h9; rw [hpx, hpy]
            have HNew := Lib.hid hnew; have HOld := Lib.hid hold; have HLc := Lib.hid hlenC
            have hcx2 : cx ≤ 1 := hcnt
            clear hnew hold hlenC hcx hcnt htk hgaE hgae hjx hjy hndx hrI huU hpx hpy hku h0u
            have hfin : ∀ W : World, Below wr.heap.size wr W → W.cell? ⟨w3.heap.size, px, none⟩ = some (.int .i64 cx) ∧ W.frozen? ⟨w3.heap.size, px, none⟩ = false := fun W hW => by
              have h := OwnK.cellI (HS.out.below hW) HLc.out
              rw [HOld.out HLc.out] at h
              exact h
            have HFin := Lib.hid hfin; clear hfin
            by_cases hk0 : k = 0
            · have hpp := HPP.out hk0
              subst hpp
              clear cY c8h
              subst hk0
              rw [Nat.add_zero] at cX
              clear hgaK
              go_wp2_with fail
              refine wp_region_later (by kernel_rfl) (by kernel_rfl) ?_; have hL : ∀ (w : World) (x : Later w) (b o : Nat), b < w.heap.size → x.to.cell? ⟨b, o, none⟩ = w.cell? ⟨b, o, none⟩ := fun w x b o hb => x.cell hb; have hN := Later.some; (repeat (go_big_quiet_step (((fail))))); refine wpQuiet_nil ?_; intro w2 hw2; have hb2 := Later.out hw2; clear hw2 hL hN
              obtain ⟨cs1, cs2⟩ := HFin.out w2 hb2
              have HS2 : Hid (OwnK (w2.setCell ⟨w3.heap.size, px, none⟩ (.int .i64 ((cx : Int) + 1))) w3.heap.size 3 1 (.slice (some ⟨w3.heap.size, 0, none⟩) n n) (cellsI (cntL n (T ++ u.take (0 + 1))))) := by
                show OwnK _ _ _ _ _ _
                rw [HNew.out]
                exact OwnK.setI (HS.out.below hb2) HLc.out _
              have hbn : Below w3.heap.size w3 (w2.setCell ⟨w3.heap.size, px, none⟩ (.int .i64 ((cx : Int) + 1))) := (hbi.trans (hb2.mono hbi.size)).setCell (Nat.le_refl _) _
              clear HS
              go_wp2_with fail
              go_round
              case rel => exact ⟨0 + 1, by omega, by go_num, HS2, hbn⟩
              case measure => simp [intOf]; omega
            · obtain ⟨hf1, hf2⟩ := full_of (hgaK (by omega))
              have dk : decide ((0 : Int) < (k : Int)) = true := decide_eq_true (by omega)
              have dk2 : decide (0 < k) = true := decide_eq_true (by omega)
              clear hgaK hk0
              go_wp2_with fail
              refine wp_region_later (by kernel_rfl) (by kernel_rfl) ?_; have hL : ∀ (w : World) (x : Later w) (b o : Nat), b < w.heap.size → x.to.cell? ⟨b, o, none⟩ = w.cell? ⟨b, o, none⟩ := fun w x b o hb => x.cell hb; have hN := Later.some; (repeat (go_big_quiet_step (((fail))))); refine wpQuiet_nil ?_; intro w2 hw2; have hb2 := Later.out hw2; clear hw2 hL hN
              obtain ⟨cs1, cs2⟩ := HFin.out w2 hb2
              have HS2 : Hid (OwnK (w2.setCell ⟨w3.heap.size, px, none⟩ (.int .i64 ((cx : Int) + 1))) w3.heap.size 3 1 (.slice (some ⟨w3.heap.size, 0, none⟩) n n) (cellsI (cntL n (T ++ u.take (k + 1))))) := by
                show OwnK _ _ _ _ _ _
                rw [HNew.out]
                exact OwnK.setI (HS.out.below hb2) HLc.out _
              have hbn : Below w3.heap.size w3 (w2.setCell ⟨w3.heap.size, px, none⟩ (.int .i64 ((cx : Int) + 1))) := (hbi.trans (hb2.mono hbi.size)).setCell (Nat.le_refl _) _
              clear HS
              go_wp2_with fail
              go_round
              case rel => exact ⟨k + 1, by omega, by go_num, HS2, hbn⟩
              case measure => simp [intOf]; omega
          · have hkm' : k = m := by omega
            subst hkm'
            have HS2 : Hid (OwnK wr w3.heap.size 3 1 (.slice (some ⟨w3.heap.size, 0, none⟩) n n) (cellsI (cntL n (U.take (i + 1)).flatten))) := by
              show OwnK _ _ _ _ _ _
              have h := HS.out
              rw [show u.take k = u by rw [HM.out]; exact List.take_length] at h
              rw [HTk.out]; exact h
            clear HS
            go_wp2_with fail
            go_round
            case rel => exact ⟨i + 1, by omega, by go_num, HS2, hbi⟩
            case measure => simp [intOf]; omega
      · have hi' : i = q := by omega
        subst hi'
        have hs := HS.out
        rw [show U.take i = U by rw [← HQ.out]; exact List.take_length] at hs
        have HSE := Lib.hid hs
        clear hs HS
        go_wp2_with fail
        obtain ⟨wo, hwo⟩ : ∃ wo, wo = wr := ⟨_, rfl⟩
        subst hwo
        go_loopw [107] (fun v wi => ∃ k : Nat, k ≤ n ∧ v = .int .i64 k ∧ wo = wi) (fun v wi => n - (intOf v).toNat)
        case atStart => exact ⟨0, Nat.zero_le _, rfl, rfl⟩
        case round =>
          obtain ⟨k, hk, rfl, hww⟩ := hrel
          subst hww
          by_cases hkn : k < n
          · have hkl : k < l.length := by have := Hn.out; omega
            obtain ⟨gx, ox, hAgx, hgx, hjx⟩ := (HA.out.later hbw).at hkl
            subst hAgx
            have c11 := hjx.nd
            have c8 := hjx.ga
            have hlenC : k < (cntL n U.flatten).length := by rw [cntL_len]; exact hkn
            obtain ⟨cs1, cs2⟩ := OwnK.cellI HSE.out hlenC
            rw [cntL_at] at cs1
            have hcnt := List.nodup_iff_count.1 HNd.out k
            have hhas := HHas.out k hkl
            rw [jat_at hkl] at hhas
            obtain ⟨nd, hnd⟩ : ∃ s, s = l[k].nd := ⟨_, rfl⟩
            obtain ⟨ga, hga⟩ : ∃ s, s = l[k].ga := ⟨_, rfl⟩
            rw [← hnd] at c11 hhas
            rw [← hga] at c8 hhas
            have h0 : U.flatten.count k = 0 → nd.size = 0 → ga.size ≠ 0 := fun h1 h2 h3 => by
              have := List.count_pos_iff.2 (hhas h2 h3); omega
            generalize U.flatten.count k = cx at cs1 hcnt h0
            clear hjx hhas hnd hga cs2
            by_cases hc1 : cx = 1
            · subst hc1
              clear h0
              go_wp2_with fail
              go_round
              case rel => exact ⟨k + 1, by omega, by go_num, trivial⟩
              case measure => simp [intOf]; omega
            · have hc0 : cx = 0 := by omega
              subst hc0
              have h0' := h0 rfl
              clear h0 hc1 hcnt
              by_cases hnd : nd.size = 0
              · have hne := empty_of hnd
                subst hne
                obtain ⟨hf1, hf2⟩ := full_of (h0' rfl)
                clear h0' hnd
                go_wp2_with fail
                go_round
                case rel => exact ⟨k + 1, by omega, by go_num, trivial⟩
                case measure => simp [intOf]; omega
              · obtain ⟨hf1, hf2⟩ := full_of hnd
                clear h0' hnd
                go_wp2_with fail
                go_round
                case rel => exact ⟨k + 1, by omega, by go_num, trivial⟩
                case measure => simp [intOf]; omega
          · have hkn' : k = n := by omega
            subst hkn'
            go_wp2_with fail
            go_ret
            exact ⟨rfl, hbw⟩
end orderOnce
end Go.Proofs.Ytamlcjepkoagmaa
