/- The walk of OrderRanks. No condition beyond the form's own. -/
import Derived.Test.YtamlcjepkoagmaaQaw
import Derived.Deep.DeepCutAuto
import Derived.Deep.RegionHeld3
namespace Go.Proofs.Ytamlcjepkoagmaa
open Go.RowKit
set_option linter.unusedSimpArgs false
set_option linter.unusedVariables false
namespace orderRanks

set_option maxHeartbeats 12800000 in
set_option maxRecDepth 100000 in
theorem walk (A : Option Addr) (n cap : Nat) (l : List Jb) (w : World) (hn : n = l.length) (hA : RdJ w A l) (hc : n ≤ cap) (hc2 : cap ≤ 9223372036854775807) :
    Calls Try.prog 5 #[.slice A n cap] w fun r w' => r = .returned (.bool true) ∧ Below w.heap.size w w' := by
  obtain ⟨FW, hFW⟩ : ∃ FW, few14 l = FW := ⟨_, rfl⟩
  have kf := fun (W : World) (h : RdJ W A l) => few14_any A n cap l W hn (by omega) h
  rw [hFW] at kf
  have ku := fun (hl : n ≤ 1000000) (W : World) (h : RdJ W A l) => units_any A n cap l W hn hl h
  have hIn : ∀ u ∈ unitsU l, 0 < u.length ∧ ∀ q ∈ u, q < l.length := fun u hu => by
    obtain ⟨p, r, h1, h2, _⟩ := units_in hu
    exact ⟨by rw [h1]; simp, fun q hq => (h2 q hq).1⟩
  have hUl : n ≤ 100 → (unitsU l).length ≤ 100 := fun h => Nat.le_trans (unitsK_len l _ _) (Nat.le_trans (wk_len _) (by omega))
  have hHd : ∀ i k (h1 : i < (unitsU l).length) (h2 : k < (unitsU l).length), k < i → ∀ (a : 0 < (unitsU l)[i].length) (b : 0 < (unitsU l)[k].length), tryB (jat l (unitsU l)[i][0]) (jat l (unitsU l)[k][0]) = false := fun i k h1 h2 h3 a b => by
    have h := List.pairwise_iff_getElem.1 (units_heads l) k i (by simpa using h2) (by simpa using h1) h3
    simp only [List.getElem_map] at h
    rw [show (unitsU l)[i].getD 0 0 = (unitsU l)[i][0] by rw [List.getD, List.getElem?_eq_getElem a]; rfl, show (unitsU l)[k].getD 0 0 = (unitsU l)[k][0] by rw [List.getD, List.getElem?_eq_getElem b]; rfl] at h
    exact h
  have hWi : ∀ u ∈ unitsU l, ∀ a (h1 : a + 1 < u.length), tryB (jat l u[a + 1]) (jat l u[a]) = false := fun u hu a h1 => List.pairwise_iff_getElem.1 (units_within hu) a (a + 1) (by omega) h1 (by omega)
  generalize unitsU l = U at ku hUl hIn hHd hWi
  have KF := Lib.hid kf; have KU := Lib.hid ku; have HUl := Lib.hid hUl; have HIn := Lib.hid hIn; have HHd := Lib.hid hHd; have HWi := Lib.hid hWi; have HFW := Lib.hid hFW; have HA := Lib.hid hA; have Hn := Lib.hid hn
  clear kf ku hUl hIn hHd hWi hFW hA hn hc hc2
  go_enter Try.func5, Try.ntmps5
  have hB0 : Below w.heap.size w w := (Below.refl w.heap.size w)
  go_wp2_with fail
  refine (awake14_any _).mono ?_; rintro v w1 ⟨rfl, hb1⟩
  have hB1 : Below w.heap.size w w1 := hB0.trans (hb1.mono hB0.size)
  clear hB0
  go_wp2_with fail
  refine (KF.out _ (HA.out.later hB1)).mono ?_; rintro v w2 ⟨rfl, hb2⟩
  have hB2 : Below w.heap.size w w2 := hB1.trans (hb2.mono hB1.size)
  clear hb1 hb2 hB1
  cases FW
  case false =>
    go_wp2_with fail
    refine (awake14_any _).mono ?_; rintro v wz ⟨rfl, hbz⟩
    go_wp2_with fail
    go_ret
    exact ⟨rfl, hB2.trans (hbz.mono hB2.size)⟩
  case true =>
    have hn1 : n ≤ 100 := by
      have h := HFW.out; unfold few14 at h; simp only [Bool.and_eq_true, decide_eq_true_eq] at h
      have := Hn.out; omega
    have hl : n ≤ 1000000 := by omega
    obtain ⟨q, hq⟩ : ∃ q, U.length = q := ⟨_, rfl⟩
    have hql : q ≤ 100 := by rw [← hq]; exact HUl.out hn1
    have HQ := Lib.hid hq; clear hq
    go_wp2_with fail
    refine (KU.out hl _ (HA.out.later hB2)).mono ?_; rintro v w3 ⟨hU, hb3⟩
    obtain ⟨BP, cP, rfl, hrP, hcP, hmP⟩ := hU.rd
    rw [HQ.out] at hcP ⊢
    have HRP := Lib.hid hrP; clear hrP hU
    have hB3 : Below w.heap.size w w3 := hB2.trans (hb3.mono hB2.size)
    clear hB2 hb3
    go_wp2_with fail
    go_loopw [19] (fun i wr => ∃ k : Nat, k ≤ q ∧ i = .int .i64 k ∧ Hid (URd wr BP U) ∧ Below w.heap.size w wr) (fun i wr => q - (intOf i).toNat)
    case atStart => exact ⟨0, Nat.zero_le _, rfl, HRP, hB3⟩
    case round =>
      clear hB3 HRP
      obtain ⟨i, hi, rfl, HR, hb⟩ := hrel
      by_cases hiq : i < q
      · obtain ⟨wo, hwo⟩ : ∃ wo, wo = wr := ⟨_, rfl⟩
        subst hwo
        go_wp2_with fail
        go_loopw [5] (fun v wi => ∃ k : Nat, k ≤ i ∧ v = .int .i64 k ∧ Below wo.heap.size wo wi) (fun v wi => i - (intOf v).toNat)
        case atStart => exact ⟨0, Nat.zero_le _, rfl, Below.refl _ _⟩
        case round =>
          obtain ⟨k, hk, rfl, hbi⟩ := hrel
          have hbw : Below w.heap.size w wr := hb.trans (hbi.mono hb.size)
          by_cases hki : k < i
          · have hkq : k < q := by omega
            have hRw := HR.out.later hbi
            obtain ⟨gOx, oOx, Ax, ccx, hBox, hgOx, cOx, hrIx, hcIx, _⟩ := hRw.at (i := i) (by have := HQ.out; omega)
            obtain ⟨ux, hux⟩ : ∃ u, u = U[i]'(by have := HQ.out; omega) := ⟨_, rfl⟩
            rw [← hux] at cOx hrIx hcIx
            have humx : ux ∈ U := by rw [hux]; exact List.getElem_mem _
            obtain ⟨hlx, hltx⟩ := HIn.out _ humx
            obtain ⟨gIx, oIx, hAIx, hgIx, cIx⟩ := RdI.nat hrIx hlx
            rw [Nat.add_zero] at cIx
            obtain ⟨px, hpx⟩ : ∃ p, p = ux[0] := ⟨_, rfl⟩
            rw [← hpx] at cIx
            have hplx : px < l.length := by rw [hpx]; exact hltx _ (List.getElem_mem _)
            have hpnx : px < n := by have := Hn.out; omega
            obtain ⟨gx, ox, hAgx, hgx, hjx⟩ := (HA.out.later hbw).at hplx
            obtain ⟨jx, hjkx⟩ : ∃ j, j = l[px] := ⟨_, rfl⟩
            rw [← hjkx] at hjx
            have hjjx : jat l px = jx := by rw [jat_at hplx, ← hjkx]
            have HJx := Lib.hid hjx; clear hjx hjkx
            subst hAIx
            obtain ⟨gOy, oOy, Ay, ccy, hBoy, hgOy, cOy, hrIy, hcIy, _⟩ := hRw.at (i := k) (by have := HQ.out; omega)
            obtain ⟨uy, huy⟩ : ∃ u, u = U[k]'(by have := HQ.out; omega) := ⟨_, rfl⟩
            rw [← huy] at cOy hrIy hcIy
            have humy : uy ∈ U := by rw [huy]; exact List.getElem_mem _
            obtain ⟨hly, hlty⟩ := HIn.out _ humy
            obtain ⟨gIy, oIy, hAIy, hgIy, cIy⟩ := RdI.nat hrIy hly
            rw [Nat.add_zero] at cIy
            obtain ⟨py, hpy⟩ : ∃ p, p = uy[0] := ⟨_, rfl⟩
            rw [← hpy] at cIy
            have hply : py < l.length := by rw [hpy]; exact hlty _ (List.getElem_mem _)
            have hpny : py < n := by have := Hn.out; omega
            obtain ⟨gy, oy, hAgy, hgy, hjy⟩ := (HA.out.later hbw).at hply
            obtain ⟨jy, hjky⟩ : ∃ j, j = l[py] := ⟨_, rfl⟩
            rw [← hjky] at hjy
            have hjjy : jat l py = jy := by rw [jat_at hply, ← hjky]
            have HJy := Lib.hid hjy; clear hjy hjky
            subst hAIy
            have ht : tryB jx jy = false := by
              rw [← hjjx, ← hjjy, hpx, hpy]
              subst hux huy
              exact HHd.out i k (by have := HQ.out; omega) (by have := HQ.out; omega) hki hlx hly
            rw [hBox] at hBoy
            injection hBoy with hBoy; injection hBoy with e1 e2; subst e1 e2
            rw [hAgx] at hAgy
            injection hAgy with hAgy; injection hAgy with e1 e2; subst e1 e2
            subst hBox hAgx
            have k1 := fun (W : World) => ahead_any jx jy W
            rw [ht] at k1
            have K1 := Lib.hid k1
            have HcOx := Lib.hid cOx; have HcOy := Lib.hid cOy; have HcIx := Lib.hid cIx; have HcIy := Lib.hid cIy
            have hlx' : (0 : Int) < (ux.length : Int) := by omega
            have hly' : (0 : Int) < (uy.length : Int) := by omega
            clear k1 ht cOx cOy cIx cIy hrIx hrIy hux huy humx humy hltx hlty hpx hpy hjjx hjjy hRw
            generalize ux.length = mx at hlx hlx' hcIx HcOx
            generalize uy.length = my at hly hly' hcIy HcOy
            go_wp2_with fail
            refine wp_region_held_drew (S := fun X => Below wr.heap.size wr X) (by kernel_rfl) (Below.drew (Below.refl _ _)) (fun hS0 => ?_)
            refine wpAnyH_take (i := 0) (v := ?_) rfl (by kernel_rfl) (by kernel_rfl) (by kernel_rfl) (fun _ _ _ h => h) (Or.inl ⟨by rfl, ?_⟩) hS0 ?_
            rotate_left
            · intro W _; go_simp; try with_reducible rfl
            try simp only [Act.put, List.getElem_toArray, List.getElem_cons_zero, List.getElem_cons_succ, List.setIfInBounds_toArray, List.set_cons_zero, List.set_cons_succ]
            refine wpAnyH_take (i := 1) (v := ?_) rfl (by kernel_rfl) (by kernel_rfl) (by kernel_rfl) (fun _ _ _ h => h) (Or.inl ⟨by rfl, ?_⟩) hS0 ?_
            rotate_left
            · intro W _; go_simp; try with_reducible rfl
            try simp only [Act.put, List.getElem_toArray, List.getElem_cons_zero, List.getElem_cons_succ, List.setIfInBounds_toArray, List.set_cons_zero, List.set_cons_succ]
            refine wpAnyH_take (i := 2) (v := ?_) rfl (by kernel_rfl) (by kernel_rfl) (by kernel_rfl) (fun _ _ _ h => h) (Or.inl ⟨by rfl, ?_⟩) hS0 ?_
            rotate_left
            · intro W _; go_simp; try with_reducible rfl
            try simp only [Act.put, List.getElem_toArray, List.getElem_cons_zero, List.getElem_cons_succ, List.setIfInBounds_toArray, List.set_cons_zero, List.set_cons_succ]
            refine wpAnyH_take (i := 3) (v := ?_) rfl (by kernel_rfl) (by kernel_rfl) (by kernel_rfl) (fun _ _ _ h => h) (Or.inl ⟨by rfl, ?_⟩) hS0 ?_
            rotate_left
            · intro W _; go_simp; try with_reducible rfl
            try simp only [Act.put, List.getElem_toArray, List.getElem_cons_zero, List.getElem_cons_succ, List.setIfInBounds_toArray, List.set_cons_zero, List.set_cons_succ]
            refine wpAnyH_take (i := 4) (v := ?_) rfl (by kernel_rfl) (by kernel_rfl) (by kernel_rfl) (fun _ _ _ h => h) (Or.inl ⟨by rfl, ?_⟩) hS0 ?_
            rotate_left
            · intro W hSW; have hx := (hSW.cell (p := ⟨gOx, _, none⟩) (by show gOx < wr.heap.size; omega)).trans HcOx.out; go_simp; try with_reducible rfl
            try simp only [Act.put, List.getElem_toArray, List.getElem_cons_zero, List.getElem_cons_succ, List.setIfInBounds_toArray, List.set_cons_zero, List.set_cons_succ]
            refine wpAnyH_take (i := 5) (v := ?_) rfl (by kernel_rfl) (by kernel_rfl) (by kernel_rfl) (fun _ _ _ h => h) (Or.inl ⟨by rfl, ?_⟩) hS0 ?_
            rotate_left
            · intro W _; go_simp; try with_reducible rfl
            try simp only [Act.put, List.getElem_toArray, List.getElem_cons_zero, List.getElem_cons_succ, List.setIfInBounds_toArray, List.set_cons_zero, List.set_cons_succ]
            refine wpAnyH_take (i := 6) (v := ?_) rfl (by kernel_rfl) (by kernel_rfl) (by kernel_rfl) (fun _ _ _ h => h) (Or.inl ⟨by rfl, ?_⟩) hS0 ?_
            rotate_left
            · intro W hSW; have hx := (hSW.cell (p := ⟨gIx, _, none⟩) (by show gIx < wr.heap.size; omega)).trans HcIx.out; go_simp; try with_reducible rfl
            try simp only [Act.put, List.getElem_toArray, List.getElem_cons_zero, List.getElem_cons_succ, List.setIfInBounds_toArray, List.set_cons_zero, List.set_cons_succ]
            refine wpAnyH_take (i := 7) (v := ?_) rfl (by kernel_rfl) (by kernel_rfl) (by kernel_rfl) (fun _ _ _ h => h) (Or.inl ⟨by rfl, ?_⟩) hS0 ?_
            rotate_left
            · intro W _; go_simp; try with_reducible rfl
            try simp only [Act.put, List.getElem_toArray, List.getElem_cons_zero, List.getElem_cons_succ, List.setIfInBounds_toArray, List.set_cons_zero, List.set_cons_succ]
            refine wpAnyH_take (i := 8) (v := .agg jx.arr) rfl (by kernel_rfl) (by kernel_rfl) (by kernel_rfl) (fun _ _ _ h => h) (yields_rg rfl 29 _ rfl gx (ox + px * 13) rfl jx.arr _ (fun W hW => (HJx.out.later hW).rg) Try.underlying29 rfl (by kernel_rfl)) hS0 ?_
            try simp only [Act.put, List.getElem_toArray, List.getElem_cons_zero, List.getElem_cons_succ, List.setIfInBounds_toArray, List.set_cons_zero, List.set_cons_succ]
            refine wpAnyH_take (i := 9) (v := ?_) rfl (by kernel_rfl) (by kernel_rfl) (by kernel_rfl) (fun _ _ _ h => h) (Or.inl ⟨by rfl, ?_⟩) hS0 ?_
            rotate_left
            · intro W _; go_simp; try with_reducible rfl
            try simp only [Act.put, List.getElem_toArray, List.getElem_cons_zero, List.getElem_cons_succ, List.setIfInBounds_toArray, List.set_cons_zero, List.set_cons_succ]
            refine wpAnyH_take (i := 10) (v := ?_) rfl (by kernel_rfl) (by kernel_rfl) (by kernel_rfl) (fun _ _ _ h => h) (Or.inl ⟨by rfl, ?_⟩) hS0 ?_
            rotate_left
            · intro W _; go_simp; try with_reducible rfl
            try simp only [Act.put, List.getElem_toArray, List.getElem_cons_zero, List.getElem_cons_succ, List.setIfInBounds_toArray, List.set_cons_zero, List.set_cons_succ]
            refine wpAnyH_take (i := 11) (v := ?_) rfl (by kernel_rfl) (by kernel_rfl) (by kernel_rfl) (fun _ _ _ h => h) (Or.inl ⟨by rfl, ?_⟩) hS0 ?_
            rotate_left
            · intro W _; go_simp; try with_reducible rfl
            try simp only [Act.put, List.getElem_toArray, List.getElem_cons_zero, List.getElem_cons_succ, List.setIfInBounds_toArray, List.set_cons_zero, List.set_cons_succ]
            refine wpAnyH_take (i := 12) (v := ?_) rfl (by kernel_rfl) (by kernel_rfl) (by kernel_rfl) (fun _ _ _ h => h) (Or.inl ⟨by rfl, ?_⟩) hS0 ?_
            rotate_left
            · intro W _; go_simp; try with_reducible rfl
            try simp only [Act.put, List.getElem_toArray, List.getElem_cons_zero, List.getElem_cons_succ, List.setIfInBounds_toArray, List.set_cons_zero, List.set_cons_succ]
            refine wpAnyH_take (i := 13) (v := ?_) rfl (by kernel_rfl) (by kernel_rfl) (by kernel_rfl) (fun _ _ _ h => h) (Or.inl ⟨by rfl, ?_⟩) hS0 ?_
            rotate_left
            · intro W hSW; have hx := (hSW.cell (p := ⟨gOx, _, none⟩) (by show gOx < wr.heap.size; omega)).trans HcOy.out; go_simp; try with_reducible rfl
            try simp only [Act.put, List.getElem_toArray, List.getElem_cons_zero, List.getElem_cons_succ, List.setIfInBounds_toArray, List.set_cons_zero, List.set_cons_succ]
            refine wpAnyH_take (i := 14) (v := ?_) rfl (by kernel_rfl) (by kernel_rfl) (by kernel_rfl) (fun _ _ _ h => h) (Or.inl ⟨by rfl, ?_⟩) hS0 ?_
            rotate_left
            · intro W _; go_simp; try with_reducible rfl
            try simp only [Act.put, List.getElem_toArray, List.getElem_cons_zero, List.getElem_cons_succ, List.setIfInBounds_toArray, List.set_cons_zero, List.set_cons_succ]
            refine wpAnyH_take (i := 15) (v := ?_) rfl (by kernel_rfl) (by kernel_rfl) (by kernel_rfl) (fun _ _ _ h => h) (Or.inl ⟨by rfl, ?_⟩) hS0 ?_
            rotate_left
            · intro W hSW; have hx := (hSW.cell (p := ⟨gIy, _, none⟩) (by show gIy < wr.heap.size; omega)).trans HcIy.out; go_simp; try with_reducible rfl
            try simp only [Act.put, List.getElem_toArray, List.getElem_cons_zero, List.getElem_cons_succ, List.setIfInBounds_toArray, List.set_cons_zero, List.set_cons_succ]
            refine wpAnyH_take (i := 16) (v := ?_) rfl (by kernel_rfl) (by kernel_rfl) (by kernel_rfl) (fun _ _ _ h => h) (Or.inl ⟨by rfl, ?_⟩) hS0 ?_
            rotate_left
            · intro W _; go_simp; try with_reducible rfl
            try simp only [Act.put, List.getElem_toArray, List.getElem_cons_zero, List.getElem_cons_succ, List.setIfInBounds_toArray, List.set_cons_zero, List.set_cons_succ]
            refine wpAnyH_take (i := 17) (v := .agg jy.arr) rfl (by kernel_rfl) (by kernel_rfl) (by kernel_rfl) (fun _ _ _ h => h) (yields_rg rfl 29 _ rfl gx (ox + py * 13) rfl jy.arr _ (fun W hW => (HJy.out.later hW).rg) Try.underlying29 rfl (by kernel_rfl)) hS0 ?_
            try simp only [Act.put, List.getElem_toArray, List.getElem_cons_zero, List.getElem_cons_succ, List.setIfInBounds_toArray, List.set_cons_zero, List.set_cons_succ]
            refine wpAnyH_ready (rs := [18]) (by kernel_rfl) (by simp) ?_
            refine AllReadyH.cons rfl (fun K hK => ?_) AllReadyH.nil
            go_simp
            refine (K1.out _).mono ?_
            rintro v x1 ⟨rfl, hbl⟩
            go_simp
            refine hK.out _ _ (hS0.trans (hbl.mono hS0.size)) (fun hS1 => ?_)
            clear hK K hbl
            try simp only [Act.put, List.getElem_toArray, List.getElem_cons_zero, List.getElem_cons_succ, List.setIfInBounds_toArray, List.set_cons_zero, List.set_cons_succ]
            refine wpAnyH_done (by kernel_rfl) ?_ _
            go_wp2_with fail
            go_round
            case rel => exact ⟨k + 1, by omega, by go_num, hbi.trans (hS1.mono hbi.size)⟩
            case measure => simp [intOf]; omega
          · have hki' : k = i := by omega
            subst hki'
            have HR2 := Lib.hid (HR.out.later hbi)
            clear HR hbi hb
            obtain ⟨wo, hwo⟩ : ∃ wo, wo = wr := ⟨_, rfl⟩
            subst hwo
            obtain ⟨m, hm⟩ : ∃ m, m = (U[k]'(by have := HQ.out; omega)).length := ⟨_, rfl⟩
            have hm1 : 0 < m := by rw [hm]; exact (HIn.out _ (List.getElem_mem _)).1
            have HM := Lib.hid hm; clear hm
            go_wp2_with fail
            go_loopw [6] (fun v wi => ∃ b : Nat, 1 ≤ b ∧ b ≤ m ∧ v = .int .i64 b ∧ Below wo.heap.size wo wi) (fun v wi => m - (intOf v).toNat)
            case atStart => exact ⟨1, Nat.le_refl _, hm1, rfl, Below.refl _ _⟩
            case round =>
              obtain ⟨b, hb1, hbm, rfl, hbi⟩ := hrel
              have hbz : Below w.heap.size w wr := hbw.trans (hbi.mono hbw.size)
              have hRw := HR2.out.later hbi
              obtain ⟨gO, oO, A1, cc, hBo, hgO, cO, hrI, hcI, _⟩ := hRw.at (i := k) (by have := HQ.out; omega)
              obtain ⟨u, hu⟩ : ∃ u, u = U[k]'(by have := HQ.out; omega) := ⟨_, rfl⟩
              rw [← hu] at cO hrI hcI
              have hum : u ∈ U := by rw [hu]; exact List.getElem_mem _
              have hmu : m = u.length := by rw [hu]; exact HM.out
              rw [← hmu] at cO hcI
              subst hBo
              have HcO := Lib.hid cO
              by_cases hbl : b < m
              · obtain ⟨a, hab⟩ : ∃ a, b = a + 1 := ⟨b - 1, by omega⟩
                have hwr : IntKind.i64.wrap ((b : Int) - 1) = (a : Int) := by rw [IntKind.wrap_i64]; omega
                have hwr2 : wrap64 ((b : Int) - 1) = (a : Int) := by simp [wrap64]; omega
                have ham : a < m := by omega
                obtain ⟨gI, oI, hAI, hgI, cX⟩ := RdI.nat hrI (k := b) (by omega)
                obtain ⟨gI2, oI2, hAI2, hgI2, cY⟩ := RdI.nat hrI (k := a) (by omega)
                rw [hAI] at hAI2
                injection hAI2 with hAI2; injection hAI2 with e1 e2; subst e1 e2
                subst hAI
                obtain ⟨px, hpx⟩ : ∃ p, p = u[b]'(by omega) := ⟨_, rfl⟩
                obtain ⟨py, hpy⟩ : ∃ p, p = u[a]'(by omega) := ⟨_, rfl⟩
                rw [← hpx] at cX
                rw [← hpy] at cY
                have hlt := (HIn.out _ hum).2
                have hplx : px < l.length := by rw [hpx]; exact hlt _ (List.getElem_mem _)
                have hply : py < l.length := by rw [hpy]; exact hlt _ (List.getElem_mem _)
                have hpnx : px < n := by have := Hn.out; omega
                have hpny : py < n := by have := Hn.out; omega
                obtain ⟨gx, ox, hAgx, hgx, hjx⟩ := (HA.out.later hbz).at hplx
                obtain ⟨gy, oy, hAgy, hgy, hjy⟩ := (HA.out.later hbz).at hply
                rw [hAgx] at hAgy
                injection hAgy with hAgy; injection hAgy with e1 e2; subst e1 e2
                subst hAgx
                obtain ⟨jx, hjkx⟩ : ∃ j, j = l[px] := ⟨_, rfl⟩
                obtain ⟨jy, hjky⟩ : ∃ j, j = l[py] := ⟨_, rfl⟩
                rw [← hjkx] at hjx
                rw [← hjky] at hjy
                have ht : tryB jx jy = false := by
                  have h9 := HWi.out u hum a (by omega)
                  subst hab
                  rw [← hpx, ← hpy, jat_at hplx, jat_at hply, ← hjkx, ← hjky] at h9
                  exact h9
                have k1 := fun (W : World) => ahead_any jx jy W
                rw [ht] at k1
                have K1 := Lib.hid k1; have HJx := Lib.hid hjx; have HJy := Lib.hid hjy; have HcX := Lib.hid cX; have HcY := Lib.hid cY; have HW1 := Lib.hid hwr; have HW2 := Lib.hid hwr2
                clear k1 ht hjx hjy hjkx hjky cX cY cO hwr hwr2 hab hrI hpx hpy hlt hum hu hmu hRw
                have cO := HcO.out
                go_wp2_with fail
                clear cO
                refine wp_region_held_drew (S := fun X => Below wr.heap.size wr X) (by kernel_rfl) (Below.drew (Below.refl _ _)) (fun hS0 => ?_)
                refine wpAnyH_take (i := 0) (v := ?_) rfl (by kernel_rfl) (by kernel_rfl) (by kernel_rfl) (fun _ _ _ h => h) (Or.inl ⟨by rfl, ?_⟩) hS0 ?_
                rotate_left
                · intro W _; go_simp; try with_reducible rfl
                try simp only [Act.put, List.getElem_toArray, List.getElem_cons_zero, List.getElem_cons_succ, List.setIfInBounds_toArray, List.set_cons_zero, List.set_cons_succ]
                refine wpAnyH_take (i := 1) (v := ?_) rfl (by kernel_rfl) (by kernel_rfl) (by kernel_rfl) (fun _ _ _ h => h) (Or.inl ⟨by rfl, ?_⟩) hS0 ?_
                rotate_left
                · intro W _; go_simp; try with_reducible rfl
                try simp only [Act.put, List.getElem_toArray, List.getElem_cons_zero, List.getElem_cons_succ, List.setIfInBounds_toArray, List.set_cons_zero, List.set_cons_succ]
                refine wpAnyH_take (i := 2) (v := ?_) rfl (by kernel_rfl) (by kernel_rfl) (by kernel_rfl) (fun _ _ _ h => h) (Or.inl ⟨by rfl, ?_⟩) hS0 ?_
                rotate_left
                · intro W _; go_simp; try with_reducible rfl
                try simp only [Act.put, List.getElem_toArray, List.getElem_cons_zero, List.getElem_cons_succ, List.setIfInBounds_toArray, List.set_cons_zero, List.set_cons_succ]
                refine wpAnyH_take (i := 3) (v := ?_) rfl (by kernel_rfl) (by kernel_rfl) (by kernel_rfl) (fun _ _ _ h => h) (Or.inl ⟨by rfl, ?_⟩) hS0 ?_
                rotate_left
                · intro W _; go_simp; try with_reducible rfl
                try simp only [Act.put, List.getElem_toArray, List.getElem_cons_zero, List.getElem_cons_succ, List.setIfInBounds_toArray, List.set_cons_zero, List.set_cons_succ]
                refine wpAnyH_take (i := 4) (v := ?_) rfl (by kernel_rfl) (by kernel_rfl) (by kernel_rfl) (fun _ _ _ h => h) (Or.inl ⟨by rfl, ?_⟩) hS0 ?_
                rotate_left
                · intro W hSW; have hx := (hSW.cell (p := ⟨gO, _, none⟩) (by show gO < wr.heap.size; omega)).trans HcO.out; go_simp; try with_reducible rfl
                try simp only [Act.put, List.getElem_toArray, List.getElem_cons_zero, List.getElem_cons_succ, List.setIfInBounds_toArray, List.set_cons_zero, List.set_cons_succ]
                refine wpAnyH_take (i := 5) (v := ?_) rfl (by kernel_rfl) (by kernel_rfl) (by kernel_rfl) (fun _ _ _ h => h) (Or.inl ⟨by rfl, ?_⟩) hS0 ?_
                rotate_left
                · intro W _; go_simp; try with_reducible rfl
                try simp only [Act.put, List.getElem_toArray, List.getElem_cons_zero, List.getElem_cons_succ, List.setIfInBounds_toArray, List.set_cons_zero, List.set_cons_succ]
                refine wpAnyH_take (i := 6) (v := ?_) rfl (by kernel_rfl) (by kernel_rfl) (by kernel_rfl) (fun _ _ _ h => h) (Or.inl ⟨by rfl, ?_⟩) hS0 ?_
                rotate_left
                · intro W _; go_simp; try with_reducible rfl
                try simp only [Act.put, List.getElem_toArray, List.getElem_cons_zero, List.getElem_cons_succ, List.setIfInBounds_toArray, List.set_cons_zero, List.set_cons_succ]
                refine wpAnyH_take (i := 7) (v := ?_) rfl (by kernel_rfl) (by kernel_rfl) (by kernel_rfl) (fun _ _ _ h => h) (Or.inl ⟨by rfl, ?_⟩) hS0 ?_
                rotate_left
                · intro W hSW; have hx := (hSW.cell (p := ⟨gI, _, none⟩) (by show gI < wr.heap.size; omega)).trans HcX.out; go_simp; try with_reducible rfl
                try simp only [Act.put, List.getElem_toArray, List.getElem_cons_zero, List.getElem_cons_succ, List.setIfInBounds_toArray, List.set_cons_zero, List.set_cons_succ]
                refine wpAnyH_take (i := 8) (v := ?_) rfl (by kernel_rfl) (by kernel_rfl) (by kernel_rfl) (fun _ _ _ h => h) (Or.inl ⟨by rfl, ?_⟩) hS0 ?_
                rotate_left
                · intro W _; go_simp; try with_reducible rfl
                try simp only [Act.put, List.getElem_toArray, List.getElem_cons_zero, List.getElem_cons_succ, List.setIfInBounds_toArray, List.set_cons_zero, List.set_cons_succ]
                refine wpAnyH_take (i := 9) (v := .agg jx.arr) rfl (by kernel_rfl) (by kernel_rfl) (by kernel_rfl) (fun _ _ _ h => h) (yields_rg rfl 29 _ rfl gx (ox + px * 13) rfl jx.arr _ (fun W hW => (HJx.out.later hW).rg) Try.underlying29 rfl (by kernel_rfl)) hS0 ?_
                try simp only [Act.put, List.getElem_toArray, List.getElem_cons_zero, List.getElem_cons_succ, List.setIfInBounds_toArray, List.set_cons_zero, List.set_cons_succ]
                refine wpAnyH_take (i := 10) (v := ?_) rfl (by kernel_rfl) (by kernel_rfl) (by kernel_rfl) (fun _ _ _ h => h) (Or.inl ⟨by rfl, ?_⟩) hS0 ?_
                rotate_left
                · intro W _; go_simp; try with_reducible rfl
                try simp only [Act.put, List.getElem_toArray, List.getElem_cons_zero, List.getElem_cons_succ, List.setIfInBounds_toArray, List.set_cons_zero, List.set_cons_succ]
                refine wpAnyH_take (i := 11) (v := ?_) rfl (by kernel_rfl) (by kernel_rfl) (by kernel_rfl) (fun _ _ _ h => h) (Or.inl ⟨by rfl, ?_⟩) hS0 ?_
                rotate_left
                · intro W _; go_simp; try with_reducible rfl
                try simp only [Act.put, List.getElem_toArray, List.getElem_cons_zero, List.getElem_cons_succ, List.setIfInBounds_toArray, List.set_cons_zero, List.set_cons_succ]
                refine wpAnyH_take (i := 12) (v := ?_) rfl (by kernel_rfl) (by kernel_rfl) (by kernel_rfl) (fun _ _ _ h => h) (Or.inl ⟨by rfl, ?_⟩) hS0 ?_
                rotate_left
                · intro W _; go_simp; try with_reducible rfl
                try simp only [Act.put, List.getElem_toArray, List.getElem_cons_zero, List.getElem_cons_succ, List.setIfInBounds_toArray, List.set_cons_zero, List.set_cons_succ]
                refine wpAnyH_take (i := 13) (v := ?_) rfl (by kernel_rfl) (by kernel_rfl) (by kernel_rfl) (fun _ _ _ h => h) (Or.inl ⟨by rfl, ?_⟩) hS0 ?_
                rotate_left
                · intro W _; go_simp; try with_reducible rfl
                try simp only [Act.put, List.getElem_toArray, List.getElem_cons_zero, List.getElem_cons_succ, List.setIfInBounds_toArray, List.set_cons_zero, List.set_cons_succ]
                refine wpAnyH_take (i := 14) (v := ?_) rfl (by kernel_rfl) (by kernel_rfl) (by kernel_rfl) (fun _ _ _ h => h) (Or.inl ⟨by rfl, ?_⟩) hS0 ?_
                rotate_left
                · intro W hSW; have hx := (hSW.cell (p := ⟨gO, _, none⟩) (by show gO < wr.heap.size; omega)).trans HcO.out; go_simp; try with_reducible rfl
                try simp only [Act.put, List.getElem_toArray, List.getElem_cons_zero, List.getElem_cons_succ, List.setIfInBounds_toArray, List.set_cons_zero, List.set_cons_succ]
                refine wpAnyH_take (i := 15) (v := ?_) rfl (by kernel_rfl) (by kernel_rfl) (by kernel_rfl) (fun _ _ _ h => h) (Or.inl ⟨by rfl, ?_⟩) hS0 ?_
                rotate_left
                · intro W _; go_simp; try with_reducible rfl
                try simp only [Act.put, List.getElem_toArray, List.getElem_cons_zero, List.getElem_cons_succ, List.setIfInBounds_toArray, List.set_cons_zero, List.set_cons_succ]
                refine wpAnyH_take (i := 16) (v := ?_) rfl (by kernel_rfl) (by kernel_rfl) (by kernel_rfl) (fun _ _ _ h => h) (Or.inl ⟨by rfl, ?_⟩) hS0 ?_
                rotate_left
                · intro W _; go_simp; try with_reducible rfl
                try simp only [Act.put, List.getElem_toArray, List.getElem_cons_zero, List.getElem_cons_succ, List.setIfInBounds_toArray, List.set_cons_zero, List.set_cons_succ]
                first | rw [HW1.out] | rw [HW2.out]
                refine wpAnyH_take (i := 17) (v := ?_) rfl (by kernel_rfl) (by kernel_rfl) (by kernel_rfl) (fun _ _ _ h => h) (Or.inl ⟨by rfl, ?_⟩) hS0 ?_
                rotate_left
                · intro W _; go_simp; try with_reducible rfl
                try simp only [Act.put, List.getElem_toArray, List.getElem_cons_zero, List.getElem_cons_succ, List.setIfInBounds_toArray, List.set_cons_zero, List.set_cons_succ]
                refine wpAnyH_take (i := 18) (v := ?_) rfl (by kernel_rfl) (by kernel_rfl) (by kernel_rfl) (fun _ _ _ h => h) (Or.inl ⟨by rfl, ?_⟩) hS0 ?_
                rotate_left
                · intro W hSW; have hx := (hSW.cell (p := ⟨gI, _, none⟩) (by show gI < wr.heap.size; omega)).trans HcY.out; go_simp; try with_reducible rfl
                try simp only [Act.put, List.getElem_toArray, List.getElem_cons_zero, List.getElem_cons_succ, List.setIfInBounds_toArray, List.set_cons_zero, List.set_cons_succ]
                refine wpAnyH_take (i := 19) (v := ?_) rfl (by kernel_rfl) (by kernel_rfl) (by kernel_rfl) (fun _ _ _ h => h) (Or.inl ⟨by rfl, ?_⟩) hS0 ?_
                rotate_left
                · intro W _; go_simp; try with_reducible rfl
                try simp only [Act.put, List.getElem_toArray, List.getElem_cons_zero, List.getElem_cons_succ, List.setIfInBounds_toArray, List.set_cons_zero, List.set_cons_succ]
                refine wpAnyH_take (i := 20) (v := .agg jy.arr) rfl (by kernel_rfl) (by kernel_rfl) (by kernel_rfl) (fun _ _ _ h => h) (yields_rg rfl 29 _ rfl gx (ox + py * 13) rfl jy.arr _ (fun W hW => (HJy.out.later hW).rg) Try.underlying29 rfl (by kernel_rfl)) hS0 ?_
                try simp only [Act.put, List.getElem_toArray, List.getElem_cons_zero, List.getElem_cons_succ, List.setIfInBounds_toArray, List.set_cons_zero, List.set_cons_succ]
                refine wpAnyH_ready (rs := [21]) (by kernel_rfl) (by simp) ?_
                refine AllReadyH.cons rfl (fun K hK => ?_) AllReadyH.nil
                go_simp
                refine (K1.out _).mono ?_
                rintro v x1 ⟨rfl, hbl⟩
                go_simp
                refine hK.out _ _ (hS0.trans (hbl.mono hS0.size)) (fun hS1 => ?_)
                clear hK K hbl
                try simp only [Act.put, List.getElem_toArray, List.getElem_cons_zero, List.getElem_cons_succ, List.setIfInBounds_toArray, List.set_cons_zero, List.set_cons_succ]
                refine wpAnyH_done (by kernel_rfl) ?_ _
                go_wp2_with fail
                go_round
                case rel => exact ⟨b + 1, by omega, by omega, by go_num, hbi.trans (hS1.mono hbi.size)⟩
                case measure => simp [intOf]; omega
              · have hbm' : b = m := by omega
                subst hbm'
                clear hrI hRw
                go_wp2_with fail
                go_round
                case rel => exact ⟨k + 1, by omega, by go_num, Lib.hid (HR2.out.later hbi), hbz⟩
                case measure => simp [intOf]; omega
      · have hi' : i = q := by omega
        subst hi'
        go_wp2_with fail
        go_ret
        exact ⟨rfl, hb⟩
end orderRanks
end Go.Proofs.Ytamlcjepkoagmaa
