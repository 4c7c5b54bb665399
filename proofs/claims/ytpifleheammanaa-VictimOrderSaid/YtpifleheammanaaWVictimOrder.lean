/- The walk of VictimOrder. No condition beyond the form's own. -/
import Derived.Test.YtpifleheammanaaVp
import Derived.Test.YtpifleheammanaaRtx
import Derived.Test.YtpifleheammanaaMsk
namespace Go.Proofs.Ytpifleheammanaa
open Go.RowKit
set_option linter.unusedSimpArgs false
set_option linter.unusedVariables false
namespace victimOrder

/-- The need's component c. -/
def cmpN (j : Jb) (c : Nat) : Int := if c = 0 then j.a else if c = 1 then j.b else j.c
set_option maxHeartbeats 25600000 in
set_option maxRecDepth 100000 in
theorem walk (A0 : Option Addr) (N c0 : Nat) (L : List Ml) (A : Option Addr) (n cap : Nat) (l : List Jb) (t : Kt) (tl : List Lb) (w : World) (hN : N = L.length) (hL : RdM w A0 (mcs L)) (hc0 : N ≤ c0) (hc02 : c0 ≤ 9223372036854775807) (hLo : MsOk w L) (hn : n = l.length) (hA : RdJ w A l) (hc : n ≤ cap) (hc2 : cap ≤ 9223372036854775807) (ht : KtOk w t tl) :
    Calls Try.prog 7 #[.slice A0 N c0, .slice A n cap, .agg t.arr] w fun r w' => r = .returned (.bool true) ∧ Below w.heap.size w w' := by
  obtain ⟨FW, hFW⟩ : ∃ FW, few13 (mcs L) n t.n = FW := ⟨_, rfl⟩
  have kf := fun (W : World) (h : RdM W A0 (mcs L)) => few13_any A0 N c0 (mcs L) A n cap t W (show N = (mcs L).length by rw [hN]; simp [mcs]) (by omega) (by omega) (by have h1 := ht.lb.cap; have h2 := ht.lb.cap2; omega) h
  rw [hFW] at kf
  obtain ⟨oc, hoc⟩ : ∃ oc, cho (plansOf L t tl l) l L N = oc := ⟨_, rfl⟩
  obtain ⟨oc', hoc'⟩ : ∃ oc', cho (plansOf L.reverse t tl l.reverse) l.reverse L.reverse N = oc' := ⟨_, rfl⟩
  have k3 := fun (hNl : N ≤ 1000000) (hl : n ≤ 1000000) (W : World) (h1 : RdM W A0 (mcs L)) (h2 : MsOk W L) (h3 : RdJ W A l) (h4 : KtOk W t tl) => vchoose_any A0 N c0 L A n cap l t tl W hN hNl h1 h2 hn hl h3 h4 oc hoc
  have k4 := fun (hNl : N ≤ 1000000) (hl : n ≤ 1000000) (B2 : Option Addr) (c2 : Nat) (B1 : Option Addr) (c1 : Nat) (W : World) (h1 : RdM W B2 (mcs L.reverse)) (h2 : MsOk W L.reverse) (h3 : RdJ W B1 l.reverse) (h4 : KtOk W t tl) => vchoose_any B2 N c2 L.reverse B1 n c1 l.reverse t tl W (show N = L.reverse.length by rw [List.length_reverse]; exact hN) hNl h1 h2 (show n = l.reverse.length by rw [List.length_reverse]; exact hn) hl h3 h4 oc' hoc'
  have hGl : (n ≤ 1000000) → (chG L t tl l oc).length ≤ 1000000 := fun h => by rw [chG_is, List.length_map]; exact chJ_len hoc (by omega) (by omega)
  have hrev : Uneq l → okNeeds l → (∀ i k, i < L.length → k < i → nmAt L i ≠ nmAt L k) → chN L.reverse oc' = chN L oc ∧ chG L.reverse t tl l.reverse oc' = chG L t tl l oc ∧ oc'.isSome = oc.isSome := fun h1 h2 h3 => cho_rev h1 h2 h3 (by rw [← hN]; exact hoc) (by rw [List.length_reverse, ← hN]; exact hoc')
  generalize chG L t tl l oc = Gs at k3 hGl hrev
  generalize chN L oc = Ns at k3 hrev
  generalize oc.isSome = ob at k3 hrev
  have KF := Lib.hid kf; have K3 := Lib.hid k3; have K4 := Lib.hid k4; have HGl := Lib.hid hGl; have HRev := Lib.hid hrev; have HFW := Lib.hid hFW; have HA := Lib.hid hA; have HL := Lib.hid hL; have HLo := Lib.hid hLo; have HK := Lib.hid ht; have HN := Lib.hid hN; have Hn := Lib.hid hn; have HC := Lib.hid hc; have HC0 := Lib.hid hc0
  clear kf k3 k4 hGl hrev hoc hoc' hFW hA hL hLo ht hN hn hc hc0 hc2 hc02
  go_enter Try.func7, Try.ntmps7
  have HT0 := Lib.hid (show Bk (w.alloc (.cells t.arr 28)) w.heap.size 28 t.arr from Bk.fresh _ _ _)
  have hB0 : Below w.heap.size w (w.alloc (.cells t.arr 28)) := (Below.refl _ _).alloc (Nat.le_refl _) _
  go_wp2_with fail
  refine (awake13_any _).mono ?_; rintro v w1 ⟨rfl, hb1⟩
  have hB1 : Below w.heap.size w w1 := hB0.trans (hb1.mono hB0.size)
  have HT1 := Lib.hid (HT0.out.later hb1); clear HT0 hB0 hb1
  go_wp2_with (with_reducible refine load_bk rfl 28 _ rfl w.heap.size 0 rfl 28 t.arr t.arr _ HT1.out (Part.whole _) Try.underlying28 rfl (by kernel_rfl) ?_)
  refine (KF.out _ (HL.out.later hB1)).mono ?_; rintro v w2 ⟨rfl, hb2⟩
  have hB2 : Below w.heap.size w w2 := hB1.trans (hb2.mono hB1.size)
  have HT2 := Lib.hid (HT1.out.later hb2); clear HT1 hB1 hb2
  cases FW
  case false =>
    go_wp2_with fail
    refine (awake13_any _).mono ?_; rintro v wz ⟨rfl, hbz⟩
    go_wp2_with fail
    go_ret
    exact ⟨rfl, hB2.trans (hbz.mono hB2.size)⟩
  case true =>
    have hfw : N ≤ 30 ∧ n ≤ 60 := by
      have h := HFW.out; unfold few13 at h; simp only [Bool.and_eq_true, decide_eq_true_eq] at h
      have := HN.out
      have e : (mcs L).length = L.length := by simp [mcs]
      omega
    obtain ⟨hN4, hn1⟩ := hfw
    have hNl : N ≤ 1000000 := by omega
    have hl : n ≤ 1000000 := by omega
    go_wp2_with fail
    go_loopw [7, 8] (fun v7 i wr => ∃ (j : Nat) (z : Int), j ≤ n ∧ i = .int .i64 z ∧ Hid (z = (j : Int) - 1) ∧ Hid (OwnK wr (w.heap.size + 1) 45 13 v7 (cellsJ (l.drop j).reverse)) ∧ Hid (∀ a b, j ≤ a → a < n → b < a → (jat l a).sq ≠ (jat l b).sq) ∧ Hid (Bk wr w.heap.size 28 t.arr) ∧ Below w.heap.size w wr) (fun _ i wr => (intOf i + 1).toNat)
    case atStart => exact ⟨n, (n : Int) - 1, Nat.le_refl _, rfl, (show _ = _ from rfl), (show OwnK _ _ _ _ _ _ by rw [show l.drop n = [] by rw [Hn.out]; exact List.drop_length]; exact OwnK.nil _ _ _ _), (show ∀ a b, n ≤ a → a < n → b < a → (jat l a).sq ≠ (jat l b).sq from fun a b h1 h2 => absurd h2 (by omega)), HT2, hB2⟩
    case round =>
      clear HT2 hB2
      obtain ⟨j, z, hj, rfl, HZ, HO, HU, HTb, hb⟩ := hrel
      have lt0 : w.heap.size < wr.heap.size := HTb.out.here
      by_cases hj0 : j = 0
      case neg =>
        obtain ⟨i, rfl⟩ : ∃ i, j = i + 1 := ⟨j - 1, by omega⟩
        have hz : z = (i : Int) := by have := HZ.out; omega
        subst hz
        clear HZ hj0
        have hiN : i < n := by omega
        have hiL : i < l.length := by have := Hn.out; omega
        obtain ⟨E, hE⟩ : ∃ E, E = cellsJ (l.drop (i + 1)).reverse := ⟨_, rfl⟩
        have ho := HO.out
        rw [← hE] at ho
        have hEl : E.length ≤ 60 := by rw [hE, cellsJ_length, List.length_reverse, List.length_drop]; have := Hn.out; omega
        have hst : cellsJ (l.drop i).reverse = E ++ cellsJ [l[i]] := by
          rw [hE, ← cellsJ_append]
          congr 1
          rw [List.drop_eq_getElem_cons hiL, List.reverse_cons]
        have HQ := Lib.hid ho; have HST := Lib.hid hst
        clear ho hE hst HO hj
        obtain ⟨wo, hwo⟩ : ∃ wo, wo = wr := ⟨_, rfl⟩
        subst hwo
        go_wp2_with fail
        go_loopw [9] (fun v wi => ∃ a : Nat, a ≤ i ∧ v = .int .i64 a ∧ Hid (∀ b, b < a → (jat l i).sq ≠ (jat l b).sq) ∧ Below wo.heap.size wo wi) (fun v wi => i - (intOf v).toNat)
        case atStart => exact ⟨0, Nat.zero_le _, rfl, (show ∀ b, b < 0 → (jat l i).sq ≠ (jat l b).sq from fun b h => absurd h (Nat.not_lt_zero _)), Below.refl _ _⟩
        case round =>
          obtain ⟨a, ha, rfl, HY, hbi⟩ := hrel
          have hbw : Below w.heap.size w wr := hb.trans (hbi.mono hb.size)
          by_cases hai : a < i
          · have haL : a < l.length := by omega
            have hJ := (HA.out.later hb).later hbi
            obtain ⟨g, o, hAg, hg, hj1⟩ := hJ.at hiL
            obtain ⟨g2, o2, hAg2, hg2, hj2⟩ := hJ.at haL
            rw [hAg] at hAg2
            injection hAg2 with hAg2
            injection hAg2 with e1 e2
            subst e1 e2
            subst hAg
            have c1 : wr.cell? ⟨g, o + i * 13 + 10, none⟩ = some (.int .i64 l[i].sq) := hj1.rg 10 _ rfl
            have c2 : wr.cell? ⟨g, o + a * 13 + 10, none⟩ = some (.int .i64 l[a].sq) := hj2.rg 10 _ rfl
            have j1 := jat_at hiL
            have j2 := jat_at haL
            obtain ⟨x, hx⟩ : ∃ x, x = l[i].sq := ⟨_, rfl⟩
            obtain ⟨y, hy⟩ : ∃ y, y = l[a].sq := ⟨_, rfl⟩
            rw [← hx] at c1
            rw [← hy] at c2
            have HXY : Hid (x ≠ y → (jat l i).sq ≠ (jat l a).sq) := fun h => by rw [j1, j2, ← hx, ← hy]; exact h
            clear hj1 hj2 j1 j2 hx hy hJ hg2
            by_cases he : x = y
            · subst he
              clear HY HXY HU
              go_wp2_with fail
              refine wp_region_later (by kernel_rfl) (by kernel_rfl) ?_; have hL : ∀ (w : World) (x : Later w) (b o : Nat), b < w.heap.size → x.to.cell? ⟨b, o, none⟩ = w.cell? ⟨b, o, none⟩ := fun w x b o hb => x.cell hb; have hN := Later.some; (repeat (go_big_quiet_step (((fail))))); refine wpQuiet_nil ?_; intro w2 hw2; have hb2 := Later.out hw2; clear hw2 hL hN
              go_wp2_with fail
              go_ret
              exact ⟨rfl, hbw.trans (hb2.mono hbw.size)⟩
            · have he' : (x == y) = false := by simpa using he
              have HN : Hid (∀ b, b < a + 1 → (jat l i).sq ≠ (jat l b).sq) := fun b hb3 => by
                by_cases e9 : b = a
                · subst e9; exact HXY.out he
                · exact HY.out b (by omega)
              clear he HXY HY
              go_wp2_with fail
              refine wp_region_later (by kernel_rfl) (by kernel_rfl) ?_; have hL : ∀ (w : World) (x : Later w) (b o : Nat), b < w.heap.size → x.to.cell? ⟨b, o, none⟩ = w.cell? ⟨b, o, none⟩ := fun w x b o hb => x.cell hb; have hN := Later.some; (repeat (go_big_quiet_step (((fail))))); refine wpQuiet_nil ?_; intro w2 hw2; have hb2 := Later.out hw2; clear hw2 hL hN
              go_wp2_with fail
              go_round
              case rel => exact ⟨a + 1, by omega, by go_num, HN, hbi.trans (hb2.mono hbi.size)⟩
              case measure => simp [intOf]; omega
          · have hai' : a = i := by omega
            subst hai'
            have HU2 : Hid (∀ c b, a ≤ c → c < n → b < c → (jat l c).sq ≠ (jat l b).sq) := fun c b h1 h2 h3 => by
              by_cases e9 : c = a
              · subst e9; exact HY.out b h3
              · exact HU.out c b (by omega) h2 h3
            obtain ⟨g, o, hAg, hg, hj1⟩ := ((HA.out.later hb).later hbi).at hiL
            subst hAg
            obtain ⟨y, hy⟩ : ∃ y, y = l[a] := ⟨_, rfl⟩
            rw [← hy] at hj1
            have HS : Hid (cellsJ (l.drop a).reverse = E ++ cellsJ [y]) := by show _ = _; rw [hy]; exact HST.out
            have HJ := Lib.hid hj1; have HQ2 := Lib.hid (HQ.out.below hbi); have HT2 := Lib.hid (HTb.out.later hbi)
            have lt9 : w.heap.size < wr.heap.size := HT2.out.here
            clear hj1 hy HST HQ HTb HY HU hbi hb
            go_wp2_with (first | (with_reducible refine load_rg rfl 45 _ rfl g (o + a * 13) rfl y.arr _ HJ.out.rg Try.underlying45 rfl (by kernel_rfl) ?_) | ((with_reducible refine append_k _ rfl (.tmp 54) (.tmp 59) 23 rfl (w.heap.size + 1) 45 _ 13 160 Try.underlying23 infoJ rfl (by omega) _ E rfl (HQ2.out.alloc _) ⟨wr.heap.size, 0, none⟩ 1 1 (cellsJ [y]) rfl (fresh_k wr 13 _ _ rfl) (cellsJ_k _) (cellsJ_one _) rfl (by simp [cellsJ, maxLen] at hEl ⊢; omega) (by simp [cellsJ] at hEl ⊢; omega) (by simp; omega) ?_); intro u7' w5 hO5 hg5))
            go_round
            case rel => exact ⟨a, (a : Int) - 1, by omega, by go_num, (show _ = _ from rfl), (by show OwnK _ _ _ _ _ _; rw [HS.out]; exact hO5), HU2, (HT2.out.later ((Below.refl _ _).alloc (Nat.le_refl _) _)).stays hg5 (fun e => by have := HQ2.out.block _ e.symm; omega), (hbw.alloc hbw.size _).grown hg5 (by simp; omega) (fun g e => by have := HQ2.out.block _ e; omega)⟩
            case measure => first | (simp [intOf]; done) | (simp [intOf]; omega)
      case pos =>
        subst hj0
        have hz : z = -1 := by have := HZ.out; omega
        subst hz
        obtain ⟨B1, c1, hv1, hr1, hc1, hm1⟩ := OwnK.rdj HO.out
        rw [List.drop_zero] at hv1 hr1 hc1
        rw [List.length_reverse, ← Hn.out] at hv1 hc1
        subst hv1
        have HR1 := Lib.hid hr1
        have hun : Uneq l := List.pairwise_iff_getElem.2 fun a b h1 h2 h3 => fun e9 => HU.out b a (Nat.zero_le _) (by have := Hn.out; omega) h3 (by rw [jat_at h2, jat_at h1]; exact e9.symm)
        have HUn := Lib.hid hun
        clear hr1 hun HO HZ HU
        obtain ⟨wq, hwq⟩ : ∃ wq, wq = wr := ⟨_, rfl⟩
        subst hwq
        go_wp2_with fail
        go_loopw [10, 11] (fun v10 i wr => ∃ (j : Nat) (z : Int), j ≤ N ∧ i = .int .i64 z ∧ Hid (z = (j : Int) - 1) ∧ Hid (OwnK wr wq.heap.size 37 7 v10 (cellsM (mcs (L.drop j).reverse))) ∧ Hid (∀ a b, j ≤ a → a < N → b < a → nmAt L a ≠ nmAt L b) ∧ Below wq.heap.size wq wr) (fun _ i wr => (intOf i + 1).toNat)
        case atStart => exact ⟨N, (N : Int) - 1, Nat.le_refl _, rfl, (show _ = _ from rfl), (show OwnK _ _ _ _ _ _ by rw [show L.drop N = [] by rw [HN.out]; exact List.drop_length]; exact OwnK.nil _ _ _ _), (show ∀ a b, N ≤ a → a < N → b < a → nmAt L a ≠ nmAt L b from fun a b h1 h2 => absurd h2 (by omega)), Below.refl _ _⟩
        case round =>
          obtain ⟨j, z, hj, rfl, HZ, HO, HU, hbq⟩ := hrel
          by_cases hj0 : j = 0
          case neg =>
            obtain ⟨i, rfl⟩ : ∃ i, j = i + 1 := ⟨j - 1, by omega⟩
            have hz : z = (i : Int) := by have := HZ.out; omega
            subst hz
            clear HZ hj0
            have hiN : i < N := by omega
            have hiL : i < L.length := by have := HN.out; omega
            obtain ⟨E, hE⟩ : ∃ E, E = cellsM (mcs (L.drop (i + 1)).reverse) := ⟨_, rfl⟩
            have ho := HO.out
            rw [← hE] at ho
            have hEl : E.length ≤ 30 := by rw [hE, cellsM_length, List.length_map, List.length_reverse, List.length_drop]; have := HN.out; omega
            have hst : cellsM (mcs (L.drop i).reverse) = E ++ cellsM [L[i].1] := by
              rw [hE, ← cellsM_append, ← mcs_append]
              congr 2
              rw [List.drop_eq_getElem_cons hiL, List.reverse_cons]
            have HQ := Lib.hid ho; have HST := Lib.hid hst
            clear ho hE hst HO hj
            obtain ⟨wo, hwo⟩ : ∃ wo, wo = wr := ⟨_, rfl⟩
            subst hwo
            go_wp2_with fail
            go_loopw [12] (fun v wi => ∃ a : Nat, a ≤ i ∧ v = .int .i64 a ∧ Hid (∀ b, b < a → nmAt L i ≠ nmAt L b) ∧ Below wo.heap.size wo wi) (fun v wi => i - (intOf v).toNat)
            case atStart => exact ⟨0, Nat.zero_le _, rfl, (show ∀ b, b < 0 → nmAt L i ≠ nmAt L b from fun b h => absurd h (Nat.not_lt_zero _)), Below.refl _ _⟩
            case round =>
              obtain ⟨a, ha, rfl, HY, hbi⟩ := hrel
              have hbqw : Below wq.heap.size wq wr := hbq.trans (hbi.mono hbq.size)
              have hbw : Below w.heap.size w wr := hb.trans (hbqw.mono hb.size)
              by_cases hai : a < i
              · have haL : a < L.length := by omega
                have hJ := HL.out.later hbw
                obtain ⟨g, o, hAg, hg, hj1⟩ := hJ.at (i := i) (by simpa [mcs] using hiL)
                obtain ⟨g2, o2, hAg2, hg2, hj2⟩ := hJ.at (i := a) (by simpa [mcs] using haL)
                rw [hAg] at hAg2
                injection hAg2 with hAg2
                injection hAg2 with e1 e2
                subst e1 e2
                subst hAg
                rw [mcs_at hiL] at hj1
                rw [mcs_at haL] at hj2
                have c1 := hj1.nm
                have c2 := hj2.nm
                have j1 := nmAt_at hiL
                have j2 := nmAt_at haL
                obtain ⟨x, hx⟩ : ∃ x, x = L[i].1.nm := ⟨_, rfl⟩
                obtain ⟨y, hy⟩ : ∃ y, y = L[a].1.nm := ⟨_, rfl⟩
                rw [← hx] at c1
                rw [← hy] at c2
                have HXY : Hid (x ≠ y → nmAt L i ≠ nmAt L a) := fun h => by rw [j1, j2, ← hx, ← hy]; exact h
                clear hj1 hj2 j1 j2 hx hy hJ hg2
                cases he : sE x y
                case true =>
                  have he' : (x.toList == y.toList) = true := he
                  clear he HY HXY HU
                  go_wp2_with fail
                  refine wp_region_later (by kernel_rfl) (by kernel_rfl) ?_; have hL : ∀ (w : World) (x : Later w) (b o : Nat), b < w.heap.size → x.to.cell? ⟨b, o, none⟩ = w.cell? ⟨b, o, none⟩ := fun w x b o hb => x.cell hb; have hN := Later.some; (repeat (go_big_quiet_step (((fail))))); refine wpQuiet_nil ?_; intro w2 hw2; have hb2 := Later.out hw2; clear hw2 hL hN
                  go_wp2_with fail
                  go_ret
                  exact ⟨rfl, hbw.trans (hb2.mono hbw.size)⟩
                case false =>
                  have he' : (x.toList == y.toList) = false := he
                  have hne : x ≠ y := fun e9 => by rw [e9, sE_refl] at he; cases he
                  have HN2 : Hid (∀ b, b < a + 1 → nmAt L i ≠ nmAt L b) := fun b hb3 => by
                    by_cases e9 : b = a
                    · subst e9; exact HXY.out hne
                    · exact HY.out b (by omega)
                  clear he hne HXY HY
                  go_wp2_with fail
                  refine wp_region_later (by kernel_rfl) (by kernel_rfl) ?_; have hL : ∀ (w : World) (x : Later w) (b o : Nat), b < w.heap.size → x.to.cell? ⟨b, o, none⟩ = w.cell? ⟨b, o, none⟩ := fun w x b o hb => x.cell hb; have hN := Later.some; (repeat (go_big_quiet_step (((fail))))); refine wpQuiet_nil ?_; intro w2 hw2; have hb2 := Later.out hw2; clear hw2 hL hN
                  go_wp2_with fail
                  go_round
                  case rel => exact ⟨a + 1, by omega, by go_num, HN2, hbi.trans (hb2.mono hbi.size)⟩
                  case measure => simp [intOf]; omega
              · have hai' : a = i := by omega
                subst hai'
                have HU2 : Hid (∀ c b, a ≤ c → c < N → b < c → nmAt L c ≠ nmAt L b) := fun c b h1 h2 h3 => by
                  by_cases e9 : c = a
                  · subst e9; exact HY.out b h3
                  · exact HU.out c b (by omega) h2 h3
                obtain ⟨g, o, hAg, hg, hj1⟩ := (HL.out.later hbw).at (i := a) (by simpa [mcs] using hiL)
                subst hAg
                rw [mcs_at hiL] at hj1
                obtain ⟨y, hy⟩ : ∃ y, y = L[a].1 := ⟨_, rfl⟩
                rw [← hy] at hj1
                have HS : Hid (cellsM (mcs (L.drop a).reverse) = E ++ cellsM [y]) := by show _ = _; rw [hy]; exact HST.out
                have HJ := Lib.hid hj1; have HQ2 := Lib.hid (HQ.out.below hbi)
                have lt9 : wq.heap.size ≤ wr.heap.size := hbqw.size
                clear hj1 hy HST HQ HY HU hbi hbq
                go_wp2_with (first | (with_reducible refine load_rg rfl 37 _ rfl g (o + a * 7) rfl y.arr _ HJ.out.rg Try.underlying37 rfl (by kernel_rfl) ?_) | ((with_reducible refine append_k _ rfl (.tmp 86) (.tmp 91) 22 rfl wq.heap.size 37 _ 7 80 Try.underlying22 infoM rfl (by omega) _ E rfl (HQ2.out.alloc _) ⟨wr.heap.size, 0, none⟩ 1 1 (cellsM [y]) rfl (fresh_k wr 7 _ _ rfl) (cellsM_k _) (cellsM_one _) rfl (by simp [maxLen, cellsM_length]; omega) (by simp [cellsM_length]; omega) (by simp; omega) ?_); intro u7' w5 hO5 hg5))
                go_round
                case rel => exact ⟨a, (a : Int) - 1, by omega, by go_num, (show _ = _ from rfl), (by show OwnK _ _ _ _ _ _; rw [HS.out]; exact hO5), HU2, (hbqw.alloc hbqw.size _).grown hg5 (by simp; omega) (fun g e => HQ2.out.block _ e)⟩
                case measure => first | (simp [intOf]; done) | (simp [intOf]; omega)
          case pos =>
            subst hj0
            have hz : z = -1 := by have := HZ.out; omega
            subst hz
            obtain ⟨B2, c2, hv2, hr2, hc2, hm2⟩ := OwnK.rdm HO.out
            rw [List.drop_zero] at hv2 hr2 hc2
            rw [List.length_map, List.length_reverse, ← HN.out] at hv2 hc2
            subst hv2
            have hbw : Below w.heap.size w wr := hb.trans (hbq.mono hb.size)
            have HR2 := Lib.hid hr2; have HR1b := Lib.hid (HR1.out.later hbq); have HTw := Lib.hid (HTb.out.later hbq)
            have hun : ∀ i k, i < L.length → k < i → nmAt L i ≠ nmAt L k := fun i k h1 h2 => HU.out i k (Nat.zero_le _) (by have := HN.out; omega) h2
            have HUm := Lib.hid hun
            clear hr2 hun HO HZ HU HR1 HTb hbq hb lt0
            obtain ⟨ws, hws⟩ : ∃ ws, ws = wr := ⟨_, rfl⟩
            subst hws
            go_wp2_with fail
            go_loopw [95] (fun i wr => ∃ k : Nat, k ≤ n ∧ i = .int .i64 k ∧ Hid (∀ j ∈ l.take k, rB j.a j.b j.c = true) ∧ Below ws.heap.size ws wr) (fun i wr => n - (intOf i).toNat)
            case atStart => exact ⟨0, Nat.zero_le _, rfl, (show ∀ j ∈ l.take 0, rB j.a j.b j.c = true from fun j h => by simp at h), Below.refl _ _⟩
            case round =>
              obtain ⟨k, hk, rfl, HP, hbs⟩ := hrel
              have hbz : Below w.heap.size w wr := hbw.trans (hbs.mono hbw.size)
              by_cases hlt : k < n
              · have hlk : k < l.length := by have := Hn.out; omega
                obtain ⟨wo, hwo⟩ : ∃ wo, wo = wr := ⟨_, rfl⟩
                subst hwo
                obtain ⟨g, o, hAg, hg, hj1⟩ := (HA.out.later hbz).at hlk
                subst hAg
                obtain ⟨j, hjk⟩ : ∃ j, j = l[k] := ⟨_, rfl⟩
                rw [← hjk] at hj1
                have HJ := Lib.hid hj1; have HJK := Lib.hid hjk
                clear hj1 hjk
                go_wp2_with fail
                go_loopw [98] (fun v wi => ∃ c : Nat, c ≤ 3 ∧ v = .int .i64 c ∧ Hid (∀ d, d < c → 0 ≤ cmpN j d ∧ cmpN j d ≤ 1048576) ∧ wo = wi) (fun v wi => 3 - (intOf v).toNat)
                case atStart => exact ⟨0, Nat.zero_le _, rfl, (show ∀ d, d < 0 → 0 ≤ cmpN j d ∧ cmpN j d ≤ 1048576 from fun d h => absurd h (Nat.not_lt_zero _)), rfl⟩
                case round =>
                  obtain ⟨c, hc3, rfl, HD, hww⟩ := hrel
                  subst hww
                  by_cases hc4 : c < 3
                  · have cc : wo.cell? ⟨g, o + k * 13 + 3 + c, none⟩ = some (.int .i64 (cmpN j c)) := by
                      have h := HJ.out.rg (3 + c) (.int .i64 (cmpN j c)) (by
                        rcases (by omega : c = 0 ∨ c = 1 ∨ c = 2) with rfl | rfl | rfl <;> rfl)
                      rw [show o + k * 13 + 3 + c = o + k * 13 + (3 + c) by omega]; exact h
                    obtain ⟨x, hx⟩ : ∃ x, x = cmpN j c := ⟨_, rfl⟩
                    rw [← hx] at cc
                    have HX := Lib.hid hx; clear hx
                    by_cases h0 : x < 0
                    · have d0 : decide (x < 0) = true := decide_eq_true h0
                      clear h0 HX HD
                      go_wp2_with fail
                      go_ret
                      exact ⟨rfl, hbz⟩
                    · have d0 : decide (x < 0) = false := decide_eq_false h0
                      by_cases h1 : 1048576 < x
                      · have d1 : decide (1048576 < x) = true := decide_eq_true h1
                        clear h0 h1 HX HD
                        go_wp2_with fail
                        go_ret
                        exact ⟨rfl, hbz⟩
                      · have d1 : decide (1048576 < x) = false := decide_eq_false h1
                        have HD2 : Hid (∀ d, d < c + 1 → 0 ≤ cmpN j d ∧ cmpN j d ≤ 1048576) := fun d hd => by
                          by_cases e9 : d = c
                          · subst e9; rw [← HX.out]; omega
                          · exact HD.out d (by omega)
                        clear h0 h1 HX HD
                        go_wp2_with fail
                        go_round
                        case rel => exact ⟨c + 1, by omega, by go_num, HD2, trivial⟩
                        case measure => simp [intOf]; omega
                  · have hc5 : c = 3 := by omega
                    subst hc5
                    have hrb : rB j.a j.b j.c = true := by
                      obtain ⟨a1, a2⟩ := HD.out 0 (by omega)
                      obtain ⟨b1, b2⟩ := HD.out 1 (by omega)
                      obtain ⟨e1, e2⟩ := HD.out 2 (by omega)
                      simp only [cmpN] at a1 a2 b1 b2 e1 e2
                      unfold rB
                      rw [decide_eq_true_eq]
                      exact ⟨a1, a2, b1, b2, e1, e2⟩
                    have HP2 : Hid (∀ j ∈ l.take (k + 1), rB j.a j.b j.c = true) := fun x hx => by
                      rw [List.take_succ_eq_append_getElem hlk, List.mem_append] at hx
                      rcases hx with hx | hx
                      · exact HP.out x hx
                      · simp at hx; rw [hx, ← HJK.out]; exact hrb
                    clear hrb HP HD
                    go_wp2_with fail
                    go_round
                    case rel => exact ⟨k + 1, by omega, by go_num, HP2, hbs⟩
                    case measure => simp [intOf]; omega
              · have hk' : k = n := by omega
                subst hk'
                have hok : okNeeds l := by
                  have h := HP.out
                  rwa [show l.take k = l by rw [Hn.out]; exact List.take_length] at h
                obtain ⟨e1, e2, e3⟩ := HRev.out HUn.out hok HUm.out
                have k4 := K4.out hNl hl
                rw [e1, e2, e3] at k4
                have K4b := Lib.hid k4
                have HR1c := Lib.hid (HR1b.out.later hbs); have HR2c := Lib.hid (HR2.out.later hbs); have HTz := Lib.hid (HTw.out.later hbs)
                have hmr : MsOk w L.reverse := fun x hx => HLo.out x (List.mem_reverse.1 hx)
                have HMr := Lib.hid hmr
                clear hok e1 e2 e3 k4 HP HRev HUn HUm hmr hbs HR1b HR2 HTw hbw K4
                have lt5 : w.heap.size < wr.heap.size := HTz.out.here
                go_wp2_with (with_reducible refine load_bk rfl 28 _ rfl w.heap.size 0 rfl 28 t.arr t.arr _ HTz.out (Part.whole _) Try.underlying28 rfl (by kernel_rfl) ?_)
                refine (K3.out hNl hl _ (HL.out.later hbz) (HLo.out.later hbz) (HA.out.later hbz) (HK.out.later hbz)).mono ?_; rintro v w5 ⟨⟨uP, rfl, hO⟩, hb5⟩
                obtain ⟨BP, cP, hv, hrP, hcP, hmP⟩ := hO.rds
                subst hv
                have hGl := HGl.out hl
                obtain ⟨e, he⟩ : ∃ e, e = Gs.length := ⟨_, rfl⟩
                rw [← he] at hGl hcP ⊢
                have HEl : Hid (Gs.length = e) := he.symm
                have hB5 : Below w.heap.size w w5 := hbz.trans (hb5.mono hbz.size)
                have HT5 := Lib.hid (HTz.out.later hb5); have HRP := Lib.hid hrP; have HR1d := Lib.hid (HR1c.out.later hb5); have HR2d := Lib.hid (HR2c.out.later hb5); clear HTz hbz hb5 he hrP hO HR1c HR2c lt5
                have lt5 : w.heap.size < w5.heap.size := HT5.out.here
                go_wp2_with (with_reducible refine load_bk rfl 28 _ rfl w.heap.size 0 rfl 28 t.arr t.arr _ HT5.out (Part.whole _) Try.underlying28 rfl (by kernel_rfl) ?_)
                refine (K4b.out B2 c2 B1 c1 _ HR2d.out (HMr.out.later hB5) HR1d.out (HK.out.later hB5)).mono ?_; rintro v w6 ⟨⟨uQ, rfl, hO⟩, hb6⟩
                obtain ⟨BQ, cQ, hv, hrQ, hcQ, hmQ⟩ := hO.rds
                subst hv
                rw [HEl.out] at hcQ ⊢
                have hB6 : Below w.heap.size w w6 := hB5.trans (hb6.mono hB5.size)
                have HRP6 := Lib.hid (HRP.out.later hb6); have HRQ := Lib.hid hrQ; clear HT5 HRP hB5 hb6 hrQ hO HR1d HR2d lt5
                have kt := fun (W : World) (h1 : RdS W BP Gs) (h2 : RdS W BQ Gs) => rtexts_any BP e cP Gs BQ e cQ Gs W HEl.out.symm HEl.out.symm (by omega) (by omega) h1 h2
                rw [show sameS Gs Gs = true by simp [sameS]] at kt
                have KT := Lib.hid kt; clear kt
                have hss : (Ns.toList == Ns.toList) = true := by simp
                cases ob
                all_goals
                  go_wp2_with fail
                  refine (KT.out _ HRP6.out HRQ.out).mono ?_; rintro v w7 ⟨rfl, hb7⟩
                  go_wp2_with fail
                  go_ret
                  exact ⟨rfl, hB6.trans (hb7.mono hB6.size)⟩
    
end victimOrder
end Go.Proofs.Ytpifleheammanaa
