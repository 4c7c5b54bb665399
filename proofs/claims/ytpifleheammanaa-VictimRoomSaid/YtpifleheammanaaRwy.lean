/- The contract of the document's own Why (layer 11). Condition: the slice reads as a list of jobs, of at most 1000000; the machine and the task are ones that Go can have. -/
import Derived.Test.YtpifleheammanaaRfr
import Derived.Test.YtpifleheammanaaWy
import Derived.Test.YtpifleheammanaaRts
namespace Go.Proofs.Ytpifleheammanaa
open Go.RowKit
set_option linter.unusedSimpArgs false
set_option linter.unusedVariables false

theorem rfreeM_any (m : Mc) (A : Option Addr) (n cap : Nat) (l : List Jb) (w : World) (hn : Hid (n = l.length)) (hl : n ≤ 1000000) (hA : Hid (RdJ w A l)) (p q r e : Int) (hr : Hid (freM m l = (p, q, r, e))) :
    Calls Try.prog 32 #[.agg m.arr, .slice A n cap] w fun t w' => t = .returned (.tuple #[.agg #[.int .i64 p, .int .i64 q, .int .i64 r], .int .i64 e]) ∧ Below w.heap.size w w' :=
  rfree_any m A n cap l w hn hl hA _ _ _ _ rfl p q r e hr
theorem rep_take {s ap nm : ByteArray} {l : List Jb} {k : Nat} (h : k < l.length) : rep s ap nm (l.take (k + 1)) = (rep s ap nm (l.take k) || (!decide (ap.size = 0) && both s ap nm l[k])) := by
  unfold rep; rw [any_takeJ h]; cases decide (ap.size = 0) <;> simp

set_option maxHeartbeats 6400000 in
theorem rwhy_any (m : Mc) (ml : List Lb) (A : Option Addr) (n cap : Nat) (l : List Jb) (t : Kt) (tl : List Lb) (w : World) (hn : Hid (n = l.length)) (hl : n ≤ 1000000) (hA : Hid (RdJ w A l)) (hM : Hid (McOk w m ml)) (hT : Hid (KtOk w t tl)) (r : Int) (hr : Hid (why m ml t tl l = r)) :
    Calls Try.prog 30 #[.agg m.arr, .slice A n cap, .agg t.arr] w fun e w' => e = .returned (.int .i64 r) ∧ Below w.heap.size w w' := by
  obtain ⟨f, hf⟩ : ∃ f, freM m l = f := ⟨_, rfl⟩
  obtain ⟨p, q, s, e⟩ := f
  obtain ⟨N, hN⟩ : ∃ N, m.ok ml = N := ⟨_, rfl⟩
  obtain ⟨K, hK⟩ : ∃ K, t.ok tl = K := ⟨_, rfl⟩
  obtain ⟨U, hU⟩ : ∃ U, m.up = U := ⟨_, rfl⟩
  obtain ⟨H, hH⟩ : ∃ H, hasB ml tl = H := ⟨_, rfl⟩
  obtain ⟨R, hR⟩ : ∃ R, rep m.nm t.ap t.nm l = R := ⟨_, rfl⟩
  obtain ⟨F, hF⟩ : ∃ F, fB t.a t.b t.c p q s = F := ⟨_, rfl⟩
  have hres : whyT e N K U H R F = r := by have h := hr.out; unfold why at h; rw [hf, hN, hK, hU, hH, hR, hF] at h; exact h
  have k1 := fun (W : World) (h : Hid (RdJ W A l)) => rfreeM_any m A n cap l W hn hl h p q s e hf
  have k2 := fun (W : World) (h : McOk W m ml) => rnode_any m.nm m.a m.b m.c m.A m.n m.cp ml W (by have := h.nm; omega) h.lb.len h.lb.rd h.lb.sz h.lb.cap h.lb.cap2
  have k3 := fun (W : World) (h : KtOk W t tl) => rtask_any t.nm t.qu t.pr t.a t.b t.c t.A t.n t.cp tl t.ap t.ga t.sz W (by have := h.nm; omega) (by have := h.qu; omega) h.lb.len h.lb.rd h.lb.sz h.lb.cap h.lb.cap2 (by have := h.ap; omega) (by have := h.ga; omega)
  have k4 := fun (W : World) (h : McOk W m ml) (h' : KtOk W t tl) => rhas_any m.A t.A m.n m.cp t.n t.cp ml tl W h.lb.len h'.lb.len h.lb.rd h'.lb.rd h.lb.cap h.lb.cap2 h'.lb.cap h'.lb.cap2
  have k6 := fun (W : World) => rfits_any t.a t.b t.c p q s W
  have e2 : nodeB m.nm m.a m.b m.c ml = N := hN
  have e3 : taskB t.nm t.qu t.pr t.a t.b t.c tl t.ap t.ga t.sz = K := hK
  rw [e2] at k2
  rw [e3] at k3
  rw [hH] at k4
  rw [hF] at k6
  have K1 := Lib.hid k1; have K2 := Lib.hid k2; have K3 := Lib.hid k3; have K4 := Lib.hid k4; have K6 := Lib.hid k6
  have HRes := Lib.hid hres
  have HU := Lib.hid hU; have HRp := Lib.hid hR
  have hapc : t.ap = ⟨#[]⟩ ∨ ¬ t.ap.size = 0 := by
    by_cases h : t.ap.size = 0
    · exact .inl (empty_of h)
    · exact .inr h
  have HAp := Lib.hid hapc
  clear k1 k2 k3 k4 k6 hN hK hU hH hR hF e2 e3 hf hres hr hapc
  go_enter Try.func30, Try.ntmps30
  have hM0 : Bk ((w.alloc (.cells m.arr 37)).alloc (.cells t.arr 28)) w.heap.size 37 m.arr := (Bk.fresh w _ _).later ((Below.refl _ _).alloc (Nat.le_refl _) _)
  have hT0 : Bk ((w.alloc (.cells m.arr 37)).alloc (.cells t.arr 28)) (w.heap.size + 1) 28 t.arr := Bk.freshAt _ _ _ (by simp)
  have hB0 : Below w.heap.size w ((w.alloc (.cells m.arr 37)).alloc (.cells t.arr 28)) := ((Below.refl _ _).alloc (Nat.le_refl _) _).alloc (by simp) _
  have HM0 := Lib.hid hM0; clear hM0
  have HT0 := Lib.hid hT0; clear hT0
  have HA0 := Lib.hid (hA.out.later hB0)
  go_wp2_with (with_reducible refine load_bk rfl 37 _ rfl w.heap.size 0 rfl 37 m.arr m.arr _ HM0.out (Part.whole _) Try.underlying37 rfl (by kernel_rfl) ?_)
  refine (K1.out _ HA0).mono ?_; rintro v w1 ⟨rfl, hb1⟩
  have hB1 : Below w.heap.size w w1 := hB0.trans (hb1.mono hB0.size)
  have HM1 := Lib.hid (HM0.out.later hb1)
  have HT1 := Lib.hid (HT0.out.later hb1)
  clear HM0 HT0 HA0 hB0
  have lt1 : w.heap.size + 1 < w1.heap.size := HT1.out.here
  go_wp2_with (first | ((with_reducible refine store_bk rfl 25 (.tmp 7) (.tmp 15) rfl w1.heap.size 0 #[.int .i64 p, .int .i64 q, .int .i64 s] rfl rfl 25 _ #[.int .i64 p, .int .i64 q, .int .i64 s] (Bk.fresh _ _ _) (by kernel_rfl) (by simp) (by kernel_rfl) rfl ?_); intro w2 hX2 hg2 hs2; have HX2 := Lib.hid hX2; clear hX2; have hB2 : Below w.heap.size w w2 := grown_below (hB1.alloc hB1.size _) hg2 hB1.size; have HM2 := Lib.hid ((HM1.out.later ((Below.refl _ _).alloc (Nat.le_refl _) _)).stays hg2 (by simp; omega)); have HT2 := Lib.hid ((HT1.out.later ((Below.refl _ _).alloc (Nat.le_refl _) _)).stays hg2 (by simp; omega))) | (with_reducible refine load_bk rfl 35 _ rfl w.heap.size 0 rfl 37 m.arr m.node _ HM2.out (Part.of rfl) Try.underlying35 rfl (by kernel_rfl) ?_))
  have HOm := Lib.hid (hM.out.later hB2); have HOt := Lib.hid (hT.out.later hB2)
  refine (K2.out _ HOm.out).mono ?_; rintro v w3 ⟨rfl, hb3⟩
  have hB3 : Below w.heap.size w w3 := hB2.trans (hb3.mono hB2.size)
  cases N
  case false =>
    have hq : r = 5 := by have h := HRes.out; unfold whyT at h; simpa using h.symm
    subst hq
    go_wp2_with fail
    go_ret
    exact ⟨rfl, hB3⟩
  case true =>
    have HX3 := Lib.hid (HX2.out.later hb3); have HM3 := Lib.hid (HM2.out.later hb3); have HT3 := Lib.hid (HT2.out.later hb3); have HOt3 := Lib.hid (HOt.out.later hb3); have HOm3 := Lib.hid (HOm.out.later hb3)
    clear HX2 HM2 HT2 HOt HOm HM1 HT1 hg2 hs2 lt1
    go_wp2_with (with_reducible refine load_bk rfl 28 _ rfl (w.heap.size + 1) 0 rfl 28 t.arr t.arr _ HT3.out (Part.whole _) Try.underlying28 rfl (by kernel_rfl) ?_)
    refine (K3.out _ HOt3.out).mono ?_; rintro v w4 ⟨rfl, hb4⟩
    have hB4 : Below w.heap.size w w4 := hB3.trans (hb4.mono hB3.size)
    cases K
    case false =>
      have hq : r = 5 := by have h := HRes.out; unfold whyT at h; simpa using h.symm
      subst hq
      go_wp2_with fail
      go_ret
      exact ⟨rfl, hB4⟩
    case true =>
      by_cases he : e = 0
      case neg =>
        have hd : decide (e = 0) = false := decide_eq_false he
        have hq : r = 5 := by have h := HRes.out; unfold whyT at h; rw [if_neg he] at h; exact h.symm
        subst hq
        go_wp2_with fail
        go_ret
        exact ⟨rfl, hB4⟩
      subst he
      have HX4 := Lib.hid (HX3.out.later hb4); have HM4 := Lib.hid (HM3.out.later hb4); have HT4 := Lib.hid (HT3.out.later hb4); have HOt4 := Lib.hid (HOt3.out.later hb4); have HOm4 := Lib.hid (HOm3.out.later hb4)
      clear HX3 HM3 HT3 HOt3 HOm3
      have cu : w4.cell? ⟨w.heap.size, 5, none⟩ = some (.bool U) := by rw [← HU.out]; exact HM4.out.cellAt 5
      have cl : w4.cell? ⟨w.heap.size, 4, none⟩ = some (.slice m.A m.n m.cp) := HM4.out.cellAt 4
      have ct : w4.cell? ⟨w.heap.size + 1, 6, none⟩ = some (.slice t.A t.n t.cp) := HT4.out.cellAt 6
      have z0 : w.heap.size < w4.heap.size := HM4.out.here
      have z1 : w.heap.size + 1 < w4.heap.size := HT4.out.here
      cases U
      case false =>
        have hq : r = 1 := by have h := HRes.out; unfold whyT at h; simpa using h.symm
        subst hq
        go_wp2_with fail
        go_ret
        exact ⟨rfl, hB4⟩
      case true =>
        go_wp2_with fail
        refine (K4.out _ HOm4.out HOt4.out).mono ?_; rintro v w5 ⟨rfl, hb5⟩
        have hB5 : Below w.heap.size w w5 := hB4.trans (hb5.mono hB4.size)
        clear cu cl ct z0 z1
        cases H
        case false =>
          have hq : r = 2 := by have h := HRes.out; unfold whyT at h; simpa using h.symm
          subst hq
          go_wp2_with fail
          go_ret
          exact ⟨rfl, hB5⟩
        case true =>
          have HX5 := Lib.hid (HX4.out.later hb5); have HM5 := Lib.hid (HM4.out.later hb5); have HT5 := Lib.hid (HT4.out.later hb5)
          clear HX4 HM4 HT4
          go_wp2_with fail
          go_loopw [42] (fun i wr => ∃ k : Nat, k ≤ n ∧ i = .int .i64 k ∧ Hid (rep m.nm t.ap t.nm (l.take k) = false) ∧ Hid (Bk wr w.heap.size 37 m.arr) ∧ Hid (Bk wr (w.heap.size + 1) 28 t.arr) ∧ Hid (Bk wr w1.heap.size 25 #[.int .i64 p, .int .i64 q, .int .i64 s]) ∧ Below w.heap.size w wr) (fun i wr => n - (intOf i).toNat)
          case atStart => exact ⟨0, Nat.zero_le _, rfl, (show _ = _ by unfold rep; simp), HM5, HT5, HX5, hB5⟩
          case round =>
            clear HM5 HT5 HX5 hB5
            obtain ⟨k, hk, rfl, HQ, HM, HT, HX, hb⟩ := hrel
            have lt1 : w.heap.size + 1 < wr.heap.size := HT.out.here
            have ltx : w1.heap.size < wr.heap.size := HX.out.here
            by_cases hlt : k < n
            · have hlk : k < l.length := by have := hn.out; omega
              obtain ⟨g, o, rfl, hg, hj⟩ := (hA.out.later hb).at hlk
              obtain ⟨j, hjk⟩ : ∃ j, j = l[k] := ⟨_, rfl⟩
              rw [← hjk] at hj
              have HJ := Lib.hid hj; clear hj
              rcases HAp.out with hap | hap
              · skip
                have HQ2 : Hid (rep m.nm t.ap t.nm (l.take (k + 1)) = false) := by show _ = _; rw [hap]; exact rep_empty _ _ _
                have HAE := Lib.hid hap; clear hap
                have HJK := Lib.hid hjk; clear hjk
                go_wp2_with (first | (with_reducible refine load_rg rfl 45 _ rfl g (o + k * 13) rfl j.arr _ HJ.out.rg Try.underlying45 rfl (by kernel_rfl) ?_) | ((with_reducible refine store_bk rfl 45 (.tmp 10) (.tmp 48) rfl wr.heap.size 0 j.arr rfl rfl 45 _ j.arr (Bk.fresh _ _ _) (by kernel_rfl) (by simp) (by kernel_rfl) rfl ?_); intro wj hJ hgj hsj; have blj : Below wr.heap.size wr wj := grown_below ((Below.refl _ _).alloc (Nat.le_refl _) _) hgj (Nat.le_refl _); have zj : wr.heap.size < wj.heap.size := hJ.here; have d0 : wj.cell? ⟨wr.heap.size, 0, none⟩ = some (.string j.nm) := hJ.cellAt 0; have d7 : wj.cell? ⟨wr.heap.size, 7, none⟩ = some (.string j.ap) := hJ.cellAt 7; have d11 : wj.cell? ⟨wr.heap.size, 11, none⟩ = some (.string j.nd) := hJ.cellAt 11; clear hJ hgj hsj; have HMj := Lib.hid (HM.out.later blj); have HTj := Lib.hid (HT.out.later blj); have HXj := Lib.hid (HX.out.later blj); have e0 : wj.cell? ⟨w.heap.size, 0, none⟩ = some (.string m.nm) := HMj.out.cellAt 0; have f0 : wj.cell? ⟨w.heap.size + 1, 0, none⟩ = some (.string t.nm) := HTj.out.cellAt 0; have f7 : wj.cell? ⟨w.heap.size + 1, 7, none⟩ = some (.string t.ap) := HTj.out.cellAt 7; have zm : w.heap.size < wj.heap.size := HMj.out.here; have zt : w.heap.size + 1 < wj.heap.size := HTj.out.here; have f7' : wj.cell? ⟨w.heap.size + 1, 7, none⟩ = some (.string ⟨#[]⟩) := HAE.out ▸ f7; clear f7))
                go_round
                case rel => exact ⟨k + 1, by omega, by go_num, HQ2, HMj, HTj, HXj, hb.trans (blj.mono hb.size)⟩
                case measure => simp [intOf]; omega
              · cases he1 : sE j.nd m.nm
                · skip
                  have HQ2 : Hid (rep m.nm t.ap t.nm (l.take (k + 1)) = false) := by show _ = _; rw [rep_take hlk, HQ.out, ← hjk]; rw [show both m.nm t.ap t.nm j = false by unfold both; rw [he1]; rfl]; simp
                  obtain ⟨hf1, hf2⟩ := full_of hap
                  clear hap
                  have x1 : (j.nd.toList == m.nm.toList) = false := he1
                  clear he1
                  have HJK := Lib.hid hjk; clear hjk
                  go_wp2_with (first | (with_reducible refine load_rg rfl 45 _ rfl g (o + k * 13) rfl j.arr _ HJ.out.rg Try.underlying45 rfl (by kernel_rfl) ?_) | ((with_reducible refine store_bk rfl 45 (.tmp 10) (.tmp 48) rfl wr.heap.size 0 j.arr rfl rfl 45 _ j.arr (Bk.fresh _ _ _) (by kernel_rfl) (by simp) (by kernel_rfl) rfl ?_); intro wj hJ hgj hsj; have blj : Below wr.heap.size wr wj := grown_below ((Below.refl _ _).alloc (Nat.le_refl _) _) hgj (Nat.le_refl _); have zj : wr.heap.size < wj.heap.size := hJ.here; have d0 : wj.cell? ⟨wr.heap.size, 0, none⟩ = some (.string j.nm) := hJ.cellAt 0; have d7 : wj.cell? ⟨wr.heap.size, 7, none⟩ = some (.string j.ap) := hJ.cellAt 7; have d11 : wj.cell? ⟨wr.heap.size, 11, none⟩ = some (.string j.nd) := hJ.cellAt 11; clear hJ hgj hsj; have HMj := Lib.hid (HM.out.later blj); have HTj := Lib.hid (HT.out.later blj); have HXj := Lib.hid (HX.out.later blj); have e0 : wj.cell? ⟨w.heap.size, 0, none⟩ = some (.string m.nm) := HMj.out.cellAt 0; have f0 : wj.cell? ⟨w.heap.size + 1, 0, none⟩ = some (.string t.nm) := HTj.out.cellAt 0; have f7 : wj.cell? ⟨w.heap.size + 1, 7, none⟩ = some (.string t.ap) := HTj.out.cellAt 7; have zm : w.heap.size < wj.heap.size := HMj.out.here; have zt : w.heap.size + 1 < wj.heap.size := HTj.out.here))
                  go_round
                  case rel => exact ⟨k + 1, by omega, by go_num, HQ2, HMj, HTj, HXj, hb.trans (blj.mono hb.size)⟩
                  case measure => simp [intOf]; omega
                · cases he3 : sE j.nm t.nm
                  · cases he2 : sE j.ap t.ap
                    · skip
                      have HQ2 : Hid (rep m.nm t.ap t.nm (l.take (k + 1)) = false) := by show _ = _; rw [rep_take hlk, HQ.out, ← hjk]; rw [show both m.nm t.ap t.nm j = false by unfold both; rw [he2]; simp]; simp
                      obtain ⟨hf1, hf2⟩ := full_of hap
                      clear hap
                      have x1 : (j.nd.toList == m.nm.toList) = true := he1
                      have x3 : (j.nm.toList == t.nm.toList) = false := he3
                      have x2 : (j.ap.toList == t.ap.toList) = false := he2
                      clear he1 he3 he2
                      have HJK := Lib.hid hjk; clear hjk
                      go_wp2_with (first | (with_reducible refine load_rg rfl 45 _ rfl g (o + k * 13) rfl j.arr _ HJ.out.rg Try.underlying45 rfl (by kernel_rfl) ?_) | ((with_reducible refine store_bk rfl 45 (.tmp 10) (.tmp 48) rfl wr.heap.size 0 j.arr rfl rfl 45 _ j.arr (Bk.fresh _ _ _) (by kernel_rfl) (by simp) (by kernel_rfl) rfl ?_); intro wj hJ hgj hsj; have blj : Below wr.heap.size wr wj := grown_below ((Below.refl _ _).alloc (Nat.le_refl _) _) hgj (Nat.le_refl _); have zj : wr.heap.size < wj.heap.size := hJ.here; have d0 : wj.cell? ⟨wr.heap.size, 0, none⟩ = some (.string j.nm) := hJ.cellAt 0; have d7 : wj.cell? ⟨wr.heap.size, 7, none⟩ = some (.string j.ap) := hJ.cellAt 7; have d11 : wj.cell? ⟨wr.heap.size, 11, none⟩ = some (.string j.nd) := hJ.cellAt 11; clear hJ hgj hsj; have HMj := Lib.hid (HM.out.later blj); have HTj := Lib.hid (HT.out.later blj); have HXj := Lib.hid (HX.out.later blj); have e0 : wj.cell? ⟨w.heap.size, 0, none⟩ = some (.string m.nm) := HMj.out.cellAt 0; have f0 : wj.cell? ⟨w.heap.size + 1, 0, none⟩ = some (.string t.nm) := HTj.out.cellAt 0; have f7 : wj.cell? ⟨w.heap.size + 1, 7, none⟩ = some (.string t.ap) := HTj.out.cellAt 7; have zm : w.heap.size < wj.heap.size := HMj.out.here; have zt : w.heap.size + 1 < wj.heap.size := HTj.out.here))
                      go_round
                      case rel => exact ⟨k + 1, by omega, by go_num, HQ2, HMj, HTj, HXj, hb.trans (blj.mono hb.size)⟩
                      case measure => simp [intOf]; omega
                    · skip
                      have hq : R = true := by rw [← HRp.out, rep_full hap]; exact any_atJ hlk (by rw [← hjk]; unfold both; rw [he1, he2, he3]; rfl)
                      subst hq
                      have hq : r = 3 := by have h := HRes.out; unfold whyT at h; simpa using h.symm
                      subst hq
                      obtain ⟨hf1, hf2⟩ := full_of hap
                      clear hap
                      have x1 : (j.nd.toList == m.nm.toList) = true := he1
                      have x3 : (j.nm.toList == t.nm.toList) = false := he3
                      have x2 : (j.ap.toList == t.ap.toList) = true := he2
                      clear he1 he3 he2
                      have HJK := Lib.hid hjk; clear hjk
                      go_wp2_with (first | (with_reducible refine load_rg rfl 45 _ rfl g (o + k * 13) rfl j.arr _ HJ.out.rg Try.underlying45 rfl (by kernel_rfl) ?_) | ((with_reducible refine store_bk rfl 45 (.tmp 10) (.tmp 48) rfl wr.heap.size 0 j.arr rfl rfl 45 _ j.arr (Bk.fresh _ _ _) (by kernel_rfl) (by simp) (by kernel_rfl) rfl ?_); intro wj hJ hgj hsj; have blj : Below wr.heap.size wr wj := grown_below ((Below.refl _ _).alloc (Nat.le_refl _) _) hgj (Nat.le_refl _); have zj : wr.heap.size < wj.heap.size := hJ.here; have d0 : wj.cell? ⟨wr.heap.size, 0, none⟩ = some (.string j.nm) := hJ.cellAt 0; have d7 : wj.cell? ⟨wr.heap.size, 7, none⟩ = some (.string j.ap) := hJ.cellAt 7; have d11 : wj.cell? ⟨wr.heap.size, 11, none⟩ = some (.string j.nd) := hJ.cellAt 11; clear hJ hgj hsj; have HMj := Lib.hid (HM.out.later blj); have HTj := Lib.hid (HT.out.later blj); have HXj := Lib.hid (HX.out.later blj); have e0 : wj.cell? ⟨w.heap.size, 0, none⟩ = some (.string m.nm) := HMj.out.cellAt 0; have f0 : wj.cell? ⟨w.heap.size + 1, 0, none⟩ = some (.string t.nm) := HTj.out.cellAt 0; have f7 : wj.cell? ⟨w.heap.size + 1, 7, none⟩ = some (.string t.ap) := HTj.out.cellAt 7; have zm : w.heap.size < wj.heap.size := HMj.out.here; have zt : w.heap.size + 1 < wj.heap.size := HTj.out.here))
                      go_ret
                      exact ⟨rfl, hb.trans (blj.mono hb.size)⟩
                  · skip
                    have HQ2 : Hid (rep m.nm t.ap t.nm (l.take (k + 1)) = false) := by show _ = _; rw [rep_take hlk, HQ.out, ← hjk]; rw [show both m.nm t.ap t.nm j = false by unfold both; rw [he3]; simp]; simp
                    obtain ⟨hf1, hf2⟩ := full_of hap
                    clear hap
                    have x1 : (j.nd.toList == m.nm.toList) = true := he1
                    have x3 : (j.nm.toList == t.nm.toList) = true := he3
                    clear he1 he3
                    have HJK := Lib.hid hjk; clear hjk
                    go_wp2_with (first | (with_reducible refine load_rg rfl 45 _ rfl g (o + k * 13) rfl j.arr _ HJ.out.rg Try.underlying45 rfl (by kernel_rfl) ?_) | ((with_reducible refine store_bk rfl 45 (.tmp 10) (.tmp 48) rfl wr.heap.size 0 j.arr rfl rfl 45 _ j.arr (Bk.fresh _ _ _) (by kernel_rfl) (by simp) (by kernel_rfl) rfl ?_); intro wj hJ hgj hsj; have blj : Below wr.heap.size wr wj := grown_below ((Below.refl _ _).alloc (Nat.le_refl _) _) hgj (Nat.le_refl _); have zj : wr.heap.size < wj.heap.size := hJ.here; have d0 : wj.cell? ⟨wr.heap.size, 0, none⟩ = some (.string j.nm) := hJ.cellAt 0; have d7 : wj.cell? ⟨wr.heap.size, 7, none⟩ = some (.string j.ap) := hJ.cellAt 7; have d11 : wj.cell? ⟨wr.heap.size, 11, none⟩ = some (.string j.nd) := hJ.cellAt 11; clear hJ hgj hsj; have HMj := Lib.hid (HM.out.later blj); have HTj := Lib.hid (HT.out.later blj); have HXj := Lib.hid (HX.out.later blj); have e0 : wj.cell? ⟨w.heap.size, 0, none⟩ = some (.string m.nm) := HMj.out.cellAt 0; have f0 : wj.cell? ⟨w.heap.size + 1, 0, none⟩ = some (.string t.nm) := HTj.out.cellAt 0; have f7 : wj.cell? ⟨w.heap.size + 1, 7, none⟩ = some (.string t.ap) := HTj.out.cellAt 7; have zm : w.heap.size < wj.heap.size := HMj.out.here; have zt : w.heap.size + 1 < wj.heap.size := HTj.out.here))
                    go_round
                    case rel => exact ⟨k + 1, by omega, by go_num, HQ2, HMj, HTj, HXj, hb.trans (blj.mono hb.size)⟩
                    case measure => simp [intOf]; omega
            · have hk' : k = n := by omega
              subst hk'
              have hlk : l.take k = l := by rw [hn.out]; exact List.take_length
              have hq : R = false := by rw [← HRp.out, ← HQ.out, hlk]
              subst hq
              clear hlk
              go_wp2_with (first | (with_reducible refine load_bk rfl 25 _ rfl (w.heap.size + 1) 3 rfl 28 t.arr #[.int .i64 t.a, .int .i64 t.b, .int .i64 t.c] _ HT.out (Part.of rfl) Try.underlying25 rfl (by kernel_rfl) ?_) | (with_reducible refine load_bk rfl 25 _ rfl w1.heap.size 0 rfl 25 #[.int .i64 p, .int .i64 q, .int .i64 s] #[.int .i64 p, .int .i64 q, .int .i64 s] _ HX.out (Part.whole _) Try.underlying25 rfl (by kernel_rfl) ?_))
              refine (K6.out _).mono ?_; rintro v w7 ⟨rfl, hb7⟩
              have hB7 : Below w.heap.size w w7 := hb.trans (hb7.mono hb.size)
              cases F
              case false =>
                have hq : r = 4 := by have h := HRes.out; unfold whyT at h; simpa using h.symm
                subst hq
                go_wp2_with fail
                go_ret
                exact ⟨rfl, hB7⟩
              case true =>
                have hq : r = 0 := by have h := HRes.out; unfold whyT at h; simpa using h.symm
                subst hq
                go_wp2_with fail
                go_ret
                exact ⟨rfl, hB7⟩
end Go.Proofs.Ytpifleheammanaa
