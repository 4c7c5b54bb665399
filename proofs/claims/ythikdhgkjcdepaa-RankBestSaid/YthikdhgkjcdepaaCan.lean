/- The contract of rank.Score. Condition: the slice reads as a list of jobs, of at most 1000000; the machine and the task are ones that Go can have. · The contract of rank.candidates. Condition: the slices read as lists of machines and of jobs, of at most 1000000 each; the machines and the task are ones that Go can have. -/
import Derived.Test.YthikdhgkjcdepaaWy
import Derived.Test.YthikdhgkjcdepaaShr
import Derived.Test.YthikdhgkjcdepaaSco
import Derived.Test.YthikdhgkjcdepaaEnt
namespace Go.Proofs.Ythikdhgkjcdepaa
open Go.RowKit
set_option linter.unusedSimpArgs false
set_option linter.unusedVariables false

set_option maxHeartbeats 3200000 in
theorem score_any (m : Mc) (ml : List Lb) (A : Option Addr) (n cap : Nat) (l : List Jb) (t : Kt) (tl : List Lb) (w : World) (hn : Hid (n = l.length)) (hl : n ≤ 1000000) (hA : Hid (RdJ w A l)) (hM : Hid (McOk w m ml)) (hT : Hid (KtOk w t tl)) (r : Option Int) (hr : Hid (sco m ml t tl l = r)) :
    Calls Try.prog 9 #[.agg m.arr, .slice A n cap, .agg t.arr] w fun e w' => e = .returned (.tuple #[.int .i64 (r.getD 0), .bool r.isSome]) ∧ Below w.heap.size w w' := by
  obtain ⟨x, hx⟩ : ∃ x, why m ml t tl l = x := ⟨_, rfl⟩
  have k1 := fun (W : World) (h : Hid (RdJ W A l)) (h2 : McOk W m ml) (h3 : KtOk W t tl) => why_any m ml A n cap l t tl W hn hl h h2 h3 x hx
  have K1 := Lib.hid k1; clear k1
  by_cases h0 : x = 0
  case neg =>
    have hq : r = none := by rw [← hr.out]; exact sco_no (by rw [hx]; exact h0)
    subst hq
    have hd : (x != 0) = true := by simpa using h0
    clear hx hr
    go_enter Try.func9, Try.ntmps9
    have HM0 := Lib.hid (show Bk ((w.alloc (.cells m.arr 36)).alloc (.cells t.arr 28)) w.heap.size 36 m.arr from (Bk.fresh w _ _).later ((Below.refl _ _).alloc (Nat.le_refl _) _))
    have HT0 := Lib.hid (show Bk ((w.alloc (.cells m.arr 36)).alloc (.cells t.arr 28)) (w.heap.size + 1) 28 t.arr from Bk.freshAt _ _ _ (by simp))
    have hB0 : Below w.heap.size w ((w.alloc (.cells m.arr 36)).alloc (.cells t.arr 28)) := ((Below.refl _ _).alloc (Nat.le_refl _) _).alloc (by simp) _
    go_wp2_with (first | (with_reducible refine load_bk rfl 36 _ rfl w.heap.size 0 rfl 36 m.arr m.arr _ HM0.out (Part.whole _) Try.underlying36 rfl (by kernel_rfl) ?_) | (with_reducible refine load_bk rfl 28 _ rfl (w.heap.size + 1) 0 rfl 28 t.arr t.arr _ HT0.out (Part.whole _) Try.underlying28 rfl (by kernel_rfl) ?_))
    refine (K1.out _ (hA.out.later hB0) (hM.out.later hB0) (hT.out.later hB0)).mono ?_; rintro v w1 ⟨rfl, hb1⟩
    go_wp2_with fail
    exact bodyPost_ret (v := .tuple #[.int .i64 0, .bool false]) (by simp [results, Try.results9, go_sem]) rfl ⟨rfl, hB0.trans (hb1.mono hB0.size)⟩
  case pos =>
    subst h0
    obtain ⟨p, q, s, hf, h1, hsb, hse⟩ := sco_yes hx
    have hq : r = some (shN (p - t.a) (q - t.b) (s - t.c) m.a m.b m.c) := by rw [← hr.out]; exact h1
    subst hq
    have k2 := fun (W : World) (h : Hid (RdJ W A l)) => freeM_any m A n cap l W hn hl h p q s 0 hf
    have k3 := fun (W : World) => sub_any p q s t.a t.b t.c W
    rw [hsb, hse, kp_t, kp_t, kp_t] at k3
    have k4 := fun (W : World) => share_any (p - t.a) (q - t.b) (s - t.c) m.a m.b m.c W
    have K2 := Lib.hid k2; have K3 := Lib.hid k3; have K4 := Lib.hid k4
    obtain ⟨sc, hsc⟩ : ∃ sc, shN (p - t.a) (q - t.b) (s - t.c) m.a m.b m.c = sc := ⟨_, rfl⟩
    have K4' := Lib.hid (show ∀ W, Calls Try.prog 19 #[.agg #[.int .i64 (p - t.a), .int .i64 (q - t.b), .int .i64 (s - t.c)], .agg #[.int .i64 m.a, .int .i64 m.b, .int .i64 m.c]] W fun r w' => r = .returned (.int .i64 sc) ∧ Below W.heap.size W w' from fun W => hsc ▸ K4.out W)
    rw [hsc]
    clear k2 k3 k4 hx hf h1 hsb hse hr K4 hsc
    go_enter Try.func9, Try.ntmps9
    have HM0 := Lib.hid (show Bk ((w.alloc (.cells m.arr 36)).alloc (.cells t.arr 28)) w.heap.size 36 m.arr from (Bk.fresh w _ _).later ((Below.refl _ _).alloc (Nat.le_refl _) _))
    have HT0 := Lib.hid (show Bk ((w.alloc (.cells m.arr 36)).alloc (.cells t.arr 28)) (w.heap.size + 1) 28 t.arr from Bk.freshAt _ _ _ (by simp))
    have hB0 : Below w.heap.size w ((w.alloc (.cells m.arr 36)).alloc (.cells t.arr 28)) := ((Below.refl _ _).alloc (Nat.le_refl _) _).alloc (by simp) _
    go_wp2_with (first | (with_reducible refine load_bk rfl 36 _ rfl w.heap.size 0 rfl 36 m.arr m.arr _ HM0.out (Part.whole _) Try.underlying36 rfl (by kernel_rfl) ?_) | (with_reducible refine load_bk rfl 28 _ rfl (w.heap.size + 1) 0 rfl 28 t.arr t.arr _ HT0.out (Part.whole _) Try.underlying28 rfl (by kernel_rfl) ?_))
    refine (K1.out _ (hA.out.later hB0) (hM.out.later hB0) (hT.out.later hB0)).mono ?_; rintro v w1 ⟨rfl, hb1⟩
    have hB1 : Below w.heap.size w w1 := hB0.trans (hb1.mono hB0.size)
    have HM1 := Lib.hid (HM0.out.later hb1); have HT1 := Lib.hid (HT0.out.later hb1); clear HM0 HT0 hB0 hb1
    go_wp2_with (with_reducible refine load_bk rfl 36 _ rfl w.heap.size 0 rfl 36 m.arr m.arr _ HM1.out (Part.whole _) Try.underlying36 rfl (by kernel_rfl) ?_)
    refine (K2.out _ (hA.out.later hB1)).mono ?_; rintro v w2 ⟨rfl, hb2⟩
    have hB2 : Below w.heap.size w w2 := hB1.trans (hb2.mono hB1.size)
    have HM2 := Lib.hid (HM1.out.later hb2); have HT2 := Lib.hid (HT1.out.later hb2); clear HM1 HT1 hB1 hb2
    go_wp2_with (first | ((with_reducible refine store_bk rfl 25 (.tmp 8) (.tmp 21) rfl w2.heap.size 0 #[.int .i64 p, .int .i64 q, .int .i64 s] rfl rfl 25 _ #[.int .i64 p, .int .i64 q, .int .i64 s] (Bk.fresh _ _ _) (by kernel_rfl) (by simp) (by kernel_rfl) rfl ?_); intro w3 hX hg hs; have HX := Lib.hid hX; clear hX hs; have bl : Below w2.heap.size w2 w3 := grown_below ((Below.refl _ _).alloc (Nat.le_refl _) _) hg (Nat.le_refl _); clear hg; have HM3 := Lib.hid (HM2.out.later bl); have HT3 := Lib.hid (HT2.out.later bl); have hB3 : Below w.heap.size w w3 := hB2.trans (bl.mono hB2.size)) | (with_reducible refine load_bk rfl 25 _ rfl w2.heap.size 0 rfl 25 #[.int .i64 p, .int .i64 q, .int .i64 s] #[.int .i64 p, .int .i64 q, .int .i64 s] _ HX.out (Part.whole _) Try.underlying25 rfl (by kernel_rfl) ?_) | (with_reducible refine load_bk rfl 25 _ rfl (w.heap.size + 1) 3 rfl 28 t.arr #[.int .i64 t.a, .int .i64 t.b, .int .i64 t.c] _ HT3.out (Part.of rfl) Try.underlying25 rfl (by kernel_rfl) ?_))
    refine (K3.out _).mono ?_; rintro v w4 ⟨rfl, hb4⟩
    have hB4 : Below w.heap.size w w4 := hB3.trans (hb4.mono hB3.size)
    have HM4 := Lib.hid (HM3.out.later hb4); clear HM3 HT3 HM2 HT2 HX bl hB2 hB3 hb4
    go_wp2_with (first | ((with_reducible refine store_bk rfl 25 (.tmp 10) (.tmp 28) rfl w4.heap.size 0 #[.int .i64 (p - t.a), .int .i64 (q - t.b), .int .i64 (s - t.c)] rfl rfl 25 _ #[.int .i64 (p - t.a), .int .i64 (q - t.b), .int .i64 (s - t.c)] (Bk.fresh _ _ _) (by kernel_rfl) (by simp) (by kernel_rfl) rfl ?_); intro w5 hX hg hs; have HX := Lib.hid hX; clear hX hs; have bl : Below w4.heap.size w4 w5 := grown_below ((Below.refl _ _).alloc (Nat.le_refl _) _) hg (Nat.le_refl _); clear hg; have HM5 := Lib.hid (HM4.out.later bl); have hB5 : Below w.heap.size w w5 := hB4.trans (bl.mono hB4.size)) | (with_reducible refine load_bk rfl 25 _ rfl w4.heap.size 0 rfl 25 #[.int .i64 (p - t.a), .int .i64 (q - t.b), .int .i64 (s - t.c)] #[.int .i64 (p - t.a), .int .i64 (q - t.b), .int .i64 (s - t.c)] _ HX.out (Part.whole _) Try.underlying25 rfl (by kernel_rfl) ?_) | (with_reducible refine load_bk rfl 25 _ rfl w.heap.size 1 rfl 36 m.arr #[.int .i64 m.a, .int .i64 m.b, .int .i64 m.c] _ HM5.out (Part.of rfl) Try.underlying25 rfl (by kernel_rfl) ?_))
    refine (K4'.out _).mono ?_; rintro v w6 ⟨rfl, hb6⟩
    go_wp2_with fail
    exact bodyPost_ret (v := .tuple #[.int .i64 sc, .bool true]) (by simp [results, Try.results9, go_sem]) rfl ⟨rfl, hB5.trans (hb6.mono hB5.size)⟩
end Go.Proofs.Ythikdhgkjcdepaa

namespace Go.Proofs.Ythikdhgkjcdepaa
open Go.RowKit
set_option linter.unusedSimpArgs false
set_option linter.unusedVariables false

set_option maxHeartbeats 3200000 in
theorem candidates_any (A0 : Option Addr) (N c0 : Nat) (L : List Ml) (A : Option Addr) (n cap : Nat) (l : List Jb) (t : Kt) (tl : List Lb) (w : World) (hN : Hid (N = L.length)) (hNl : N ≤ 1000000) (hL : Hid (RdM w A0 (mcs L))) (hLo : Hid (MsOk w L)) (hn : Hid (n = l.length)) (hl : n ≤ 1000000) (hA : Hid (RdJ w A l)) (hT : Hid (KtOk w t tl)) :
    Calls Try.prog 24 #[.slice A0 N c0, .slice A n cap, .agg t.arr] w fun e w' => RetE w.heap.size w' e (able t tl l L) ∧ Below w.heap.size w w' := by
  go_enter Try.func24, Try.ntmps24
  have HT0 := Lib.hid (show Bk (w.alloc (.cells t.arr 28)) w.heap.size 28 t.arr from Bk.fresh _ _ _)
  have hB0 : Below w.heap.size w (w.alloc (.cells t.arr 28)) := (Below.refl _ _).alloc (Nat.le_refl _) _
  go_wp2_with fail
  go_loopw [7, 14] (fun v i wr => ∃ k : Nat, k ≤ N ∧ i = .int .i64 k ∧ Hid (OwnK wr (w.heap.size + 1) 58 2 v (cellsE (able t tl l (L.take k)))) ∧ Hid (Bk wr w.heap.size 28 t.arr) ∧ Below w.heap.size w wr) (fun _ i wr => N - (intOf i).toNat)
  case atStart => exact ⟨0, Nat.zero_le _, rfl, (show OwnK _ _ _ _ _ (cellsE (able t tl l (L.take 0))) from OwnK.nil _ _ _ _), HT0, hB0⟩
  case round =>
    clear HT0 hB0
    obtain ⟨k, hk, rfl, HO, HTb, hb⟩ := hrel
    have lt0 : w.heap.size < wr.heap.size := HTb.out.here
    by_cases hlt : k < N
    · have hlk : k < L.length := by have := hN.out; omega
      obtain ⟨g, o, rfl, hg, hm⟩ := (hL.out.later hb).at (i := k) (by simpa [mcs] using hlk)
      rw [mcs_at hlk] at hm
      obtain ⟨x, hx⟩ : ∃ x, x = L[k] := ⟨_, rfl⟩
      rw [← hx] at hm
      have HMt := Lib.hid hm; clear hm
      have hxo : McOk w x.1 x.2 := by rw [hx]; exact hLo.out.at hlk
      have hlen : (cellsE (able t tl l (L.take k))).length ≤ k := by rw [cellsE_length]; exact Nat.le_trans (able_len _) (by rw [List.length_take]; omega)
      obtain ⟨r, hr⟩ : ∃ r, sco x.1 x.2 t tl l = r := ⟨_, rfl⟩
      have ks := fun (W : World) (h1 : RdJ W A l) (h2 : McOk W x.1 x.2) (h3 : KtOk W t tl) => score_any x.1 x.2 A n cap l t tl W hn hl h1 h2 h3 r hr
      have HX0 := Lib.hid hx; have HR := Lib.hid hr; have KS := Lib.hid ks; have HXo := Lib.hid hxo; clear ks hx hr hxo
      go_wp2_with (first | (with_reducible refine load_rg rfl 36 _ rfl g (o + k * 7) rfl x.1.arr _ HMt.out.rg Try.underlying36 rfl (by kernel_rfl) ?_) | ((with_reducible refine store_bk rfl 36 (.tmp 9) (.tmp 17) rfl wr.heap.size 0 x.1.arr rfl rfl 36 _ x.1.arr (Bk.fresh _ _ _) (by kernel_rfl) (by simp) (by kernel_rfl) rfl ?_); intro w1 hB1 hg1 hs1; have HX := Lib.hid hB1; clear hB1; have HT1 := Lib.hid ((HTb.out.later ((Below.refl _ _).alloc (Nat.le_refl _) _)).stays hg1 (by simp; omega)); have hb1 : Below w.heap.size w w1 := grown_below (hb.alloc hb.size _) hg1 hb.size) | (with_reducible refine load_bk rfl 28 _ rfl w.heap.size 0 rfl 28 t.arr t.arr _ HT1.out (Part.whole _) Try.underlying28 rfl (by kernel_rfl) ?_) | (with_reducible refine load_bk rfl 36 _ rfl wr.heap.size 0 rfl 36 x.1.arr x.1.arr _ HX.out (Part.whole _) Try.underlying36 rfl (by kernel_rfl) ?_))
      refine (KS.out _ (hA.out.later hb1) (HXo.out.later hb1) (hT.out.later hb1)).mono ?_; rintro v w2 ⟨rfl, hb2⟩
      have HX2 := Lib.hid (HX.out.later hb2)
      have HT2 := Lib.hid (HT1.out.later hb2)
      have hB2 : Below w.heap.size w w2 := hb1.trans (hb2.mono hb1.size)
      have HO2 := Lib.hid ((HO.out.below (grown_below ((Below.refl _ _).alloc (Nat.le_refl _) _) hg1 (Nat.le_refl _))).below hb2)
      have lt2 : w.heap.size < w2.heap.size := HT2.out.here
      have lx2 : wr.heap.size < w2.heap.size := HX2.out.here
      clear HT1 HX HO hb1 hb2 hg1 hs1
      cases r with
      | none =>
        have HN2 : Hid (OwnK w2 (w.heap.size + 1) 58 2 u7 (cellsE (able t tl l (L.take (k + 1))))) := by
          show OwnK _ _ _ _ _ _
          have h := HO2.out
          rwa [able_no hlk (by rw [← HX0.out]; exact HR.out)]
        go_wp2_with fail
        go_round
        case rel => exact ⟨k + 1, by omega, by go_num, HN2, HT2, hB2⟩
        case measure => simp [intOf]; omega
      | some s =>
        have HE : Hid (able t tl l (L.take (k + 1)) = able t tl l (L.take k) ++ [(x.1.nm, s)]) := by
          show _ = _
          rw [able_yes hlk (by rw [← HX0.out]; exact HR.out), ← HX0.out]
        have cn : w2.cell? ⟨wr.heap.size, 0, none⟩ = some (.string x.1.nm) := HX2.out.cellAt 0
        go_wp2_with (first | ((with_reducible refine append_k _ rfl (.tmp 26) (.tmp 32) 54 rfl (w.heap.size + 1) 58 _ 2 24 Try.underlying54 infoE rfl (by omega) u7 (cellsE (able t tl l (L.take k))) rfl (HO2.out.alloc _) ⟨w2.heap.size, 0, none⟩ 1 1 (cellsE [(x.1.nm, s)]) rfl (fresh_k w2 2 _ _ rfl) (by simp [cellsE, encE]) (by simp [cellsE, encE, Value.oneCell']) (by simp [cellsE]) (by simp [cellsE, maxLen] at hlen ⊢; omega) (by simp [cellsE] at hlen ⊢; omega) (by simp; omega) ?_); intro u7' w3 hO3 hg3))
        go_round
        case rel => exact ⟨k + 1, by omega, by go_num, (by rw [HE.out, cellsE_append]; exact hO3), (HT2.out.later ((Below.refl _ _).alloc (Nat.le_refl _) _)).stays hg3 (fun e => by have := HO2.out.block _ e.symm; omega), (hB2.alloc hB2.size _).grown hg3 (by simp; omega) (fun g e => by have := HO2.out.block _ e; omega)⟩
        case measure => simp [intOf]; omega
    · have hk' : k = N := by omega
      subst hk'
      have hlk : L.take k = L := by rw [hN.out]; exact List.take_length
      have h7 := HO.out
      rw [hlk] at h7
      have H7 := Lib.hid (h7.base (b' := w.heap.size) (by omega)); clear h7 hlk
      go_wp2_with fail
      go_ret
      exact ⟨⟨_, rfl, H7.out⟩, hb⟩
end Go.Proofs.Ythikdhgkjcdepaa
