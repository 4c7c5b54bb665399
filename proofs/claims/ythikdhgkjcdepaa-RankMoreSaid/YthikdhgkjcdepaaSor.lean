/- The contracts of slices.SortFunc at rank.candidate with rank.Sorted's comparison, of rank.Sorted and of rank.Best. Condition: the slices read as lists of machines and of jobs, of at most 1000000 each; the machines and the task are ones that Go can have. · The contract of rank.Best. Condition: as of Sorted. -/
import Derived.Test.YthikdhgkjcdepaaLys
import Derived.Test.YthikdhgkjcdepaaSrs
import Derived.Test.YthikdhgkjcdepaaCan
import Derived.Test.YthikdhgkjcdepaaSrk2
import Derived.Test.YthikdhgkjcdepaaRbe
import Derived.Shelf.SlSortCmp.WholeK
namespace Go.Proofs.Ythikdhgkjcdepaa
open Go.Shelf Go.RowKit Go.Lib Go.Sort Go.Proofs
set_option linter.unusedSimpArgs false
set_option linter.unusedVariables false

theorem enterC : ∀ args w, (callFunc 26 args).run Try.prog w = .ok (.enter 26 args) w := enters_of Try.func26 (by kernel_rfl) rfl
theorem cmpLaysE (blk off size : Nat) (w : World) : CmpLays Try.prog 26 #[] encE 2 cfE blk off size w :=
  fun _ _ _ _ x y => cmpE_any _ _ _ _ _

/-- The sort, behind it the row reads as the sorted list. -/
theorem sortC_some {base g cap : Nat} {t : Kt} {tl : List Lb} {l : List Jb} {L : List Ml} {w : World} (h : OwnK w base 58 2 (.slice (some ⟨g, 0, none⟩) (able t tl l L).length cap) (cellsE (able t tl l L))) (hb : base ≤ w.heap.size) (hg : base ≤ g) (hl : (able t tl l L).length ≤ 1000000) :
    Calls Try.prog 25 #[.slice (some ⟨g, 0, none⟩) (able t tl l L).length cap, .func (.func 26) #[] #[]] w fun e w' => e = .returned (.tuple #[]) ∧ RdE w' (some ⟨g, 0, none⟩) (srt t tl l L) ∧ Below base w w' := by
  have R := own_row encE_len (by omega) encE_one h
  have hc := AnyQ.slices_SortFunc layC 2 Try.isAgg58 Try.sizeOf58 encE encE_len encE_one cfE swoE 26 #[] g 0 cap (able t tl l L).toArray w enterC (cmpLaysE _ _ _ _) R.hH R.hblk (by rw [List.size_toArray]; omega)
  rw [List.size_toArray] at hc
  refine Calls.mono hc ?_
  rintro e w' ⟨he, D, n, os, hp, hs, hw⟩
  have hS : SWK encE 2 w g 0 D w' := ⟨n, os, hw⟩
  have hD : D.size = (able t tl l L).toArray.size := hp.1
  refine ⟨he, ?_, sw_below hS hg hb⟩
  have := holds_rdk encE_len (hS.holds R.hblk R.hH hD)
  rw [sorted_srt hp hs] at this
  exact this

set_option maxHeartbeats 1000000 in
theorem insC_none (A : Option Addr) (c : Nat) (w : World) : Calls Try.prog 59 #[.slice A 0 c, .int .i64 0, .int .i64 0, .func (.func 26) #[] #[]] w fun e w' => e = .returned (.tuple #[]) ∧ w = w' := by
  go_enter Try.func59, Try.ntmps59
  go_wp2
  refine wp_loop_rounds 1 ?_
  rw [rounds_succ]
  go_wp2
  go_end0
  exact ⟨rfl, rfl⟩
set_option maxHeartbeats 1000000 in
theorem pdqC_none (A : Option Addr) (c : Nat) (n : Int) (w : World) : Calls Try.prog 45 #[.slice A 0 c, .int .i64 0, .int .i64 0, .int .i64 n, .func (.func 26) #[] #[]] w fun e w' => e = .returned (.tuple #[]) ∧ w = w' := by
  go_enter Try.func45, Try.ntmps45
  go_wp2
  refine wp_loop_rounds 1 ?_
  rw [rounds_succ]
  go_wp2_with (go_at_call 59; refine (insC_none _ _ _).mono ?_; rintro e w' ⟨rfl, rfl⟩)
  (try simp only [Exit.inBlock, Exit.then]); refine bodyPost_ret (results_none rfl _ _ _) rfl ?_
  exact ⟨rfl, rfl⟩
set_option maxHeartbeats 1000000 in
theorem sortC_none (A : Option Addr) (c : Nat) (w : World) : Calls Try.prog 25 #[.slice A 0 c, .func (.func 26) #[] #[]] w fun e w' => e = .returned (.tuple #[]) ∧ w = w' := by
  have hl : Calls Try.prog 46 #[.int .u64 ((0 : Nat) : Int)] w fun e w' => e = .returned (.int .i64 (Lib.bitLen 0 : Nat)) ∧ w' = w := by
    have h := Any.bits_Len (SlLaysF0.n15.bits (P := Try.prog) (ρ := renC) { layC with }) ((0 : Nat) : Int) w (by omega) (by omega)
    rwa [Int.toNat_natCast] at h
  generalize (Lib.bitLen 0 : Nat) = q at hl
  go_enter Try.func25, Try.ntmps25
  go_wp2_with (first | (go_at_call 46; refine hl.mono ?_; rintro e w' ⟨rfl, rfl⟩) | (go_at_call 45; refine (pdqC_none _ _ _ _).mono ?_; rintro e w' ⟨rfl, rfl⟩))
  go_end0
  exact ⟨rfl, rfl⟩

set_option maxHeartbeats 3200000 in
set_option maxRecDepth 100000 in
theorem sorted_any (A0 : Option Addr) (N c0 : Nat) (L : List Ml) (A : Option Addr) (n cap : Nat) (l : List Jb) (t : Kt) (tl : List Lb) (w : World) (hN : Hid (N = L.length)) (hNl : N ≤ 1000000) (hL : Hid (RdM w A0 (mcs L))) (hLo : Hid (MsOk w L)) (hn : Hid (n = l.length)) (hl : n ≤ 1000000) (hA : Hid (RdJ w A l)) (hT : Hid (KtOk w t tl)) :
    Calls Try.prog 14 #[.slice A0 N c0, .slice A n cap, .agg t.arr] w fun e w' => RetS w.heap.size w' e (nms (srt t tl l L)) ∧ Below w.heap.size w w' := by
  have hlen : (able t tl l L).length ≤ 1000000 := by have := able_len (t := t) (tl := tl) (l := l) L; have := hN.out; omega
  have k1 := fun (W : World) (h1 : Hid (RdM W A0 (mcs L))) (h2 : Hid (MsOk W L)) (h3 : Hid (RdJ W A l)) (h4 : Hid (KtOk W t tl)) => candidates_any A0 N c0 L A n cap l t tl W hN hNl h1 h2 hn hl h3 h4
  have hE0 := srt_perm (t := t) (tl := tl) (l := l) (L := L)
  have k2 := fun (base g cap : Nat) (W : World) => sortC_some (base := base) (g := g) (cap := cap) (t := t) (tl := tl) (l := l) (L := L) (w := W)
  have hEl := hE0.length_eq
  obtain ⟨F, hF⟩ : ∃ F, able t tl l L = F := ⟨_, rfl⟩
  obtain ⟨E, hE⟩ : ∃ E, srt t tl l L = E := ⟨_, rfl⟩
  rw [hF] at k1 k2 hlen hEl
  rw [hE] at k2 hEl
  rw [hE]
  have K1 := Lib.hid k1; have K2 := Lib.hid k2; have HEl := Lib.hid hEl; have HLen := Lib.hid hlen; clear k1 k2 hE hF hE0 hEl hlen
  go_enter Try.func14, Try.ntmps14
  have HT0 := Lib.hid (show Bk (w.alloc (.cells t.arr 28)) w.heap.size 28 t.arr from Bk.fresh _ _ _)
  have hB0 : Below w.heap.size w (w.alloc (.cells t.arr 28)) := (Below.refl _ _).alloc (Nat.le_refl _) _
  go_wp2_with (with_reducible refine load_bk rfl 28 _ rfl w.heap.size 0 rfl 28 t.arr t.arr _ HT0.out (Part.whole _) Try.underlying28 rfl (by kernel_rfl) ?_)
  refine (K1.out _ (hL.out.later hB0) (hLo.out.later hB0) (hA.out.later hB0) (hT.out.later hB0)).mono ?_; rintro v w1 ⟨⟨u, rfl, hO⟩, hb1⟩
  have hB1 : Below w.heap.size w w1 := hB0.trans (hb1.mono hB0.size)
  obtain ⟨cc, B, q, hu, hqE, hql, hqc, hc2, hsort⟩ : ∃ (cc : Nat) (B : Option Addr) (q : Nat), u = .slice B q cc ∧ q = E.length ∧ q ≤ 1000000 ∧ q ≤ cc ∧ cc ≤ 9223372036854775807 ∧ Hid (Calls Try.prog 25 #[.slice B q cc, .func (.func 26) #[] #[]] w1 fun e w' => e = .returned (.tuple #[]) ∧ RdE w' B E ∧ Below w.heap.size w1 w') := by
    rcases hO.2.2 with ⟨hv, h0⟩ | ⟨g, cp, cur, hv, hb, hg, h1, h2, _, _⟩
    · rw [cellsE_length] at h0
      refine ⟨0, none, 0, hv, by have := HEl.out; omega, by omega, by omega, by omega, ?_⟩
      refine (sortC_none none 0 w1).mono ?_
      rintro e w' ⟨he, rfl⟩
      have : E = [] := List.length_eq_zero_iff.1 (by have := HEl.out; omega)
      subst this
      exact ⟨he, RdK.nil _ _ _, Below.refl _ _⟩
    · rw [cellsE_length] at hv h1
      have := HEl.out
      refine ⟨cp, some ⟨g, 0, none⟩, F.length, hv, by omega, HLen.out, h1, by unfold maxLen at h2; omega, ?_⟩
      have hO' := hO.base (b' := w.heap.size) (by simp)
      rw [hv] at hO'
      exact K2.out _ _ _ _ hO' hB1.size (by have := hB0.size; omega) HLen.out
  subst hu
  have HQ := Lib.hid hqE
  have HX0 := Lib.hid HT0
  clear hO hqE hb1 HT0 hB0
  go_wp2_with (go_at_call 25; refine hsort.out.mono ?_; rintro e w2 ⟨rfl, hr, hb2⟩)
  have HR := Lib.hid hr
  have hB2 : Below w.heap.size w w2 := hB1.trans hb2
  clear hr hb2 hsort hB1 K1 K2
  go_loopw [8, 19] (fun v i wr => ∃ k : Nat, k ≤ q ∧ i = .int .i64 k ∧ Hid (OwnK wr w2.heap.size 9 1 v (cellsS (nms (E.take k)))) ∧ Below w2.heap.size w2 wr) (fun _ i wr => q - (intOf i).toNat)
  case atStart => exact ⟨0, Nat.zero_le _, rfl, (show OwnK _ _ _ _ _ (cellsS (nms (E.take 0))) from OwnK.nil _ _ _ _), Below.refl _ _⟩
  case round =>
    obtain ⟨k, hk, rfl, HO, hb⟩ := hrel
    have hw2 : w.heap.size ≤ w2.heap.size := hB2.size
    by_cases hlt : k < q
    · have hlk : k < E.length := by have := HQ.out; omega
      obtain ⟨g, o, rfl, hg, hrg⟩ := (HR.out.later hb).at hlk
      obtain ⟨x, hx⟩ : ∃ x, x = E[k] := ⟨_, rfl⟩
      rw [← hx] at hrg
      have HRG := Lib.hid hrg; clear hrg
      have hlen : (cellsS (nms (E.take k))).length ≤ k := by rw [cellsS_length]; simp [nms]; omega
      have HE : Hid (nms (E.take (k + 1)) = nms (E.take k) ++ [x.1]) := by
        show _ = _
        rw [List.take_succ_eq_append_getElem hlk, ← hx]; simp [nms]
      have HX0 := Lib.hid hx; clear hx
      go_wp2_with (first | (with_reducible refine load_rg rfl 58 _ rfl g (o + k * 2) rfl #[.string x.1, .int .i64 x.2] _ HRG.out Try.underlying58 rfl (by kernel_rfl) ?_) | ((with_reducible refine store_bk rfl 58 (.tmp 10) (.tmp 22) rfl wr.heap.size 0 #[.string x.1, .int .i64 x.2] rfl rfl 58 _ #[.string x.1, .int .i64 x.2] (Bk.fresh _ _ _) (by kernel_rfl) (by simp) (by kernel_rfl) rfl ?_); intro w3 hB1 hg1 hs1; clear hs1; have HX := Lib.hid hB1; have cn : w3.cell? ⟨wr.heap.size, 0, none⟩ = some (.string x.1) := hB1.cellAt 0; clear hB1; have hb3 : Below w2.heap.size w2 w3 := grown_below (hb.alloc hb.size _) hg1 hb.size; have lx3 : wr.heap.size < w3.heap.size := HX.out.here; have HO3 := Lib.hid (HO.out.below (grown_below ((Below.refl _ _).alloc (Nat.le_refl _) _) hg1 (Nat.le_refl _)))) | ((with_reducible refine append_k _ rfl (.tmp 23) (.tmp 26) 40 rfl w2.heap.size 9 _ 1 16 Try.underlying40 infoS rfl (by omega) u8 (cellsS (nms (E.take k))) rfl (HO3.out.alloc _) ⟨w3.heap.size, 0, none⟩ 1 1 (cellsS [x.1]) rfl (fresh_k w3 1 _ _ rfl) (by simp [cellsS]) (by simp [cellsS, Value.oneCell']) (by simp [cellsS]) (by simp [cellsS, maxLen] at hlen ⊢; omega) (by simp [cellsS] at hlen ⊢; omega) (by have := hb3.size; simp; omega) ?_); intro u8' w4 hO4 hg4))
      go_round
      case rel => exact ⟨k + 1, by omega, by go_num, (by rw [HE.out, cellsS_append]; exact hO4), (hb3.alloc hb3.size _).grown hg4 (by have := hb3.size; simp; omega) (fun g e => by have := HO3.out.block _ e; omega)⟩
      case measure => simp [intOf]; omega
    · have hk' : k = q := by omega
      subst hk'
      have hlk : E.take k = E := by rw [HQ.out]; exact List.take_length
      have h7 := HO.out
      rw [hlk] at h7
      have H7 := Lib.hid (h7.base (b' := w.heap.size) hw2); clear h7 hlk
      go_wp2_with fail
      go_ret
      exact ⟨⟨_, rfl, H7.out⟩, hB2.trans (hb.mono hB2.size)⟩
end Go.Proofs.Ythikdhgkjcdepaa

namespace Go.Proofs.Ythikdhgkjcdepaa
open Go.RowKit
set_option linter.unusedSimpArgs false
set_option linter.unusedVariables false

set_option maxHeartbeats 3200000 in
theorem best_any (A0 : Option Addr) (N c0 : Nat) (L : List Ml) (A : Option Addr) (n cap : Nat) (l : List Jb) (t : Kt) (tl : List Lb) (w : World) (hN : Hid (N = L.length)) (hNl : N ≤ 1000000) (hL : Hid (RdM w A0 (mcs L))) (hLo : Hid (MsOk w L)) (hn : Hid (n = l.length)) (hl : n ≤ 1000000) (hA : Hid (RdJ w A l)) (hT : Hid (KtOk w t tl)) :
    Calls Try.prog 11 #[.slice A0 N c0, .slice A n cap, .agg t.arr] w fun e w' => e = retV (bestP (srt t tl l L)) ∧ Below w.heap.size w w' := by
  have k1 := fun (W : World) (h1 : Hid (RdM W A0 (mcs L))) (h2 : Hid (MsOk W L)) (h3 : Hid (RdJ W A l)) (h4 : Hid (KtOk W t tl)) => sorted_any A0 N c0 L A n cap l t tl W hN hNl h1 h2 hn hl h3 h4
  obtain ⟨E, hE⟩ : ∃ E, srt t tl l L = E := ⟨_, rfl⟩
  rw [hE] at k1
  rw [hE]
  have K1 := Lib.hid k1; clear k1 hE
  go_enter Try.func11, Try.ntmps11
  have HT0 := Lib.hid (show Bk (w.alloc (.cells t.arr 28)) w.heap.size 28 t.arr from Bk.fresh _ _ _)
  have hB0 : Below w.heap.size w (w.alloc (.cells t.arr 28)) := (Below.refl _ _).alloc (Nat.le_refl _) _
  go_wp2_with (with_reducible refine load_bk rfl 28 _ rfl w.heap.size 0 rfl 28 t.arr t.arr _ HT0.out (Part.whole _) Try.underlying28 rfl (by kernel_rfl) ?_)
  refine (K1.out _ (hL.out.later hB0) (hLo.out.later hB0) (hA.out.later hB0) (hT.out.later hB0)).mono ?_; rintro v w1 ⟨⟨u, rfl, hO⟩, hb1⟩
  have hB1 : Below w.heap.size w w1 := hB0.trans (hb1.mono hB0.size)
  obtain ⟨B, c, hv, hr, hc, hc'⟩ := hO.rds
  subst hv
  clear hO
  cases E with
  | nil =>
    go_wp2_with fail
    go_ret2
    exact ⟨rfl, hB1⟩
  | cons x E =>
    obtain ⟨g, o, rfl, hg, c0⟩ := hr.at (i := 0) (by simp [nms])
    rw [show (nms (x :: E))[0]'(by simp [nms]) = x.1 by simp [nms], Nat.add_zero] at c0
    obtain ⟨q, hq⟩ : ∃ q, q = (nms (x :: E)).length := ⟨_, rfl⟩
    have hq0 : 0 < q := by rw [hq]; simp [nms]
    rw [← hq] at hc
    rw [← hq]
    clear hr hq
    have hq1 : ((q : Int) == 0) = false := by simp; omega
    go_wp2_with fail
    go_ret2
    exact ⟨rfl, hB1⟩
end Go.Proofs.Ythikdhgkjcdepaa
