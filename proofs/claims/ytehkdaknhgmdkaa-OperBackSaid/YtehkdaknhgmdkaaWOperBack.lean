/- The walk of OperBack: an operation's bytes are decoded as it; cut off, or with one more behind, they aren't. Conditions: texts and slices that Go can have. -/
import Derived.Test.YtehkdaknhgmdkaaOsz
import Derived.Test.YtehkdaknhgmdkaaOsm
import Derived.Test.YtehkdaknhgmdkaaOaw
import Derived.Test.YtehkdaknhgmdkaaOfw
import Derived.Test.YtehkdaknhgmdkaaObk
import Derived.Lib.Strings
namespace Go.Proofs.Ytehkdaknhgmdkaa.operBack
open Go.RowKit
set_option linter.unusedSimpArgs false
set_option linter.unusedVariables false
theorem u64_bd {c : Int} (h : (Lit.int .u64 c).wf = true) : 0 ≤ c ∧ c ≤ 18446744073709551615 := by simpa [Lit.wf, IntKind.min, IntKind.max, IntKind.signed, IntKind.bits] using h
theorem u8_bd {c : Int} (h : (Lit.int .u8 c).wf = true) : 0 ≤ c ∧ c ≤ 255 := by simpa [Lit.wf, IntKind.min, IntKind.max, IntKind.signed, IntKind.bits] using h
theorem u8_of {c : Int} (h : 0 ≤ c ∧ c ≤ 255) : ∃ m : UInt8, c = (m.toNat : Int) := ⟨UInt8.ofNat c.toNat, by rw [u8_toNat]; omega⟩
theorem rd_head {w : World} {A : Option Addr} {l : List UInt8} (h : Rd w A l) (hl : 0 < l.length) (hA : A = none ∨ ∃ g, A = some ⟨g, 0, none⟩) : ∃ g, A = some ⟨g, 0, none⟩ := by
  rcases hA with rfl | hA
  · obtain ⟨g, o, e, _⟩ := h 0 l[0] (List.getElem?_eq_getElem hl)
    cases e
  · exact hA
attribute [local go_sem ↓] Go.wp_at_zero Go.wp_at_succ
set_option maxHeartbeats 12800000 in
set_option maxRecDepth 100000 in
theorem walk (k : Int) (nn : ByteArray) (a1 b1 c1 : Int) (A1 : Option Addr) (m1 p1 : Nat) (l1 : List Lb) (qn : ByteArray) (a2 b2 c2 : Int) (tn tq : ByteArray) (tp a3 b3 c3 : Int) (A3 : Option Addr) (m3 p3 : Nat) (l3 : List Lb) (ta tg : ByteArray) (ts : Int) (s : ByteArray) (cut : Int) (more : Int) (w : World) (hn1 : Hid (m1 = l1.length)) (hp1 : m1 ≤ p1) (hq1 : p1 ≤ 9223372036854775807) (hn3 : Hid (m3 = l3.length)) (hp3 : m3 ≤ p3) (hq3 : p3 ≤ 9223372036854775807) (hr1 : Hid (RdL w A1 l1)) (hr3 : Hid (RdL w A3 l3)) (hz1 : Hid (Sz l1)) (hz3 : Hid (Sz l3)) (hnn : nn.size ≤ 140737488351232) (hqn : qn.size ≤ 140737488351232) (htn : tn.size ≤ 140737488351232) (htq : tq.size ≤ 140737488351232) (hta : ta.size ≤ 140737488351232) (htg : tg.size ≤ 140737488351232) (hs : s.size ≤ 140737488351232) (wu : (Lit.int .u64 cut).wf = true) (wb : (Lit.int .u8 more).wf = true) : Calls Try.prog 5 #[.agg #[.int .i64 k, .string nn, .int .i64 a1, .int .i64 b1, .int .i64 c1, .slice A1 m1 p1, .string qn, .int .i64 a2, .int .i64 b2, .int .i64 c2, .string tn, .string tq, .int .i64 tp, .int .i64 a3, .int .i64 b3, .int .i64 c3, .slice A3 m3 p3, .string ta, .string tg, .int .i64 ts, .string s], .int .u64 cut, .int .u8 more] w fun e w' => e = .returned (.bool true) ∧ Below w.heap.size w w' := by
  have du := u64_bd wu
  obtain ⟨m, rfl⟩ := u8_of (u8_bd wb)
  clear wu wb
  obtain ⟨i0, hi, hy0, hy1, hy2⟩ := info_parts info5
  have kf := fun W (h : RdL W A1 l1) (g : RdL W A3 l3) => few_op k nn a1 b1 c1 A1 m1 p1 l1 qn a2 b2 c2 tn tq tp a3 b3 c3 A3 m3 p3 l3 ta tg ts s W hn1 hp1 hq1 hn3 hp3 hq3 (Lib.hid h) (Lib.hid g) hz1 hz3 hnn hqn htn htq hta htg hs
  obtain ⟨N, hN⟩ : ∃ N, N = (opBytes ⟨k, nn, a1, b1, c1, l1, qn, a2, b2, c2, tn, tq, tp, a3, b3, c3, l3, ta, tg, ts, s⟩).length := ⟨_, rfl⟩
  have ke := fun W (h : RdL W A1 l1) (g : RdL W A3 l3) => opEncode_any k nn a1 b1 c1 A1 m1 p1 l1 qn a2 b2 c2 tn tq tp a3 b3 c3 A3 m3 p3 l3 ta tg ts s N W hn1 hp1 hq1 hn3 hp3 hq3 (Lib.hid h) (Lib.hid g) hz1 hz3 hnn hqn htn htq hta htg hs hN
  have kr := fun W (h : RdL W A1 l1) (g : RdL W A3 l3) => opRight_any k nn a1 b1 c1 A1 m1 p1 l1 qn a2 b2 c2 tn tq tp a3 b3 c3 A3 m3 p3 l3 ta tg ts s W hn1 hp1 hq1 hn3 hp3 hq3 (Lib.hid h) (Lib.hid g) hz1 hz3 hnn hqn htn htq hta htg hs
  have KF := Lib.hid kf
  clear kf hnn hqn htn htq hta htg hs
  by_cases hv : opB ⟨k, nn, a1, b1, c1, l1, qn, a2, b2, c2, tn, tq, tp, a3, b3, c3, l3, ta, tg, ts, s⟩ = true
  case neg =>
    have hv' : opB ⟨k, nn, a1, b1, c1, l1, qn, a2, b2, c2, tn, tq, tp, a3, b3, c3, l3, ta, tg, ts, s⟩ = false := by simpa using hv
    rw [opBytes_no hv'] at hN
    rw [opBytes_no hv', opErr_no hv'] at ke
    rw [hv'] at kr
    have hN0 : N = 0 := hN
    subst hN0
    have KE := Lib.hid ke
    have KR := Lib.hid kr
    clear ke kr hv hv' hN
    go_enter Try.func5, Try.ntmps5
    go_wp2_with fail
    refine (awake_any _).mono ?_
    rintro e w1 ⟨rfl, hb1⟩
    have T1 : Hid (Below w.heap.size w w1 ∧ Bk w1 w.heap.size 32 #[.int .i64 k, .string nn, .int .i64 a1, .int .i64 b1, .int .i64 c1, .slice A1 m1 p1, .string qn, .int .i64 a2, .int .i64 b2, .int .i64 c2, .string tn, .string tq, .int .i64 tp, .int .i64 a3, .int .i64 b3, .int .i64 c3, .slice A3 m3 p3, .string ta, .string tg, .int .i64 ts, .string s]) := ⟨(by (repeat' (first | (with_reducible exact Below.refl _ _) | (with_reducible refine bdrewN ?_ _) | (with_reducible refine Below.drew ?_) | (with_reducible refine Below.setCell ?_ ?_ _) | (with_reducible refine Below.alloc ?_ ?_ _) | (with_reducible refine Below.trans ?_ (Below.mono hb1 ?_)) | (with_reducible exact Nat.le_refl _) | (with_reducible assumption) | omega | (simp only [World.size_alloc, World.size_setCell, World.size_drew, sz_drewN]; omega)))), (Bk.fresh _ _ _).later hb1⟩
    clear hb1
    go_wp2_with (with_reducible refine load_bk rfl 32 _ rfl w.heap.size 0 rfl 32 #[.int .i64 k, .string nn, .int .i64 a1, .int .i64 b1, .int .i64 c1, .slice A1 m1 p1, .string qn, .int .i64 a2, .int .i64 b2, .int .i64 c2, .string tn, .string tq, .int .i64 tp, .int .i64 a3, .int .i64 b3, .int .i64 c3, .slice A3 m3 p3, .string ta, .string tg, .int .i64 ts, .string s] #[.int .i64 k, .string nn, .int .i64 a1, .int .i64 b1, .int .i64 c1, .slice A1 m1 p1, .string qn, .int .i64 a2, .int .i64 b2, .int .i64 c2, .string tn, .string tq, .int .i64 tp, .int .i64 a3, .int .i64 b3, .int .i64 c3, .slice A3 m3 p3, .string ta, .string tg, .int .i64 ts, .string s] _ T1.out.2 (Part.whole _) Try.underlying32 rfl (by kernel_rfl) ?_)
    refine (KF.out _ (hr1.out.later T1.out.1) (hr3.out.later T1.out.1)).mono ?_
    rintro e w2 ⟨⟨f, rfl⟩, hb2⟩
    have T2 : Hid (Below w.heap.size w w2 ∧ Bk w2 w.heap.size 32 #[.int .i64 k, .string nn, .int .i64 a1, .int .i64 b1, .int .i64 c1, .slice A1 m1 p1, .string qn, .int .i64 a2, .int .i64 b2, .int .i64 c2, .string tn, .string tq, .int .i64 tp, .int .i64 a3, .int .i64 b3, .int .i64 c3, .slice A3 m3 p3, .string ta, .string tg, .int .i64 ts, .string s]) := ⟨T1.out.1.trans (hb2.mono T1.out.1.size), T1.out.2.later hb2⟩
    clear hb2 T1 KF
    cases f
    case false =>
      go_wp2_with fail
      refine (awake_any _).mono ?_
      rintro e w3 ⟨rfl, hb3⟩
      go_wp2
      go_ret
      exact ⟨rfl, T2.out.1.trans (hb3.mono T2.out.1.size)⟩
    case true =>
      go_wp2_with (with_reducible refine load_bk rfl 32 _ rfl w.heap.size 0 rfl 32 #[.int .i64 k, .string nn, .int .i64 a1, .int .i64 b1, .int .i64 c1, .slice A1 m1 p1, .string qn, .int .i64 a2, .int .i64 b2, .int .i64 c2, .string tn, .string tq, .int .i64 tp, .int .i64 a3, .int .i64 b3, .int .i64 c3, .slice A3 m3 p3, .string ta, .string tg, .int .i64 ts, .string s] #[.int .i64 k, .string nn, .int .i64 a1, .int .i64 b1, .int .i64 c1, .slice A1 m1 p1, .string qn, .int .i64 a2, .int .i64 b2, .int .i64 c2, .string tn, .string tq, .int .i64 tp, .int .i64 a3, .int .i64 b3, .int .i64 c3, .slice A3 m3 p3, .string ta, .string tg, .int .i64 ts, .string s] _ T2.out.2 (Part.whole _) Try.underlying32 rfl (by kernel_rfl) ?_)
      refine (KE.out _ (hr1.out.later T2.out.1) (hr3.out.later T2.out.1)).mono ?_
      rintro e w3 ⟨A, c, rfl, ro, co, cm, hoo, hb3⟩
      have T3 : Hid (Below w.heap.size w w3 ∧ Bk w3 w.heap.size 32 #[.int .i64 k, .string nn, .int .i64 a1, .int .i64 b1, .int .i64 c1, .slice A1 m1 p1, .string qn, .int .i64 a2, .int .i64 b2, .int .i64 c2, .string tn, .string tq, .int .i64 tp, .int .i64 a3, .int .i64 b3, .int .i64 c3, .slice A3 m3 p3, .string ta, .string tg, .int .i64 ts, .string s]) := ⟨T2.out.1.trans (hb3.mono T2.out.1.size), T2.out.2.later hb3⟩
      clear hb3 T2 ro hoo
      go_wp2_with (with_reducible refine load_bk rfl 32 _ rfl w.heap.size 0 rfl 32 #[.int .i64 k, .string nn, .int .i64 a1, .int .i64 b1, .int .i64 c1, .slice A1 m1 p1, .string qn, .int .i64 a2, .int .i64 b2, .int .i64 c2, .string tn, .string tq, .int .i64 tp, .int .i64 a3, .int .i64 b3, .int .i64 c3, .slice A3 m3 p3, .string ta, .string tg, .int .i64 ts, .string s] #[.int .i64 k, .string nn, .int .i64 a1, .int .i64 b1, .int .i64 c1, .slice A1 m1 p1, .string qn, .int .i64 a2, .int .i64 b2, .int .i64 c2, .string tn, .string tq, .int .i64 tp, .int .i64 a3, .int .i64 b3, .int .i64 c3, .slice A3 m3 p3, .string ta, .string tg, .int .i64 ts, .string s] _ T3.out.2 (Part.whole _) Try.underlying32 rfl (by kernel_rfl) ?_)
      refine (KR.out _ (hr1.out.later T3.out.1) (hr3.out.later T3.out.1)).mono ?_
      rintro e w4 ⟨rfl, hb4⟩
      have hB4 := T3.out.1.trans (hb4.mono T3.out.1.size)
      go_wp2
      go_ret
      exact ⟨rfl, hB4⟩
  case pos =>
    rw [opBytes_yes hv] at hN
    rw [opBytes_yes hv, opErr_yes hv] at ke
    have hle := opEnc_le hv
    rw [← hN] at hle
    have hb1 := op_back hv
    have hb2 := @op_cut _ hv
    have hb3 := op_more hv m
    obtain ⟨L, hL⟩ : ∃ L, L = opEnc ⟨k, nn, a1, b1, c1, l1, qn, a2, b2, c2, tn, tq, tp, a3, b3, c3, l3, ta, tg, ts, s⟩ := ⟨_, rfl⟩
    rw [← hL] at ke hN hb1 hb2 hb3
    obtain ⟨j, hj⟩ : ∃ j : Nat, cut % (N : Int) = (j : Int) := ⟨(cut % (N : Int)).toNat, by have := Int.emod_nonneg cut (show (N : Int) ≠ 0 by omega); omega⟩
    have hjN : j < N := by have := Int.emod_lt_of_pos cut (show (0 : Int) < (N : Int) by omega); omega
    have hcut := hb2 (j := j) (by omega)
    have hzero := dOp_no hcut
    obtain ⟨ec, hec⟩ : ∃ ec, ec = (dOp (L.take j)).2 := ⟨_, rfl⟩
    have hd2 : dOp (L.take j) = (Ov.zero, ec) := Prod.ext hzero hec.symm
    rw [← hec] at hcut
    have q1 := fun A c W (hr : Rd W A L) (hc : N ≤ c) (hm : c ≤ 9223372036854775807) => opDecode_any A N c L W hN (Lib.hid hr) hc hm
    have q2 := fun A c W (hr : Rd W A (L.take j)) (hc : j ≤ c) (hm : c ≤ 9223372036854775807) => opDecode_any A j c (L.take j) W (by show _ = _; rw [List.length_take]; omega) (Lib.hid hr) hc hm
    have q3 := fun A c W (hr : Rd W A (L ++ [m])) (hc : N + 1 ≤ c) (hm : c ≤ 9223372036854775807) => opDecode_any A (N + 1) c (L ++ [m]) W (by show _ = _; rw [List.length_append, List.length_singleton]; omega) (Lib.hid hr) hc hm
    rw [hb1] at q1
    rw [hd2] at q2
    rw [hb3] at q3
    unfold GotO Ov.cells at q1 q2 q3
    unfold Ov.zero at q2 q3
    simp only [] at q1 q2 q3
    have ec1 : (ec != 0) = true := by simpa using hcut
    have d1 : decide (N < 1) = false := by simp; omega
    have d2 : decide ((N : Int) < 1) = false := by simp; omega
    have d3 : ((N : Int) == 0) = false := by simp; omega
    have hN1 : (1 : Int) ≤ (N : Int) := by omega
    have hNk : N ≤ 1002 := hle.2
    have hN0 : 0 < L.length := by omega
    have HN := Lib.hid hN
    have KE := Lib.hid ke
    have Q1 := Lib.hid q1
    have Q2 := Lib.hid q2
    have Q3 := Lib.hid q3
    have HN0 := Lib.hid hN0
    clear ke kr q1 q2 q3 hN hL hb1 hb2 hb3 hcut hzero hd2 hec hv hle hN0
    go_enter Try.func5, Try.ntmps5
    go_wp2_with fail
    refine (awake_any _).mono ?_
    rintro e w1 ⟨rfl, hb1⟩
    have T1 : Hid (Below w.heap.size w w1 ∧ Bk w1 w.heap.size 32 #[.int .i64 k, .string nn, .int .i64 a1, .int .i64 b1, .int .i64 c1, .slice A1 m1 p1, .string qn, .int .i64 a2, .int .i64 b2, .int .i64 c2, .string tn, .string tq, .int .i64 tp, .int .i64 a3, .int .i64 b3, .int .i64 c3, .slice A3 m3 p3, .string ta, .string tg, .int .i64 ts, .string s]) := ⟨(by (repeat' (first | (with_reducible exact Below.refl _ _) | (with_reducible refine bdrewN ?_ _) | (with_reducible refine Below.drew ?_) | (with_reducible refine Below.setCell ?_ ?_ _) | (with_reducible refine Below.alloc ?_ ?_ _) | (with_reducible refine Below.trans ?_ (Below.mono hb1 ?_)) | (with_reducible exact Nat.le_refl _) | (with_reducible assumption) | omega | (simp only [World.size_alloc, World.size_setCell, World.size_drew, sz_drewN]; omega)))), (Bk.fresh _ _ _).later hb1⟩
    clear hb1
    go_wp2_with (with_reducible refine load_bk rfl 32 _ rfl w.heap.size 0 rfl 32 #[.int .i64 k, .string nn, .int .i64 a1, .int .i64 b1, .int .i64 c1, .slice A1 m1 p1, .string qn, .int .i64 a2, .int .i64 b2, .int .i64 c2, .string tn, .string tq, .int .i64 tp, .int .i64 a3, .int .i64 b3, .int .i64 c3, .slice A3 m3 p3, .string ta, .string tg, .int .i64 ts, .string s] #[.int .i64 k, .string nn, .int .i64 a1, .int .i64 b1, .int .i64 c1, .slice A1 m1 p1, .string qn, .int .i64 a2, .int .i64 b2, .int .i64 c2, .string tn, .string tq, .int .i64 tp, .int .i64 a3, .int .i64 b3, .int .i64 c3, .slice A3 m3 p3, .string ta, .string tg, .int .i64 ts, .string s] _ T1.out.2 (Part.whole _) Try.underlying32 rfl (by kernel_rfl) ?_)
    refine (KF.out _ (hr1.out.later T1.out.1) (hr3.out.later T1.out.1)).mono ?_
    rintro e w2 ⟨⟨f, rfl⟩, hb2⟩
    have T2 : Hid (Below w.heap.size w w2 ∧ Bk w2 w.heap.size 32 #[.int .i64 k, .string nn, .int .i64 a1, .int .i64 b1, .int .i64 c1, .slice A1 m1 p1, .string qn, .int .i64 a2, .int .i64 b2, .int .i64 c2, .string tn, .string tq, .int .i64 tp, .int .i64 a3, .int .i64 b3, .int .i64 c3, .slice A3 m3 p3, .string ta, .string tg, .int .i64 ts, .string s]) := ⟨T1.out.1.trans (hb2.mono T1.out.1.size), T1.out.2.later hb2⟩
    clear hb2 T1 KF
    cases f
    case false =>
      go_wp2_with fail
      refine (awake_any _).mono ?_
      rintro e w3 ⟨rfl, hb3⟩
      go_wp2
      go_ret
      exact ⟨rfl, T2.out.1.trans (hb3.mono T2.out.1.size)⟩
    case true =>
      go_wp2_with (with_reducible refine load_bk rfl 32 _ rfl w.heap.size 0 rfl 32 #[.int .i64 k, .string nn, .int .i64 a1, .int .i64 b1, .int .i64 c1, .slice A1 m1 p1, .string qn, .int .i64 a2, .int .i64 b2, .int .i64 c2, .string tn, .string tq, .int .i64 tp, .int .i64 a3, .int .i64 b3, .int .i64 c3, .slice A3 m3 p3, .string ta, .string tg, .int .i64 ts, .string s] #[.int .i64 k, .string nn, .int .i64 a1, .int .i64 b1, .int .i64 c1, .slice A1 m1 p1, .string qn, .int .i64 a2, .int .i64 b2, .int .i64 c2, .string tn, .string tq, .int .i64 tp, .int .i64 a3, .int .i64 b3, .int .i64 c3, .slice A3 m3 p3, .string ta, .string tg, .int .i64 ts, .string s] _ T2.out.2 (Part.whole _) Try.underlying32 rfl (by kernel_rfl) ?_)
      refine (KE.out _ (hr1.out.later T2.out.1) (hr3.out.later T2.out.1)).mono ?_
      rintro e w3 ⟨A, c, rfl, ro, co, cm, hoo, hb3⟩
      obtain ⟨g, hg⟩ := rd_head ro HN0.out hoo
      subst hg
      have T3 : Hid (Below w.heap.size w w3 ∧ Bk w3 w.heap.size 32 #[.int .i64 k, .string nn, .int .i64 a1, .int .i64 b1, .int .i64 c1, .slice A1 m1 p1, .string qn, .int .i64 a2, .int .i64 b2, .int .i64 c2, .string tn, .string tq, .int .i64 tp, .int .i64 a3, .int .i64 b3, .int .i64 c3, .slice A3 m3 p3, .string ta, .string tg, .int .i64 ts, .string s] ∧ Rd w3 (some ⟨g, 0, none⟩) L) := ⟨T2.out.1.trans (hb3.mono T2.out.1.size), T2.out.2.later hb3, ro⟩
      clear hb3 T2 ro hoo
      go_wp2_with fail
      refine (Q1.out _ _ _ T3.out.2.2 co cm).mono ?_
      rintro e w4 ⟨v1, v3, rfl, ho1, ho3, hb4⟩
      obtain ⟨B1, j1, sl1⟩ := ho1.sl
      obtain ⟨B3, j3, sl3⟩ := ho3.sl
      have hv1 := sl1.val
      have hv3 := sl3.val
      subst hv1 hv3
      have cj1 := sl1.cap
      have cj3 := sl3.cap
      have ck1 : j1 ≤ 9223372036854775807 := by have := sl1.cap2; unfold maxLen at this; omega
      have ck3 : j3 ≤ 9223372036854775807 := by have := sl3.cap2; unfold maxLen at this; omega
      have T4 : Hid (Below w.heap.size w w4 ∧ Bk w4 w.heap.size 32 #[.int .i64 k, .string nn, .int .i64 a1, .int .i64 b1, .int .i64 c1, .slice A1 m1 p1, .string qn, .int .i64 a2, .int .i64 b2, .int .i64 c2, .string tn, .string tq, .int .i64 tp, .int .i64 a3, .int .i64 b3, .int .i64 c3, .slice A3 m3 p3, .string ta, .string tg, .int .i64 ts, .string s] ∧ Rd w4 (some ⟨g, 0, none⟩) L ∧ RdL w4 B1 l1 ∧ RdL w4 B3 l3) := ⟨T3.out.1.trans (hb4.mono T3.out.1.size), T3.out.2.1.later hb4, T3.out.2.2.below hb4, sl1.rd, sl3.rd⟩
      clear hb4 T3 ho1 ho3 sl1 sl3
      go_wp2_with ((with_reducible refine store_bk rfl 32 (.tmp 9) (.tmp 41) rfl w4.heap.size 0 #[.int .i64 k, .string nn, .int .i64 a1, .int .i64 b1, .int .i64 c1, .slice B1 l1.length j1, .string qn, .int .i64 a2, .int .i64 b2, .int .i64 c2, .string tn, .string tq, .int .i64 tp, .int .i64 a3, .int .i64 b3, .int .i64 c3, .slice B3 l3.length j3, .string ta, .string tg, .int .i64 ts, .string s] rfl rfl 32 #[.int .i64 0, .string ⟨#[]⟩, .int .i64 0, .int .i64 0, .int .i64 0, .slice none 0 0, .string ⟨#[]⟩, .int .i64 0, .int .i64 0, .int .i64 0, .string ⟨#[]⟩, .string ⟨#[]⟩, .int .i64 0, .int .i64 0, .int .i64 0, .int .i64 0, .slice none 0 0, .string ⟨#[]⟩, .string ⟨#[]⟩, .int .i64 0, .string ⟨#[]⟩] #[.int .i64 k, .string nn, .int .i64 a1, .int .i64 b1, .int .i64 c1, .slice B1 l1.length j1, .string qn, .int .i64 a2, .int .i64 b2, .int .i64 c2, .string tn, .string tq, .int .i64 tp, .int .i64 a3, .int .i64 b3, .int .i64 c3, .slice B3 l3.length j3, .string ta, .string tg, .int .i64 ts, .string s] (Bk.fresh _ _ _) (by kernel_rfl) (by simp) (by kernel_rfl) rfl ?_); intro w5 hB5 hg5 hs5; have b45 : Below w4.heap.size w4 w5 := grown_below ((Below.refl _ _).alloc (Nat.le_refl _) _) hg5 (Nat.le_refl _); have T5 : Hid (Below w.heap.size w w5 ∧ Bk w5 w.heap.size 32 #[.int .i64 k, .string nn, .int .i64 a1, .int .i64 b1, .int .i64 c1, .slice A1 m1 p1, .string qn, .int .i64 a2, .int .i64 b2, .int .i64 c2, .string tn, .string tq, .int .i64 tp, .int .i64 a3, .int .i64 b3, .int .i64 c3, .slice A3 m3 p3, .string ta, .string tg, .int .i64 ts, .string s] ∧ Rd w5 (some ⟨g, 0, none⟩) L ∧ RdL w5 B1 l1 ∧ RdL w5 B3 l3 ∧ Bk w5 w4.heap.size 32 #[.int .i64 k, .string nn, .int .i64 a1, .int .i64 b1, .int .i64 c1, .slice B1 l1.length j1, .string qn, .int .i64 a2, .int .i64 b2, .int .i64 c2, .string tn, .string tq, .int .i64 tp, .int .i64 a3, .int .i64 b3, .int .i64 c3, .slice B3 l3.length j3, .string ta, .string tg, .int .i64 ts, .string s]) := ⟨T4.out.1.trans (b45.mono T4.out.1.size), T4.out.2.1.later b45, T4.out.2.2.1.below b45, T4.out.2.2.2.1.later b45, T4.out.2.2.2.2.later b45, hB5⟩; clear b45 hB5 hg5 hs5 T4)
      refine (Q2.out _ _ _ (T5.out.2.2.1.take j) (by omega) (by omega)).mono ?_
      rintro e w6 ⟨v1, v3, rfl, ho1, ho3, hb6⟩
      obtain ⟨C1, k1, sl1⟩ := ho1.sl
      obtain ⟨C3, k3, sl3⟩ := ho3.sl
      have hv1 := sl1.val
      have hv3 := sl3.val
      simp only [List.length_nil] at hv1 hv3
      subst hv1 hv3
      have T6 : Hid (Below w.heap.size w w6 ∧ Bk w6 w.heap.size 32 #[.int .i64 k, .string nn, .int .i64 a1, .int .i64 b1, .int .i64 c1, .slice A1 m1 p1, .string qn, .int .i64 a2, .int .i64 b2, .int .i64 c2, .string tn, .string tq, .int .i64 tp, .int .i64 a3, .int .i64 b3, .int .i64 c3, .slice A3 m3 p3, .string ta, .string tg, .int .i64 ts, .string s] ∧ Rd w6 (some ⟨g, 0, none⟩) L ∧ RdL w6 B1 l1 ∧ RdL w6 B3 l3 ∧ Bk w6 w4.heap.size 32 #[.int .i64 k, .string nn, .int .i64 a1, .int .i64 b1, .int .i64 c1, .slice B1 l1.length j1, .string qn, .int .i64 a2, .int .i64 b2, .int .i64 c2, .string tn, .string tq, .int .i64 tp, .int .i64 a3, .int .i64 b3, .int .i64 c3, .slice B3 l3.length j3, .string ta, .string tg, .int .i64 ts, .string s]) := ⟨T5.out.1.trans (hb6.mono T5.out.1.size), T5.out.2.1.later hb6, T5.out.2.2.1.below hb6, T5.out.2.2.2.1.later hb6, T5.out.2.2.2.2.1.later hb6, T5.out.2.2.2.2.2.later hb6⟩
      clear hb6 T5 ho1 ho3 sl1 sl3
      go_wp2_with (first | ((with_reducible refine store_bk rfl 32 (.tmp 11) (.tmp 52) rfl w6.heap.size 0 #[.int .i64 0, .string ⟨#[]⟩, .int .i64 0, .int .i64 0, .int .i64 0, .slice C1 0 k1, .string ⟨#[]⟩, .int .i64 0, .int .i64 0, .int .i64 0, .string ⟨#[]⟩, .string ⟨#[]⟩, .int .i64 0, .int .i64 0, .int .i64 0, .int .i64 0, .slice C3 0 k3, .string ⟨#[]⟩, .string ⟨#[]⟩, .int .i64 0, .string ⟨#[]⟩] rfl rfl 32 #[.int .i64 0, .string ⟨#[]⟩, .int .i64 0, .int .i64 0, .int .i64 0, .slice none 0 0, .string ⟨#[]⟩, .int .i64 0, .int .i64 0, .int .i64 0, .string ⟨#[]⟩, .string ⟨#[]⟩, .int .i64 0, .int .i64 0, .int .i64 0, .int .i64 0, .slice none 0 0, .string ⟨#[]⟩, .string ⟨#[]⟩, .int .i64 0, .string ⟨#[]⟩] #[.int .i64 0, .string ⟨#[]⟩, .int .i64 0, .int .i64 0, .int .i64 0, .slice C1 0 k1, .string ⟨#[]⟩, .int .i64 0, .int .i64 0, .int .i64 0, .string ⟨#[]⟩, .string ⟨#[]⟩, .int .i64 0, .int .i64 0, .int .i64 0, .int .i64 0, .slice C3 0 k3, .string ⟨#[]⟩, .string ⟨#[]⟩, .int .i64 0, .string ⟨#[]⟩] (Bk.fresh _ _ _) (by kernel_rfl) (by simp) (by kernel_rfl) rfl ?_); intro w7 hB7 hg7 hs7; have b67 : Below w6.heap.size w6 w7 := grown_below ((Below.refl _ _).alloc (Nat.le_refl _) _) hg7 (Nat.le_refl _); have T7 : Hid (Below w.heap.size w w7 ∧ Bk w7 w.heap.size 32 #[.int .i64 k, .string nn, .int .i64 a1, .int .i64 b1, .int .i64 c1, .slice A1 m1 p1, .string qn, .int .i64 a2, .int .i64 b2, .int .i64 c2, .string tn, .string tq, .int .i64 tp, .int .i64 a3, .int .i64 b3, .int .i64 c3, .slice A3 m3 p3, .string ta, .string tg, .int .i64 ts, .string s] ∧ Rd w7 (some ⟨g, 0, none⟩) L ∧ RdL w7 B1 l1 ∧ RdL w7 B3 l3 ∧ Bk w7 w4.heap.size 32 #[.int .i64 k, .string nn, .int .i64 a1, .int .i64 b1, .int .i64 c1, .slice B1 l1.length j1, .string qn, .int .i64 a2, .int .i64 b2, .int .i64 c2, .string tn, .string tq, .int .i64 tp, .int .i64 a3, .int .i64 b3, .int .i64 c3, .slice B3 l3.length j3, .string ta, .string tg, .int .i64 ts, .string s]) := ⟨T6.out.1.trans (b67.mono T6.out.1.size), T6.out.2.1.later b67, T6.out.2.2.1.below b67, T6.out.2.2.2.1.later b67, T6.out.2.2.2.2.1.later b67, T6.out.2.2.2.2.2.later b67⟩; clear b67 hB7 hg7 hs7 T6) | (at_builtin; refine wpList_append_byte _ rfl (.tmp 60) (.tmp 62) 35 rfl 5 i0 Try.underlying35 hi hy0 hy1 hy2 g N L w7.heap.size m rfl rfl (T7.out.2.2.1.below ((Below.refl _ _).alloc (Nat.le_refl _) _)) ((Bk.fresh _ _ _).cellAt 0) HN.out (by omega) ?_))
      intro A8 c8 w8 hr8 hb8 hc8 hm8
      unfold maxLen at hm8
      have hm8x : c8 ≤ 9223372036854775807 := by omega
      clear hm8
      have b78 : Below w7.heap.size w7 w8 := Below.trans ((Below.refl _ _).alloc (Nat.le_refl _) _) (hb8.mono (by simp))
      have T8 : Hid (Below w.heap.size w w8 ∧ Bk w8 w.heap.size 32 #[.int .i64 k, .string nn, .int .i64 a1, .int .i64 b1, .int .i64 c1, .slice A1 m1 p1, .string qn, .int .i64 a2, .int .i64 b2, .int .i64 c2, .string tn, .string tq, .int .i64 tp, .int .i64 a3, .int .i64 b3, .int .i64 c3, .slice A3 m3 p3, .string ta, .string tg, .int .i64 ts, .string s] ∧ Rd w8 (some ⟨g, 0, none⟩) L ∧ RdL w8 B1 l1 ∧ RdL w8 B3 l3 ∧ Bk w8 w4.heap.size 32 #[.int .i64 k, .string nn, .int .i64 a1, .int .i64 b1, .int .i64 c1, .slice B1 l1.length j1, .string qn, .int .i64 a2, .int .i64 b2, .int .i64 c2, .string tn, .string tq, .int .i64 tp, .int .i64 a3, .int .i64 b3, .int .i64 c3, .slice B3 l3.length j3, .string ta, .string tg, .int .i64 ts, .string s]) := ⟨T7.out.1.trans (b78.mono T7.out.1.size), T7.out.2.1.later b78, T7.out.2.2.1.below b78, T7.out.2.2.2.1.later b78, T7.out.2.2.2.2.1.later b78, T7.out.2.2.2.2.2.later b78⟩
      clear b78 hb8 T7
      go_wp2_with fail
      refine (Q3.out _ _ _ hr8 hc8 hm8x).mono ?_
      rintro e w9 ⟨v1, v3, rfl, ho1, ho3, hb9⟩
      obtain ⟨D1, q1, sl1⟩ := ho1.sl
      obtain ⟨D3, q3, sl3⟩ := ho3.sl
      have hv1 := sl1.val
      have hv3 := sl3.val
      simp only [List.length_nil] at hv1 hv3
      subst hv1 hv3
      have T9 : Hid (Below w.heap.size w w9 ∧ Bk w9 w.heap.size 32 #[.int .i64 k, .string nn, .int .i64 a1, .int .i64 b1, .int .i64 c1, .slice A1 m1 p1, .string qn, .int .i64 a2, .int .i64 b2, .int .i64 c2, .string tn, .string tq, .int .i64 tp, .int .i64 a3, .int .i64 b3, .int .i64 c3, .slice A3 m3 p3, .string ta, .string tg, .int .i64 ts, .string s] ∧ Rd w9 (some ⟨g, 0, none⟩) L ∧ RdL w9 B1 l1 ∧ RdL w9 B3 l3 ∧ Bk w9 w4.heap.size 32 #[.int .i64 k, .string nn, .int .i64 a1, .int .i64 b1, .int .i64 c1, .slice B1 l1.length j1, .string qn, .int .i64 a2, .int .i64 b2, .int .i64 c2, .string tn, .string tq, .int .i64 tp, .int .i64 a3, .int .i64 b3, .int .i64 c3, .slice B3 l3.length j3, .string ta, .string tg, .int .i64 ts, .string s]) := ⟨T8.out.1.trans (hb9.mono T8.out.1.size), T8.out.2.1.later hb9, T8.out.2.2.1.below hb9, T8.out.2.2.2.1.later hb9, T8.out.2.2.2.2.1.later hb9, T8.out.2.2.2.2.2.later hb9⟩
      have z9 : w4.heap.size < w9.heap.size := T9.out.2.2.2.2.2.here
      clear hb9 T8 hr8 ho1 ho3 sl1 sl3
      go_wp2_with (first | ((with_reducible refine store_bk rfl 32 (.tmp 13) (.tmp 65) rfl w9.heap.size 0 #[.int .i64 0, .string ⟨#[]⟩, .int .i64 0, .int .i64 0, .int .i64 0, .slice D1 0 q1, .string ⟨#[]⟩, .int .i64 0, .int .i64 0, .int .i64 0, .string ⟨#[]⟩, .string ⟨#[]⟩, .int .i64 0, .int .i64 0, .int .i64 0, .int .i64 0, .slice D3 0 q3, .string ⟨#[]⟩, .string ⟨#[]⟩, .int .i64 0, .string ⟨#[]⟩] rfl rfl 32 #[.int .i64 0, .string ⟨#[]⟩, .int .i64 0, .int .i64 0, .int .i64 0, .slice none 0 0, .string ⟨#[]⟩, .int .i64 0, .int .i64 0, .int .i64 0, .string ⟨#[]⟩, .string ⟨#[]⟩, .int .i64 0, .int .i64 0, .int .i64 0, .int .i64 0, .slice none 0 0, .string ⟨#[]⟩, .string ⟨#[]⟩, .int .i64 0, .string ⟨#[]⟩] #[.int .i64 0, .string ⟨#[]⟩, .int .i64 0, .int .i64 0, .int .i64 0, .slice D1 0 q1, .string ⟨#[]⟩, .int .i64 0, .int .i64 0, .int .i64 0, .string ⟨#[]⟩, .string ⟨#[]⟩, .int .i64 0, .int .i64 0, .int .i64 0, .int .i64 0, .slice D3 0 q3, .string ⟨#[]⟩, .string ⟨#[]⟩, .int .i64 0, .string ⟨#[]⟩] (Bk.fresh _ _ _) (by kernel_rfl) (by simp) (by kernel_rfl) rfl ?_); intro w10 hB10 hg10 hs10; have b90 : Below w9.heap.size w9 w10 := grown_below ((Below.refl _ _).alloc (Nat.le_refl _) _) hg10 (Nat.le_refl _); have T10 : Hid (Below w.heap.size w w10 ∧ Bk w10 w.heap.size 32 #[.int .i64 k, .string nn, .int .i64 a1, .int .i64 b1, .int .i64 c1, .slice A1 m1 p1, .string qn, .int .i64 a2, .int .i64 b2, .int .i64 c2, .string tn, .string tq, .int .i64 tp, .int .i64 a3, .int .i64 b3, .int .i64 c3, .slice A3 m3 p3, .string ta, .string tg, .int .i64 ts, .string s] ∧ Rd w10 (some ⟨g, 0, none⟩) L ∧ RdL w10 B1 l1 ∧ RdL w10 B3 l3 ∧ Bk w10 w4.heap.size 32 #[.int .i64 k, .string nn, .int .i64 a1, .int .i64 b1, .int .i64 c1, .slice B1 l1.length j1, .string qn, .int .i64 a2, .int .i64 b2, .int .i64 c2, .string tn, .string tq, .int .i64 tp, .int .i64 a3, .int .i64 b3, .int .i64 c3, .slice B3 l3.length j3, .string ta, .string tg, .int .i64 ts, .string s]) := ⟨T9.out.1.trans (b90.mono T9.out.1.size), T9.out.2.1.later b90, T9.out.2.2.1.below b90, T9.out.2.2.2.1.later b90, T9.out.2.2.2.2.1.later b90, T9.out.2.2.2.2.2.later b90⟩; clear b90 hB10 hg10 hs10 T9) | (with_reducible refine load_bk rfl 32 _ rfl w4.heap.size 0 rfl 32 #[.int .i64 k, .string nn, .int .i64 a1, .int .i64 b1, .int .i64 c1, .slice B1 l1.length j1, .string qn, .int .i64 a2, .int .i64 b2, .int .i64 c2, .string tn, .string tq, .int .i64 tp, .int .i64 a3, .int .i64 b3, .int .i64 c3, .slice B3 l3.length j3, .string ta, .string tg, .int .i64 ts, .string s] #[.int .i64 k, .string nn, .int .i64 a1, .int .i64 b1, .int .i64 c1, .slice B1 l1.length j1, .string qn, .int .i64 a2, .int .i64 b2, .int .i64 c2, .string tn, .string tq, .int .i64 tp, .int .i64 a3, .int .i64 b3, .int .i64 c3, .slice B3 l3.length j3, .string ta, .string tg, .int .i64 ts, .string s] _ T10.out.2.2.2.2.2 (Part.whole _) Try.underlying32 rfl (by kernel_rfl) ?_) | (with_reducible refine load_bk rfl 32 _ rfl w.heap.size 0 rfl 32 #[.int .i64 k, .string nn, .int .i64 a1, .int .i64 b1, .int .i64 c1, .slice A1 m1 p1, .string qn, .int .i64 a2, .int .i64 b2, .int .i64 c2, .string tn, .string tq, .int .i64 tp, .int .i64 a3, .int .i64 b3, .int .i64 c3, .slice A3 m3 p3, .string ta, .string tg, .int .i64 ts, .string s] #[.int .i64 k, .string nn, .int .i64 a1, .int .i64 b1, .int .i64 c1, .slice A1 m1 p1, .string qn, .int .i64 a2, .int .i64 b2, .int .i64 c2, .string tn, .string tq, .int .i64 tp, .int .i64 a3, .int .i64 b3, .int .i64 c3, .slice A3 m3 p3, .string ta, .string tg, .int .i64 ts, .string s] _ T10.out.2.1 (Part.whole _) Try.underlying32 rfl (by kernel_rfl) ?_))
      refine (sameOp_yes k nn a1 b1 c1 B1 l1.length j1 l1 qn a2 b2 c2 tn tq tp a3 b3 c3 B3 l3.length j3 l3 ta tg ts s A1 m1 p1 A3 m3 p3 _ rfl cj1 ck1 rfl cj3 ck3 (Lib.hid T10.out.2.2.2.1) (Lib.hid T10.out.2.2.2.2.1) hn1 hp1 hq1 hn3 hp3 hq3 (Lib.hid (hr1.out.later T10.out.1)) (Lib.hid (hr3.out.later T10.out.1))).mono ?_
      rintro e w11 ⟨rfl, hb11⟩
      have hB11 := T10.out.1.trans (hb11.mono T10.out.1.size)
      go_wp2
      go_ret
      exact ⟨rfl, hB11⟩
end Go.Proofs.Ytehkdaknhgmdkaa.operBack
