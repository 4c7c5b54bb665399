/- The walk of OperOne: bytes that are decoded are just that operation's bytes, and it can be. Condition: a string that Go can have. -/
import Derived.Test.YtehkdaknhgmdkaaOsz
import Derived.Test.YtehkdaknhgmdkaaOsm
import Derived.Test.YtehkdaknhgmdkaaOaw
import Derived.Test.YtehkdaknhgmdkaaRen
import Derived.Lib.Strings
namespace Go.Proofs.Ytehkdaknhgmdkaa.operOne
open Go.RowKit
set_option linter.unusedSimpArgs false
set_option linter.unusedVariables false
attribute [local go_sem ↓] Go.wp_at_zero Go.wp_at_succ
set_option maxHeartbeats 12800000 in
set_option maxRecDepth 100000 in
theorem walk (s : ByteArray) (w : World) (zs : s.size ≤ 140737488351232) : Calls Try.prog 6 #[.string s] w fun e w' => e = .returned (.bool true) ∧ Below w.heap.size w w' := by
  obtain ⟨l, hl⟩ : ∃ l, l = s.data.toList := ⟨_, rfl⟩
  have HL : Hid (l = s.data.toList) := hl
  have hsl : Hid (s.size = l.length) := by show _ = _; rw [hl]; exact (str_len s).symm
  have kd := fun A c W (hr : Rd W A l) (hc : s.size ≤ c) (hm : c ≤ 9223372036854775807) => opDecode_any A s.size c l W hsl (Lib.hid hr) hc hm
  have h1 := @op_one l
  have h2 := @dOp_no l
  obtain ⟨⟨k, nn, a1, b1, c1, l1, qn, a2, b2, c2, tn, tq, tp, a3, b3, c3, l3, ta, tg, ts, sn⟩, er, hx⟩ : ∃ x er, dOp l = (x, er) := ⟨_, _, rfl⟩
  rw [hx] at kd h1 h2
  unfold GotO Ov.cells at kd
  simp only [] at kd h1 h2
  by_cases h0 : er = 0
  case neg =>
    have hz := h2 h0
    unfold Ov.zero at hz
    injection hz with x0 x1 x2 x3 x4 x5 x6 x7 x8 x9 y0 y1 y2 y3 y4 y5 y6 y7 y8 y9 z0
    subst x0 x1 x2 x3 x4 x5 x6 x7 x8 x9 y0 y1 y2 y3 y4 y5 y6 y7 y8 y9 z0
    have e1 : (er != 0) = true := by simpa using h0
    have KD := Lib.hid kd
    clear kd h1 h2 h0 hx hl
    go_enter Try.func6, Try.ntmps6
    go_wp2_with fail
    refine (awake_any _).mono ?_
    rintro e w1 ⟨rfl, hb1⟩
    have T1 : Hid (Below w.heap.size w w1) := hb1
    clear hb1
    go_wp2_with ((with_reducible refine wpList_bytes _ rfl (.tmp 10) 9 35 rfl 5 s Try.underlying9 Try.underlying35 Try.underlying5 (by unfold maxLen; omega) rfl ?_); intro cb w2 hrb hbb hsb hcb hmb; unfold maxLen at hmb; rw [← HL.out] at hrb)
    have hmbx : cb ≤ 9223372036854775807 := by omega
    (try simp only [World.size_alloc] at hrb hsb)
    clear hmb
    have T2 : Hid (Below w.heap.size w w2) := T1.out.trans (hbb.mono T1.out.size)
    clear T1
    refine (KD.out _ _ _ hrb hcb hmbx).mono ?_
    rintro e w3 ⟨v1, v3, rfl, ho1, ho3, hb3⟩
    obtain ⟨A1, p1, sl1⟩ := ho1.sl
    obtain ⟨A3, p3, sl3⟩ := ho3.sl
    have hv1 := sl1.val
    have hv3 := sl3.val
    simp only [List.length_nil] at hv1 hv3
    subst hv1 hv3
    have cq1 : p1 ≤ 9223372036854775807 := by have := sl1.cap2; unfold maxLen at this; omega
    have cq3 : p3 ≤ 9223372036854775807 := by have := sl3.cap2; unfold maxLen at this; omega
    have T3 : Hid (Below w.heap.size w w3 ∧ RdL w3 A1 [] ∧ RdL w3 A3 []) := ⟨T2.out.trans (hb3.mono T2.out.size), sl1.rd, sl3.rd⟩
    clear T2 hb3 hrb hbb ho1 ho3 sl1 sl3
    go_wp2_with (first | ((with_reducible refine store_bk rfl 32 (.tmp 3) (.tmp 13) rfl w3.heap.size 0 #[.int .i64 0, .string ⟨#[]⟩, .int .i64 0, .int .i64 0, .int .i64 0, .slice A1 0 p1, .string ⟨#[]⟩, .int .i64 0, .int .i64 0, .int .i64 0, .string ⟨#[]⟩, .string ⟨#[]⟩, .int .i64 0, .int .i64 0, .int .i64 0, .int .i64 0, .slice A3 0 p3, .string ⟨#[]⟩, .string ⟨#[]⟩, .int .i64 0, .string ⟨#[]⟩] rfl rfl 32 #[.int .i64 0, .string ⟨#[]⟩, .int .i64 0, .int .i64 0, .int .i64 0, .slice none 0 0, .string ⟨#[]⟩, .int .i64 0, .int .i64 0, .int .i64 0, .string ⟨#[]⟩, .string ⟨#[]⟩, .int .i64 0, .int .i64 0, .int .i64 0, .int .i64 0, .slice none 0 0, .string ⟨#[]⟩, .string ⟨#[]⟩, .int .i64 0, .string ⟨#[]⟩] #[.int .i64 0, .string ⟨#[]⟩, .int .i64 0, .int .i64 0, .int .i64 0, .slice A1 0 p1, .string ⟨#[]⟩, .int .i64 0, .int .i64 0, .int .i64 0, .string ⟨#[]⟩, .string ⟨#[]⟩, .int .i64 0, .int .i64 0, .int .i64 0, .int .i64 0, .slice A3 0 p3, .string ⟨#[]⟩, .string ⟨#[]⟩, .int .i64 0, .string ⟨#[]⟩] (Bk.fresh _ _ _) (by kernel_rfl) (by simp) (by kernel_rfl) rfl ?_); intro w4 hB4 hg4 hs4; have b34 : Below w3.heap.size w3 w4 := grown_below ((Below.refl _ _).alloc (Nat.le_refl _) _) hg4 (Nat.le_refl _); have T4 : Hid (Below w.heap.size w w4 ∧ RdL w4 A1 [] ∧ RdL w4 A3 [] ∧ Bk w4 w3.heap.size 32 #[.int .i64 0, .string ⟨#[]⟩, .int .i64 0, .int .i64 0, .int .i64 0, .slice A1 0 p1, .string ⟨#[]⟩, .int .i64 0, .int .i64 0, .int .i64 0, .string ⟨#[]⟩, .string ⟨#[]⟩, .int .i64 0, .int .i64 0, .int .i64 0, .int .i64 0, .slice A3 0 p3, .string ⟨#[]⟩, .string ⟨#[]⟩, .int .i64 0, .string ⟨#[]⟩]) := ⟨T3.out.1.trans (b34.mono T3.out.1.size), T3.out.2.1.later b34, T3.out.2.2.later b34, hB4⟩; clear b34 hB4 hg4 hs4 T3) | (with_reducible refine load_bk rfl 32 _ rfl w3.heap.size 0 rfl 32 #[.int .i64 0, .string ⟨#[]⟩, .int .i64 0, .int .i64 0, .int .i64 0, .slice A1 0 p1, .string ⟨#[]⟩, .int .i64 0, .int .i64 0, .int .i64 0, .string ⟨#[]⟩, .string ⟨#[]⟩, .int .i64 0, .int .i64 0, .int .i64 0, .int .i64 0, .slice A3 0 p3, .string ⟨#[]⟩, .string ⟨#[]⟩, .int .i64 0, .string ⟨#[]⟩] #[.int .i64 0, .string ⟨#[]⟩, .int .i64 0, .int .i64 0, .int .i64 0, .slice A1 0 p1, .string ⟨#[]⟩, .int .i64 0, .int .i64 0, .int .i64 0, .string ⟨#[]⟩, .string ⟨#[]⟩, .int .i64 0, .int .i64 0, .int .i64 0, .int .i64 0, .slice A3 0 p3, .string ⟨#[]⟩, .string ⟨#[]⟩, .int .i64 0, .string ⟨#[]⟩] _ T4.out.2.2.2 (Part.whole _) Try.underlying32 rfl (by kernel_rfl) ?_))
    refine (sameOp_yes 0 ⟨#[]⟩ 0 0 0 A1 0 p1 [] ⟨#[]⟩ 0 0 0 ⟨#[]⟩ ⟨#[]⟩ 0 0 0 0 A3 0 p3 [] ⟨#[]⟩ ⟨#[]⟩ 0 ⟨#[]⟩ none 0 0 none 0 0 _ rfl (Nat.zero_le _) cq1 rfl (Nat.zero_le _) cq3 (Lib.hid T4.out.2.1) (Lib.hid T4.out.2.2.1) rfl (Nat.le_refl 0) (by decide) rfl (Nat.le_refl 0) (by decide) (Lib.hid (RdL.nil _ _)) (Lib.hid (RdL.nil _ _))).mono ?_
    rintro e w7 ⟨rfl, hb7⟩
    have hB7 := T4.out.1.trans (hb7.mono T4.out.1.size)
    go_wp2
    go_ret
    exact ⟨rfl, hB7⟩
  case pos =>
    subst h0
    obtain ⟨hv, he⟩ := h1 rfl
    obtain ⟨g1, g3, s1, s2, s3, s4, s5, s6, s7⟩ := op_small hv
    simp only [] at g1 g3 s1 s2 s3 s4 s5 s6 s7
    have HZ1 := Lib.hid g1
    have HZ3 := Lib.hid g3
    have ke := fun A1 p1 A3 p3 W (cp1 : l1.length ≤ p1) (cq1 : p1 ≤ 9223372036854775807) (cp3 : l3.length ≤ p3) (cq3 : p3 ≤ 9223372036854775807) (h : RdL W A1 l1) (g : RdL W A3 l3) => opEncode_any k nn a1 b1 c1 A1 l1.length p1 l1 qn a2 b2 c2 tn tq tp a3 b3 c3 A3 l3.length p3 l3 ta tg ts sn s.size W rfl cp1 cq1 rfl cp3 cq3 (Lib.hid h) (Lib.hid g) HZ1 HZ3 s1 s2 s3 s4 s5 s6 s7 (show Hid (s.size = (opBytes ⟨k, nn, a1, b1, c1, l1, qn, a2, b2, c2, tn, tq, tp, a3, b3, c3, l3, ta, tg, ts, sn⟩).length) from by show _ = _; rw [opBytes_yes hv, he]; exact hsl.out)
    have kr := fun A1 p1 A3 p3 W (cp1 : l1.length ≤ p1) (cq1 : p1 ≤ 9223372036854775807) (cp3 : l3.length ≤ p3) (cq3 : p3 ≤ 9223372036854775807) (h : RdL W A1 l1) (g : RdL W A3 l3) => opRight_any k nn a1 b1 c1 A1 l1.length p1 l1 qn a2 b2 c2 tn tq tp a3 b3 c3 A3 l3.length p3 l3 ta tg ts sn W rfl cp1 cq1 rfl cp3 cq3 (Lib.hid h) (Lib.hid g) HZ1 HZ3 s1 s2 s3 s4 s5 s6 s7
    rw [opBytes_yes hv, opErr_yes hv, he] at ke
    rw [hv] at kr
    have HE : Hid ((⟨l.toArray⟩ : ByteArray) = s) := by show _ = _; rw [hl]
    have KD := Lib.hid kd
    have KE := Lib.hid ke
    have KR := Lib.hid kr
    clear kd ke kr h1 h2 hx hl hv he g1 g3 s1 s2 s3 s4 s5 s6 s7
    go_enter Try.func6, Try.ntmps6
    go_wp2_with fail
    refine (awake_any _).mono ?_
    rintro e w1 ⟨rfl, hb1⟩
    have T1 : Hid (Below w.heap.size w w1) := hb1
    clear hb1
    go_wp2_with ((with_reducible refine wpList_bytes _ rfl (.tmp 10) 9 35 rfl 5 s Try.underlying9 Try.underlying35 Try.underlying5 (by unfold maxLen; omega) rfl ?_); intro cb w2 hrb hbb hsb hcb hmb; unfold maxLen at hmb; rw [← HL.out] at hrb)
    have hmbx : cb ≤ 9223372036854775807 := by omega
    (try simp only [World.size_alloc] at hrb hsb)
    clear hmb
    have T2 : Hid (Below w.heap.size w w2) := T1.out.trans (hbb.mono T1.out.size)
    clear T1
    refine (KD.out _ _ _ hrb hcb hmbx).mono ?_
    rintro e w3 ⟨v1, v3, rfl, ho1, ho3, hb3⟩
    obtain ⟨A1, p1, sl1⟩ := ho1.sl
    obtain ⟨A3, p3, sl3⟩ := ho3.sl
    have hv1 := sl1.val
    have hv3 := sl3.val
    subst hv1 hv3
    have cp1 := sl1.cap
    have cp3 := sl3.cap
    have cq1 : p1 ≤ 9223372036854775807 := by have := sl1.cap2; unfold maxLen at this; omega
    have cq3 : p3 ≤ 9223372036854775807 := by have := sl3.cap2; unfold maxLen at this; omega
    have T3 : Hid (Below w.heap.size w w3 ∧ RdL w3 A1 l1 ∧ RdL w3 A3 l3) := ⟨T2.out.trans (hb3.mono T2.out.size), sl1.rd, sl3.rd⟩
    clear T2 hb3 hrb hbb ho1 ho3 sl1 sl3
    go_wp2_with (first | ((with_reducible refine store_bk rfl 32 (.tmp 3) (.tmp 13) rfl w3.heap.size 0 #[.int .i64 k, .string nn, .int .i64 a1, .int .i64 b1, .int .i64 c1, .slice A1 l1.length p1, .string qn, .int .i64 a2, .int .i64 b2, .int .i64 c2, .string tn, .string tq, .int .i64 tp, .int .i64 a3, .int .i64 b3, .int .i64 c3, .slice A3 l3.length p3, .string ta, .string tg, .int .i64 ts, .string sn] rfl rfl 32 #[.int .i64 0, .string ⟨#[]⟩, .int .i64 0, .int .i64 0, .int .i64 0, .slice none 0 0, .string ⟨#[]⟩, .int .i64 0, .int .i64 0, .int .i64 0, .string ⟨#[]⟩, .string ⟨#[]⟩, .int .i64 0, .int .i64 0, .int .i64 0, .int .i64 0, .slice none 0 0, .string ⟨#[]⟩, .string ⟨#[]⟩, .int .i64 0, .string ⟨#[]⟩] #[.int .i64 k, .string nn, .int .i64 a1, .int .i64 b1, .int .i64 c1, .slice A1 l1.length p1, .string qn, .int .i64 a2, .int .i64 b2, .int .i64 c2, .string tn, .string tq, .int .i64 tp, .int .i64 a3, .int .i64 b3, .int .i64 c3, .slice A3 l3.length p3, .string ta, .string tg, .int .i64 ts, .string sn] (Bk.fresh _ _ _) (by kernel_rfl) (by simp) (by kernel_rfl) rfl ?_); intro w4 hB4 hg4 hs4; have b34 : Below w3.heap.size w3 w4 := grown_below ((Below.refl _ _).alloc (Nat.le_refl _) _) hg4 (Nat.le_refl _); have T4 : Hid (Below w.heap.size w w4 ∧ RdL w4 A1 l1 ∧ RdL w4 A3 l3 ∧ Bk w4 w3.heap.size 32 #[.int .i64 k, .string nn, .int .i64 a1, .int .i64 b1, .int .i64 c1, .slice A1 l1.length p1, .string qn, .int .i64 a2, .int .i64 b2, .int .i64 c2, .string tn, .string tq, .int .i64 tp, .int .i64 a3, .int .i64 b3, .int .i64 c3, .slice A3 l3.length p3, .string ta, .string tg, .int .i64 ts, .string sn]) := ⟨T3.out.1.trans (b34.mono T3.out.1.size), T3.out.2.1.later b34, T3.out.2.2.later b34, hB4⟩; clear b34 hB4 hg4 hs4 T3) | (with_reducible refine load_bk rfl 32 _ rfl w3.heap.size 0 rfl 32 #[.int .i64 k, .string nn, .int .i64 a1, .int .i64 b1, .int .i64 c1, .slice A1 l1.length p1, .string qn, .int .i64 a2, .int .i64 b2, .int .i64 c2, .string tn, .string tq, .int .i64 tp, .int .i64 a3, .int .i64 b3, .int .i64 c3, .slice A3 l3.length p3, .string ta, .string tg, .int .i64 ts, .string sn] #[.int .i64 k, .string nn, .int .i64 a1, .int .i64 b1, .int .i64 c1, .slice A1 l1.length p1, .string qn, .int .i64 a2, .int .i64 b2, .int .i64 c2, .string tn, .string tq, .int .i64 tp, .int .i64 a3, .int .i64 b3, .int .i64 c3, .slice A3 l3.length p3, .string ta, .string tg, .int .i64 ts, .string sn] _ T4.out.2.2.2 (Part.whole _) Try.underlying32 rfl (by kernel_rfl) ?_))
    refine (KE.out _ _ _ _ _ cp1 cq1 cp3 cq3 T4.out.2.1 T4.out.2.2.1).mono ?_
    rintro e w5 ⟨A, c, rfl, ro, co, cm, hoo, hb5⟩
    have T5 : Hid (Below w.heap.size w w5 ∧ RdL w5 A1 l1 ∧ RdL w5 A3 l3 ∧ Bk w5 w3.heap.size 32 #[.int .i64 k, .string nn, .int .i64 a1, .int .i64 b1, .int .i64 c1, .slice A1 l1.length p1, .string qn, .int .i64 a2, .int .i64 b2, .int .i64 c2, .string tn, .string tq, .int .i64 tp, .int .i64 a3, .int .i64 b3, .int .i64 c3, .slice A3 l3.length p3, .string ta, .string tg, .int .i64 ts, .string sn]) := ⟨T4.out.1.trans (hb5.mono T4.out.1.size), T4.out.2.1.later hb5, T4.out.2.2.1.later hb5, T4.out.2.2.2.later hb5⟩
    have q := run_str_rd (P := Try.prog) w5 (src := 35) (dst := 9) (c := c) Try.underlying35 Try.underlying5 Try.underlying9 hsl.out ro
    rw [HE.out] at q
    clear T4 hb5 ro hoo
    go_wp2_with (with_reducible refine load_bk rfl 32 _ rfl w3.heap.size 0 rfl 32 #[.int .i64 k, .string nn, .int .i64 a1, .int .i64 b1, .int .i64 c1, .slice A1 l1.length p1, .string qn, .int .i64 a2, .int .i64 b2, .int .i64 c2, .string tn, .string tq, .int .i64 tp, .int .i64 a3, .int .i64 b3, .int .i64 c3, .slice A3 l3.length p3, .string ta, .string tg, .int .i64 ts, .string sn] #[.int .i64 k, .string nn, .int .i64 a1, .int .i64 b1, .int .i64 c1, .slice A1 l1.length p1, .string qn, .int .i64 a2, .int .i64 b2, .int .i64 c2, .string tn, .string tq, .int .i64 tp, .int .i64 a3, .int .i64 b3, .int .i64 c3, .slice A3 l3.length p3, .string ta, .string tg, .int .i64 ts, .string sn] _ T5.out.2.2.2 (Part.whole _) Try.underlying32 rfl (by kernel_rfl) ?_)
    refine (KR.out _ _ _ _ _ cp1 cq1 cp3 cq3 T5.out.2.1 T5.out.2.2.1).mono ?_
    rintro e w7 ⟨rfl, hb7⟩
    have hB7 := T5.out.1.trans (hb7.mono T5.out.1.size)
    go_wp2
    go_ret
    exact ⟨rfl, hB7⟩
end Go.Proofs.Ytehkdaknhgmdkaa.operOne
