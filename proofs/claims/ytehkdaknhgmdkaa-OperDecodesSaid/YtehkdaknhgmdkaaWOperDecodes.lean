/- The walk of OperDecodes: any bytes are the operation that the document says, or have its error. Condition: a string that Go can have. -/
import Derived.Test.YtehkdaknhgmdkaaOrd
import Derived.Test.YtehkdaknhgmdkaaOsm
import Derived.Test.YtehkdaknhgmdkaaOaw
import Derived.Lib.Strings
namespace Go.Proofs.Ytehkdaknhgmdkaa.operDecodes
open Go.RowKit
set_option linter.unusedSimpArgs false
set_option linter.unusedVariables false
attribute [local go_sem ↓] Go.wp_at_zero Go.wp_at_succ
set_option maxHeartbeats 12800000 in
set_option maxRecDepth 100000 in
theorem walk (s : ByteArray) (w : World) (zs : s.size ≤ 140737488351232) : Calls Try.prog 4 #[.string s] w fun e w' => e = .returned (.bool true) ∧ Below w.heap.size w w' := by
  obtain ⟨l, hl⟩ : ∃ l, l = s.data.toList := ⟨_, rfl⟩
  have HL : Hid (l = s.data.toList) := hl
  have hsl : Hid (s.size = l.length) := by show _ = _; rw [hl]; exact (str_len s).symm
  have kd := fun A c W (hr : Rd W A l) (hc : s.size ≤ c) (hm : c ≤ 9223372036854775807) => opDecode_any A s.size c l W hsl (Lib.hid hr) hc hm
  have rd := fun W => rDecode_any s l W HL (by omega)
  obtain ⟨⟨k, nn, a1, b1, c1, l1, qn, a2, b2, c2, tn, tq, tp, a3, b3, c3, l3, ta, tg, ts, sn⟩, er, hx⟩ : ∃ x er, dOp l = (x, er) := ⟨_, _, rfl⟩
  rw [hx] at kd rd
  unfold GotO Ov.cells at kd rd
  simp only [] at kd rd
  have KD := Lib.hid kd
  have RD := Lib.hid rd
  clear kd rd hx hl
  go_enter Try.func4, Try.ntmps4
  go_wp2_with fail
  refine (awake_any _).mono ?_
  rintro e w1 ⟨rfl, hb1⟩
  have T1 : Hid (Below w.heap.size w w1) := hb1
  clear hb1
  go_wp2_with ((with_reducible refine wpList_bytes _ rfl (.tmp 10) 9 35 rfl 5 s Try.underlying9 Try.underlying35 Try.underlying5 (by unfold maxLen; omega) rfl ?_); intro cb w2 hrb hbb hsb hcb hmb; unfold maxLen at hmb; rw [← HL.out] at hrb)
  have hmbx : cb ≤ 9223372036854775807 := by omega
  (try simp only [World.size_alloc] at hrb hsb)
  clear hmb
  have T2 : Hid (Below w.heap.size w w2) := T1.out.trans (hbb.mono T1.out.size)
  clear T1
  refine (KD.out _ _ _ hrb hcb hmbx).mono ?_
  rintro e w3 ⟨v1, v3, rfl, ho1, ho3, hb3⟩
  obtain ⟨A1, p1, sl1⟩ := ho1.sl
  obtain ⟨A3, p3, sl3⟩ := ho3.sl
  have hv1 := sl1.val
  have hv3 := sl3.val
  subst hv1 hv3
  have cp1 := sl1.cap
  have cp3 := sl3.cap
  have cq1 : p1 ≤ 9223372036854775807 := by have := sl1.cap2; unfold maxLen at this; omega
  have cq3 : p3 ≤ 9223372036854775807 := by have := sl3.cap2; unfold maxLen at this; omega
  have T3 : Hid (Below w.heap.size w w3 ∧ RdL w3 A1 l1 ∧ RdL w3 A3 l3) := ⟨T2.out.trans (hb3.mono T2.out.size), sl1.rd, sl3.rd⟩
  clear T2 hb3 hrb hbb ho1 ho3 sl1 sl3
  go_wp2_with ((with_reducible refine store_bk rfl 32 (.tmp 3) (.tmp 13) rfl w3.heap.size 0 #[.int .i64 k, .string nn, .int .i64 a1, .int .i64 b1, .int .i64 c1, .slice A1 l1.length p1, .string qn, .int .i64 a2, .int .i64 b2, .int .i64 c2, .string tn, .string tq, .int .i64 tp, .int .i64 a3, .int .i64 b3, .int .i64 c3, .slice A3 l3.length p3, .string ta, .string tg, .int .i64 ts, .string sn] rfl rfl 32 #[.int .i64 0, .string ⟨#[]⟩, .int .i64 0, .int .i64 0, .int .i64 0, .slice none 0 0, .string ⟨#[]⟩, .int .i64 0, .int .i64 0, .int .i64 0, .string ⟨#[]⟩, .string ⟨#[]⟩, .int .i64 0, .int .i64 0, .int .i64 0, .int .i64 0, .slice none 0 0, .string ⟨#[]⟩, .string ⟨#[]⟩, .int .i64 0, .string ⟨#[]⟩] #[.int .i64 k, .string nn, .int .i64 a1, .int .i64 b1, .int .i64 c1, .slice A1 l1.length p1, .string qn, .int .i64 a2, .int .i64 b2, .int .i64 c2, .string tn, .string tq, .int .i64 tp, .int .i64 a3, .int .i64 b3, .int .i64 c3, .slice A3 l3.length p3, .string ta, .string tg, .int .i64 ts, .string sn] (Bk.fresh _ _ _) (by kernel_rfl) (by simp) (by kernel_rfl) rfl ?_); intro w4 hB4 hg4 hs4; have b34 : Below w3.heap.size w3 w4 := grown_below ((Below.refl _ _).alloc (Nat.le_refl _) _) hg4 (Nat.le_refl _); have T4 : Hid (Below w.heap.size w w4 ∧ RdL w4 A1 l1 ∧ RdL w4 A3 l3 ∧ Bk w4 w3.heap.size 32 #[.int .i64 k, .string nn, .int .i64 a1, .int .i64 b1, .int .i64 c1, .slice A1 l1.length p1, .string qn, .int .i64 a2, .int .i64 b2, .int .i64 c2, .string tn, .string tq, .int .i64 tp, .int .i64 a3, .int .i64 b3, .int .i64 c3, .slice A3 l3.length p3, .string ta, .string tg, .int .i64 ts, .string sn]) := ⟨T3.out.1.trans (b34.mono T3.out.1.size), T3.out.2.1.later b34, T3.out.2.2.later b34, hB4⟩; clear b34 hB4 hg4 hs4 T3)
  refine (RD.out _).mono ?_
  rintro e w5 ⟨v1, v3, rfl, ho1, ho3, hb5⟩
  obtain ⟨B1, j1, sl1⟩ := ho1.sl
  obtain ⟨B3, j3, sl3⟩ := ho3.sl
  have hv1 := sl1.val
  have hv3 := sl3.val
  subst hv1 hv3
  have cj1 := sl1.cap
  have cj3 := sl3.cap
  have ck1 : j1 ≤ 9223372036854775807 := by have := sl1.cap2; unfold maxLen at this; omega
  have ck3 : j3 ≤ 9223372036854775807 := by have := sl3.cap2; unfold maxLen at this; omega
  have T5 : Hid (Below w.heap.size w w5 ∧ RdL w5 A1 l1 ∧ RdL w5 A3 l3 ∧ Bk w5 w3.heap.size 32 #[.int .i64 k, .string nn, .int .i64 a1, .int .i64 b1, .int .i64 c1, .slice A1 l1.length p1, .string qn, .int .i64 a2, .int .i64 b2, .int .i64 c2, .string tn, .string tq, .int .i64 tp, .int .i64 a3, .int .i64 b3, .int .i64 c3, .slice A3 l3.length p3, .string ta, .string tg, .int .i64 ts, .string sn] ∧ RdL w5 B1 l1 ∧ RdL w5 B3 l3) := ⟨T4.out.1.trans (hb5.mono T4.out.1.size), T4.out.2.1.later hb5, T4.out.2.2.1.later hb5, T4.out.2.2.2.later hb5, sl1.rd, sl3.rd⟩
  have z5 : w3.heap.size < w5.heap.size := T5.out.2.2.2.1.here
  clear T4 hb5 ho1 ho3 sl1 sl3
  go_wp2_with (first | ((with_reducible refine store_bk rfl 32 (.tmp 5) (.tmp 18) rfl w5.heap.size 0 #[.int .i64 k, .string nn, .int .i64 a1, .int .i64 b1, .int .i64 c1, .slice B1 l1.length j1, .string qn, .int .i64 a2, .int .i64 b2, .int .i64 c2, .string tn, .string tq, .int .i64 tp, .int .i64 a3, .int .i64 b3, .int .i64 c3, .slice B3 l3.length j3, .string ta, .string tg, .int .i64 ts, .string sn] rfl rfl 32 #[.int .i64 0, .string ⟨#[]⟩, .int .i64 0, .int .i64 0, .int .i64 0, .slice none 0 0, .string ⟨#[]⟩, .int .i64 0, .int .i64 0, .int .i64 0, .string ⟨#[]⟩, .string ⟨#[]⟩, .int .i64 0, .int .i64 0, .int .i64 0, .int .i64 0, .slice none 0 0, .string ⟨#[]⟩, .string ⟨#[]⟩, .int .i64 0, .string ⟨#[]⟩] #[.int .i64 k, .string nn, .int .i64 a1, .int .i64 b1, .int .i64 c1, .slice B1 l1.length j1, .string qn, .int .i64 a2, .int .i64 b2, .int .i64 c2, .string tn, .string tq, .int .i64 tp, .int .i64 a3, .int .i64 b3, .int .i64 c3, .slice B3 l3.length j3, .string ta, .string tg, .int .i64 ts, .string sn] (Bk.fresh _ _ _) (by kernel_rfl) (by simp) (by kernel_rfl) rfl ?_); intro w6 hB6 hg6 hs6; have b56 : Below w5.heap.size w5 w6 := grown_below ((Below.refl _ _).alloc (Nat.le_refl _) _) hg6 (Nat.le_refl _); have T6 : Hid (Below w.heap.size w w6 ∧ RdL w6 A1 l1 ∧ RdL w6 A3 l3 ∧ Bk w6 w3.heap.size 32 #[.int .i64 k, .string nn, .int .i64 a1, .int .i64 b1, .int .i64 c1, .slice A1 l1.length p1, .string qn, .int .i64 a2, .int .i64 b2, .int .i64 c2, .string tn, .string tq, .int .i64 tp, .int .i64 a3, .int .i64 b3, .int .i64 c3, .slice A3 l3.length p3, .string ta, .string tg, .int .i64 ts, .string sn] ∧ RdL w6 B1 l1 ∧ RdL w6 B3 l3 ∧ Bk w6 w5.heap.size 32 #[.int .i64 k, .string nn, .int .i64 a1, .int .i64 b1, .int .i64 c1, .slice B1 l1.length j1, .string qn, .int .i64 a2, .int .i64 b2, .int .i64 c2, .string tn, .string tq, .int .i64 tp, .int .i64 a3, .int .i64 b3, .int .i64 c3, .slice B3 l3.length j3, .string ta, .string tg, .int .i64 ts, .string sn]) := ⟨T5.out.1.trans (b56.mono T5.out.1.size), T5.out.2.1.later b56, T5.out.2.2.1.later b56, T5.out.2.2.2.1.later b56, T5.out.2.2.2.2.1.later b56, T5.out.2.2.2.2.2.later b56, hB6⟩; clear b56 hB6 hg6 hs6 T5) | (with_reducible refine load_bk rfl 32 _ rfl w3.heap.size 0 rfl 32 #[.int .i64 k, .string nn, .int .i64 a1, .int .i64 b1, .int .i64 c1, .slice A1 l1.length p1, .string qn, .int .i64 a2, .int .i64 b2, .int .i64 c2, .string tn, .string tq, .int .i64 tp, .int .i64 a3, .int .i64 b3, .int .i64 c3, .slice A3 l3.length p3, .string ta, .string tg, .int .i64 ts, .string sn] #[.int .i64 k, .string nn, .int .i64 a1, .int .i64 b1, .int .i64 c1, .slice A1 l1.length p1, .string qn, .int .i64 a2, .int .i64 b2, .int .i64 c2, .string tn, .string tq, .int .i64 tp, .int .i64 a3, .int .i64 b3, .int .i64 c3, .slice A3 l3.length p3, .string ta, .string tg, .int .i64 ts, .string sn] _ T6.out.2.2.2.1 (Part.whole _) Try.underlying32 rfl (by kernel_rfl) ?_) | (with_reducible refine load_bk rfl 32 _ rfl w5.heap.size 0 rfl 32 #[.int .i64 k, .string nn, .int .i64 a1, .int .i64 b1, .int .i64 c1, .slice B1 l1.length j1, .string qn, .int .i64 a2, .int .i64 b2, .int .i64 c2, .string tn, .string tq, .int .i64 tp, .int .i64 a3, .int .i64 b3, .int .i64 c3, .slice B3 l3.length j3, .string ta, .string tg, .int .i64 ts, .string sn] #[.int .i64 k, .string nn, .int .i64 a1, .int .i64 b1, .int .i64 c1, .slice B1 l1.length j1, .string qn, .int .i64 a2, .int .i64 b2, .int .i64 c2, .string tn, .string tq, .int .i64 tp, .int .i64 a3, .int .i64 b3, .int .i64 c3, .slice B3 l3.length j3, .string ta, .string tg, .int .i64 ts, .string sn] _ T6.out.2.2.2.2.2.2 (Part.whole _) Try.underlying32 rfl (by kernel_rfl) ?_))
  refine (sameOp_yes k nn a1 b1 c1 A1 l1.length p1 l1 qn a2 b2 c2 tn tq tp a3 b3 c3 A3 l3.length p3 l3 ta tg ts sn B1 l1.length j1 B3 l3.length j3 _ rfl cp1 cq1 rfl cp3 cq3 (Lib.hid T6.out.2.1) (Lib.hid T6.out.2.2.1) rfl cj1 ck1 rfl cj3 ck3 (Lib.hid T6.out.2.2.2.2.1) (Lib.hid T6.out.2.2.2.2.2.1)).mono ?_
  rintro e w7 ⟨rfl, hb7⟩
  have hB7 := T6.out.1.trans (hb7.mono T6.out.1.size)
  go_wp2
  go_ret
  exact ⟨rfl, hB7⟩
end Go.Proofs.Ytehkdaknhgmdkaa.operDecodes
