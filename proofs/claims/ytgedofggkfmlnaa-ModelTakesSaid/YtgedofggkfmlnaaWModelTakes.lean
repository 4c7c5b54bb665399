/- The walk of ModelTakes: of any bytes, at any place the node, the queue, the task is taken that the document says, or none. Conditions: a string that Go can have, an int. -/
import Derived.Test.YtgedofggkfmlnaaNeq
import Derived.Deep.RegionHeld3
import Derived.Deep.DrawnRows
namespace Go.Proofs.Ytgedofggkfmlnaa.modelTakes
open Go.RowKit
set_option linter.unusedSimpArgs false
set_option linter.unusedVariables false

theorem nd_eta (r : Nd × (Int × Int)) : ∃ nm a b c l nx er, r = (⟨nm, a, b, c, l⟩, (nx, er)) := ⟨_, _, _, _, _, _, _, rfl⟩
theorem qu_eta (r : Qu × (Int × Int)) : ∃ nm a b c nx er, r = (⟨nm, a, b, c⟩, (nx, er)) := ⟨_, _, _, _, _, _, rfl⟩
theorem tk_eta (r : Tk × (Int × Int)) : ∃ nm qu pr a b c l ap ga sz nx er, r = (⟨nm, qu, pr, a, b, c, l, ap, ga, sz⟩, (nx, er)) := ⟨_, _, _, _, _, _, _, _, _, _, _, _, rfl⟩

attribute [local go_sem ↓] Go.wp_at_zero Go.wp_at_succ
attribute [local go_sem] run_guardQ
set_option maxHeartbeats 8000000 in
set_option maxRecDepth 100000 in
theorem walk (s : ByteArray) (at_ : Int) (w : World) (zs : s.size ≤ 140737488351232) (wa : (Lit.int .i64 at_).wf = true) :
    Calls Try.prog 4 #[.string s, .int .i64 at_] w fun e w' => e = .returned (.bool true) ∧ Below w.heap.size w w' := by
  clear wa
  have hsl : Hid (s.size = s.data.toList.length) := (str_len s).symm
  obtain ⟨l, hl⟩ : ∃ l, l = s.data.toList := ⟨_, rfl⟩
  have HL : Hid (l = s.data.toList) := hl
  have hsl' : Hid (s.size = l.length) := by show _ = _; rw [hl]; exact hsl.out
  have k1 := fun A c W (hr : Rd W A l) (hc : s.size ≤ c) (hm : c ≤ 9223372036854775807) => takeNode_any A s.size c at_ l W hsl' (Lib.hid hr) hc hm
  have k2 := fun A c W (hr : Rd W A l) (hc : s.size ≤ c) (hm : c ≤ 9223372036854775807) => takeQueue_any A s.size c at_ l W hsl' (Lib.hid hr) hc hm
  have k3 := fun A c W (hr : Rd W A l) (hc : s.size ≤ c) (hm : c ≤ 9223372036854775807) => takeTask_any A s.size c at_ l W hsl' (Lib.hid hr) hc hm
  have r1 := fun R W (hR : RdR W R s (at_, 0)) => rr_node R s at_ l W hR HL (by omega)
  have r2 := fun R W (hR : RdR W R s (at_, 0)) => rr_queue R s at_ l W hR HL (by omega)
  have r3 := fun R W (hR : RdR W R s (at_, 0)) => rr_task R s at_ l W hR HL (by omega)
  have n1 := @tNode_no l at_
  have n2 := @tQueue_no l at_
  have n3 := @tTask_no l at_
  obtain ⟨nm1, a1, b1, c1, l1, nx1, er1, h1⟩ := nd_eta (tNode l at_)
  obtain ⟨nm2, a2, b2, c2, nx2, er2, h2⟩ := qu_eta (tQueue l at_)
  obtain ⟨nm3, qu3, pr3, a3, b3, c3, l3, ap3, ga3, sz3, nx3, er3, h3⟩ := tk_eta (tTask l at_)
  rw [h1] at k1 r1 n1
  rw [h2] at k2 r2 n2
  rw [h3] at k3 r3 n3
  unfold retNode at k1
  unfold retQueue at k2
  unfold retTask at k3
  unfold valNode at r1
  unfold valQueue at r2
  unfold valTask at r3
  simp only [] at k1 k2 k3 r1 r2 r3 n1 n2 n3
  have K1 := Lib.hid k1
  have K2 := Lib.hid k2
  have K3 := Lib.hid k3
  have R1 := Lib.hid r1
  have R2 := Lib.hid r2
  have R3 := Lib.hid r3
  have N1 := Lib.hid n1
  have N2 := Lib.hid n2
  have N3 := Lib.hid n3
  have nq := fun w => neq_queue nm2 (a2 : Int) (b2 : Int) (c2 : Int) w
  have NQ := Lib.hid nq
  clear k1 k2 k3 r1 r2 r3 n1 n2 n3 h1 h2 h3 hl hsl nq
  go_enter Try.func4, Try.ntmps4
  go_wp2_with fail
  refine (awake_any _).mono ?_
  rintro e w1 ⟨rfl, hb1⟩
  have T1 : Hid (Below w.heap.size w w1) := hb1
  clear hb1
  go_wp2_with ((with_reducible refine wpList_bytes _ rfl (.tmp 20) 9 36 rfl 5 s Try.underlying9 Try.underlying36 Try.underlying5 (by unfold maxLen; omega) rfl ?_); intro cb1 w2 hrb1 hbb1 hsb1 hcb1 hmb1; unfold maxLen at hmb1; rw [← HL.out] at hrb1)
  have hmb1x : cb1 ≤ 9223372036854775807 := by omega
  (try simp only [World.size_alloc] at hrb1 hsb1)
  clear hmb1
  have T2 : Hid (Below w.heap.size w w2) := T1.out.trans (hbb1.mono T1.out.size)
  clear T1
  refine (K1.out _ _ _ hrb1 hcb1 hmb1x).mono ?_
  rintro e w3 ⟨v1, rfl, ho1, hb3⟩
  have T3 : Hid (Below w.heap.size w w3) := T2.out.trans (hb3.mono T2.out.size)
  clear T2 hrb1 hbb1
  obtain ⟨A1, p1, sl1⟩ := ho1.sl
  obtain ⟨m1, hm1⟩ : ∃ m, m = l1.length := ⟨_, rfl⟩
  have hv1 := sl1.val; rw [← hm1] at hv1; subst hv1
  have ca1 := sl1.cap; rw [← hm1] at ca1
  have cb1x : p1 ≤ 9223372036854775807 := by have := sl1.cap2; unfold maxLen at this; omega
  have HM1 := Lib.hid hm1
  have HA1 : Hid (∀ g o p, A1 = some ⟨g, o, p⟩ → g < w3.heap.size) := fun g o p e => (sl1.new g o p e).2
  have HRL1 : Hid (RdL w3 A1 l1) := sl1.rd
  clear sl1 ho1 hm1
  have B1 : Hid (Below w.heap.size w (w3.alloc (.cells #[.string nm1, .int .i64 (a1 : Int), .int .i64 (b1 : Int), .int .i64 (c1 : Int), .slice A1 m1 p1] 26)) ∧ Bk (w3.alloc (.cells #[.string nm1, .int .i64 (a1 : Int), .int .i64 (b1 : Int), .int .i64 (c1 : Int), .slice A1 m1 p1] 26)) w3.heap.size 26 #[.string nm1, .int .i64 (a1 : Int), .int .i64 (b1 : Int), .int .i64 (c1 : Int), .slice A1 m1 p1] ∧ RdL (w3.alloc (.cells #[.string nm1, .int .i64 (a1 : Int), .int .i64 (b1 : Int), .int .i64 (c1 : Int), .slice A1 m1 p1] 26)) A1 l1) := ⟨T3.out.alloc T3.out.size _, Bk.fresh _ _ _, HRL1.out.later ((Below.refl _ _).alloc (Nat.le_refl _) _)⟩
  clear T3 hb3 HRL1
  go_wp2_with ((with_reducible refine wpList_bytes _ rfl (.tmp 28) 9 36 rfl 5 s Try.underlying9 Try.underlying36 Try.underlying5 (by unfold maxLen; omega) rfl ?_); intro cb2 w4 hrb2 hbb2 hsb2 hcb2 hmb2; unfold maxLen at hmb2; rw [← HL.out] at hrb2)
  have hmb2x : cb2 ≤ 9223372036854775807 := by omega
  (try simp only [World.size_alloc] at hrb2 hsb2)
  clear hmb2
  have T4 : Hid (Below w.heap.size w w4 ∧ Bk w4 w3.heap.size 26 #[.string nm1, .int .i64 (a1 : Int), .int .i64 (b1 : Int), .int .i64 (c1 : Int), .slice A1 m1 p1] ∧ RdL w4 A1 l1) := ⟨B1.out.1.trans (hbb2.mono B1.out.1.size), B1.out.2.1.later hbb2, B1.out.2.2.later hbb2⟩
  clear B1
  refine (K2.out _ _ _ hrb2 hcb2 hmb2x).mono ?_
  rintro e w5 ⟨rfl, hb5⟩
  have T5 : Hid (Below w.heap.size w w5 ∧ Bk w5 w3.heap.size 26 #[.string nm1, .int .i64 (a1 : Int), .int .i64 (b1 : Int), .int .i64 (c1 : Int), .slice A1 m1 p1] ∧ RdL w5 A1 l1) := ⟨T4.out.1.trans (hb5.mono T4.out.1.size), T4.out.2.1.later hb5, T4.out.2.2.later hb5⟩
  clear T4 hrb2 hbb2
  have B2 : Hid (Below w.heap.size w (w5.alloc (.cells #[.string nm2, .int .i64 (a2 : Int), .int .i64 (b2 : Int), .int .i64 (c2 : Int)] 28)) ∧ Bk (w5.alloc (.cells #[.string nm2, .int .i64 (a2 : Int), .int .i64 (b2 : Int), .int .i64 (c2 : Int)] 28)) w3.heap.size 26 #[.string nm1, .int .i64 (a1 : Int), .int .i64 (b1 : Int), .int .i64 (c1 : Int), .slice A1 m1 p1] ∧ RdL (w5.alloc (.cells #[.string nm2, .int .i64 (a2 : Int), .int .i64 (b2 : Int), .int .i64 (c2 : Int)] 28)) A1 l1 ∧ Bk (w5.alloc (.cells #[.string nm2, .int .i64 (a2 : Int), .int .i64 (b2 : Int), .int .i64 (c2 : Int)] 28)) w5.heap.size 28 #[.string nm2, .int .i64 (a2 : Int), .int .i64 (b2 : Int), .int .i64 (c2 : Int)]) := ⟨T5.out.1.alloc T5.out.1.size _, T5.out.2.1.later ((Below.refl _ _).alloc (Nat.le_refl _) _), T5.out.2.2.later ((Below.refl _ _).alloc (Nat.le_refl _) _), Bk.fresh _ _ _⟩
  clear T5 hb5
  go_wp2_with ((with_reducible refine wpList_bytes _ rfl (.tmp 36) 9 36 rfl 5 s Try.underlying9 Try.underlying36 Try.underlying5 (by unfold maxLen; omega) rfl ?_); intro cb3 w6 hrb3 hbb3 hsb3 hcb3 hmb3; unfold maxLen at hmb3; rw [← HL.out] at hrb3)
  have hmb3x : cb3 ≤ 9223372036854775807 := by omega
  (try simp only [World.size_alloc] at hrb3 hsb3)
  clear hmb3
  have T6 : Hid (Below w.heap.size w w6 ∧ Bk w6 w3.heap.size 26 #[.string nm1, .int .i64 (a1 : Int), .int .i64 (b1 : Int), .int .i64 (c1 : Int), .slice A1 m1 p1] ∧ RdL w6 A1 l1 ∧ Bk w6 w5.heap.size 28 #[.string nm2, .int .i64 (a2 : Int), .int .i64 (b2 : Int), .int .i64 (c2 : Int)]) := ⟨B2.out.1.trans (hbb3.mono B2.out.1.size), B2.out.2.1.later hbb3, B2.out.2.2.1.later hbb3, B2.out.2.2.2.later hbb3⟩
  clear B2
  refine (K3.out _ _ _ hrb3 hcb3 hmb3x).mono ?_
  rintro e w7 ⟨v3, rfl, ho3, hb7⟩
  have T7 : Hid (Below w.heap.size w w7 ∧ Bk w7 w3.heap.size 26 #[.string nm1, .int .i64 (a1 : Int), .int .i64 (b1 : Int), .int .i64 (c1 : Int), .slice A1 m1 p1] ∧ RdL w7 A1 l1 ∧ Bk w7 w5.heap.size 28 #[.string nm2, .int .i64 (a2 : Int), .int .i64 (b2 : Int), .int .i64 (c2 : Int)]) := ⟨T6.out.1.trans (hb7.mono T6.out.1.size), T6.out.2.1.later hb7, T6.out.2.2.1.later hb7, T6.out.2.2.2.later hb7⟩
  clear T6 hrb3 hbb3
  have z0 : w.heap.size ≤ w7.heap.size := T7.out.1.size
  have z1 : w3.heap.size < w7.heap.size := T7.out.2.1.here
  have z2 : w5.heap.size < w7.heap.size := T7.out.2.2.2.here
  obtain ⟨A3, p3, sl3⟩ := ho3.sl
  obtain ⟨m3, hm3⟩ : ∃ m, m = l3.length := ⟨_, rfl⟩
  have hv3 := sl3.val; rw [← hm3] at hv3; subst hv3
  have ca3 := sl3.cap; rw [← hm3] at ca3
  have cb3x : p3 ≤ 9223372036854775807 := by have := sl3.cap2; unfold maxLen at this; omega
  have HM3 := Lib.hid hm3
  have HA3 : Hid (∀ g o p, A3 = some ⟨g, o, p⟩ → g < w7.heap.size) := fun g o p e => (sl3.new g o p e).2
  have HRL3 : Hid (RdL w7 A3 l3) := sl3.rd
  clear sl3 ho3 hm3
  have B3 : Hid (Below w.heap.size w (w7.alloc (.cells #[.string nm3, .string qu3, .int .i64 (pr3 : Int), .int .i64 (a3 : Int), .int .i64 (b3 : Int), .int .i64 (c3 : Int), .slice A3 m3 p3, .string ap3, .string ga3, .int .i64 (sz3 : Int)] 30)) ∧ Bk (w7.alloc (.cells #[.string nm3, .string qu3, .int .i64 (pr3 : Int), .int .i64 (a3 : Int), .int .i64 (b3 : Int), .int .i64 (c3 : Int), .slice A3 m3 p3, .string ap3, .string ga3, .int .i64 (sz3 : Int)] 30)) w3.heap.size 26 #[.string nm1, .int .i64 (a1 : Int), .int .i64 (b1 : Int), .int .i64 (c1 : Int), .slice A1 m1 p1] ∧ RdL (w7.alloc (.cells #[.string nm3, .string qu3, .int .i64 (pr3 : Int), .int .i64 (a3 : Int), .int .i64 (b3 : Int), .int .i64 (c3 : Int), .slice A3 m3 p3, .string ap3, .string ga3, .int .i64 (sz3 : Int)] 30)) A1 l1 ∧ Bk (w7.alloc (.cells #[.string nm3, .string qu3, .int .i64 (pr3 : Int), .int .i64 (a3 : Int), .int .i64 (b3 : Int), .int .i64 (c3 : Int), .slice A3 m3 p3, .string ap3, .string ga3, .int .i64 (sz3 : Int)] 30)) w5.heap.size 28 #[.string nm2, .int .i64 (a2 : Int), .int .i64 (b2 : Int), .int .i64 (c2 : Int)] ∧ Bk (w7.alloc (.cells #[.string nm3, .string qu3, .int .i64 (pr3 : Int), .int .i64 (a3 : Int), .int .i64 (b3 : Int), .int .i64 (c3 : Int), .slice A3 m3 p3, .string ap3, .string ga3, .int .i64 (sz3 : Int)] 30)) w7.heap.size 30 #[.string nm3, .string qu3, .int .i64 (pr3 : Int), .int .i64 (a3 : Int), .int .i64 (b3 : Int), .int .i64 (c3 : Int), .slice A3 m3 p3, .string ap3, .string ga3, .int .i64 (sz3 : Int)] ∧ RdL (w7.alloc (.cells #[.string nm3, .string qu3, .int .i64 (pr3 : Int), .int .i64 (a3 : Int), .int .i64 (b3 : Int), .int .i64 (c3 : Int), .slice A3 m3 p3, .string ap3, .string ga3, .int .i64 (sz3 : Int)] 30)) A3 l3) := ⟨T7.out.1.alloc T7.out.1.size _, T7.out.2.1.later ((Below.refl _ _).alloc (Nat.le_refl _) _), T7.out.2.2.1.later ((Below.refl _ _).alloc (Nat.le_refl _) _), T7.out.2.2.2.later ((Below.refl _ _).alloc (Nat.le_refl _) _), Bk.fresh _ _ _, HRL3.out.later ((Below.refl _ _).alloc (Nat.le_refl _) _)⟩
  clear T7 hb7 HRL3
  have T8 : Hid (Below w.heap.size w ((((w7.alloc (.cells #[.string nm3, .string qu3, .int .i64 (pr3 : Int), .int .i64 (a3 : Int), .int .i64 (b3 : Int), .int .i64 (c3 : Int), .slice A3 m3 p3, .string ap3, .string ga3, .int .i64 (sz3 : Int)] 30)).alloc (.cells #[.string s, .int .i64 at_, .int .i64 0] 53)).alloc (.cells #[.string s, .int .i64 at_, .int .i64 0] 53)).alloc (.cells #[.string s, .int .i64 at_, .int .i64 0] 53)) ∧ Bk ((((w7.alloc (.cells #[.string nm3, .string qu3, .int .i64 (pr3 : Int), .int .i64 (a3 : Int), .int .i64 (b3 : Int), .int .i64 (c3 : Int), .slice A3 m3 p3, .string ap3, .string ga3, .int .i64 (sz3 : Int)] 30)).alloc (.cells #[.string s, .int .i64 at_, .int .i64 0] 53)).alloc (.cells #[.string s, .int .i64 at_, .int .i64 0] 53)).alloc (.cells #[.string s, .int .i64 at_, .int .i64 0] 53)) w3.heap.size 26 #[.string nm1, .int .i64 (a1 : Int), .int .i64 (b1 : Int), .int .i64 (c1 : Int), .slice A1 m1 p1] ∧ RdL ((((w7.alloc (.cells #[.string nm3, .string qu3, .int .i64 (pr3 : Int), .int .i64 (a3 : Int), .int .i64 (b3 : Int), .int .i64 (c3 : Int), .slice A3 m3 p3, .string ap3, .string ga3, .int .i64 (sz3 : Int)] 30)).alloc (.cells #[.string s, .int .i64 at_, .int .i64 0] 53)).alloc (.cells #[.string s, .int .i64 at_, .int .i64 0] 53)).alloc (.cells #[.string s, .int .i64 at_, .int .i64 0] 53)) A1 l1 ∧ Bk ((((w7.alloc (.cells #[.string nm3, .string qu3, .int .i64 (pr3 : Int), .int .i64 (a3 : Int), .int .i64 (b3 : Int), .int .i64 (c3 : Int), .slice A3 m3 p3, .string ap3, .string ga3, .int .i64 (sz3 : Int)] 30)).alloc (.cells #[.string s, .int .i64 at_, .int .i64 0] 53)).alloc (.cells #[.string s, .int .i64 at_, .int .i64 0] 53)).alloc (.cells #[.string s, .int .i64 at_, .int .i64 0] 53)) w5.heap.size 28 #[.string nm2, .int .i64 (a2 : Int), .int .i64 (b2 : Int), .int .i64 (c2 : Int)] ∧ Bk ((((w7.alloc (.cells #[.string nm3, .string qu3, .int .i64 (pr3 : Int), .int .i64 (a3 : Int), .int .i64 (b3 : Int), .int .i64 (c3 : Int), .slice A3 m3 p3, .string ap3, .string ga3, .int .i64 (sz3 : Int)] 30)).alloc (.cells #[.string s, .int .i64 at_, .int .i64 0] 53)).alloc (.cells #[.string s, .int .i64 at_, .int .i64 0] 53)).alloc (.cells #[.string s, .int .i64 at_, .int .i64 0] 53)) w7.heap.size 30 #[.string nm3, .string qu3, .int .i64 (pr3 : Int), .int .i64 (a3 : Int), .int .i64 (b3 : Int), .int .i64 (c3 : Int), .slice A3 m3 p3, .string ap3, .string ga3, .int .i64 (sz3 : Int)] ∧ RdL ((((w7.alloc (.cells #[.string nm3, .string qu3, .int .i64 (pr3 : Int), .int .i64 (a3 : Int), .int .i64 (b3 : Int), .int .i64 (c3 : Int), .slice A3 m3 p3, .string ap3, .string ga3, .int .i64 (sz3 : Int)] 30)).alloc (.cells #[.string s, .int .i64 at_, .int .i64 0] 53)).alloc (.cells #[.string s, .int .i64 at_, .int .i64 0] 53)).alloc (.cells #[.string s, .int .i64 at_, .int .i64 0] 53)) A3 l3 ∧ RdR ((((w7.alloc (.cells #[.string nm3, .string qu3, .int .i64 (pr3 : Int), .int .i64 (a3 : Int), .int .i64 (b3 : Int), .int .i64 (c3 : Int), .slice A3 m3 p3, .string ap3, .string ga3, .int .i64 (sz3 : Int)] 30)).alloc (.cells #[.string s, .int .i64 at_, .int .i64 0] 53)).alloc (.cells #[.string s, .int .i64 at_, .int .i64 0] 53)).alloc (.cells #[.string s, .int .i64 at_, .int .i64 0] 53)) (w7.heap.size + 1) s (at_, 0) ∧ RdR ((((w7.alloc (.cells #[.string nm3, .string qu3, .int .i64 (pr3 : Int), .int .i64 (a3 : Int), .int .i64 (b3 : Int), .int .i64 (c3 : Int), .slice A3 m3 p3, .string ap3, .string ga3, .int .i64 (sz3 : Int)] 30)).alloc (.cells #[.string s, .int .i64 at_, .int .i64 0] 53)).alloc (.cells #[.string s, .int .i64 at_, .int .i64 0] 53)).alloc (.cells #[.string s, .int .i64 at_, .int .i64 0] 53)) (w7.heap.size + 2) s (at_, 0) ∧ RdR ((((w7.alloc (.cells #[.string nm3, .string qu3, .int .i64 (pr3 : Int), .int .i64 (a3 : Int), .int .i64 (b3 : Int), .int .i64 (c3 : Int), .slice A3 m3 p3, .string ap3, .string ga3, .int .i64 (sz3 : Int)] 30)).alloc (.cells #[.string s, .int .i64 at_, .int .i64 0] 53)).alloc (.cells #[.string s, .int .i64 at_, .int .i64 0] 53)).alloc (.cells #[.string s, .int .i64 at_, .int .i64 0] 53)) (w7.heap.size + 3) s (at_, 0)) := ⟨B3.out.1.trans (((((Below.refl _ _).alloc (Nat.le_refl _) _).alloc (by simp) _).alloc (by simp only [World.size_alloc]; omega) _).mono B3.out.1.size), B3.out.2.1.later ((((Below.refl _ _).alloc (Nat.le_refl _) _).alloc (by simp) _).alloc (by simp only [World.size_alloc]; omega) _), B3.out.2.2.1.later ((((Below.refl _ _).alloc (Nat.le_refl _) _).alloc (by simp) _).alloc (by simp only [World.size_alloc]; omega) _), B3.out.2.2.2.1.later ((((Below.refl _ _).alloc (Nat.le_refl _) _).alloc (by simp) _).alloc (by simp only [World.size_alloc]; omega) _), B3.out.2.2.2.2.1.later ((((Below.refl _ _).alloc (Nat.le_refl _) _).alloc (by simp) _).alloc (by simp only [World.size_alloc]; omega) _), B3.out.2.2.2.2.2.later ((((Below.refl _ _).alloc (Nat.le_refl _) _).alloc (by simp) _).alloc (by simp only [World.size_alloc]; omega) _), ⟨at_, ((Bk.freshAt _ _ _ (by simp)).allocs _).allocs _, fun _ => rfl⟩, ⟨at_, (Bk.freshAt _ _ _ (by simp)).allocs _, fun _ => rfl⟩, ⟨at_, Bk.freshAt _ _ _ (by simp), fun _ => rfl⟩⟩
  clear B3
  obtain ⟨w8, hw8⟩ : ∃ W, W = ((((w7.alloc (.cells #[.string nm3, .string qu3, .int .i64 (pr3 : Int), .int .i64 (a3 : Int), .int .i64 (b3 : Int), .int .i64 (c3 : Int), .slice A3 m3 p3, .string ap3, .string ga3, .int .i64 (sz3 : Int)] 30)).alloc (.cells #[.string s, .int .i64 at_, .int .i64 0] 53)).alloc (.cells #[.string s, .int .i64 at_, .int .i64 0] 53)).alloc (.cells #[.string s, .int .i64 at_, .int .i64 0] 53)) := ⟨_, rfl⟩
  rw [← hw8] at T8
  have HW8 := Lib.hid hw8
  clear hw8
  have f0 : w8.cell? ⟨w3.heap.size, 0, none⟩ = some (.string nm1) := T8.out.2.1.cellAt 0
  have f1 : w8.cell? ⟨w3.heap.size, 1, none⟩ = some (.int .i64 (a1 : Int)) := T8.out.2.1.cellAt 1
  have f2 : w8.cell? ⟨w3.heap.size, 2, none⟩ = some (.int .i64 (b1 : Int)) := T8.out.2.1.cellAt 2
  have f3 : w8.cell? ⟨w3.heap.size, 3, none⟩ = some (.int .i64 (c1 : Int)) := T8.out.2.1.cellAt 3
  have f4 : w8.cell? ⟨w3.heap.size, 4, none⟩ = some (.slice A1 m1 p1) := T8.out.2.1.cellAt 4
  have f5 : w8.cell? ⟨w5.heap.size, 0, none⟩ = some (.string nm2) := T8.out.2.2.2.1.cellAt 0
  have f6 : w8.cell? ⟨w5.heap.size, 1, none⟩ = some (.int .i64 (a2 : Int)) := T8.out.2.2.2.1.cellAt 1
  have f7 : w8.cell? ⟨w5.heap.size, 2, none⟩ = some (.int .i64 (b2 : Int)) := T8.out.2.2.2.1.cellAt 2
  have f8 : w8.cell? ⟨w5.heap.size, 3, none⟩ = some (.int .i64 (c2 : Int)) := T8.out.2.2.2.1.cellAt 3
  have f9 : w8.cell? ⟨w7.heap.size, 0, none⟩ = some (.string nm3) := T8.out.2.2.2.2.1.cellAt 0
  have f10 : w8.cell? ⟨w7.heap.size, 1, none⟩ = some (.string qu3) := T8.out.2.2.2.2.1.cellAt 1
  have f11 : w8.cell? ⟨w7.heap.size, 2, none⟩ = some (.int .i64 (pr3 : Int)) := T8.out.2.2.2.2.1.cellAt 2
  have f12 : w8.cell? ⟨w7.heap.size, 3, none⟩ = some (.int .i64 (a3 : Int)) := T8.out.2.2.2.2.1.cellAt 3
  have f13 : w8.cell? ⟨w7.heap.size, 4, none⟩ = some (.int .i64 (b3 : Int)) := T8.out.2.2.2.2.1.cellAt 4
  have f14 : w8.cell? ⟨w7.heap.size, 5, none⟩ = some (.int .i64 (c3 : Int)) := T8.out.2.2.2.2.1.cellAt 5
  have f15 : w8.cell? ⟨w7.heap.size, 6, none⟩ = some (.slice A3 m3 p3) := T8.out.2.2.2.2.1.cellAt 6
  have f16 : w8.cell? ⟨w7.heap.size, 7, none⟩ = some (.string ap3) := T8.out.2.2.2.2.1.cellAt 7
  have f17 : w8.cell? ⟨w7.heap.size, 8, none⟩ = some (.string ga3) := T8.out.2.2.2.2.1.cellAt 8
  have f18 : w8.cell? ⟨w7.heap.size, 9, none⟩ = some (.int .i64 (sz3 : Int)) := T8.out.2.2.2.2.1.cellAt 9
  have y1 : w3.heap.size < w7.heap.size + 1 := by omega
  have y2 : w5.heap.size < w7.heap.size + 1 := by omega
  have y3 : w7.heap.size < w7.heap.size + 1 := by omega
  have yw : w7.heap.size + 4 ≤ w8.heap.size := by rw [HW8.out]; simp
  have go : Below w.heap.size w w8 := T8.out.1
  have yv : w.heap.size ≤ w7.heap.size + 1 := by omega
  go_wp2_with fail
  rw [← HW8.out]
  have nq := NQ.out
  clear NQ
  have ck : w7.heap.size + 1 ≤ w8.heap.size := by omega
  have X0 : Hid (RdR w8.drew (w7.heap.size + 1) s (at_, 0) ∧ RdR w8.drew (w7.heap.size + 2) s (at_, 0) ∧ RdR w8.drew (w7.heap.size + 3) s (at_, 0) ∧ RdL w8.drew A1 l1 ∧ RdL w8.drew A3 l3) := ⟨T8.out.2.2.2.2.2.2.1.later (Below.drew (Below.refl _ _)), T8.out.2.2.2.2.2.2.2.1.later (Below.drew (Below.refl _ _)), T8.out.2.2.2.2.2.2.2.2.later (Below.drew (Below.refl _ _)), T8.out.2.2.1.later (Below.drew (Below.refl _ _)), T8.out.2.2.2.2.2.1.later (Below.drew (Below.refl _ _))⟩
  clear T8
  refine wp_region_held_drew (S := fun W => Below (w7.heap.size + 1) w8 W) (by kernel_rfl) (Below.drew (Below.refl _ _)) (fun hS0 => ?_)
  refine wpAnyH_take (i := 0) (v := ?_) rfl (by kernel_rfl) (by kernel_rfl) (by kernel_rfl) (fun _ _ _ h => h) (Or.inl ⟨by rfl, ?_⟩) hS0 ?_
  rotate_left
  · intro W hSW; have hx : ∀ b o, b < (w7.heap.size + 1) → W.cell? ⟨b, o, none⟩ = w8.cell? ⟨b, o, none⟩ := fun b o h => hSW.cell (p := ⟨b, o, none⟩) h; go_simp; try with_reducible rfl
  try simp only [Act.put, List.getElem_toArray, List.getElem_cons_zero, List.setIfInBounds_toArray, List.set_cons_zero, List.set_cons_succ]
  refine wpAnyH_take (i := 1) (v := ?_) rfl (by kernel_rfl) (by kernel_rfl) (by kernel_rfl) (fun _ _ _ h => h) (Or.inl ⟨by rfl, ?_⟩) hS0 ?_
  rotate_left
  · intro W _; go_simp; try with_reducible rfl
  try simp only [Act.put, List.getElem_toArray, List.getElem_cons_zero, List.getElem_cons_succ, List.setIfInBounds_toArray, List.set_cons_zero, List.set_cons_succ]
  refine wpAnyH_ready (rs := [2]) (by kernel_rfl) (by simp) ?_
  refine AllReadyH.cons rfl (fun K hK => ?_) AllReadyH.nil
  go_simp
  refine (R1.out _ _ X0.out.1).mono ?_
  rintro e u1 ⟨vu1, rfl, hou1, hRu1, hgu1⟩
  obtain ⟨B1, dB1, slB1⟩ := hou1.sl
  have hvB1 := slB1.val; rw [← HM1.out] at hvB1; subst hvB1
  have caB1 := slB1.cap; rw [← HM1.out] at caB1
  have cbB1 : dB1 ≤ 9223372036854775807 := by have := slB1.cap2; unfold maxLen at this; omega
  have hku1 : w7.heap.size + 1 ≤ u1.heap.size := Nat.le_trans ck hgu1.size
  have Xu1 : Hid (RdR u1 (w7.heap.size + 1) s (nx1, er1) ∧ RdR u1 (w7.heap.size + 2) s (at_, 0) ∧ RdR u1 (w7.heap.size + 3) s (at_, 0) ∧ RdL u1 A1 l1 ∧ RdL u1 A3 l3 ∧ RdL u1 B1 l1) := ⟨hRu1, X0.out.2.1.stays hgu1 (by simp), X0.out.2.2.1.stays hgu1 (by simp), X0.out.2.2.2.1.stays (fun g o p e => Nat.lt_of_lt_of_le (HA1.out g o p e) (by omega)) hgu1, X0.out.2.2.2.2.stays (fun g o p e => Nat.lt_of_lt_of_le (HA3.out g o p e) (by omega)) hgu1, slB1.rd⟩
  clear slB1 hou1 hRu1
  go_simp
  refine hK.out _ _ (hS0.trans (grownBy_below hgu1 ck (by intro k e; cases e; omega))) (fun hS1 => ?_)
  clear hK K
  try simp only [Act.put, List.getElem_toArray, List.getElem_cons_zero, List.getElem_cons_succ, List.setIfInBounds_toArray, List.set_cons_zero, List.set_cons_succ]
  refine wpAnyH_ready (rs := [3]) (by kernel_rfl) (by simp) ?_
  refine AllReadyH.cons rfl (fun K hK => ?_) AllReadyH.nil
  go_simp
  refine (sameNode_yes nm1 (a1 : Int) (b1 : Int) (c1 : Int) A1 m1 p1 B1 m1 dB1 l1 _ HM1 HM1 (Lib.hid Xu1.out.2.2.2.1) (Lib.hid Xu1.out.2.2.2.2.2) ca1 cb1x caB1 cbB1).mono ?_
  rintro e u2 ⟨rfl, hbu2⟩
  have hku2 : w7.heap.size + 1 ≤ u2.heap.size := Nat.le_trans hku1 hbu2.size
  have Xu2 : Hid (RdR u2 (w7.heap.size + 1) s (nx1, er1) ∧ RdR u2 (w7.heap.size + 2) s (at_, 0) ∧ RdR u2 (w7.heap.size + 3) s (at_, 0) ∧ RdL u2 A3 l3) := ⟨Xu1.out.1.later hbu2, Xu1.out.2.1.later hbu2, Xu1.out.2.2.1.later hbu2, Xu1.out.2.2.2.2.1.later hbu2⟩
  go_simp
  refine hK.out _ _ (hS1.trans (hbu2.mono hku1)) (fun hS2 => ?_)
  clear hK K
  try simp only [Act.put, List.getElem_toArray, List.getElem_cons_zero, List.getElem_cons_succ, List.setIfInBounds_toArray, List.set_cons_zero, List.set_cons_succ]
  refine wpAnyH_take (i := 4) (v := ?_) rfl (by kernel_rfl) (by kernel_rfl) (by kernel_rfl) (fun _ _ _ h => h) (Or.inl ⟨by rfl, ?_⟩) hS2 ?_
  rotate_left
  · intro W _; go_simp; try with_reducible rfl
  try simp only [Act.put, List.getElem_toArray, List.getElem_cons_zero, List.getElem_cons_succ, List.setIfInBounds_toArray, List.set_cons_zero, List.set_cons_succ]
  refine wpAnyH_take (i := 5) (v := ?_) rfl (by kernel_rfl) (by kernel_rfl) (by kernel_rfl) (fun _ _ _ h => h) (Or.inl ⟨by rfl, ?_⟩) hS2 ?_
  rotate_left
  · intro W _; go_simp; try with_reducible rfl
  try simp only [Act.put, List.getElem_toArray, List.getElem_cons_zero, List.getElem_cons_succ, List.setIfInBounds_toArray, List.set_cons_zero, List.set_cons_succ]
  refine wpAnyH_take (i := 6) (v := ?_) rfl (by kernel_rfl) (by kernel_rfl) (by kernel_rfl) (fun _ _ _ h => h) (Or.inl ⟨by rfl, ?_⟩) hS2 ?_
  rotate_left
  · intro W hSW; have hx : ∀ b o, b < (w7.heap.size + 1) → W.cell? ⟨b, o, none⟩ = w8.cell? ⟨b, o, none⟩ := fun b o h => hSW.cell (p := ⟨b, o, none⟩) h; go_simp; try with_reducible rfl
  try simp only [Act.put, List.getElem_toArray, List.getElem_cons_zero, List.getElem_cons_succ, List.setIfInBounds_toArray, List.set_cons_zero, List.set_cons_succ]
  refine wpAnyH_take (i := 7) (v := ?_) rfl (by kernel_rfl) (by kernel_rfl) (by kernel_rfl) (fun _ _ _ h => h) (Or.inl ⟨by rfl, ?_⟩) hS2 ?_
  rotate_left
  · intro W _; go_simp; try with_reducible rfl
  try simp only [Act.put, List.getElem_toArray, List.getElem_cons_zero, List.getElem_cons_succ, List.setIfInBounds_toArray, List.set_cons_zero, List.set_cons_succ]
  refine wpAnyH_ready (rs := [8]) (by kernel_rfl) (by simp) ?_
  refine AllReadyH.cons rfl (fun K hK => ?_) AllReadyH.nil
  go_simp
  refine (R2.out _ _ Xu2.out.2.1).mono ?_
  rintro e u3 ⟨rfl, hRu3, hgu3⟩
  have hku3 : w7.heap.size + 1 ≤ u3.heap.size := Nat.le_trans hku2 hgu3.size
  have Xu3 : Hid (RdR u3 (w7.heap.size + 1) s (nx1, er1) ∧ RdR u3 (w7.heap.size + 2) s (nx2, er2) ∧ RdR u3 (w7.heap.size + 3) s (at_, 0) ∧ RdL u3 A3 l3) := ⟨Xu2.out.1.stays hgu3 (by simp), hRu3, Xu2.out.2.2.1.stays hgu3 (by simp), Xu2.out.2.2.2.stays (fun g o p e => Nat.lt_of_lt_of_le (HA3.out g o p e) (by omega)) hgu3⟩
  clear hRu3
  go_simp
  refine hK.out _ _ (hS2.trans (grownBy_below hgu3 hku2 (by intro k e; cases e; omega))) (fun hS3 => ?_)
  clear hK K
  try simp only [Act.put, List.getElem_toArray, List.getElem_cons_zero, List.getElem_cons_succ, List.setIfInBounds_toArray, List.set_cons_zero, List.set_cons_succ]
  refine wpAnyH_take (i := 9) (v := ?_) rfl (by kernel_rfl) (by kernel_rfl) (by kernel_rfl) (fun _ _ _ h => h) (Or.inl ⟨by rfl, ?_⟩) hS3 ?_
  rotate_left
  · intro W _; go_simp; try with_reducible rfl
  try simp only [Act.put, List.getElem_toArray, List.getElem_cons_zero, List.getElem_cons_succ, List.setIfInBounds_toArray, List.set_cons_zero, List.set_cons_succ]
  refine wpAnyH_take (i := 10) (v := ?_) rfl (by kernel_rfl) (by kernel_rfl) (by kernel_rfl) (fun _ _ _ h => h) (Or.inl ⟨by rfl, ?_⟩) hS3 ?_
  rotate_left
  · intro W _; go_simp; try with_reducible rfl
  try simp only [Act.put, List.getElem_toArray, List.getElem_cons_zero, List.getElem_cons_succ, List.setIfInBounds_toArray, List.set_cons_zero, List.set_cons_succ]
  refine wpAnyH_take (i := 11) (v := ?_) rfl (by kernel_rfl) (by kernel_rfl) (by kernel_rfl) (fun _ _ _ h => h) (Or.inl ⟨by rfl, ?_⟩) hS3 ?_
  rotate_left
  · intro W _; go_simp; try with_reducible rfl
  try simp only [Act.put, List.getElem_toArray, List.getElem_cons_zero, List.getElem_cons_succ, List.setIfInBounds_toArray, List.set_cons_zero, List.set_cons_succ]
  refine wpAnyH_take (i := 12) (v := ?_) rfl (by kernel_rfl) (by kernel_rfl) (by kernel_rfl) (fun _ _ _ h => h) (Or.inl ⟨by rfl, ?_⟩) hS3 ?_
  rotate_left
  · intro W hSW; have hx : ∀ b o, b < (w7.heap.size + 1) → W.cell? ⟨b, o, none⟩ = w8.cell? ⟨b, o, none⟩ := fun b o h => hSW.cell (p := ⟨b, o, none⟩) h; go_simp; try with_reducible rfl
  try simp only [Act.put, List.getElem_toArray, List.getElem_cons_zero, List.getElem_cons_succ, List.setIfInBounds_toArray, List.set_cons_zero, List.set_cons_succ]
  refine wpAnyH_take (i := 13) (v := ?_) rfl (by kernel_rfl) (by kernel_rfl) (by kernel_rfl) (fun _ _ _ h => h) (Or.inl ⟨by rfl, ?_⟩) hS3 ?_
  rotate_left
  · intro W _; go_simp; try with_reducible rfl
  try simp only [Act.put, List.getElem_toArray, List.getElem_cons_zero, List.getElem_cons_succ, List.setIfInBounds_toArray, List.set_cons_zero, List.set_cons_succ]
  refine wpAnyH_ready (rs := [14]) (by kernel_rfl) (by simp) ?_
  refine AllReadyH.cons rfl (fun K hK => ?_) AllReadyH.nil
  go_simp
  refine (R3.out _ _ Xu3.out.2.2.1).mono ?_
  rintro e u4 ⟨vu4, rfl, hou4, hRu4, hgu4⟩
  obtain ⟨B3, dB3, slB3⟩ := hou4.sl
  have hvB3 := slB3.val; rw [← HM3.out] at hvB3; subst hvB3
  have caB3 := slB3.cap; rw [← HM3.out] at caB3
  have cbB3 : dB3 ≤ 9223372036854775807 := by have := slB3.cap2; unfold maxLen at this; omega
  have hku4 : w7.heap.size + 1 ≤ u4.heap.size := Nat.le_trans hku3 hgu4.size
  have Xu4 : Hid (RdR u4 (w7.heap.size + 1) s (nx1, er1) ∧ RdR u4 (w7.heap.size + 2) s (nx2, er2) ∧ RdR u4 (w7.heap.size + 3) s (nx3, er3) ∧ RdL u4 A3 l3 ∧ RdL u4 B3 l3) := ⟨Xu3.out.1.stays hgu4 (by simp), Xu3.out.2.1.stays hgu4 (by simp), hRu4, Xu3.out.2.2.2.stays (fun g o p e => Nat.lt_of_lt_of_le (HA3.out g o p e) (by omega)) hgu4, slB3.rd⟩
  clear slB3 hou4 hRu4
  go_simp
  refine hK.out _ _ (hS3.trans (grownBy_below hgu4 hku3 (by intro k e; cases e; omega))) (fun hS4 => ?_)
  clear hK K
  try simp only [Act.put, List.getElem_toArray, List.getElem_cons_zero, List.getElem_cons_succ, List.setIfInBounds_toArray, List.set_cons_zero, List.set_cons_succ]
  refine wpAnyH_ready (rs := [15]) (by kernel_rfl) (by simp) ?_
  refine AllReadyH.cons rfl (fun K hK => ?_) AllReadyH.nil
  go_simp
  refine (sameTask_yes nm3 qu3 (pr3 : Int) (a3 : Int) (b3 : Int) (c3 : Int) A3 m3 p3 B3 m3 dB3 l3 ap3 ga3 (sz3 : Int) _ HM3 HM3 (Lib.hid Xu4.out.2.2.2.1) (Lib.hid Xu4.out.2.2.2.2) ca3 cb3x caB3 cbB3).mono ?_
  rintro e u5 ⟨rfl, hbu5⟩
  have hku5 : w7.heap.size + 1 ≤ u5.heap.size := Nat.le_trans hku4 hbu5.size
  have Xu5 : Hid (RdR u5 (w7.heap.size + 1) s (nx1, er1) ∧ RdR u5 (w7.heap.size + 2) s (nx2, er2) ∧ RdR u5 (w7.heap.size + 3) s (nx3, er3)) := ⟨Xu4.out.1.later hbu5, Xu4.out.2.1.later hbu5, Xu4.out.2.2.1.later hbu5⟩
  go_simp
  refine hK.out _ _ (hS4.trans (hbu5.mono hku4)) (fun hS5 => ?_)
  clear hK K
  try simp only [Act.put, List.getElem_toArray, List.getElem_cons_zero, List.getElem_cons_succ, List.setIfInBounds_toArray, List.set_cons_zero, List.set_cons_succ]
  refine wpAnyH_take (i := 16) (v := ?_) rfl (by kernel_rfl) (by kernel_rfl) (by kernel_rfl) (fun _ _ _ h => h) (Or.inl ⟨by rfl, ?_⟩) hS5 ?_
  rotate_left
  · intro W _; go_simp; try with_reducible rfl
  try simp only [Act.put, List.getElem_toArray, List.getElem_cons_zero, List.getElem_cons_succ, List.setIfInBounds_toArray, List.set_cons_zero, List.set_cons_succ]
  refine wpAnyH_take (i := 17) (v := ?_) rfl (by kernel_rfl) (by kernel_rfl) (by kernel_rfl) (fun _ _ _ h => h) (Or.inl ⟨by rfl, ?_⟩) hS5 ?_
  rotate_left
  · intro W _; go_simp; try with_reducible rfl
  try simp only [Act.put, List.getElem_toArray, List.getElem_cons_zero, List.getElem_cons_succ, List.setIfInBounds_toArray, List.set_cons_zero, List.set_cons_succ]
  refine wpAnyH_done (by kernel_rfl) ?_ _
  go_wp2_with fail
  refine (place_yes _ s nx1 er1 _ Xu5.out.1 N1.out).mono ?_
  rintro e w' ⟨rfl, rfl⟩
  go_wp2_with fail
  refine (place_yes _ s nx2 er2 _ Xu5.out.2.1 N2.out).mono ?_
  rintro e w' ⟨rfl, rfl⟩
  go_wp2_with fail
  refine (place_yes _ s nx3 er3 _ Xu5.out.2.2 N3.out).mono ?_
  rintro e w' ⟨rfl, rfl⟩
  go_wp2
  go_ret
  exact ⟨rfl, go.trans (hS5.mono yv)⟩
end Go.Proofs.Ytgedofggkfmlnaa.modelTakes
