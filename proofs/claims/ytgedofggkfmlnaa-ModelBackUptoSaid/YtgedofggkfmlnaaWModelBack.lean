/- The walk of ModelBack: what was put is taken as it was, whatever stands about it; cut off it isn't. Conditions: texts ahead and behind of at most 1048576 bytes; texts and slices that Go can have; a number of 64 bits. -/
import Derived.Test.YtgedofggkfmlnaaNeq
import Derived.Test.YtgedofggkfmlnaaAtm
import Derived.Deep.RegionHeld3
import Derived.Deep.DrawnRows
import Derived.Deep.Cut
import Derived.Deep.CutRange
namespace Go.Proofs.Ytgedofggkfmlnaa.modelBack
open Go.RowKit
set_option linter.unusedSimpArgs false
set_option linter.unusedVariables false

theorem nd_eta (r : Nd × (Int × Int)) : ∃ nm a b c l nx er, r = (⟨nm, a, b, c, l⟩, (nx, er)) := ⟨_, _, _, _, _, _, _, rfl⟩
theorem qu_eta (r : Qu × (Int × Int)) : ∃ nm a b c nx er, r = (⟨nm, a, b, c⟩, (nx, er)) := ⟨_, _, _, _, _, _, rfl⟩
theorem tk_eta (r : Tk × (Int × Int)) : ∃ nm qu pr a b c l ap ga sz nx er, r = (⟨nm, qu, pr, a, b, c, l, ap, ga, sz⟩, (nx, er)) := ⟨_, _, _, _, _, _, _, _, _, _, _, _, rfl⟩
theorem u64_bd {a : Int} (h : (Lit.int .u64 a).wf = true) : 0 ≤ a ∧ a ≤ 18446744073709551615 := by simpa [Lit.wf, IntKind.min, IntKind.max, IntKind.signed, IntKind.bits] using h
theorem nodeEnc_le {nm : ByteArray} {a b c : Int} {l : List Lb} (h : nodeB nm a b c l = true) : 1 ≤ (nodeEnc nm a b c l).length ∧ (nodeEnc nm a b c l).length ≤ 1000 := by
  unfold nodeB at h
  simp only [Bool.and_eq_true] at h
  have h1 := encT_le (nameB_le h.1.1).2
  have h2 := rB_bd h.1.2
  have h3 := labelsB_le h.2
  have h4 := vecEnc_le (a := a.toNat) (b := b.toNat) (c := c.toNat) (by omega) (by omega) (by omega)
  have h5 := labEnc_le h3.1 h3.2
  rw [nodeEnc, List.length_append, List.length_append]; omega
theorem queueEnc_le {nm : ByteArray} {a b c : Int} (h : queueB nm a b c = true) : 1 ≤ (queueEnc nm a b c).length ∧ (queueEnc nm a b c).length ≤ 1000 := by
  unfold queueB at h
  simp only [Bool.and_eq_true] at h
  have h1 := encT_le (nameB_le h.1).2
  have h2 := rB_bd h.2
  have h4 := vecEnc_le (a := a.toNat) (b := b.toNat) (c := c.toNat) (by omega) (by omega) (by omega)
  rw [queueEnc, List.length_append]; omega
theorem taskEnc_le {nm qu : ByteArray} {pr a b c : Int} {l : List Lb} {ap ga : ByteArray} {sz : Int} (h : taskB nm qu pr a b c l ap ga sz = true) : 1 ≤ (taskEnc nm qu pr a b c l ap ga sz).length ∧ (taskEnc nm qu pr a b c l ap ga sz).length ≤ 1000 := by
  unfold taskB at h
  simp only [Bool.and_eq_true, decide_eq_true_eq] at h
  obtain ⟨⟨⟨⟨⟨⟨⟨v1, v2⟩, v3⟩, v4⟩, v5⟩, v6⟩, v7⟩, v8⟩ := h
  have h1 := encT_le (nameB_le v1).2
  have h2 := encT_le (nameB_le v2).2
  have h3 := rB_bd v5
  have h4 := labelsB_le v6
  have h5 := vecEnc_le (a := a.toNat) (b := b.toNat) (c := c.toNat) (by omega) (by omega) (by omega)
  have h6 := labEnc_le h4.1 h4.2
  have h7 := encT_le (apartB_le v7)
  have h8 := gangB_le v8
  have h9 := encT_le h8.1
  have h10 := enc_le (n := pr.toNat) (by omega)
  have h11 := enc_le (n := sz.toNat) (by omega)
  simp only [taskEnc, List.length_append]; omega
theorem rd_head {w : World} {G : Option Addr} {l : List UInt8} (h : Rd w G l) (hl : 1 ≤ l.length) (hx : G = none ∨ ∃ g, G = some ⟨g, 0, none⟩) : ∃ g, G = some ⟨g, 0, none⟩ := by
  rcases hx with rfl | hx
  · obtain ⟨_, _, e, _⟩ := h 0 l[0] (List.getElem?_eq_getElem hl)
    cases e
  · exact hx

/-- The three encodings, behind the bytes ahead, in memory. -/
def Puts (w2 : World) (bs L1 L2 L3 : List UInt8) (N1 N2 N3 : Nat) (x y z : Value) (wx : World) : Prop :=
  ∃ G1 C1 G2 C2 G3 C3, x = .slice G1 N1 C1 ∧ y = .slice G2 N2 C2 ∧ z = .slice G3 N3 C3 ∧ Rd wx G1 (bs ++ L1) ∧ Rd wx G2 (bs ++ L2) ∧ Rd wx G3 (bs ++ L3) ∧
    (N1 ≤ C1 ∧ C1 ≤ 9223372036854775807) ∧ (N2 ≤ C2 ∧ C2 ≤ 9223372036854775807) ∧ (N3 ≤ C3 ∧ C3 ≤ 9223372036854775807) ∧
    (G1 = none ∨ ∃ g, G1 = some ⟨g, 0, none⟩) ∧ (G2 = none ∨ ∃ g, G2 = some ⟨g, 0, none⟩) ∧ (G3 = none ∨ ∃ g, G3 = some ⟨g, 0, none⟩) ∧ Below w2.heap.size w2 wx

attribute [local go_sem ↓] Go.wp_at_zero Go.wp_at_succ
attribute [local go_sem] run_guardQ
set_option maxHeartbeats 16000000 in
set_option maxRecDepth 100000 in
theorem walk (s : ByteArray) (nm1 : ByteArray) (a1 b1 c1 : Int) (A1 : Option Addr) (n1 cp1 : Nat) (l1 : List Lb) (nm2 : ByteArray) (a2 b2 c2 : Int) (nm3 qu3 : ByteArray) (pr3 a3 b3 c3 : Int) (A3 : Option Addr) (n3 cp3 : Nat) (l3 : List Lb) (ap3 ga3 : ByteArray) (sz3 : Int) (t : ByteArray) (cut : Int) (w : World)
    (zs : s.size ≤ 1048576) (zn1 : nm1.size ≤ 140737488351232) (hn1 : n1 = l1.length) (hr1 : RdL w A1 l1) (hc1 : n1 ≤ cp1) (hm1 : cp1 ≤ 9223372036854775807) (hz1 : Sz l1) (zn2 : nm2.size ≤ 140737488351232)
    (zn3 : nm3.size ≤ 140737488351232) (zq3 : qu3.size ≤ 140737488351232) (za3 : ap3.size ≤ 140737488351232) (zg3 : ga3.size ≤ 140737488351232) (hn3 : n3 = l3.length) (hr3 : RdL w A3 l3) (hc3 : n3 ≤ cp3) (hm3 : cp3 ≤ 9223372036854775807) (hz3 : Sz l3)
    (zt : t.size ≤ 1048576) (wu : (Lit.int .u64 cut).wf = true) :
    Calls Try.prog 5 #[.string s, .agg #[.string nm1, .int .i64 a1, .int .i64 b1, .int .i64 c1, .slice A1 n1 cp1], .agg #[.string nm2, .int .i64 a2, .int .i64 b2, .int .i64 c2], .agg #[.string nm3, .string qu3, .int .i64 pr3, .int .i64 a3, .int .i64 b3, .int .i64 c3, .slice A3 n3 cp3, .string ap3, .string ga3, .int .i64 sz3], .string t, .int .u64 cut] w fun e w' => e = .returned (.bool true) ∧ Below w.heap.size w w' := by
  have du := u64_bd wu
  clear wu
  have HN1 := Lib.hid hn1
  have HR1 := Lib.hid hr1
  have HZ1 := Lib.hid hz1
  have HN3 := Lib.hid hn3
  have HR3 := Lib.hid hr3
  have HZ3 := Lib.hid hz3
  clear hn1 hr1 hz1 hn3 hr3 hz3
  obtain ⟨bs, hbs⟩ : ∃ bs, bs = s.data.toList := ⟨_, rfl⟩
  have HBS := Lib.hid hbs
  have hsl : Hid (s.size = bs.length) := by show _ = _; rw [hbs]; exact (str_len s).symm
  clear hbs
  obtain ⟨i0, hi, hy0, hy1, hy2⟩ := info_parts info5
  have kf := fun W (h1 : RdL W A1 l1) (h3 : RdL W A3 l3) => few_law nm1 a1 b1 c1 A1 n1 cp1 l1 nm2 a2 b2 c2 nm3 qu3 pr3 a3 b3 c3 A3 n3 cp3 l3 ap3 ga3 sz3 W zn1 zn2 zn3 zq3 za3 zg3 HN1 (Lib.hid h1) HZ1 hc1 hm1 HN3 (Lib.hid h3) HZ3 hc3 hm3
  have kn := fun W (h : RdL W A1 l1) => node_any nm1 a1 b1 c1 A1 n1 cp1 l1 W (by omega) HN1 (Lib.hid h) HZ1 hc1 hm1
  have kq := fun W => queue_any nm2 a2 b2 c2 W (by omega)
  have kt := fun W (h : RdL W A3 l3) => task_any nm3 qu3 pr3 a3 b3 c3 A3 n3 cp3 l3 ap3 ga3 sz3 W (by omega) (by omega) HN3 (Lib.hid h) HZ3 hc3 hm3 (by omega) (by omega)
  obtain ⟨L1, hL1⟩ : ∃ L, L = nodeBytes nm1 a1 b1 c1 l1 := ⟨_, rfl⟩
  obtain ⟨L2, hL2⟩ : ∃ L, L = queueBytes nm2 a2 b2 c2 := ⟨_, rfl⟩
  obtain ⟨L3, hL3⟩ : ∃ L, L = taskBytes nm3 qu3 pr3 a3 b3 c3 l3 ap3 ga3 sz3 := ⟨_, rfl⟩
  obtain ⟨N1, hN1⟩ : ∃ N, N = (bs ++ L1).length := ⟨_, rfl⟩
  obtain ⟨N2, hN2⟩ : ∃ N, N = (bs ++ L2).length := ⟨_, rfl⟩
  obtain ⟨N3, hN3⟩ : ∃ N, N = (bs ++ L3).length := ⟨_, rfl⟩
  have pn := fun A c W (hr : Rd W A bs) (h : RdL W A1 l1) => putNode_any A c s.size bs nm1 a1 b1 c1 A1 n1 cp1 l1 N1 W hsl (Lib.hid hr) (by omega) (by omega) HN1 (Lib.hid h) HZ1 hc1 hm1 (by show _ = _; rw [hN1, hL1])
  have pq := fun A c W (hr : Rd W A bs) => putQueue_any A c s.size bs nm2 a2 b2 c2 N2 W hsl (Lib.hid hr) (by omega) (by omega) (by show _ = _; rw [hN2, hL2])
  have pt := fun A c W (hr : Rd W A bs) (h : RdL W A3 l3) => putTask_any A c s.size bs nm3 qu3 pr3 a3 b3 c3 A3 n3 cp3 l3 ap3 ga3 sz3 N3 W hsl (Lib.hid hr) (by omega) (by omega) (by omega) HN3 (Lib.hid h) HZ3 hc3 hm3 (by omega) (by omega) (by show _ = _; rw [hN3, hL3])
  rw [← hL1] at pn
  rw [← hL2] at pq
  rw [← hL3] at pt
  generalize fewP l1 l3 _ = f at kf
  have HB1 := Lib.hid hL1
  have HB2 := Lib.hid hL2
  have HB3 := Lib.hid hL3
  have HL1 := Lib.hid hN1
  have HL2 := Lib.hid hN2
  have HL3 := Lib.hid hN3
  have KN := Lib.hid kn
  have KQ := Lib.hid kq
  have KT := Lib.hid kt
  have PN := Lib.hid pn
  have PQ := Lib.hid pq
  have PT := Lib.hid pt
  clear hL1 hL2 hL3 hN1 hN2 hN3 kn kq kt pn pq pt
  cases f
  case false =>
    have KF := Lib.hid kf
    clear kf
    have T0 : Hid (Below w.heap.size w (((w.alloc (.cells #[.string nm1, .int .i64 a1, .int .i64 b1, .int .i64 c1, .slice A1 n1 cp1] 26)).alloc (.cells #[.string nm2, .int .i64 a2, .int .i64 b2, .int .i64 c2] 28)).alloc (.cells #[.string nm3, .string qu3, .int .i64 pr3, .int .i64 a3, .int .i64 b3, .int .i64 c3, .slice A3 n3 cp3, .string ap3, .string ga3, .int .i64 sz3] 30)) ∧ Bk (((w.alloc (.cells #[.string nm1, .int .i64 a1, .int .i64 b1, .int .i64 c1, .slice A1 n1 cp1] 26)).alloc (.cells #[.string nm2, .int .i64 a2, .int .i64 b2, .int .i64 c2] 28)).alloc (.cells #[.string nm3, .string qu3, .int .i64 pr3, .int .i64 a3, .int .i64 b3, .int .i64 c3, .slice A3 n3 cp3, .string ap3, .string ga3, .int .i64 sz3] 30)) w.heap.size 26 #[.string nm1, .int .i64 a1, .int .i64 b1, .int .i64 c1, .slice A1 n1 cp1] ∧ Bk (((w.alloc (.cells #[.string nm1, .int .i64 a1, .int .i64 b1, .int .i64 c1, .slice A1 n1 cp1] 26)).alloc (.cells #[.string nm2, .int .i64 a2, .int .i64 b2, .int .i64 c2] 28)).alloc (.cells #[.string nm3, .string qu3, .int .i64 pr3, .int .i64 a3, .int .i64 b3, .int .i64 c3, .slice A3 n3 cp3, .string ap3, .string ga3, .int .i64 sz3] 30)) (w.heap.size + 1) 28 #[.string nm2, .int .i64 a2, .int .i64 b2, .int .i64 c2] ∧ Bk (((w.alloc (.cells #[.string nm1, .int .i64 a1, .int .i64 b1, .int .i64 c1, .slice A1 n1 cp1] 26)).alloc (.cells #[.string nm2, .int .i64 a2, .int .i64 b2, .int .i64 c2] 28)).alloc (.cells #[.string nm3, .string qu3, .int .i64 pr3, .int .i64 a3, .int .i64 b3, .int .i64 c3, .slice A3 n3 cp3, .string ap3, .string ga3, .int .i64 sz3] 30)) (w.heap.size + 2) 30 #[.string nm3, .string qu3, .int .i64 pr3, .int .i64 a3, .int .i64 b3, .int .i64 c3, .slice A3 n3 cp3, .string ap3, .string ga3, .int .i64 sz3]) := ⟨(((Below.refl _ _).alloc (Nat.le_refl _) _).alloc (by simp) _).alloc (by simp; omega) _, ((Bk.fresh _ _ _).allocs _).allocs _, (Bk.freshAt _ _ _ (by simp)).allocs _, Bk.freshAt _ _ _ (by simp)⟩
    go_enter Try.func5, Try.ntmps5
    go_wp2_with fail
    refine (awake_any _).mono ?_
    rintro e w1 ⟨rfl, hb1⟩
    have T1 : Hid (Below w.heap.size w w1 ∧ Bk w1 w.heap.size 26 #[.string nm1, .int .i64 a1, .int .i64 b1, .int .i64 c1, .slice A1 n1 cp1] ∧ Bk w1 (w.heap.size + 1) 28 #[.string nm2, .int .i64 a2, .int .i64 b2, .int .i64 c2] ∧ Bk w1 (w.heap.size + 2) 30 #[.string nm3, .string qu3, .int .i64 pr3, .int .i64 a3, .int .i64 b3, .int .i64 c3, .slice A3 n3 cp3, .string ap3, .string ga3, .int .i64 sz3]) := ⟨T0.out.1.trans ((hb1).mono T0.out.1.size), T0.out.2.1.later (hb1), T0.out.2.2.1.later (hb1), T0.out.2.2.2.later (hb1)⟩
    clear hb1 T0
    have k0_0 : w1.cell? ⟨w.heap.size, 0, none⟩ = some (.string nm1) := T1.out.2.1.cellAt 0
    have k0_1 : w1.cell? ⟨w.heap.size, 1, none⟩ = some (.int .i64 a1) := T1.out.2.1.cellAt 1
    have k0_2 : w1.cell? ⟨w.heap.size, 2, none⟩ = some (.int .i64 b1) := T1.out.2.1.cellAt 2
    have k0_3 : w1.cell? ⟨w.heap.size, 3, none⟩ = some (.int .i64 c1) := T1.out.2.1.cellAt 3
    have k0_4 : w1.cell? ⟨w.heap.size, 4, none⟩ = some (.slice A1 n1 cp1) := T1.out.2.1.cellAt 4
    have k1_0 : w1.cell? ⟨(w.heap.size + 1), 0, none⟩ = some (.string nm2) := T1.out.2.2.1.cellAt 0
    have k1_1 : w1.cell? ⟨(w.heap.size + 1), 1, none⟩ = some (.int .i64 a2) := T1.out.2.2.1.cellAt 1
    have k1_2 : w1.cell? ⟨(w.heap.size + 1), 2, none⟩ = some (.int .i64 b2) := T1.out.2.2.1.cellAt 2
    have k1_3 : w1.cell? ⟨(w.heap.size + 1), 3, none⟩ = some (.int .i64 c2) := T1.out.2.2.1.cellAt 3
    have k2_0 : w1.cell? ⟨(w.heap.size + 2), 0, none⟩ = some (.string nm3) := T1.out.2.2.2.cellAt 0
    have k2_1 : w1.cell? ⟨(w.heap.size + 2), 1, none⟩ = some (.string qu3) := T1.out.2.2.2.cellAt 1
    have k2_2 : w1.cell? ⟨(w.heap.size + 2), 2, none⟩ = some (.int .i64 pr3) := T1.out.2.2.2.cellAt 2
    have k2_3 : w1.cell? ⟨(w.heap.size + 2), 3, none⟩ = some (.int .i64 a3) := T1.out.2.2.2.cellAt 3
    have k2_4 : w1.cell? ⟨(w.heap.size + 2), 4, none⟩ = some (.int .i64 b3) := T1.out.2.2.2.cellAt 4
    have k2_5 : w1.cell? ⟨(w.heap.size + 2), 5, none⟩ = some (.int .i64 c3) := T1.out.2.2.2.cellAt 5
    have k2_6 : w1.cell? ⟨(w.heap.size + 2), 6, none⟩ = some (.slice A3 n3 cp3) := T1.out.2.2.2.cellAt 6
    have k2_7 : w1.cell? ⟨(w.heap.size + 2), 7, none⟩ = some (.string ap3) := T1.out.2.2.2.cellAt 7
    have k2_8 : w1.cell? ⟨(w.heap.size + 2), 8, none⟩ = some (.string ga3) := T1.out.2.2.2.cellAt 8
    have k2_9 : w1.cell? ⟨(w.heap.size + 2), 9, none⟩ = some (.int .i64 sz3) := T1.out.2.2.2.cellAt 9
    have zk : w.heap.size + 2 < w1.heap.size := T1.out.2.2.2.here
    go_wp2_with fail
    refine (KF.out _ (HR1.out.later T1.out.1) (HR3.out.later T1.out.1)).mono ?_
    rintro e w2 ⟨rfl, hb2⟩
    have T2 : Hid (Below w.heap.size w w2 ∧ Bk w2 w.heap.size 26 #[.string nm1, .int .i64 a1, .int .i64 b1, .int .i64 c1, .slice A1 n1 cp1] ∧ Bk w2 (w.heap.size + 1) 28 #[.string nm2, .int .i64 a2, .int .i64 b2, .int .i64 c2] ∧ Bk w2 (w.heap.size + 2) 30 #[.string nm3, .string qu3, .int .i64 pr3, .int .i64 a3, .int .i64 b3, .int .i64 c3, .slice A3 n3 cp3, .string ap3, .string ga3, .int .i64 sz3]) := ⟨T1.out.1.trans ((hb2).mono T1.out.1.size), T1.out.2.1.later (hb2), T1.out.2.2.1.later (hb2), T1.out.2.2.2.later (hb2)⟩
    clear hb2 T1 zk k0_0 k0_1 k0_2 k0_3 k0_4 k1_0 k1_1 k1_2 k1_3 k2_0 k2_1 k2_2 k2_3 k2_4 k2_5 k2_6 k2_7 k2_8 k2_9
    go_wp2_with fail
    refine (awake_any _).mono ?_
    rintro e w3 ⟨rfl, hb3⟩
    go_wp2
    go_ret
    exact ⟨rfl, T2.out.1.trans (hb3.mono T2.out.1.size)⟩
  case true =>
    have KF := Lib.hid kf
    clear kf
    have T0 : Hid (Below w.heap.size w (((w.alloc (.cells #[.string nm1, .int .i64 a1, .int .i64 b1, .int .i64 c1, .slice A1 n1 cp1] 26)).alloc (.cells #[.string nm2, .int .i64 a2, .int .i64 b2, .int .i64 c2] 28)).alloc (.cells #[.string nm3, .string qu3, .int .i64 pr3, .int .i64 a3, .int .i64 b3, .int .i64 c3, .slice A3 n3 cp3, .string ap3, .string ga3, .int .i64 sz3] 30)) ∧ Bk (((w.alloc (.cells #[.string nm1, .int .i64 a1, .int .i64 b1, .int .i64 c1, .slice A1 n1 cp1] 26)).alloc (.cells #[.string nm2, .int .i64 a2, .int .i64 b2, .int .i64 c2] 28)).alloc (.cells #[.string nm3, .string qu3, .int .i64 pr3, .int .i64 a3, .int .i64 b3, .int .i64 c3, .slice A3 n3 cp3, .string ap3, .string ga3, .int .i64 sz3] 30)) w.heap.size 26 #[.string nm1, .int .i64 a1, .int .i64 b1, .int .i64 c1, .slice A1 n1 cp1] ∧ Bk (((w.alloc (.cells #[.string nm1, .int .i64 a1, .int .i64 b1, .int .i64 c1, .slice A1 n1 cp1] 26)).alloc (.cells #[.string nm2, .int .i64 a2, .int .i64 b2, .int .i64 c2] 28)).alloc (.cells #[.string nm3, .string qu3, .int .i64 pr3, .int .i64 a3, .int .i64 b3, .int .i64 c3, .slice A3 n3 cp3, .string ap3, .string ga3, .int .i64 sz3] 30)) (w.heap.size + 1) 28 #[.string nm2, .int .i64 a2, .int .i64 b2, .int .i64 c2] ∧ Bk (((w.alloc (.cells #[.string nm1, .int .i64 a1, .int .i64 b1, .int .i64 c1, .slice A1 n1 cp1] 26)).alloc (.cells #[.string nm2, .int .i64 a2, .int .i64 b2, .int .i64 c2] 28)).alloc (.cells #[.string nm3, .string qu3, .int .i64 pr3, .int .i64 a3, .int .i64 b3, .int .i64 c3, .slice A3 n3 cp3, .string ap3, .string ga3, .int .i64 sz3] 30)) (w.heap.size + 2) 30 #[.string nm3, .string qu3, .int .i64 pr3, .int .i64 a3, .int .i64 b3, .int .i64 c3, .slice A3 n3 cp3, .string ap3, .string ga3, .int .i64 sz3]) := ⟨(((Below.refl _ _).alloc (Nat.le_refl _) _).alloc (by simp) _).alloc (by simp; omega) _, ((Bk.fresh _ _ _).allocs _).allocs _, (Bk.freshAt _ _ _ (by simp)).allocs _, Bk.freshAt _ _ _ (by simp)⟩
    go_enter Try.func5, Try.ntmps5
    go_wp2_with fail
    refine (awake_any _).mono ?_
    rintro e w1 ⟨rfl, hb1⟩
    have T1 : Hid (Below w.heap.size w w1 ∧ Bk w1 w.heap.size 26 #[.string nm1, .int .i64 a1, .int .i64 b1, .int .i64 c1, .slice A1 n1 cp1] ∧ Bk w1 (w.heap.size + 1) 28 #[.string nm2, .int .i64 a2, .int .i64 b2, .int .i64 c2] ∧ Bk w1 (w.heap.size + 2) 30 #[.string nm3, .string qu3, .int .i64 pr3, .int .i64 a3, .int .i64 b3, .int .i64 c3, .slice A3 n3 cp3, .string ap3, .string ga3, .int .i64 sz3]) := ⟨T0.out.1.trans ((hb1).mono T0.out.1.size), T0.out.2.1.later (hb1), T0.out.2.2.1.later (hb1), T0.out.2.2.2.later (hb1)⟩
    clear hb1 T0
    have k0_0 : w1.cell? ⟨w.heap.size, 0, none⟩ = some (.string nm1) := T1.out.2.1.cellAt 0
    have k0_1 : w1.cell? ⟨w.heap.size, 1, none⟩ = some (.int .i64 a1) := T1.out.2.1.cellAt 1
    have k0_2 : w1.cell? ⟨w.heap.size, 2, none⟩ = some (.int .i64 b1) := T1.out.2.1.cellAt 2
    have k0_3 : w1.cell? ⟨w.heap.size, 3, none⟩ = some (.int .i64 c1) := T1.out.2.1.cellAt 3
    have k0_4 : w1.cell? ⟨w.heap.size, 4, none⟩ = some (.slice A1 n1 cp1) := T1.out.2.1.cellAt 4
    have k1_0 : w1.cell? ⟨(w.heap.size + 1), 0, none⟩ = some (.string nm2) := T1.out.2.2.1.cellAt 0
    have k1_1 : w1.cell? ⟨(w.heap.size + 1), 1, none⟩ = some (.int .i64 a2) := T1.out.2.2.1.cellAt 1
    have k1_2 : w1.cell? ⟨(w.heap.size + 1), 2, none⟩ = some (.int .i64 b2) := T1.out.2.2.1.cellAt 2
    have k1_3 : w1.cell? ⟨(w.heap.size + 1), 3, none⟩ = some (.int .i64 c2) := T1.out.2.2.1.cellAt 3
    have k2_0 : w1.cell? ⟨(w.heap.size + 2), 0, none⟩ = some (.string nm3) := T1.out.2.2.2.cellAt 0
    have k2_1 : w1.cell? ⟨(w.heap.size + 2), 1, none⟩ = some (.string qu3) := T1.out.2.2.2.cellAt 1
    have k2_2 : w1.cell? ⟨(w.heap.size + 2), 2, none⟩ = some (.int .i64 pr3) := T1.out.2.2.2.cellAt 2
    have k2_3 : w1.cell? ⟨(w.heap.size + 2), 3, none⟩ = some (.int .i64 a3) := T1.out.2.2.2.cellAt 3
    have k2_4 : w1.cell? ⟨(w.heap.size + 2), 4, none⟩ = some (.int .i64 b3) := T1.out.2.2.2.cellAt 4
    have k2_5 : w1.cell? ⟨(w.heap.size + 2), 5, none⟩ = some (.int .i64 c3) := T1.out.2.2.2.cellAt 5
    have k2_6 : w1.cell? ⟨(w.heap.size + 2), 6, none⟩ = some (.slice A3 n3 cp3) := T1.out.2.2.2.cellAt 6
    have k2_7 : w1.cell? ⟨(w.heap.size + 2), 7, none⟩ = some (.string ap3) := T1.out.2.2.2.cellAt 7
    have k2_8 : w1.cell? ⟨(w.heap.size + 2), 8, none⟩ = some (.string ga3) := T1.out.2.2.2.cellAt 8
    have k2_9 : w1.cell? ⟨(w.heap.size + 2), 9, none⟩ = some (.int .i64 sz3) := T1.out.2.2.2.cellAt 9
    have zk : w.heap.size + 2 < w1.heap.size := T1.out.2.2.2.here
    go_wp2_with fail
    refine (KF.out _ (HR1.out.later T1.out.1) (HR3.out.later T1.out.1)).mono ?_
    rintro e w2 ⟨rfl, hb2⟩
    have T2 : Hid (Below w.heap.size w w2 ∧ Bk w2 w.heap.size 26 #[.string nm1, .int .i64 a1, .int .i64 b1, .int .i64 c1, .slice A1 n1 cp1] ∧ Bk w2 (w.heap.size + 1) 28 #[.string nm2, .int .i64 a2, .int .i64 b2, .int .i64 c2] ∧ Bk w2 (w.heap.size + 2) 30 #[.string nm3, .string qu3, .int .i64 pr3, .int .i64 a3, .int .i64 b3, .int .i64 c3, .slice A3 n3 cp3, .string ap3, .string ga3, .int .i64 sz3]) := ⟨T1.out.1.trans ((hb2).mono T1.out.1.size), T1.out.2.1.later (hb2), T1.out.2.2.1.later (hb2), T1.out.2.2.2.later (hb2)⟩
    clear hb2 T1 zk k0_0 k0_1 k0_2 k0_3 k0_4 k1_0 k1_1 k1_2 k1_3 k2_0 k2_1 k2_2 k2_3 k2_4 k2_5 k2_6 k2_7 k2_8 k2_9
    have m0_0 : w2.cell? ⟨w.heap.size, 0, none⟩ = some (.string nm1) := T2.out.2.1.cellAt 0
    have m0_1 : w2.cell? ⟨w.heap.size, 1, none⟩ = some (.int .i64 a1) := T2.out.2.1.cellAt 1
    have m0_2 : w2.cell? ⟨w.heap.size, 2, none⟩ = some (.int .i64 b1) := T2.out.2.1.cellAt 2
    have m0_3 : w2.cell? ⟨w.heap.size, 3, none⟩ = some (.int .i64 c1) := T2.out.2.1.cellAt 3
    have m0_4 : w2.cell? ⟨w.heap.size, 4, none⟩ = some (.slice A1 n1 cp1) := T2.out.2.1.cellAt 4
    have m1_0 : w2.cell? ⟨(w.heap.size + 1), 0, none⟩ = some (.string nm2) := T2.out.2.2.1.cellAt 0
    have m1_1 : w2.cell? ⟨(w.heap.size + 1), 1, none⟩ = some (.int .i64 a2) := T2.out.2.2.1.cellAt 1
    have m1_2 : w2.cell? ⟨(w.heap.size + 1), 2, none⟩ = some (.int .i64 b2) := T2.out.2.2.1.cellAt 2
    have m1_3 : w2.cell? ⟨(w.heap.size + 1), 3, none⟩ = some (.int .i64 c2) := T2.out.2.2.1.cellAt 3
    have m2_0 : w2.cell? ⟨(w.heap.size + 2), 0, none⟩ = some (.string nm3) := T2.out.2.2.2.cellAt 0
    have m2_1 : w2.cell? ⟨(w.heap.size + 2), 1, none⟩ = some (.string qu3) := T2.out.2.2.2.cellAt 1
    have m2_2 : w2.cell? ⟨(w.heap.size + 2), 2, none⟩ = some (.int .i64 pr3) := T2.out.2.2.2.cellAt 2
    have m2_3 : w2.cell? ⟨(w.heap.size + 2), 3, none⟩ = some (.int .i64 a3) := T2.out.2.2.2.cellAt 3
    have m2_4 : w2.cell? ⟨(w.heap.size + 2), 4, none⟩ = some (.int .i64 b3) := T2.out.2.2.2.cellAt 4
    have m2_5 : w2.cell? ⟨(w.heap.size + 2), 5, none⟩ = some (.int .i64 c3) := T2.out.2.2.2.cellAt 5
    have m2_6 : w2.cell? ⟨(w.heap.size + 2), 6, none⟩ = some (.slice A3 n3 cp3) := T2.out.2.2.2.cellAt 6
    have m2_7 : w2.cell? ⟨(w.heap.size + 2), 7, none⟩ = some (.string ap3) := T2.out.2.2.2.cellAt 7
    have m2_8 : w2.cell? ⟨(w.heap.size + 2), 8, none⟩ = some (.string ga3) := T2.out.2.2.2.cellAt 8
    have m2_9 : w2.cell? ⟨(w.heap.size + 2), 9, none⟩ = some (.int .i64 sz3) := T2.out.2.2.2.cellAt 9
    have zm : w.heap.size + 2 < w2.heap.size := T2.out.2.2.2.here
    have zm0 : w.heap.size < w2.heap.size := by omega
    have zm1 : w.heap.size + 1 < w2.heap.size := by omega
    have M1 : Hid (RdL w2 A1 l1) := HR1.out.later T2.out.1
    have M3 : Hid (RdL w2 A3 l3) := HR3.out.later T2.out.1
    go_upto_region 4 with (fail)
    go_cut [14, 15, 16] from 47 to 58 (fun x y z wx => Puts w2 bs L1 L2 L3 N1 N2 N3 x y z wx)
    case first =>
      refine wp_region_held_drew (S := fun W => Below w2.heap.size w2 W) (by kernel_rfl) (Below.drew (Below.refl _ _)) (fun hS0 => ?_)
      refine wpAnyH_take (i := 0) (v := ?_) rfl (by kernel_rfl) (by kernel_rfl) (by kernel_rfl) (fun _ _ _ h => h) (Or.inl ⟨by rfl, ?_⟩) hS0 ?_
      rotate_left
      · intro W _; go_simp; try with_reducible rfl
      try simp only [Act.put, List.getElem_toArray, List.getElem_cons_zero, List.setIfInBounds_toArray, List.set_cons_zero, List.set_cons_succ]
      refine wpAnyH_take (i := 2) (v := ?_) rfl (by kernel_rfl) (by kernel_rfl) (by kernel_rfl) (fun _ _ _ h => h) (Or.inl ⟨by rfl, ?_⟩) hS0 ?_
      rotate_left
      · intro W hSW; have hx : ∀ b o, b < w2.heap.size → W.cell? ⟨b, o, none⟩ = w2.cell? ⟨b, o, none⟩ := fun b o h => hSW.cell (p := ⟨b, o, none⟩) h; go_simp; try with_reducible rfl
      try simp only [Act.put, List.getElem_toArray, List.getElem_cons_zero, List.getElem_cons_succ, List.setIfInBounds_toArray, List.set_cons_zero, List.set_cons_succ]
      refine wpAnyH_take (i := 4) (v := ?_) rfl (by kernel_rfl) (by kernel_rfl) (by kernel_rfl) (fun _ _ _ h => h) (Or.inl ⟨by rfl, ?_⟩) hS0 ?_
      rotate_left
      · intro W _; go_simp; try with_reducible rfl
      try simp only [Act.put, List.getElem_toArray, List.getElem_cons_zero, List.getElem_cons_succ, List.setIfInBounds_toArray, List.set_cons_zero, List.set_cons_succ]
      refine wpAnyH_take (i := 6) (v := ?_) rfl (by kernel_rfl) (by kernel_rfl) (by kernel_rfl) (fun _ _ _ h => h) (Or.inl ⟨by rfl, ?_⟩) hS0 ?_
      rotate_left
      · intro W hSW; have hx : ∀ b o, b < w2.heap.size → W.cell? ⟨b, o, none⟩ = w2.cell? ⟨b, o, none⟩ := fun b o h => hSW.cell (p := ⟨b, o, none⟩) h; go_simp; try with_reducible rfl
      try simp only [Act.put, List.getElem_toArray, List.getElem_cons_zero, List.getElem_cons_succ, List.setIfInBounds_toArray, List.set_cons_zero, List.set_cons_succ]
      refine wpAnyH_take (i := 8) (v := ?_) rfl (by kernel_rfl) (by kernel_rfl) (by kernel_rfl) (fun _ _ _ h => h) (Or.inl ⟨by rfl, ?_⟩) hS0 ?_
      rotate_left
      · intro W _; go_simp; try with_reducible rfl
      try simp only [Act.put, List.getElem_toArray, List.getElem_cons_zero, List.getElem_cons_succ, List.setIfInBounds_toArray, List.set_cons_zero, List.set_cons_succ]
      refine wpAnyH_take (i := 10) (v := ?_) rfl (by kernel_rfl) (by kernel_rfl) (by kernel_rfl) (fun _ _ _ h => h) (Or.inl ⟨by rfl, ?_⟩) hS0 ?_
      rotate_left
      · intro W hSW; have hx : ∀ b o, b < w2.heap.size → W.cell? ⟨b, o, none⟩ = w2.cell? ⟨b, o, none⟩ := fun b o h => hSW.cell (p := ⟨b, o, none⟩) h; go_simp; try with_reducible rfl
      try simp only [Act.put, List.getElem_toArray, List.getElem_cons_zero, List.getElem_cons_succ, List.setIfInBounds_toArray, List.set_cons_zero, List.set_cons_succ]
      refine wpAnyH_ready (rs := [1, 5, 9]) (by kernel_rfl) (by simp) ?_
      refine (AllReadyH.cons rfl (fun K hK => ?_) (AllReadyH.cons rfl (fun K hK => ?_) (AllReadyH.cons rfl (fun K hK => ?_) AllReadyH.nil)))
      · obtain ⟨cA1, wA1, hA1, rA1, bA1, sA1, lA1, mA1⟩ := run_bytes_rd (P := Try.prog) w2.drew (src := 9) (dst := 36) (e := 5) (s := s) Try.underlying9 Try.underlying36 Try.underlying5 (by unfold maxLen; omega)
        rw [← HBS.out] at rA1
        go_simp
        refine hK.out _ _ (hS0.trans (bA1.mono hS0.size)) (fun hS1 => ?_)
        clear hK K
        try simp only [Act.put, List.getElem_toArray, List.getElem_cons_zero, List.getElem_cons_succ, List.setIfInBounds_toArray, List.set_cons_zero, List.set_cons_succ]
        refine wpAnyH_ready (rs := [3, 5, 9]) (by kernel_rfl) (by simp) ?_
        refine (AllReadyH.cons rfl (fun K hK => ?_) (AllReadyH.cons rfl (fun K hK => ?_) (AllReadyH.cons rfl (fun K hK => ?_) AllReadyH.nil)))
        · go_simp
          refine (PN.out _ _ _ rA1 (M1.out.later hS1)).mono ?_
          rintro e w1p ⟨G1, C1, rfl, ro1, co1, cm1, ho1, hbp1⟩
          go_simp
          refine hK.out _ _ (hS1.trans (hbp1.mono hS1.size)) (fun hS2 => ?_)
          clear hK K
          try simp only [Act.put, List.getElem_toArray, List.getElem_cons_zero, List.getElem_cons_succ, List.setIfInBounds_toArray, List.set_cons_zero, List.set_cons_succ]
          refine wpAnyH_ready (rs := [5, 9]) (by kernel_rfl) (by simp) ?_
          refine (AllReadyH.cons rfl (fun K hK => ?_) (AllReadyH.cons rfl (fun K hK => ?_) AllReadyH.nil))
          · obtain ⟨cA2, wA2, hA2, rA2, bA2, sA2, lA2, mA2⟩ := run_bytes_rd (P := Try.prog) w1p (src := 9) (dst := 36) (e := 5) (s := s) Try.underlying9 Try.underlying36 Try.underlying5 (by unfold maxLen; omega)
            rw [← HBS.out] at rA2
            have ro1x := ro1.below bA2
            go_simp
            refine hK.out _ _ (hS2.trans (bA2.mono hS2.size)) (fun hS3 => ?_)
            clear hK K
            try simp only [Act.put, List.getElem_toArray, List.getElem_cons_zero, List.getElem_cons_succ, List.setIfInBounds_toArray, List.set_cons_zero, List.set_cons_succ]
            refine wpAnyH_ready (rs := [7, 9]) (by kernel_rfl) (by simp) ?_
            refine (AllReadyH.cons rfl (fun K hK => ?_) (AllReadyH.cons rfl (fun K hK => ?_) AllReadyH.nil))
            · go_simp
              refine (PQ.out _ _ _ rA2).mono ?_
              rintro e w2p ⟨G2, C2, rfl, ro2, co2, cm2, ho2, hbp2⟩
              have ro1xx := ro1x.below hbp2
              go_simp
              refine hK.out _ _ (hS3.trans (hbp2.mono hS3.size)) (fun hS4 => ?_)
              clear hK K
              try simp only [Act.put, List.getElem_toArray, List.getElem_cons_zero, List.getElem_cons_succ, List.setIfInBounds_toArray, List.set_cons_zero, List.set_cons_succ]
              refine wpAnyH_ready (rs := [9]) (by kernel_rfl) (by simp) ?_
              refine (AllReadyH.cons rfl (fun K hK => ?_) AllReadyH.nil)
              · obtain ⟨cA3, wA3, hA3, rA3, bA3, sA3, lA3, mA3⟩ := run_bytes_rd (P := Try.prog) w2p (src := 9) (dst := 36) (e := 5) (s := s) Try.underlying9 Try.underlying36 Try.underlying5 (by unfold maxLen; omega)
                rw [← HBS.out] at rA3
                have ro1xxx := ro1xx.below bA3
                have ro2x := ro2.below bA3
                go_simp
                refine hK.out _ _ (hS4.trans (bA3.mono hS4.size)) (fun hS5 => ?_)
                clear hK K
                try simp only [Act.put, List.getElem_toArray, List.getElem_cons_zero, List.getElem_cons_succ, List.setIfInBounds_toArray, List.set_cons_zero, List.set_cons_succ]
                refine wpAnyH_ready (rs := [11]) (by kernel_rfl) (by simp) ?_
                refine (AllReadyH.cons rfl (fun K hK => ?_) AllReadyH.nil)
                · go_simp
                  refine (PT.out _ _ _ rA3 (M3.out.later hS5)).mono ?_
                  rintro e w3p ⟨G3, C3, rfl, ro3, co3, cm3, ho3, hbp3⟩
                  have ro1xxxx := ro1xxx.below hbp3
                  have ro2xx := ro2x.below hbp3
                  go_simp
                  refine hK.out _ _ (hS5.trans (hbp3.mono hS5.size)) (fun hS6 => ?_)
                  clear hK K
                  try simp only [Act.put, List.getElem_toArray, List.getElem_cons_zero, List.getElem_cons_succ, List.setIfInBounds_toArray, List.set_cons_zero, List.set_cons_succ]
                  refine wpAnyH_take (i := 12) (v := ?_) rfl (by kernel_rfl) (by kernel_rfl) (by kernel_rfl) (fun _ _ _ h => h) (Or.inl ⟨by rfl, ?_⟩) hS6 ?_
                  rotate_left
                  · intro W _; go_simp; try with_reducible rfl
                  try simp only [Act.put, List.getElem_toArray, List.getElem_cons_zero, List.getElem_cons_succ, List.setIfInBounds_toArray, List.set_cons_zero, List.set_cons_succ]
                  refine wpAnyH_take (i := 13) (v := ?_) rfl (by kernel_rfl) (by kernel_rfl) (by kernel_rfl) (fun _ _ _ h => h) (Or.inl ⟨by rfl, ?_⟩) hS6 ?_
                  rotate_left
                  · intro W _; go_simp; try with_reducible rfl
                  try simp only [Act.put, List.getElem_toArray, List.getElem_cons_zero, List.getElem_cons_succ, List.setIfInBounds_toArray, List.set_cons_zero, List.set_cons_succ]
                  refine wpAnyH_take (i := 14) (v := ?_) rfl (by kernel_rfl) (by kernel_rfl) (by kernel_rfl) (fun _ _ _ h => h) (Or.inl ⟨by rfl, ?_⟩) hS6 ?_
                  rotate_left
                  · intro W _; go_simp; try with_reducible rfl
                  try simp only [Act.put, List.getElem_toArray, List.getElem_cons_zero, List.getElem_cons_succ, List.setIfInBounds_toArray, List.set_cons_zero, List.set_cons_succ]
                  refine wpAnyH_done (by kernel_rfl) ?_ _
                  go_wp2_with fail
                  go_meet
                  exact ⟨G1, C1, G2, C2, G3, C3, rfl, rfl, rfl, ro1xxxx, ro2xx, ro3, ⟨co1, cm1⟩, ⟨co2, cm2⟩, ⟨co3, cm3⟩, ho1, ho2, ho3, hS6⟩
            · obtain ⟨cA3, wA3, hA3, rA3, bA3, sA3, lA3, mA3⟩ := run_bytes_rd (P := Try.prog) wA2 (src := 9) (dst := 36) (e := 5) (s := s) Try.underlying9 Try.underlying36 Try.underlying5 (by unfold maxLen; omega)
              rw [← HBS.out] at rA3
              have ro1xx := ro1x.below bA3
              have rA2x := rA2.below bA3
              go_simp
              refine hK.out _ _ (hS3.trans (bA3.mono hS3.size)) (fun hS4 => ?_)
              clear hK K
              try simp only [Act.put, List.getElem_toArray, List.getElem_cons_zero, List.getElem_cons_succ, List.setIfInBounds_toArray, List.set_cons_zero, List.set_cons_succ]
              refine wpAnyH_ready (rs := [7]) (by kernel_rfl) (by simp) ?_
              refine (AllReadyH.cons rfl (fun K hK => ?_) AllReadyH.nil)
              · go_simp
                refine (PQ.out _ _ _ rA2x).mono ?_
                rintro e w2p ⟨G2, C2, rfl, ro2, co2, cm2, ho2, hbp2⟩
                have ro1xxx := ro1xx.below hbp2
                have rA3x := rA3.below hbp2
                go_simp
                refine hK.out _ _ (hS4.trans (hbp2.mono hS4.size)) (fun hS5 => ?_)
                clear hK K
                try simp only [Act.put, List.getElem_toArray, List.getElem_cons_zero, List.getElem_cons_succ, List.setIfInBounds_toArray, List.set_cons_zero, List.set_cons_succ]
                refine wpAnyH_ready (rs := [11]) (by kernel_rfl) (by simp) ?_
                refine (AllReadyH.cons rfl (fun K hK => ?_) AllReadyH.nil)
                · go_simp
                  refine (PT.out _ _ _ rA3x (M3.out.later hS5)).mono ?_
                  rintro e w3p ⟨G3, C3, rfl, ro3, co3, cm3, ho3, hbp3⟩
                  have ro1xxxx := ro1xxx.below hbp3
                  have ro2x := ro2.below hbp3
                  go_simp
                  refine hK.out _ _ (hS5.trans (hbp3.mono hS5.size)) (fun hS6 => ?_)
                  clear hK K
                  try simp only [Act.put, List.getElem_toArray, List.getElem_cons_zero, List.getElem_cons_succ, List.setIfInBounds_toArray, List.set_cons_zero, List.set_cons_succ]
                  refine wpAnyH_take (i := 12) (v := ?_) rfl (by kernel_rfl) (by kernel_rfl) (by kernel_rfl) (fun _ _ _ h => h) (Or.inl ⟨by rfl, ?_⟩) hS6 ?_
                  rotate_left
                  · intro W _; go_simp; try with_reducible rfl
                  try simp only [Act.put, List.getElem_toArray, List.getElem_cons_zero, List.getElem_cons_succ, List.setIfInBounds_toArray, List.set_cons_zero, List.set_cons_succ]
                  refine wpAnyH_take (i := 13) (v := ?_) rfl (by kernel_rfl) (by kernel_rfl) (by kernel_rfl) (fun _ _ _ h => h) (Or.inl ⟨by rfl, ?_⟩) hS6 ?_
                  rotate_left
                  · intro W _; go_simp; try with_reducible rfl
                  try simp only [Act.put, List.getElem_toArray, List.getElem_cons_zero, List.getElem_cons_succ, List.setIfInBounds_toArray, List.set_cons_zero, List.set_cons_succ]
                  refine wpAnyH_take (i := 14) (v := ?_) rfl (by kernel_rfl) (by kernel_rfl) (by kernel_rfl) (fun _ _ _ h => h) (Or.inl ⟨by rfl, ?_⟩) hS6 ?_
                  rotate_left
                  · intro W _; go_simp; try with_reducible rfl
                  try simp only [Act.put, List.getElem_toArray, List.getElem_cons_zero, List.getElem_cons_succ, List.setIfInBounds_toArray, List.set_cons_zero, List.set_cons_succ]
                  refine wpAnyH_done (by kernel_rfl) ?_ _
                  go_wp2_with fail
                  go_meet
                  exact ⟨G1, C1, G2, C2, G3, C3, rfl, rfl, rfl, ro1xxxx, ro2x, ro3, ⟨co1, cm1⟩, ⟨co2, cm2⟩, ⟨co3, cm3⟩, ho1, ho2, ho3, hS6⟩
          · obtain ⟨cA3, wA3, hA3, rA3, bA3, sA3, lA3, mA3⟩ := run_bytes_rd (P := Try.prog) w1p (src := 9) (dst := 36) (e := 5) (s := s) Try.underlying9 Try.underlying36 Try.underlying5 (by unfold maxLen; omega)
            rw [← HBS.out] at rA3
            have ro1x := ro1.below bA3
            go_simp
            refine hK.out _ _ (hS2.trans (bA3.mono hS2.size)) (fun hS3 => ?_)
            clear hK K
            try simp only [Act.put, List.getElem_toArray, List.getElem_cons_zero, List.getElem_cons_succ, List.setIfInBounds_toArray, List.set_cons_zero, List.set_cons_succ]
            refine wpAnyH_ready (rs := [5]) (by kernel_rfl) (by simp) ?_
            refine (AllReadyH.cons rfl (fun K hK => ?_) AllReadyH.nil)
            · obtain ⟨cA2, wA2, hA2, rA2, bA2, sA2, lA2, mA2⟩ := run_bytes_rd (P := Try.prog) wA3 (src := 9) (dst := 36) (e := 5) (s := s) Try.underlying9 Try.underlying36 Try.underlying5 (by unfold maxLen; omega)
              rw [← HBS.out] at rA2
              have ro1xx := ro1x.below bA2
              have rA3x := rA3.below bA2
              go_simp
              refine hK.out _ _ (hS3.trans (bA2.mono hS3.size)) (fun hS4 => ?_)
              clear hK K
              try simp only [Act.put, List.getElem_toArray, List.getElem_cons_zero, List.getElem_cons_succ, List.setIfInBounds_toArray, List.set_cons_zero, List.set_cons_succ]
              refine wpAnyH_ready (rs := [7]) (by kernel_rfl) (by simp) ?_
              refine (AllReadyH.cons rfl (fun K hK => ?_) AllReadyH.nil)
              · go_simp
                refine (PQ.out _ _ _ rA2).mono ?_
                rintro e w2p ⟨G2, C2, rfl, ro2, co2, cm2, ho2, hbp2⟩
                have ro1xxx := ro1xx.below hbp2
                have rA3xx := rA3x.below hbp2
                go_simp
                refine hK.out _ _ (hS4.trans (hbp2.mono hS4.size)) (fun hS5 => ?_)
                clear hK K
                try simp only [Act.put, List.getElem_toArray, List.getElem_cons_zero, List.getElem_cons_succ, List.setIfInBounds_toArray, List.set_cons_zero, List.set_cons_succ]
                refine wpAnyH_ready (rs := [11]) (by kernel_rfl) (by simp) ?_
                refine (AllReadyH.cons rfl (fun K hK => ?_) AllReadyH.nil)
                · go_simp
                  refine (PT.out _ _ _ rA3xx (M3.out.later hS5)).mono ?_
                  rintro e w3p ⟨G3, C3, rfl, ro3, co3, cm3, ho3, hbp3⟩
                  have ro1xxxx := ro1xxx.below hbp3
                  have ro2x := ro2.below hbp3
                  go_simp
                  refine hK.out _ _ (hS5.trans (hbp3.mono hS5.size)) (fun hS6 => ?_)
                  clear hK K
                  try simp only [Act.put, List.getElem_toArray, List.getElem_cons_zero, List.getElem_cons_succ, List.setIfInBounds_toArray, List.set_cons_zero, List.set_cons_succ]
                  refine wpAnyH_take (i := 12) (v := ?_) rfl (by kernel_rfl) (by kernel_rfl) (by kernel_rfl) (fun _ _ _ h => h) (Or.inl ⟨by rfl, ?_⟩) hS6 ?_
                  rotate_left
                  · intro W _; go_simp; try with_reducible rfl
                  try simp only [Act.put, List.getElem_toArray, List.getElem_cons_zero, List.getElem_cons_succ, List.setIfInBounds_toArray, List.set_cons_zero, List.set_cons_succ]
                  refine wpAnyH_take (i := 13) (v := ?_) rfl (by kernel_rfl) (by kernel_rfl) (by kernel_rfl) (fun _ _ _ h => h) (Or.inl ⟨by rfl, ?_⟩) hS6 ?_
                  rotate_left
                  · intro W _; go_simp; try with_reducible rfl
                  try simp only [Act.put, List.getElem_toArray, List.getElem_cons_zero, List.getElem_cons_succ, List.setIfInBounds_toArray, List.set_cons_zero, List.set_cons_succ]
                  refine wpAnyH_take (i := 14) (v := ?_) rfl (by kernel_rfl) (by kernel_rfl) (by kernel_rfl) (fun _ _ _ h => h) (Or.inl ⟨by rfl, ?_⟩) hS6 ?_
                  rotate_left
                  · intro W _; go_simp; try with_reducible rfl
                  try simp only [Act.put, List.getElem_toArray, List.getElem_cons_zero, List.getElem_cons_succ, List.setIfInBounds_toArray, List.set_cons_zero, List.set_cons_succ]
                  refine wpAnyH_done (by kernel_rfl) ?_ _
                  go_wp2_with fail
                  go_meet
                  exact ⟨G1, C1, G2, C2, G3, C3, rfl, rfl, rfl, ro1xxxx, ro2x, ro3, ⟨co1, cm1⟩, ⟨co2, cm2⟩, ⟨co3, cm3⟩, ho1, ho2, ho3, hS6⟩
        · obtain ⟨cA2, wA2, hA2, rA2, bA2, sA2, lA2, mA2⟩ := run_bytes_rd (P := Try.prog) wA1 (src := 9) (dst := 36) (e := 5) (s := s) Try.underlying9 Try.underlying36 Try.underlying5 (by unfold maxLen; omega)
          rw [← HBS.out] at rA2
          have rA1x := rA1.below bA2
          go_simp
          refine hK.out _ _ (hS1.trans (bA2.mono hS1.size)) (fun hS2 => ?_)
          clear hK K
          try simp only [Act.put, List.getElem_toArray, List.getElem_cons_zero, List.getElem_cons_succ, List.setIfInBounds_toArray, List.set_cons_zero, List.set_cons_succ]
          refine wpAnyH_ready (rs := [3, 9]) (by kernel_rfl) (by simp) ?_
          refine (AllReadyH.cons rfl (fun K hK => ?_) (AllReadyH.cons rfl (fun K hK => ?_) AllReadyH.nil))
          · go_simp
            refine (PN.out _ _ _ rA1x (M1.out.later hS2)).mono ?_
            rintro e w1p ⟨G1, C1, rfl, ro1, co1, cm1, ho1, hbp1⟩
            have rA2x := rA2.below hbp1
            go_simp
            refine hK.out _ _ (hS2.trans (hbp1.mono hS2.size)) (fun hS3 => ?_)
            clear hK K
            try simp only [Act.put, List.getElem_toArray, List.getElem_cons_zero, List.getElem_cons_succ, List.setIfInBounds_toArray, List.set_cons_zero, List.set_cons_succ]
            refine wpAnyH_ready (rs := [7, 9]) (by kernel_rfl) (by simp) ?_
            refine (AllReadyH.cons rfl (fun K hK => ?_) (AllReadyH.cons rfl (fun K hK => ?_) AllReadyH.nil))
            · go_simp
              refine (PQ.out _ _ _ rA2x).mono ?_
              rintro e w2p ⟨G2, C2, rfl, ro2, co2, cm2, ho2, hbp2⟩
              have ro1x := ro1.below hbp2
              go_simp
              refine hK.out _ _ (hS3.trans (hbp2.mono hS3.size)) (fun hS4 => ?_)
              clear hK K
              try simp only [Act.put, List.getElem_toArray, List.getElem_cons_zero, List.getElem_cons_succ, List.setIfInBounds_toArray, List.set_cons_zero, List.set_cons_succ]
              refine wpAnyH_ready (rs := [9]) (by kernel_rfl) (by simp) ?_
              refine (AllReadyH.cons rfl (fun K hK => ?_) AllReadyH.nil)
              · obtain ⟨cA3, wA3, hA3, rA3, bA3, sA3, lA3, mA3⟩ := run_bytes_rd (P := Try.prog) w2p (src := 9) (dst := 36) (e := 5) (s := s) Try.underlying9 Try.underlying36 Try.underlying5 (by unfold maxLen; omega)
                rw [← HBS.out] at rA3
                have ro1xx := ro1x.below bA3
                have ro2x := ro2.below bA3
                go_simp
                refine hK.out _ _ (hS4.trans (bA3.mono hS4.size)) (fun hS5 => ?_)
                clear hK K
                try simp only [Act.put, List.getElem_toArray, List.getElem_cons_zero, List.getElem_cons_succ, List.setIfInBounds_toArray, List.set_cons_zero, List.set_cons_succ]
                refine wpAnyH_ready (rs := [11]) (by kernel_rfl) (by simp) ?_
                refine (AllReadyH.cons rfl (fun K hK => ?_) AllReadyH.nil)
                · go_simp
                  refine (PT.out _ _ _ rA3 (M3.out.later hS5)).mono ?_
                  rintro e w3p ⟨G3, C3, rfl, ro3, co3, cm3, ho3, hbp3⟩
                  have ro1xxx := ro1xx.below hbp3
                  have ro2xx := ro2x.below hbp3
                  go_simp
                  refine hK.out _ _ (hS5.trans (hbp3.mono hS5.size)) (fun hS6 => ?_)
                  clear hK K
                  try simp only [Act.put, List.getElem_toArray, List.getElem_cons_zero, List.getElem_cons_succ, List.setIfInBounds_toArray, List.set_cons_zero, List.set_cons_succ]
                  refine wpAnyH_take (i := 12) (v := ?_) rfl (by kernel_rfl) (by kernel_rfl) (by kernel_rfl) (fun _ _ _ h => h) (Or.inl ⟨by rfl, ?_⟩) hS6 ?_
                  rotate_left
                  · intro W _; go_simp; try with_reducible rfl
                  try simp only [Act.put, List.getElem_toArray, List.getElem_cons_zero, List.getElem_cons_succ, List.setIfInBounds_toArray, List.set_cons_zero, List.set_cons_succ]
                  refine wpAnyH_take (i := 13) (v := ?_) rfl (by kernel_rfl) (by kernel_rfl) (by kernel_rfl) (fun _ _ _ h => h) (Or.inl ⟨by rfl, ?_⟩) hS6 ?_
                  rotate_left
                  · intro W _; go_simp; try with_reducible rfl
                  try simp only [Act.put, List.getElem_toArray, List.getElem_cons_zero, List.getElem_cons_succ, List.setIfInBounds_toArray, List.set_cons_zero, List.set_cons_succ]
                  refine wpAnyH_take (i := 14) (v := ?_) rfl (by kernel_rfl) (by kernel_rfl) (by kernel_rfl) (fun _ _ _ h => h) (Or.inl ⟨by rfl, ?_⟩) hS6 ?_
                  rotate_left
                  · intro W _; go_simp; try with_reducible rfl
                  try simp only [Act.put, List.getElem_toArray, List.getElem_cons_zero, List.getElem_cons_succ, List.setIfInBounds_toArray, List.set_cons_zero, List.set_cons_succ]
                  refine wpAnyH_done (by kernel_rfl) ?_ _
                  go_wp2_with fail
                  go_meet
                  exact ⟨G1, C1, G2, C2, G3, C3, rfl, rfl, rfl, ro1xxx, ro2xx, ro3, ⟨co1, cm1⟩, ⟨co2, cm2⟩, ⟨co3, cm3⟩, ho1, ho2, ho3, hS6⟩
            · obtain ⟨cA3, wA3, hA3, rA3, bA3, sA3, lA3, mA3⟩ := run_bytes_rd (P := Try.prog) w1p (src := 9) (dst := 36) (e := 5) (s := s) Try.underlying9 Try.underlying36 Try.underlying5 (by unfold maxLen; omega)
              rw [← HBS.out] at rA3
              have ro1x := ro1.below bA3
              have rA2xx := rA2x.below bA3
              go_simp
              refine hK.out _ _ (hS3.trans (bA3.mono hS3.size)) (fun hS4 => ?_)
              clear hK K
              try simp only [Act.put, List.getElem_toArray, List.getElem_cons_zero, List.getElem_cons_succ, List.setIfInBounds_toArray, List.set_cons_zero, List.set_cons_succ]
              refine wpAnyH_ready (rs := [7]) (by kernel_rfl) (by simp) ?_
              refine (AllReadyH.cons rfl (fun K hK => ?_) AllReadyH.nil)
              · go_simp
                refine (PQ.out _ _ _ rA2xx).mono ?_
                rintro e w2p ⟨G2, C2, rfl, ro2, co2, cm2, ho2, hbp2⟩
                have ro1xx := ro1x.below hbp2
                have rA3x := rA3.below hbp2
                go_simp
                refine hK.out _ _ (hS4.trans (hbp2.mono hS4.size)) (fun hS5 => ?_)
                clear hK K
                try simp only [Act.put, List.getElem_toArray, List.getElem_cons_zero, List.getElem_cons_succ, List.setIfInBounds_toArray, List.set_cons_zero, List.set_cons_succ]
                refine wpAnyH_ready (rs := [11]) (by kernel_rfl) (by simp) ?_
                refine (AllReadyH.cons rfl (fun K hK => ?_) AllReadyH.nil)
                · go_simp
                  refine (PT.out _ _ _ rA3x (M3.out.later hS5)).mono ?_
                  rintro e w3p ⟨G3, C3, rfl, ro3, co3, cm3, ho3, hbp3⟩
                  have ro1xxx := ro1xx.below hbp3
                  have ro2x := ro2.below hbp3
                  go_simp
                  refine hK.out _ _ (hS5.trans (hbp3.mono hS5.size)) (fun hS6 => ?_)
                  clear hK K
                  try simp only [Act.put, List.getElem_toArray, List.getElem_cons_zero, List.getElem_cons_succ, List.setIfInBounds_toArray, List.set_cons_zero, List.set_cons_succ]
                  refine wpAnyH_take (i := 12) (v := ?_) rfl (by kernel_rfl) (by kernel_rfl) (by kernel_rfl) (fun _ _ _ h => h) (Or.inl ⟨by rfl, ?_⟩) hS6 ?_
                  rotate_left
                  · intro W _; go_simp; try with_reducible rfl
                  try simp only [Act.put, List.getElem_toArray, List.getElem_cons_zero, List.getElem_cons_succ, List.setIfInBounds_toArray, List.set_cons_zero, List.set_cons_succ]
                  refine wpAnyH_take (i := 13) (v := ?_) rfl (by kernel_rfl) (by kernel_rfl) (by kernel_rfl) (fun _ _ _ h => h) (Or.inl ⟨by rfl, ?_⟩) hS6 ?_
                  rotate_left
                  · intro W _; go_simp; try with_reducible rfl
                  try simp only [Act.put, List.getElem_toArray, List.getElem_cons_zero, List.getElem_cons_succ, List.setIfInBounds_toArray, List.set_cons_zero, List.set_cons_succ]
                  refine wpAnyH_take (i := 14) (v := ?_) rfl (by kernel_rfl) (by kernel_rfl) (by kernel_rfl) (fun _ _ _ h => h) (Or.inl ⟨by rfl, ?_⟩) hS6 ?_
                  rotate_left
                  · intro W _; go_simp; try with_reducible rfl
                  try simp only [Act.put, List.getElem_toArray, List.getElem_cons_zero, List.getElem_cons_succ, List.setIfInBounds_toArray, List.set_cons_zero, List.set_cons_succ]
                  refine wpAnyH_done (by kernel_rfl) ?_ _
                  go_wp2_with fail
                  go_meet
                  exact ⟨G1, C1, G2, C2, G3, C3, rfl, rfl, rfl, ro1xxx, ro2x, ro3, ⟨co1, cm1⟩, ⟨co2, cm2⟩, ⟨co3, cm3⟩, ho1, ho2, ho3, hS6⟩
          · obtain ⟨cA3, wA3, hA3, rA3, bA3, sA3, lA3, mA3⟩ := run_bytes_rd (P := Try.prog) wA2 (src := 9) (dst := 36) (e := 5) (s := s) Try.underlying9 Try.underlying36 Try.underlying5 (by unfold maxLen; omega)
            rw [← HBS.out] at rA3
            have rA1xx := rA1x.below bA3
            have rA2x := rA2.below bA3
            go_simp
            refine hK.out _ _ (hS2.trans (bA3.mono hS2.size)) (fun hS3 => ?_)
            clear hK K
            try simp only [Act.put, List.getElem_toArray, List.getElem_cons_zero, List.getElem_cons_succ, List.setIfInBounds_toArray, List.set_cons_zero, List.set_cons_succ]
            refine wpAnyH_ready (rs := [3]) (by kernel_rfl) (by simp) ?_
            refine (AllReadyH.cons rfl (fun K hK => ?_) AllReadyH.nil)
            · go_simp
              refine (PN.out _ _ _ rA1xx (M1.out.later hS3)).mono ?_
              rintro e w1p ⟨G1, C1, rfl, ro1, co1, cm1, ho1, hbp1⟩
              have rA2xx := rA2x.below hbp1
              have rA3x := rA3.below hbp1
              go_simp
              refine hK.out _ _ (hS3.trans (hbp1.mono hS3.size)) (fun hS4 => ?_)
              clear hK K
              try simp only [Act.put, List.getElem_toArray, List.getElem_cons_zero, List.getElem_cons_succ, List.setIfInBounds_toArray, List.set_cons_zero, List.set_cons_succ]
              refine wpAnyH_ready (rs := [7]) (by kernel_rfl) (by simp) ?_
              refine (AllReadyH.cons rfl (fun K hK => ?_) AllReadyH.nil)
              · go_simp
                refine (PQ.out _ _ _ rA2xx).mono ?_
                rintro e w2p ⟨G2, C2, rfl, ro2, co2, cm2, ho2, hbp2⟩
                have ro1x := ro1.below hbp2
                have rA3xx := rA3x.below hbp2
                go_simp
                refine hK.out _ _ (hS4.trans (hbp2.mono hS4.size)) (fun hS5 => ?_)
                clear hK K
                try simp only [Act.put, List.getElem_toArray, List.getElem_cons_zero, List.getElem_cons_succ, List.setIfInBounds_toArray, List.set_cons_zero, List.set_cons_succ]
                refine wpAnyH_ready (rs := [11]) (by kernel_rfl) (by simp) ?_
                refine (AllReadyH.cons rfl (fun K hK => ?_) AllReadyH.nil)
                · go_simp
                  refine (PT.out _ _ _ rA3xx (M3.out.later hS5)).mono ?_
                  rintro e w3p ⟨G3, C3, rfl, ro3, co3, cm3, ho3, hbp3⟩
                  have ro1xx := ro1x.below hbp3
                  have ro2x := ro2.below hbp3
                  go_simp
                  refine hK.out _ _ (hS5.trans (hbp3.mono hS5.size)) (fun hS6 => ?_)
                  clear hK K
                  try simp only [Act.put, List.getElem_toArray, List.getElem_cons_zero, List.getElem_cons_succ, List.setIfInBounds_toArray, List.set_cons_zero, List.set_cons_succ]
                  refine wpAnyH_take (i := 12) (v := ?_) rfl (by kernel_rfl) (by kernel_rfl) (by kernel_rfl) (fun _ _ _ h => h) (Or.inl ⟨by rfl, ?_⟩) hS6 ?_
                  rotate_left
                  · intro W _; go_simp; try with_reducible rfl
                  try simp only [Act.put, List.getElem_toArray, List.getElem_cons_zero, List.getElem_cons_succ, List.setIfInBounds_toArray, List.set_cons_zero, List.set_cons_succ]
                  refine wpAnyH_take (i := 13) (v := ?_) rfl (by kernel_rfl) (by kernel_rfl) (by kernel_rfl) (fun _ _ _ h => h) (Or.inl ⟨by rfl, ?_⟩) hS6 ?_
                  rotate_left
                  · intro W _; go_simp; try with_reducible rfl
                  try simp only [Act.put, List.getElem_toArray, List.getElem_cons_zero, List.getElem_cons_succ, List.setIfInBounds_toArray, List.set_cons_zero, List.set_cons_succ]
                  refine wpAnyH_take (i := 14) (v := ?_) rfl (by kernel_rfl) (by kernel_rfl) (by kernel_rfl) (fun _ _ _ h => h) (Or.inl ⟨by rfl, ?_⟩) hS6 ?_
                  rotate_left
                  · intro W _; go_simp; try with_reducible rfl
                  try simp only [Act.put, List.getElem_toArray, List.getElem_cons_zero, List.getElem_cons_succ, List.setIfInBounds_toArray, List.set_cons_zero, List.set_cons_succ]
                  refine wpAnyH_done (by kernel_rfl) ?_ _
                  go_wp2_with fail
                  go_meet
                  exact ⟨G1, C1, G2, C2, G3, C3, rfl, rfl, rfl, ro1xx, ro2x, ro3, ⟨co1, cm1⟩, ⟨co2, cm2⟩, ⟨co3, cm3⟩, ho1, ho2, ho3, hS6⟩
        · obtain ⟨cA3, wA3, hA3, rA3, bA3, sA3, lA3, mA3⟩ := run_bytes_rd (P := Try.prog) wA1 (src := 9) (dst := 36) (e := 5) (s := s) Try.underlying9 Try.underlying36 Try.underlying5 (by unfold maxLen; omega)
          rw [← HBS.out] at rA3
          have rA1x := rA1.below bA3
          go_simp
          refine hK.out _ _ (hS1.trans (bA3.mono hS1.size)) (fun hS2 => ?_)
          clear hK K
          try simp only [Act.put, List.getElem_toArray, List.getElem_cons_zero, List.getElem_cons_succ, List.setIfInBounds_toArray, List.set_cons_zero, List.set_cons_succ]
          refine wpAnyH_ready (rs := [3, 5]) (by kernel_rfl) (by simp) ?_
          refine (AllReadyH.cons rfl (fun K hK => ?_) (AllReadyH.cons rfl (fun K hK => ?_) AllReadyH.nil))
          · go_simp
            refine (PN.out _ _ _ rA1x (M1.out.later hS2)).mono ?_
            rintro e w1p ⟨G1, C1, rfl, ro1, co1, cm1, ho1, hbp1⟩
            have rA3x := rA3.below hbp1
            go_simp
            refine hK.out _ _ (hS2.trans (hbp1.mono hS2.size)) (fun hS3 => ?_)
            clear hK K
            try simp only [Act.put, List.getElem_toArray, List.getElem_cons_zero, List.getElem_cons_succ, List.setIfInBounds_toArray, List.set_cons_zero, List.set_cons_succ]
            refine wpAnyH_ready (rs := [5]) (by kernel_rfl) (by simp) ?_
            refine (AllReadyH.cons rfl (fun K hK => ?_) AllReadyH.nil)
            · obtain ⟨cA2, wA2, hA2, rA2, bA2, sA2, lA2, mA2⟩ := run_bytes_rd (P := Try.prog) w1p (src := 9) (dst := 36) (e := 5) (s := s) Try.underlying9 Try.underlying36 Try.underlying5 (by unfold maxLen; omega)
              rw [← HBS.out] at rA2
              have ro1x := ro1.below bA2
              have rA3xx := rA3x.below bA2
              go_simp
              refine hK.out _ _ (hS3.trans (bA2.mono hS3.size)) (fun hS4 => ?_)
              clear hK K
              try simp only [Act.put, List.getElem_toArray, List.getElem_cons_zero, List.getElem_cons_succ, List.setIfInBounds_toArray, List.set_cons_zero, List.set_cons_succ]
              refine wpAnyH_ready (rs := [7]) (by kernel_rfl) (by simp) ?_
              refine (AllReadyH.cons rfl (fun K hK => ?_) AllReadyH.nil)
              · go_simp
                refine (PQ.out _ _ _ rA2).mono ?_
                rintro e w2p ⟨G2, C2, rfl, ro2, co2, cm2, ho2, hbp2⟩
                have ro1xx := ro1x.below hbp2
                have rA3xxx := rA3xx.below hbp2
                go_simp
                refine hK.out _ _ (hS4.trans (hbp2.mono hS4.size)) (fun hS5 => ?_)
                clear hK K
                try simp only [Act.put, List.getElem_toArray, List.getElem_cons_zero, List.getElem_cons_succ, List.setIfInBounds_toArray, List.set_cons_zero, List.set_cons_succ]
                refine wpAnyH_ready (rs := [11]) (by kernel_rfl) (by simp) ?_
                refine (AllReadyH.cons rfl (fun K hK => ?_) AllReadyH.nil)
                · go_simp
                  refine (PT.out _ _ _ rA3xxx (M3.out.later hS5)).mono ?_
                  rintro e w3p ⟨G3, C3, rfl, ro3, co3, cm3, ho3, hbp3⟩
                  have ro1xxx := ro1xx.below hbp3
                  have ro2x := ro2.below hbp3
                  go_simp
                  refine hK.out _ _ (hS5.trans (hbp3.mono hS5.size)) (fun hS6 => ?_)
                  clear hK K
                  try simp only [Act.put, List.getElem_toArray, List.getElem_cons_zero, List.getElem_cons_succ, List.setIfInBounds_toArray, List.set_cons_zero, List.set_cons_succ]
                  refine wpAnyH_take (i := 12) (v := ?_) rfl (by kernel_rfl) (by kernel_rfl) (by kernel_rfl) (fun _ _ _ h => h) (Or.inl ⟨by rfl, ?_⟩) hS6 ?_
                  rotate_left
                  · intro W _; go_simp; try with_reducible rfl
                  try simp only [Act.put, List.getElem_toArray, List.getElem_cons_zero, List.getElem_cons_succ, List.setIfInBounds_toArray, List.set_cons_zero, List.set_cons_succ]
                  refine wpAnyH_take (i := 13) (v := ?_) rfl (by kernel_rfl) (by kernel_rfl) (by kernel_rfl) (fun _ _ _ h => h) (Or.inl ⟨by rfl, ?_⟩) hS6 ?_
                  rotate_left
                  · intro W _; go_simp; try with_reducible rfl
                  try simp only [Act.put, List.getElem_toArray, List.getElem_cons_zero, List.getElem_cons_succ, List.setIfInBounds_toArray, List.set_cons_zero, List.set_cons_succ]
                  refine wpAnyH_take (i := 14) (v := ?_) rfl (by kernel_rfl) (by kernel_rfl) (by kernel_rfl) (fun _ _ _ h => h) (Or.inl ⟨by rfl, ?_⟩) hS6 ?_
                  rotate_left
                  · intro W _; go_simp; try with_reducible rfl
                  try simp only [Act.put, List.getElem_toArray, List.getElem_cons_zero, List.getElem_cons_succ, List.setIfInBounds_toArray, List.set_cons_zero, List.set_cons_succ]
                  refine wpAnyH_done (by kernel_rfl) ?_ _
                  go_wp2_with fail
                  go_meet
                  exact ⟨G1, C1, G2, C2, G3, C3, rfl, rfl, rfl, ro1xxx, ro2x, ro3, ⟨co1, cm1⟩, ⟨co2, cm2⟩, ⟨co3, cm3⟩, ho1, ho2, ho3, hS6⟩
          · obtain ⟨cA2, wA2, hA2, rA2, bA2, sA2, lA2, mA2⟩ := run_bytes_rd (P := Try.prog) wA3 (src := 9) (dst := 36) (e := 5) (s := s) Try.underlying9 Try.underlying36 Try.underlying5 (by unfold maxLen; omega)
            rw [← HBS.out] at rA2
            have rA1xx := rA1x.below bA2
            have rA3x := rA3.below bA2
            go_simp
            refine hK.out _ _ (hS2.trans (bA2.mono hS2.size)) (fun hS3 => ?_)
            clear hK K
            try simp only [Act.put, List.getElem_toArray, List.getElem_cons_zero, List.getElem_cons_succ, List.setIfInBounds_toArray, List.set_cons_zero, List.set_cons_succ]
            refine wpAnyH_ready (rs := [3]) (by kernel_rfl) (by simp) ?_
            refine (AllReadyH.cons rfl (fun K hK => ?_) AllReadyH.nil)
            · go_simp
              refine (PN.out _ _ _ rA1xx (M1.out.later hS3)).mono ?_
              rintro e w1p ⟨G1, C1, rfl, ro1, co1, cm1, ho1, hbp1⟩
              have rA3xx := rA3x.below hbp1
              have rA2x := rA2.below hbp1
              go_simp
              refine hK.out _ _ (hS3.trans (hbp1.mono hS3.size)) (fun hS4 => ?_)
              clear hK K
              try simp only [Act.put, List.getElem_toArray, List.getElem_cons_zero, List.getElem_cons_succ, List.setIfInBounds_toArray, List.set_cons_zero, List.set_cons_succ]
              refine wpAnyH_ready (rs := [7]) (by kernel_rfl) (by simp) ?_
              refine (AllReadyH.cons rfl (fun K hK => ?_) AllReadyH.nil)
              · go_simp
                refine (PQ.out _ _ _ rA2x).mono ?_
                rintro e w2p ⟨G2, C2, rfl, ro2, co2, cm2, ho2, hbp2⟩
                have ro1x := ro1.below hbp2
                have rA3xxx := rA3xx.below hbp2
                go_simp
                refine hK.out _ _ (hS4.trans (hbp2.mono hS4.size)) (fun hS5 => ?_)
                clear hK K
                try simp only [Act.put, List.getElem_toArray, List.getElem_cons_zero, List.getElem_cons_succ, List.setIfInBounds_toArray, List.set_cons_zero, List.set_cons_succ]
                refine wpAnyH_ready (rs := [11]) (by kernel_rfl) (by simp) ?_
                refine (AllReadyH.cons rfl (fun K hK => ?_) AllReadyH.nil)
                · go_simp
                  refine (PT.out _ _ _ rA3xxx (M3.out.later hS5)).mono ?_
                  rintro e w3p ⟨G3, C3, rfl, ro3, co3, cm3, ho3, hbp3⟩
                  have ro1xx := ro1x.below hbp3
                  have ro2x := ro2.below hbp3
                  go_simp
                  refine hK.out _ _ (hS5.trans (hbp3.mono hS5.size)) (fun hS6 => ?_)
                  clear hK K
                  try simp only [Act.put, List.getElem_toArray, List.getElem_cons_zero, List.getElem_cons_succ, List.setIfInBounds_toArray, List.set_cons_zero, List.set_cons_succ]
                  refine wpAnyH_take (i := 12) (v := ?_) rfl (by kernel_rfl) (by kernel_rfl) (by kernel_rfl) (fun _ _ _ h => h) (Or.inl ⟨by rfl, ?_⟩) hS6 ?_
                  rotate_left
                  · intro W _; go_simp; try with_reducible rfl
                  try simp only [Act.put, List.getElem_toArray, List.getElem_cons_zero, List.getElem_cons_succ, List.setIfInBounds_toArray, List.set_cons_zero, List.set_cons_succ]
                  refine wpAnyH_take (i := 13) (v := ?_) rfl (by kernel_rfl) (by kernel_rfl) (by kernel_rfl) (fun _ _ _ h => h) (Or.inl ⟨by rfl, ?_⟩) hS6 ?_
                  rotate_left
                  · intro W _; go_simp; try with_reducible rfl
                  try simp only [Act.put, List.getElem_toArray, List.getElem_cons_zero, List.getElem_cons_succ, List.setIfInBounds_toArray, List.set_cons_zero, List.set_cons_succ]
                  refine wpAnyH_take (i := 14) (v := ?_) rfl (by kernel_rfl) (by kernel_rfl) (by kernel_rfl) (fun _ _ _ h => h) (Or.inl ⟨by rfl, ?_⟩) hS6 ?_
                  rotate_left
                  · intro W _; go_simp; try with_reducible rfl
                  try simp only [Act.put, List.getElem_toArray, List.getElem_cons_zero, List.getElem_cons_succ, List.setIfInBounds_toArray, List.set_cons_zero, List.set_cons_succ]
                  refine wpAnyH_done (by kernel_rfl) ?_ _
                  go_wp2_with fail
                  go_meet
                  exact ⟨G1, C1, G2, C2, G3, C3, rfl, rfl, rfl, ro1xx, ro2x, ro3, ⟨co1, cm1⟩, ⟨co2, cm2⟩, ⟨co3, cm3⟩, ho1, ho2, ho3, hS6⟩
      · obtain ⟨cA2, wA2, hA2, rA2, bA2, sA2, lA2, mA2⟩ := run_bytes_rd (P := Try.prog) w2.drew (src := 9) (dst := 36) (e := 5) (s := s) Try.underlying9 Try.underlying36 Try.underlying5 (by unfold maxLen; omega)
        rw [← HBS.out] at rA2
        go_simp
        refine hK.out _ _ (hS0.trans (bA2.mono hS0.size)) (fun hS1 => ?_)
        clear hK K
        try simp only [Act.put, List.getElem_toArray, List.getElem_cons_zero, List.getElem_cons_succ, List.setIfInBounds_toArray, List.set_cons_zero, List.set_cons_succ]
        refine wpAnyH_ready (rs := [1, 9]) (by kernel_rfl) (by simp) ?_
        refine (AllReadyH.cons rfl (fun K hK => ?_) (AllReadyH.cons rfl (fun K hK => ?_) AllReadyH.nil))
        · obtain ⟨cA1, wA1, hA1, rA1, bA1, sA1, lA1, mA1⟩ := run_bytes_rd (P := Try.prog) wA2 (src := 9) (dst := 36) (e := 5) (s := s) Try.underlying9 Try.underlying36 Try.underlying5 (by unfold maxLen; omega)
          rw [← HBS.out] at rA1
          have rA2x := rA2.below bA1
          go_simp
          refine hK.out _ _ (hS1.trans (bA1.mono hS1.size)) (fun hS2 => ?_)
          clear hK K
          try simp only [Act.put, List.getElem_toArray, List.getElem_cons_zero, List.getElem_cons_succ, List.setIfInBounds_toArray, List.set_cons_zero, List.set_cons_succ]
          refine wpAnyH_ready (rs := [3, 9]) (by kernel_rfl) (by simp) ?_
          refine (AllReadyH.cons rfl (fun K hK => ?_) (AllReadyH.cons rfl (fun K hK => ?_) AllReadyH.nil))
          · go_simp
            refine (PN.out _ _ _ rA1 (M1.out.later hS2)).mono ?_
            rintro e w1p ⟨G1, C1, rfl, ro1, co1, cm1, ho1, hbp1⟩
            have rA2xx := rA2x.below hbp1
            go_simp
            refine hK.out _ _ (hS2.trans (hbp1.mono hS2.size)) (fun hS3 => ?_)
            clear hK K
            try simp only [Act.put, List.getElem_toArray, List.getElem_cons_zero, List.getElem_cons_succ, List.setIfInBounds_toArray, List.set_cons_zero, List.set_cons_succ]
            refine wpAnyH_ready (rs := [7, 9]) (by kernel_rfl) (by simp) ?_
            refine (AllReadyH.cons rfl (fun K hK => ?_) (AllReadyH.cons rfl (fun K hK => ?_) AllReadyH.nil))
            · go_simp
              refine (PQ.out _ _ _ rA2xx).mono ?_
              rintro e w2p ⟨G2, C2, rfl, ro2, co2, cm2, ho2, hbp2⟩
              have ro1x := ro1.below hbp2
              go_simp
              refine hK.out _ _ (hS3.trans (hbp2.mono hS3.size)) (fun hS4 => ?_)
              clear hK K
              try simp only [Act.put, List.getElem_toArray, List.getElem_cons_zero, List.getElem_cons_succ, List.setIfInBounds_toArray, List.set_cons_zero, List.set_cons_succ]
              refine wpAnyH_ready (rs := [9]) (by kernel_rfl) (by simp) ?_
              refine (AllReadyH.cons rfl (fun K hK => ?_) AllReadyH.nil)
              · obtain ⟨cA3, wA3, hA3, rA3, bA3, sA3, lA3, mA3⟩ := run_bytes_rd (P := Try.prog) w2p (src := 9) (dst := 36) (e := 5) (s := s) Try.underlying9 Try.underlying36 Try.underlying5 (by unfold maxLen; omega)
                rw [← HBS.out] at rA3
                have ro2x := ro2.below bA3
                have ro1xx := ro1x.below bA3
                go_simp
                refine hK.out _ _ (hS4.trans (bA3.mono hS4.size)) (fun hS5 => ?_)
                clear hK K
                try simp only [Act.put, List.getElem_toArray, List.getElem_cons_zero, List.getElem_cons_succ, List.setIfInBounds_toArray, List.set_cons_zero, List.set_cons_succ]
                refine wpAnyH_ready (rs := [11]) (by kernel_rfl) (by simp) ?_
                refine (AllReadyH.cons rfl (fun K hK => ?_) AllReadyH.nil)
                · go_simp
                  refine (PT.out _ _ _ rA3 (M3.out.later hS5)).mono ?_
                  rintro e w3p ⟨G3, C3, rfl, ro3, co3, cm3, ho3, hbp3⟩
                  have ro2xx := ro2x.below hbp3
                  have ro1xxx := ro1xx.below hbp3
                  go_simp
                  refine hK.out _ _ (hS5.trans (hbp3.mono hS5.size)) (fun hS6 => ?_)
                  clear hK K
                  try simp only [Act.put, List.getElem_toArray, List.getElem_cons_zero, List.getElem_cons_succ, List.setIfInBounds_toArray, List.set_cons_zero, List.set_cons_succ]
                  refine wpAnyH_take (i := 12) (v := ?_) rfl (by kernel_rfl) (by kernel_rfl) (by kernel_rfl) (fun _ _ _ h => h) (Or.inl ⟨by rfl, ?_⟩) hS6 ?_
                  rotate_left
                  · intro W _; go_simp; try with_reducible rfl
                  try simp only [Act.put, List.getElem_toArray, List.getElem_cons_zero, List.getElem_cons_succ, List.setIfInBounds_toArray, List.set_cons_zero, List.set_cons_succ]
                  refine wpAnyH_take (i := 13) (v := ?_) rfl (by kernel_rfl) (by kernel_rfl) (by kernel_rfl) (fun _ _ _ h => h) (Or.inl ⟨by rfl, ?_⟩) hS6 ?_
                  rotate_left
                  · intro W _; go_simp; try with_reducible rfl
                  try simp only [Act.put, List.getElem_toArray, List.getElem_cons_zero, List.getElem_cons_succ, List.setIfInBounds_toArray, List.set_cons_zero, List.set_cons_succ]
                  refine wpAnyH_take (i := 14) (v := ?_) rfl (by kernel_rfl) (by kernel_rfl) (by kernel_rfl) (fun _ _ _ h => h) (Or.inl ⟨by rfl, ?_⟩) hS6 ?_
                  rotate_left
                  · intro W _; go_simp; try with_reducible rfl
                  try simp only [Act.put, List.getElem_toArray, List.getElem_cons_zero, List.getElem_cons_succ, List.setIfInBounds_toArray, List.set_cons_zero, List.set_cons_succ]
                  refine wpAnyH_done (by kernel_rfl) ?_ _
                  go_wp2_with fail
                  go_meet
                  exact ⟨G1, C1, G2, C2, G3, C3, rfl, rfl, rfl, ro1xxx, ro2xx, ro3, ⟨co1, cm1⟩, ⟨co2, cm2⟩, ⟨co3, cm3⟩, ho1, ho2, ho3, hS6⟩
            · obtain ⟨cA3, wA3, hA3, rA3, bA3, sA3, lA3, mA3⟩ := run_bytes_rd (P := Try.prog) w1p (src := 9) (dst := 36) (e := 5) (s := s) Try.underlying9 Try.underlying36 Try.underlying5 (by unfold maxLen; omega)
              rw [← HBS.out] at rA3
              have rA2xxx := rA2xx.below bA3
              have ro1x := ro1.below bA3
              go_simp
              refine hK.out _ _ (hS3.trans (bA3.mono hS3.size)) (fun hS4 => ?_)
              clear hK K
              try simp only [Act.put, List.getElem_toArray, List.getElem_cons_zero, List.getElem_cons_succ, List.setIfInBounds_toArray, List.set_cons_zero, List.set_cons_succ]
              refine wpAnyH_ready (rs := [7]) (by kernel_rfl) (by simp) ?_
              refine (AllReadyH.cons rfl (fun K hK => ?_) AllReadyH.nil)
              · go_simp
                refine (PQ.out _ _ _ rA2xxx).mono ?_
                rintro e w2p ⟨G2, C2, rfl, ro2, co2, cm2, ho2, hbp2⟩
                have ro1xx := ro1x.below hbp2
                have rA3x := rA3.below hbp2
                go_simp
                refine hK.out _ _ (hS4.trans (hbp2.mono hS4.size)) (fun hS5 => ?_)
                clear hK K
                try simp only [Act.put, List.getElem_toArray, List.getElem_cons_zero, List.getElem_cons_succ, List.setIfInBounds_toArray, List.set_cons_zero, List.set_cons_succ]
                refine wpAnyH_ready (rs := [11]) (by kernel_rfl) (by simp) ?_
                refine (AllReadyH.cons rfl (fun K hK => ?_) AllReadyH.nil)
                · go_simp
                  refine (PT.out _ _ _ rA3x (M3.out.later hS5)).mono ?_
                  rintro e w3p ⟨G3, C3, rfl, ro3, co3, cm3, ho3, hbp3⟩
                  have ro2x := ro2.below hbp3
                  have ro1xxx := ro1xx.below hbp3
                  go_simp
                  refine hK.out _ _ (hS5.trans (hbp3.mono hS5.size)) (fun hS6 => ?_)
                  clear hK K
                  try simp only [Act.put, List.getElem_toArray, List.getElem_cons_zero, List.getElem_cons_succ, List.setIfInBounds_toArray, List.set_cons_zero, List.set_cons_succ]
                  refine wpAnyH_take (i := 12) (v := ?_) rfl (by kernel_rfl) (by kernel_rfl) (by kernel_rfl) (fun _ _ _ h => h) (Or.inl ⟨by rfl, ?_⟩) hS6 ?_
                  rotate_left
                  · intro W _; go_simp; try with_reducible rfl
                  try simp only [Act.put, List.getElem_toArray, List.getElem_cons_zero, List.getElem_cons_succ, List.setIfInBounds_toArray, List.set_cons_zero, List.set_cons_succ]
                  refine wpAnyH_take (i := 13) (v := ?_) rfl (by kernel_rfl) (by kernel_rfl) (by kernel_rfl) (fun _ _ _ h => h) (Or.inl ⟨by rfl, ?_⟩) hS6 ?_
                  rotate_left
                  · intro W _; go_simp; try with_reducible rfl
                  try simp only [Act.put, List.getElem_toArray, List.getElem_cons_zero, List.getElem_cons_succ, List.setIfInBounds_toArray, List.set_cons_zero, List.set_cons_succ]
                  refine wpAnyH_take (i := 14) (v := ?_) rfl (by kernel_rfl) (by kernel_rfl) (by kernel_rfl) (fun _ _ _ h => h) (Or.inl ⟨by rfl, ?_⟩) hS6 ?_
                  rotate_left
                  · intro W _; go_simp; try with_reducible rfl
                  try simp only [Act.put, List.getElem_toArray, List.getElem_cons_zero, List.getElem_cons_succ, List.setIfInBounds_toArray, List.set_cons_zero, List.set_cons_succ]
                  refine wpAnyH_done (by kernel_rfl) ?_ _
                  go_wp2_with fail
                  go_meet
                  exact ⟨G1, C1, G2, C2, G3, C3, rfl, rfl, rfl, ro1xxx, ro2x, ro3, ⟨co1, cm1⟩, ⟨co2, cm2⟩, ⟨co3, cm3⟩, ho1, ho2, ho3, hS6⟩
          · obtain ⟨cA3, wA3, hA3, rA3, bA3, sA3, lA3, mA3⟩ := run_bytes_rd (P := Try.prog) wA1 (src := 9) (dst := 36) (e := 5) (s := s) Try.underlying9 Try.underlying36 Try.underlying5 (by unfold maxLen; omega)
            rw [← HBS.out] at rA3
            have rA2xx := rA2x.below bA3
            have rA1x := rA1.below bA3
            go_simp
            refine hK.out _ _ (hS2.trans (bA3.mono hS2.size)) (fun hS3 => ?_)
            clear hK K
            try simp only [Act.put, List.getElem_toArray, List.getElem_cons_zero, List.getElem_cons_succ, List.setIfInBounds_toArray, List.set_cons_zero, List.set_cons_succ]
            refine wpAnyH_ready (rs := [3]) (by kernel_rfl) (by simp) ?_
            refine (AllReadyH.cons rfl (fun K hK => ?_) AllReadyH.nil)
            · go_simp
              refine (PN.out _ _ _ rA1x (M1.out.later hS3)).mono ?_
              rintro e w1p ⟨G1, C1, rfl, ro1, co1, cm1, ho1, hbp1⟩
              have rA2xxx := rA2xx.below hbp1
              have rA3x := rA3.below hbp1
              go_simp
              refine hK.out _ _ (hS3.trans (hbp1.mono hS3.size)) (fun hS4 => ?_)
              clear hK K
              try simp only [Act.put, List.getElem_toArray, List.getElem_cons_zero, List.getElem_cons_succ, List.setIfInBounds_toArray, List.set_cons_zero, List.set_cons_succ]
              refine wpAnyH_ready (rs := [7]) (by kernel_rfl) (by simp) ?_
              refine (AllReadyH.cons rfl (fun K hK => ?_) AllReadyH.nil)
              · go_simp
                refine (PQ.out _ _ _ rA2xxx).mono ?_
                rintro e w2p ⟨G2, C2, rfl, ro2, co2, cm2, ho2, hbp2⟩
                have ro1x := ro1.below hbp2
                have rA3xx := rA3x.below hbp2
                go_simp
                refine hK.out _ _ (hS4.trans (hbp2.mono hS4.size)) (fun hS5 => ?_)
                clear hK K
                try simp only [Act.put, List.getElem_toArray, List.getElem_cons_zero, List.getElem_cons_succ, List.setIfInBounds_toArray, List.set_cons_zero, List.set_cons_succ]
                refine wpAnyH_ready (rs := [11]) (by kernel_rfl) (by simp) ?_
                refine (AllReadyH.cons rfl (fun K hK => ?_) AllReadyH.nil)
                · go_simp
                  refine (PT.out _ _ _ rA3xx (M3.out.later hS5)).mono ?_
                  rintro e w3p ⟨G3, C3, rfl, ro3, co3, cm3, ho3, hbp3⟩
                  have ro2x := ro2.below hbp3
                  have ro1xx := ro1x.below hbp3
                  go_simp
                  refine hK.out _ _ (hS5.trans (hbp3.mono hS5.size)) (fun hS6 => ?_)
                  clear hK K
                  try simp only [Act.put, List.getElem_toArray, List.getElem_cons_zero, List.getElem_cons_succ, List.setIfInBounds_toArray, List.set_cons_zero, List.set_cons_succ]
                  refine wpAnyH_take (i := 12) (v := ?_) rfl (by kernel_rfl) (by kernel_rfl) (by kernel_rfl) (fun _ _ _ h => h) (Or.inl ⟨by rfl, ?_⟩) hS6 ?_
                  rotate_left
                  · intro W _; go_simp; try with_reducible rfl
                  try simp only [Act.put, List.getElem_toArray, List.getElem_cons_zero, List.getElem_cons_succ, List.setIfInBounds_toArray, List.set_cons_zero, List.set_cons_succ]
                  refine wpAnyH_take (i := 13) (v := ?_) rfl (by kernel_rfl) (by kernel_rfl) (by kernel_rfl) (fun _ _ _ h => h) (Or.inl ⟨by rfl, ?_⟩) hS6 ?_
                  rotate_left
                  · intro W _; go_simp; try with_reducible rfl
                  try simp only [Act.put, List.getElem_toArray, List.getElem_cons_zero, List.getElem_cons_succ, List.setIfInBounds_toArray, List.set_cons_zero, List.set_cons_succ]
                  refine wpAnyH_take (i := 14) (v := ?_) rfl (by kernel_rfl) (by kernel_rfl) (by kernel_rfl) (fun _ _ _ h => h) (Or.inl ⟨by rfl, ?_⟩) hS6 ?_
                  rotate_left
                  · intro W _; go_simp; try with_reducible rfl
                  try simp only [Act.put, List.getElem_toArray, List.getElem_cons_zero, List.getElem_cons_succ, List.setIfInBounds_toArray, List.set_cons_zero, List.set_cons_succ]
                  refine wpAnyH_done (by kernel_rfl) ?_ _
                  go_wp2_with fail
                  go_meet
                  exact ⟨G1, C1, G2, C2, G3, C3, rfl, rfl, rfl, ro1xx, ro2x, ro3, ⟨co1, cm1⟩, ⟨co2, cm2⟩, ⟨co3, cm3⟩, ho1, ho2, ho3, hS6⟩
        · obtain ⟨cA3, wA3, hA3, rA3, bA3, sA3, lA3, mA3⟩ := run_bytes_rd (P := Try.prog) wA2 (src := 9) (dst := 36) (e := 5) (s := s) Try.underlying9 Try.underlying36 Try.underlying5 (by unfold maxLen; omega)
          rw [← HBS.out] at rA3
          have rA2x := rA2.below bA3
          go_simp
          refine hK.out _ _ (hS1.trans (bA3.mono hS1.size)) (fun hS2 => ?_)
          clear hK K
          try simp only [Act.put, List.getElem_toArray, List.getElem_cons_zero, List.getElem_cons_succ, List.setIfInBounds_toArray, List.set_cons_zero, List.set_cons_succ]
          refine wpAnyH_ready (rs := [1]) (by kernel_rfl) (by simp) ?_
          refine (AllReadyH.cons rfl (fun K hK => ?_) AllReadyH.nil)
          · obtain ⟨cA1, wA1, hA1, rA1, bA1, sA1, lA1, mA1⟩ := run_bytes_rd (P := Try.prog) wA3 (src := 9) (dst := 36) (e := 5) (s := s) Try.underlying9 Try.underlying36 Try.underlying5 (by unfold maxLen; omega)
            rw [← HBS.out] at rA1
            have rA2xx := rA2x.below bA1
            have rA3x := rA3.below bA1
            go_simp
            refine hK.out _ _ (hS2.trans (bA1.mono hS2.size)) (fun hS3 => ?_)
            clear hK K
            try simp only [Act.put, List.getElem_toArray, List.getElem_cons_zero, List.getElem_cons_succ, List.setIfInBounds_toArray, List.set_cons_zero, List.set_cons_succ]
            refine wpAnyH_ready (rs := [3]) (by kernel_rfl) (by simp) ?_
            refine (AllReadyH.cons rfl (fun K hK => ?_) AllReadyH.nil)
            · go_simp
              refine (PN.out _ _ _ rA1 (M1.out.later hS3)).mono ?_
              rintro e w1p ⟨G1, C1, rfl, ro1, co1, cm1, ho1, hbp1⟩
              have rA2xxx := rA2xx.below hbp1
              have rA3xx := rA3x.below hbp1
              go_simp
              refine hK.out _ _ (hS3.trans (hbp1.mono hS3.size)) (fun hS4 => ?_)
              clear hK K
              try simp only [Act.put, List.getElem_toArray, List.getElem_cons_zero, List.getElem_cons_succ, List.setIfInBounds_toArray, List.set_cons_zero, List.set_cons_succ]
              refine wpAnyH_ready (rs := [7]) (by kernel_rfl) (by simp) ?_
              refine (AllReadyH.cons rfl (fun K hK => ?_) AllReadyH.nil)
              · go_simp
                refine (PQ.out _ _ _ rA2xxx).mono ?_
                rintro e w2p ⟨G2, C2, rfl, ro2, co2, cm2, ho2, hbp2⟩
                have rA3xxx := rA3xx.below hbp2
                have ro1x := ro1.below hbp2
                go_simp
                refine hK.out _ _ (hS4.trans (hbp2.mono hS4.size)) (fun hS5 => ?_)
                clear hK K
                try simp only [Act.put, List.getElem_toArray, List.getElem_cons_zero, List.getElem_cons_succ, List.setIfInBounds_toArray, List.set_cons_zero, List.set_cons_succ]
                refine wpAnyH_ready (rs := [11]) (by kernel_rfl) (by simp) ?_
                refine (AllReadyH.cons rfl (fun K hK => ?_) AllReadyH.nil)
                · go_simp
                  refine (PT.out _ _ _ rA3xxx (M3.out.later hS5)).mono ?_
                  rintro e w3p ⟨G3, C3, rfl, ro3, co3, cm3, ho3, hbp3⟩
                  have ro2x := ro2.below hbp3
                  have ro1xx := ro1x.below hbp3
                  go_simp
                  refine hK.out _ _ (hS5.trans (hbp3.mono hS5.size)) (fun hS6 => ?_)
                  clear hK K
                  try simp only [Act.put, List.getElem_toArray, List.getElem_cons_zero, List.getElem_cons_succ, List.setIfInBounds_toArray, List.set_cons_zero, List.set_cons_succ]
                  refine wpAnyH_take (i := 12) (v := ?_) rfl (by kernel_rfl) (by kernel_rfl) (by kernel_rfl) (fun _ _ _ h => h) (Or.inl ⟨by rfl, ?_⟩) hS6 ?_
                  rotate_left
                  · intro W _; go_simp; try with_reducible rfl
                  try simp only [Act.put, List.getElem_toArray, List.getElem_cons_zero, List.getElem_cons_succ, List.setIfInBounds_toArray, List.set_cons_zero, List.set_cons_succ]
                  refine wpAnyH_take (i := 13) (v := ?_) rfl (by kernel_rfl) (by kernel_rfl) (by kernel_rfl) (fun _ _ _ h => h) (Or.inl ⟨by rfl, ?_⟩) hS6 ?_
                  rotate_left
                  · intro W _; go_simp; try with_reducible rfl
                  try simp only [Act.put, List.getElem_toArray, List.getElem_cons_zero, List.getElem_cons_succ, List.setIfInBounds_toArray, List.set_cons_zero, List.set_cons_succ]
                  refine wpAnyH_take (i := 14) (v := ?_) rfl (by kernel_rfl) (by kernel_rfl) (by kernel_rfl) (fun _ _ _ h => h) (Or.inl ⟨by rfl, ?_⟩) hS6 ?_
                  rotate_left
                  · intro W _; go_simp; try with_reducible rfl
                  try simp only [Act.put, List.getElem_toArray, List.getElem_cons_zero, List.getElem_cons_succ, List.setIfInBounds_toArray, List.set_cons_zero, List.set_cons_succ]
                  refine wpAnyH_done (by kernel_rfl) ?_ _
                  go_wp2_with fail
                  go_meet
                  exact ⟨G1, C1, G2, C2, G3, C3, rfl, rfl, rfl, ro1xx, ro2x, ro3, ⟨co1, cm1⟩, ⟨co2, cm2⟩, ⟨co3, cm3⟩, ho1, ho2, ho3, hS6⟩
      · obtain ⟨cA3, wA3, hA3, rA3, bA3, sA3, lA3, mA3⟩ := run_bytes_rd (P := Try.prog) w2.drew (src := 9) (dst := 36) (e := 5) (s := s) Try.underlying9 Try.underlying36 Try.underlying5 (by unfold maxLen; omega)
        rw [← HBS.out] at rA3
        go_simp
        refine hK.out _ _ (hS0.trans (bA3.mono hS0.size)) (fun hS1 => ?_)
        clear hK K
        try simp only [Act.put, List.getElem_toArray, List.getElem_cons_zero, List.getElem_cons_succ, List.setIfInBounds_toArray, List.set_cons_zero, List.set_cons_succ]
        refine wpAnyH_ready (rs := [1, 5]) (by kernel_rfl) (by simp) ?_
        refine (AllReadyH.cons rfl (fun K hK => ?_) (AllReadyH.cons rfl (fun K hK => ?_) AllReadyH.nil))
        · obtain ⟨cA1, wA1, hA1, rA1, bA1, sA1, lA1, mA1⟩ := run_bytes_rd (P := Try.prog) wA3 (src := 9) (dst := 36) (e := 5) (s := s) Try.underlying9 Try.underlying36 Try.underlying5 (by unfold maxLen; omega)
          rw [← HBS.out] at rA1
          have rA3x := rA3.below bA1
          go_simp
          refine hK.out _ _ (hS1.trans (bA1.mono hS1.size)) (fun hS2 => ?_)
          clear hK K
          try simp only [Act.put, List.getElem_toArray, List.getElem_cons_zero, List.getElem_cons_succ, List.setIfInBounds_toArray, List.set_cons_zero, List.set_cons_succ]
          refine wpAnyH_ready (rs := [3, 5]) (by kernel_rfl) (by simp) ?_
          refine (AllReadyH.cons rfl (fun K hK => ?_) (AllReadyH.cons rfl (fun K hK => ?_) AllReadyH.nil))
          · go_simp
            refine (PN.out _ _ _ rA1 (M1.out.later hS2)).mono ?_
            rintro e w1p ⟨G1, C1, rfl, ro1, co1, cm1, ho1, hbp1⟩
            have rA3xx := rA3x.below hbp1
            go_simp
            refine hK.out _ _ (hS2.trans (hbp1.mono hS2.size)) (fun hS3 => ?_)
            clear hK K
            try simp only [Act.put, List.getElem_toArray, List.getElem_cons_zero, List.getElem_cons_succ, List.setIfInBounds_toArray, List.set_cons_zero, List.set_cons_succ]
            refine wpAnyH_ready (rs := [5]) (by kernel_rfl) (by simp) ?_
            refine (AllReadyH.cons rfl (fun K hK => ?_) AllReadyH.nil)
            · obtain ⟨cA2, wA2, hA2, rA2, bA2, sA2, lA2, mA2⟩ := run_bytes_rd (P := Try.prog) w1p (src := 9) (dst := 36) (e := 5) (s := s) Try.underlying9 Try.underlying36 Try.underlying5 (by unfold maxLen; omega)
              rw [← HBS.out] at rA2
              have rA3xxx := rA3xx.below bA2
              have ro1x := ro1.below bA2
              go_simp
              refine hK.out _ _ (hS3.trans (bA2.mono hS3.size)) (fun hS4 => ?_)
              clear hK K
              try simp only [Act.put, List.getElem_toArray, List.getElem_cons_zero, List.getElem_cons_succ, List.setIfInBounds_toArray, List.set_cons_zero, List.set_cons_succ]
              refine wpAnyH_ready (rs := [7]) (by kernel_rfl) (by simp) ?_
              refine (AllReadyH.cons rfl (fun K hK => ?_) AllReadyH.nil)
              · go_simp
                refine (PQ.out _ _ _ rA2).mono ?_
                rintro e w2p ⟨G2, C2, rfl, ro2, co2, cm2, ho2, hbp2⟩
                have rA3xxxx := rA3xxx.below hbp2
                have ro1xx := ro1x.below hbp2
                go_simp
                refine hK.out _ _ (hS4.trans (hbp2.mono hS4.size)) (fun hS5 => ?_)
                clear hK K
                try simp only [Act.put, List.getElem_toArray, List.getElem_cons_zero, List.getElem_cons_succ, List.setIfInBounds_toArray, List.set_cons_zero, List.set_cons_succ]
                refine wpAnyH_ready (rs := [11]) (by kernel_rfl) (by simp) ?_
                refine (AllReadyH.cons rfl (fun K hK => ?_) AllReadyH.nil)
                · go_simp
                  refine (PT.out _ _ _ rA3xxxx (M3.out.later hS5)).mono ?_
                  rintro e w3p ⟨G3, C3, rfl, ro3, co3, cm3, ho3, hbp3⟩
                  have ro1xxx := ro1xx.below hbp3
                  have ro2x := ro2.below hbp3
                  go_simp
                  refine hK.out _ _ (hS5.trans (hbp3.mono hS5.size)) (fun hS6 => ?_)
                  clear hK K
                  try simp only [Act.put, List.getElem_toArray, List.getElem_cons_zero, List.getElem_cons_succ, List.setIfInBounds_toArray, List.set_cons_zero, List.set_cons_succ]
                  refine wpAnyH_take (i := 12) (v := ?_) rfl (by kernel_rfl) (by kernel_rfl) (by kernel_rfl) (fun _ _ _ h => h) (Or.inl ⟨by rfl, ?_⟩) hS6 ?_
                  rotate_left
                  · intro W _; go_simp; try with_reducible rfl
                  try simp only [Act.put, List.getElem_toArray, List.getElem_cons_zero, List.getElem_cons_succ, List.setIfInBounds_toArray, List.set_cons_zero, List.set_cons_succ]
                  refine wpAnyH_take (i := 13) (v := ?_) rfl (by kernel_rfl) (by kernel_rfl) (by kernel_rfl) (fun _ _ _ h => h) (Or.inl ⟨by rfl, ?_⟩) hS6 ?_
                  rotate_left
                  · intro W _; go_simp; try with_reducible rfl
                  try simp only [Act.put, List.getElem_toArray, List.getElem_cons_zero, List.getElem_cons_succ, List.setIfInBounds_toArray, List.set_cons_zero, List.set_cons_succ]
                  refine wpAnyH_take (i := 14) (v := ?_) rfl (by kernel_rfl) (by kernel_rfl) (by kernel_rfl) (fun _ _ _ h => h) (Or.inl ⟨by rfl, ?_⟩) hS6 ?_
                  rotate_left
                  · intro W _; go_simp; try with_reducible rfl
                  try simp only [Act.put, List.getElem_toArray, List.getElem_cons_zero, List.getElem_cons_succ, List.setIfInBounds_toArray, List.set_cons_zero, List.set_cons_succ]
                  refine wpAnyH_done (by kernel_rfl) ?_ _
                  go_wp2_with fail
                  go_meet
                  exact ⟨G1, C1, G2, C2, G3, C3, rfl, rfl, rfl, ro1xxx, ro2x, ro3, ⟨co1, cm1⟩, ⟨co2, cm2⟩, ⟨co3, cm3⟩, ho1, ho2, ho3, hS6⟩
          · obtain ⟨cA2, wA2, hA2, rA2, bA2, sA2, lA2, mA2⟩ := run_bytes_rd (P := Try.prog) wA1 (src := 9) (dst := 36) (e := 5) (s := s) Try.underlying9 Try.underlying36 Try.underlying5 (by unfold maxLen; omega)
            rw [← HBS.out] at rA2
            have rA3xx := rA3x.below bA2
            have rA1x := rA1.below bA2
            go_simp
            refine hK.out _ _ (hS2.trans (bA2.mono hS2.size)) (fun hS3 => ?_)
            clear hK K
            try simp only [Act.put, List.getElem_toArray, List.getElem_cons_zero, List.getElem_cons_succ, List.setIfInBounds_toArray, List.set_cons_zero, List.set_cons_succ]
            refine wpAnyH_ready (rs := [3]) (by kernel_rfl) (by simp) ?_
            refine (AllReadyH.cons rfl (fun K hK => ?_) AllReadyH.nil)
            · go_simp
              refine (PN.out _ _ _ rA1x (M1.out.later hS3)).mono ?_
              rintro e w1p ⟨G1, C1, rfl, ro1, co1, cm1, ho1, hbp1⟩
              have rA3xxx := rA3xx.below hbp1
              have rA2x := rA2.below hbp1
              go_simp
              refine hK.out _ _ (hS3.trans (hbp1.mono hS3.size)) (fun hS4 => ?_)
              clear hK K
              try simp only [Act.put, List.getElem_toArray, List.getElem_cons_zero, List.getElem_cons_succ, List.setIfInBounds_toArray, List.set_cons_zero, List.set_cons_succ]
              refine wpAnyH_ready (rs := [7]) (by kernel_rfl) (by simp) ?_
              refine (AllReadyH.cons rfl (fun K hK => ?_) AllReadyH.nil)
              · go_simp
                refine (PQ.out _ _ _ rA2x).mono ?_
                rintro e w2p ⟨G2, C2, rfl, ro2, co2, cm2, ho2, hbp2⟩
                have rA3xxxx := rA3xxx.below hbp2
                have ro1x := ro1.below hbp2
                go_simp
                refine hK.out _ _ (hS4.trans (hbp2.mono hS4.size)) (fun hS5 => ?_)
                clear hK K
                try simp only [Act.put, List.getElem_toArray, List.getElem_cons_zero, List.getElem_cons_succ, List.setIfInBounds_toArray, List.set_cons_zero, List.set_cons_succ]
                refine wpAnyH_ready (rs := [11]) (by kernel_rfl) (by simp) ?_
                refine (AllReadyH.cons rfl (fun K hK => ?_) AllReadyH.nil)
                · go_simp
                  refine (PT.out _ _ _ rA3xxxx (M3.out.later hS5)).mono ?_
                  rintro e w3p ⟨G3, C3, rfl, ro3, co3, cm3, ho3, hbp3⟩
                  have ro1xx := ro1x.below hbp3
                  have ro2x := ro2.below hbp3
                  go_simp
                  refine hK.out _ _ (hS5.trans (hbp3.mono hS5.size)) (fun hS6 => ?_)
                  clear hK K
                  try simp only [Act.put, List.getElem_toArray, List.getElem_cons_zero, List.getElem_cons_succ, List.setIfInBounds_toArray, List.set_cons_zero, List.set_cons_succ]
                  refine wpAnyH_take (i := 12) (v := ?_) rfl (by kernel_rfl) (by kernel_rfl) (by kernel_rfl) (fun _ _ _ h => h) (Or.inl ⟨by rfl, ?_⟩) hS6 ?_
                  rotate_left
                  · intro W _; go_simp; try with_reducible rfl
                  try simp only [Act.put, List.getElem_toArray, List.getElem_cons_zero, List.getElem_cons_succ, List.setIfInBounds_toArray, List.set_cons_zero, List.set_cons_succ]
                  refine wpAnyH_take (i := 13) (v := ?_) rfl (by kernel_rfl) (by kernel_rfl) (by kernel_rfl) (fun _ _ _ h => h) (Or.inl ⟨by rfl, ?_⟩) hS6 ?_
                  rotate_left
                  · intro W _; go_simp; try with_reducible rfl
                  try simp only [Act.put, List.getElem_toArray, List.getElem_cons_zero, List.getElem_cons_succ, List.setIfInBounds_toArray, List.set_cons_zero, List.set_cons_succ]
                  refine wpAnyH_take (i := 14) (v := ?_) rfl (by kernel_rfl) (by kernel_rfl) (by kernel_rfl) (fun _ _ _ h => h) (Or.inl ⟨by rfl, ?_⟩) hS6 ?_
                  rotate_left
                  · intro W _; go_simp; try with_reducible rfl
                  try simp only [Act.put, List.getElem_toArray, List.getElem_cons_zero, List.getElem_cons_succ, List.setIfInBounds_toArray, List.set_cons_zero, List.set_cons_succ]
                  refine wpAnyH_done (by kernel_rfl) ?_ _
                  go_wp2_with fail
                  go_meet
                  exact ⟨G1, C1, G2, C2, G3, C3, rfl, rfl, rfl, ro1xx, ro2x, ro3, ⟨co1, cm1⟩, ⟨co2, cm2⟩, ⟨co3, cm3⟩, ho1, ho2, ho3, hS6⟩
        · obtain ⟨cA2, wA2, hA2, rA2, bA2, sA2, lA2, mA2⟩ := run_bytes_rd (P := Try.prog) wA3 (src := 9) (dst := 36) (e := 5) (s := s) Try.underlying9 Try.underlying36 Try.underlying5 (by unfold maxLen; omega)
          rw [← HBS.out] at rA2
          have rA3x := rA3.below bA2
          go_simp
          refine hK.out _ _ (hS1.trans (bA2.mono hS1.size)) (fun hS2 => ?_)
          clear hK K
          try simp only [Act.put, List.getElem_toArray, List.getElem_cons_zero, List.getElem_cons_succ, List.setIfInBounds_toArray, List.set_cons_zero, List.set_cons_succ]
          refine wpAnyH_ready (rs := [1]) (by kernel_rfl) (by simp) ?_
          refine (AllReadyH.cons rfl (fun K hK => ?_) AllReadyH.nil)
          · obtain ⟨cA1, wA1, hA1, rA1, bA1, sA1, lA1, mA1⟩ := run_bytes_rd (P := Try.prog) wA2 (src := 9) (dst := 36) (e := 5) (s := s) Try.underlying9 Try.underlying36 Try.underlying5 (by unfold maxLen; omega)
            rw [← HBS.out] at rA1
            have rA3xx := rA3x.below bA1
            have rA2x := rA2.below bA1
            go_simp
            refine hK.out _ _ (hS2.trans (bA1.mono hS2.size)) (fun hS3 => ?_)
            clear hK K
            try simp only [Act.put, List.getElem_toArray, List.getElem_cons_zero, List.getElem_cons_succ, List.setIfInBounds_toArray, List.set_cons_zero, List.set_cons_succ]
            refine wpAnyH_ready (rs := [3]) (by kernel_rfl) (by simp) ?_
            refine (AllReadyH.cons rfl (fun K hK => ?_) AllReadyH.nil)
            · go_simp
              refine (PN.out _ _ _ rA1 (M1.out.later hS3)).mono ?_
              rintro e w1p ⟨G1, C1, rfl, ro1, co1, cm1, ho1, hbp1⟩
              have rA3xxx := rA3xx.below hbp1
              have rA2xx := rA2x.below hbp1
              go_simp
              refine hK.out _ _ (hS3.trans (hbp1.mono hS3.size)) (fun hS4 => ?_)
              clear hK K
              try simp only [Act.put, List.getElem_toArray, List.getElem_cons_zero, List.getElem_cons_succ, List.setIfInBounds_toArray, List.set_cons_zero, List.set_cons_succ]
              refine wpAnyH_ready (rs := [7]) (by kernel_rfl) (by simp) ?_
              refine (AllReadyH.cons rfl (fun K hK => ?_) AllReadyH.nil)
              · go_simp
                refine (PQ.out _ _ _ rA2xx).mono ?_
                rintro e w2p ⟨G2, C2, rfl, ro2, co2, cm2, ho2, hbp2⟩
                have rA3xxxx := rA3xxx.below hbp2
                have ro1x := ro1.below hbp2
                go_simp
                refine hK.out _ _ (hS4.trans (hbp2.mono hS4.size)) (fun hS5 => ?_)
                clear hK K
                try simp only [Act.put, List.getElem_toArray, List.getElem_cons_zero, List.getElem_cons_succ, List.setIfInBounds_toArray, List.set_cons_zero, List.set_cons_succ]
                refine wpAnyH_ready (rs := [11]) (by kernel_rfl) (by simp) ?_
                refine (AllReadyH.cons rfl (fun K hK => ?_) AllReadyH.nil)
                · go_simp
                  refine (PT.out _ _ _ rA3xxxx (M3.out.later hS5)).mono ?_
                  rintro e w3p ⟨G3, C3, rfl, ro3, co3, cm3, ho3, hbp3⟩
                  have ro2x := ro2.below hbp3
                  have ro1xx := ro1x.below hbp3
                  go_simp
                  refine hK.out _ _ (hS5.trans (hbp3.mono hS5.size)) (fun hS6 => ?_)
                  clear hK K
                  try simp only [Act.put, List.getElem_toArray, List.getElem_cons_zero, List.getElem_cons_succ, List.setIfInBounds_toArray, List.set_cons_zero, List.set_cons_succ]
                  refine wpAnyH_take (i := 12) (v := ?_) rfl (by kernel_rfl) (by kernel_rfl) (by kernel_rfl) (fun _ _ _ h => h) (Or.inl ⟨by rfl, ?_⟩) hS6 ?_
                  rotate_left
                  · intro W _; go_simp; try with_reducible rfl
                  try simp only [Act.put, List.getElem_toArray, List.getElem_cons_zero, List.getElem_cons_succ, List.setIfInBounds_toArray, List.set_cons_zero, List.set_cons_succ]
                  refine wpAnyH_take (i := 13) (v := ?_) rfl (by kernel_rfl) (by kernel_rfl) (by kernel_rfl) (fun _ _ _ h => h) (Or.inl ⟨by rfl, ?_⟩) hS6 ?_
                  rotate_left
                  · intro W _; go_simp; try with_reducible rfl
                  try simp only [Act.put, List.getElem_toArray, List.getElem_cons_zero, List.getElem_cons_succ, List.setIfInBounds_toArray, List.set_cons_zero, List.set_cons_succ]
                  refine wpAnyH_take (i := 14) (v := ?_) rfl (by kernel_rfl) (by kernel_rfl) (by kernel_rfl) (fun _ _ _ h => h) (Or.inl ⟨by rfl, ?_⟩) hS6 ?_
                  rotate_left
                  · intro W _; go_simp; try with_reducible rfl
                  try simp only [Act.put, List.getElem_toArray, List.getElem_cons_zero, List.getElem_cons_succ, List.setIfInBounds_toArray, List.set_cons_zero, List.set_cons_succ]
                  refine wpAnyH_done (by kernel_rfl) ?_ _
                  go_wp2_with fail
                  go_meet
                  exact ⟨G1, C1, G2, C2, G3, C3, rfl, rfl, rfl, ro1xx, ro2x, ro3, ⟨co1, cm1⟩, ⟨co2, cm2⟩, ⟨co3, cm3⟩, ho1, ho2, ho3, hS6⟩
    case rest =>
      obtain ⟨G1, C1, G2, C2, G3, C3, rfl, rfl, rfl, ro1, ro2, ro3, ⟨co1, cm1⟩, ⟨co2, cm2⟩, ⟨co3, cm3⟩, ho1, ho2, ho3, hbc⟩ := hcut
      have T3 : Hid (Below w.heap.size w wc ∧ Bk wc w.heap.size 26 #[.string nm1, .int .i64 a1, .int .i64 b1, .int .i64 c1, .slice A1 n1 cp1] ∧ Bk wc (w.heap.size + 1) 28 #[.string nm2, .int .i64 a2, .int .i64 b2, .int .i64 c2] ∧ Bk wc (w.heap.size + 2) 30 #[.string nm3, .string qu3, .int .i64 pr3, .int .i64 a3, .int .i64 b3, .int .i64 c3, .slice A3 n3 cp3, .string ap3, .string ga3, .int .i64 sz3]) := ⟨T2.out.1.trans ((hbc).mono T2.out.1.size), T2.out.2.1.later (hbc), T2.out.2.2.1.later (hbc), T2.out.2.2.2.later (hbc)⟩
      have T4 : Hid (Below w.heap.size w wc ∧ Bk wc w.heap.size 26 #[.string nm1, .int .i64 a1, .int .i64 b1, .int .i64 c1, .slice A1 n1 cp1] ∧ Bk wc (w.heap.size + 1) 28 #[.string nm2, .int .i64 a2, .int .i64 b2, .int .i64 c2] ∧ Bk wc (w.heap.size + 2) 30 #[.string nm3, .string qu3, .int .i64 pr3, .int .i64 a3, .int .i64 b3, .int .i64 c3, .slice A3 n3 cp3, .string ap3, .string ga3, .int .i64 sz3] ∧ Rd wc G1 (bs ++ L1) ∧ Rd wc G2 (bs ++ L2) ∧ Rd wc G3 (bs ++ L3)) := ⟨T3.out.1, T3.out.2.1, T3.out.2.2.1, T3.out.2.2.2, ro1, ro2, ro3⟩
      have X1 := Lib.hid ho1
      have X2 := Lib.hid ho2
      have X3 := Lib.hid ho3
      clear ro1 ro2 ro3 ho1 ho2 ho3 hbc T2 T3 PN PQ PT M1 M3 KF zm zm0 zm1 m0_0 m0_1 m0_2 m0_3 m0_4 m1_0 m1_1 m1_2 m1_3 m2_0 m2_1 m2_2 m2_3 m2_4 m2_5 m2_6 m2_7 m2_8 m2_9
      have kv := KN.out
      clear KN
      by_cases hv : nodeB nm1 a1 b1 c1 l1 = true
      case neg =>
        have hv' : nodeB nm1 a1 b1 c1 l1 = false := by simpa using hv
        rw [hv'] at kv
        clear hv hv'
        have KV := Lib.hid kv
        clear kv
        have f0_0 : wc.cell? ⟨w.heap.size, 0, none⟩ = some (.string nm1) := T4.out.2.1.cellAt 0
        have f0_1 : wc.cell? ⟨w.heap.size, 1, none⟩ = some (.int .i64 a1) := T4.out.2.1.cellAt 1
        have f0_2 : wc.cell? ⟨w.heap.size, 2, none⟩ = some (.int .i64 b1) := T4.out.2.1.cellAt 2
        have f0_3 : wc.cell? ⟨w.heap.size, 3, none⟩ = some (.int .i64 c1) := T4.out.2.1.cellAt 3
        have f0_4 : wc.cell? ⟨w.heap.size, 4, none⟩ = some (.slice A1 n1 cp1) := T4.out.2.1.cellAt 4
        go_wp2_with fail
        refine (KV.out _ (HR1.out.later T4.out.1)).mono ?_
        rintro e u1 ⟨rfl, hb⟩
        have Ta1 : Hid (Below w.heap.size w u1 ∧ Bk u1 w.heap.size 26 #[.string nm1, .int .i64 a1, .int .i64 b1, .int .i64 c1, .slice A1 n1 cp1] ∧ Bk u1 (w.heap.size + 1) 28 #[.string nm2, .int .i64 a2, .int .i64 b2, .int .i64 c2] ∧ Bk u1 (w.heap.size + 2) 30 #[.string nm3, .string qu3, .int .i64 pr3, .int .i64 a3, .int .i64 b3, .int .i64 c3, .slice A3 n3 cp3, .string ap3, .string ga3, .int .i64 sz3] ∧ Rd u1 G1 (bs ++ L1) ∧ Rd u1 G2 (bs ++ L2) ∧ Rd u1 G3 (bs ++ L3)) := ⟨T4.out.1.trans ((hb).mono T4.out.1.size), T4.out.2.1.later (hb), T4.out.2.2.1.later (hb), T4.out.2.2.2.1.later (hb), T4.out.2.2.2.2.1.below (hb), T4.out.2.2.2.2.2.1.below (hb), T4.out.2.2.2.2.2.2.below (hb)⟩
        clear hb T4 KV f0_0 f0_1 f0_2 f0_3 f0_4
        have kv := KQ.out
        clear KQ
        by_cases hv : queueB nm2 a2 b2 c2 = true
        case neg =>
          have hv' : queueB nm2 a2 b2 c2 = false := by simpa using hv
          rw [hv'] at kv
          clear hv hv'
          have KV := Lib.hid kv
          clear kv
          have f1_0 : u1.cell? ⟨(w.heap.size + 1), 0, none⟩ = some (.string nm2) := Ta1.out.2.2.1.cellAt 0
          have f1_1 : u1.cell? ⟨(w.heap.size + 1), 1, none⟩ = some (.int .i64 a2) := Ta1.out.2.2.1.cellAt 1
          have f1_2 : u1.cell? ⟨(w.heap.size + 1), 2, none⟩ = some (.int .i64 b2) := Ta1.out.2.2.1.cellAt 2
          have f1_3 : u1.cell? ⟨(w.heap.size + 1), 3, none⟩ = some (.int .i64 c2) := Ta1.out.2.2.1.cellAt 3
          go_wp2_with fail
          refine (KV.out _).mono ?_
          rintro e u2 ⟨rfl, hb⟩
          have Ta2 : Hid (Below w.heap.size w u2 ∧ Bk u2 w.heap.size 26 #[.string nm1, .int .i64 a1, .int .i64 b1, .int .i64 c1, .slice A1 n1 cp1] ∧ Bk u2 (w.heap.size + 1) 28 #[.string nm2, .int .i64 a2, .int .i64 b2, .int .i64 c2] ∧ Bk u2 (w.heap.size + 2) 30 #[.string nm3, .string qu3, .int .i64 pr3, .int .i64 a3, .int .i64 b3, .int .i64 c3, .slice A3 n3 cp3, .string ap3, .string ga3, .int .i64 sz3] ∧ Rd u2 G1 (bs ++ L1) ∧ Rd u2 G2 (bs ++ L2) ∧ Rd u2 G3 (bs ++ L3)) := ⟨Ta1.out.1.trans ((hb).mono Ta1.out.1.size), Ta1.out.2.1.later (hb), Ta1.out.2.2.1.later (hb), Ta1.out.2.2.2.1.later (hb), Ta1.out.2.2.2.2.1.below (hb), Ta1.out.2.2.2.2.2.1.below (hb), Ta1.out.2.2.2.2.2.2.below (hb)⟩
          clear hb Ta1 KV f1_0 f1_1 f1_2 f1_3
          have kv := KT.out
          clear KT
          by_cases hv : taskB nm3 qu3 pr3 a3 b3 c3 l3 ap3 ga3 sz3 = true
          case neg =>
            have hv' : taskB nm3 qu3 pr3 a3 b3 c3 l3 ap3 ga3 sz3 = false := by simpa using hv
            rw [hv'] at kv
            clear hv hv'
            have KV := Lib.hid kv
            clear kv
            have f2_0 : u2.cell? ⟨(w.heap.size + 2), 0, none⟩ = some (.string nm3) := Ta2.out.2.2.2.1.cellAt 0
            have f2_1 : u2.cell? ⟨(w.heap.size + 2), 1, none⟩ = some (.string qu3) := Ta2.out.2.2.2.1.cellAt 1
            have f2_2 : u2.cell? ⟨(w.heap.size + 2), 2, none⟩ = some (.int .i64 pr3) := Ta2.out.2.2.2.1.cellAt 2
            have f2_3 : u2.cell? ⟨(w.heap.size + 2), 3, none⟩ = some (.int .i64 a3) := Ta2.out.2.2.2.1.cellAt 3
            have f2_4 : u2.cell? ⟨(w.heap.size + 2), 4, none⟩ = some (.int .i64 b3) := Ta2.out.2.2.2.1.cellAt 4
            have f2_5 : u2.cell? ⟨(w.heap.size + 2), 5, none⟩ = some (.int .i64 c3) := Ta2.out.2.2.2.1.cellAt 5
            have f2_6 : u2.cell? ⟨(w.heap.size + 2), 6, none⟩ = some (.slice A3 n3 cp3) := Ta2.out.2.2.2.1.cellAt 6
            have f2_7 : u2.cell? ⟨(w.heap.size + 2), 7, none⟩ = some (.string ap3) := Ta2.out.2.2.2.1.cellAt 7
            have f2_8 : u2.cell? ⟨(w.heap.size + 2), 8, none⟩ = some (.string ga3) := Ta2.out.2.2.2.1.cellAt 8
            have f2_9 : u2.cell? ⟨(w.heap.size + 2), 9, none⟩ = some (.int .i64 sz3) := Ta2.out.2.2.2.1.cellAt 9
            go_wp2_with fail
            refine (KV.out _ (HR3.out.later Ta2.out.1)).mono ?_
            rintro e u3 ⟨rfl, hb⟩
            have Ta3 : Hid (Below w.heap.size w u3 ∧ Bk u3 w.heap.size 26 #[.string nm1, .int .i64 a1, .int .i64 b1, .int .i64 c1, .slice A1 n1 cp1] ∧ Bk u3 (w.heap.size + 1) 28 #[.string nm2, .int .i64 a2, .int .i64 b2, .int .i64 c2] ∧ Bk u3 (w.heap.size + 2) 30 #[.string nm3, .string qu3, .int .i64 pr3, .int .i64 a3, .int .i64 b3, .int .i64 c3, .slice A3 n3 cp3, .string ap3, .string ga3, .int .i64 sz3] ∧ Rd u3 G1 (bs ++ L1) ∧ Rd u3 G2 (bs ++ L2) ∧ Rd u3 G3 (bs ++ L3)) := ⟨Ta2.out.1.trans ((hb).mono Ta2.out.1.size), Ta2.out.2.1.later (hb), Ta2.out.2.2.1.later (hb), Ta2.out.2.2.2.1.later (hb), Ta2.out.2.2.2.2.1.below (hb), Ta2.out.2.2.2.2.2.1.below (hb), Ta2.out.2.2.2.2.2.2.below (hb)⟩
            clear hb Ta2 KV f2_0 f2_1 f2_2 f2_3 f2_4 f2_5 f2_6 f2_7 f2_8 f2_9
            go_wp2
            go_ret
            exact ⟨rfl, Ta3.out.1⟩
          case pos =>
            rw [hv] at kv
            have KV := Lib.hid kv
            clear kv
            have hle := taskEnc_le hv
            have hbt : L3 = taskEnc nm3 qu3 pr3 a3 b3 c3 l3 ap3 ga3 sz3 := HB3.out.trans (if_pos hv)
            have hx := rd_head Ta2.out.2.2.2.2.2.2 (by rw [hbt, List.length_append]; omega) X3.out
            obtain ⟨gg3, hg⟩ := hx
            subst hg
            have hK : L3.length = (taskEnc nm3 qu3 pr3 a3 b3 c3 l3 ap3 ga3 sz3).length := by rw [hbt]
            rw [← hK] at hle
            obtain ⟨K, hKK⟩ : ∃ K, K = L3.length := ⟨_, rfl⟩
            rw [← hKK] at hle
            have hNK : N3 = s.size + K := by rw [HL3.out, List.length_append, ← hsl.out, hKK]
            obtain ⟨j, hj⟩ : ∃ j : Nat, cut % (K : Int) = (j : Int) := ⟨(cut % (K : Int)).toNat, by have := Int.emod_nonneg cut (show (K : Int) ≠ 0 by omega); omega⟩
            have hjK : j < K := by have := Int.emod_lt_of_pos cut (show (0 : Int) < (K : Int) by omega); omega
            have hu := hv
            unfold taskB at hu
            simp only [Bool.and_eq_true, decide_eq_true_eq] at hu
            obtain ⟨⟨⟨⟨⟨⟨⟨v1, v2⟩, v3⟩, v4⟩, v5⟩, v6⟩, v7⟩, v8⟩ := hu
            have u2 := rB_bd v5
            have u3 := gangB_le v8
            have hu := v1
            clear v1 v2 v5 v6 v7 v8
            obtain ⟨pr3, rfl⟩ : ∃ x : Nat, pr3 = (x : Int) := ⟨pr3.toNat, by omega⟩
            obtain ⟨a3, rfl⟩ : ∃ x : Nat, a3 = (x : Int) := ⟨a3.toNat, by omega⟩
            obtain ⟨b3, rfl⟩ : ∃ x : Nat, b3 = (x : Int) := ⟨b3.toNat, by omega⟩
            obtain ⟨c3, rfl⟩ : ∃ x : Nat, c3 = (x : Int) := ⟨c3.toNat, by omega⟩
            obtain ⟨sz3, rfl⟩ : ∃ x : Nat, sz3 = (x : Int) := ⟨sz3.toNat, by omega⟩
            clear u3 v3 v4
            have q1 := fun A c W (hr : Rd W A (bs ++ L3 ++ t.data.toList)) (hc : N3 + t.size ≤ c) (hm : c ≤ 9223372036854775807) => takeTask_any A (N3 + t.size) c (s.size : Int) (bs ++ L3 ++ t.data.toList) W (by show _ = _; rw [List.length_append, str_len, ← HL3.out]) (Lib.hid hr) hc hm
            have r1 := task_at (l := bs ++ L3 ++ t.data.toList) (x := bs) (y := t.data.toList) hv (by rw [hbt]; simp)
            rw [← hsl.out] at r1
            rw [r1] at q1
            have e1 : (((bs ++ taskEnc nm3 qu3 pr3 a3 b3 c3 l3 ap3 ga3 sz3).length : Nat) : Int) = (N3 : Int) := by rw [← hbt, ← HL3.out]
            unfold retTask at q1
            simp only [] at q1
            rw [e1] at q1
            have q2 := fun A c W (hr : Rd W A ((bs ++ L3).take (s.size + j))) (hc : s.size + j ≤ c) (hm : c ≤ 9223372036854775807) => takeTask_any A (s.size + j) c (s.size : Int) ((bs ++ L3).take (s.size + j)) W (by show _ = _; rw [List.length_take, ← HL3.out]; omega) (Lib.hid hr) hc hm
            have r2 := task_cut (x := bs) (j := j) hv (by rw [← hbt, ← hKK]; exact hjK)
            rw [← hsl.out, ← hbt] at r2
            obtain ⟨xn_3, xq_3, xp_3, xa_3, xb_3, xc_3, xl_3, xap_3, xg_3, xz_3, xx_3, xe_3, hxx⟩ := tk_eta (tTask ((bs ++ L3).take (s.size + j)) (s.size : Int))
            rw [hxx] at q2 r2
            unfold retTask at q2
            simp only [] at q2 r2
            have ec1 : (xe_3 == 0) = false := by simpa using r2
            have ec2 : (xe_3 != 0) = true := by simpa using r2
            have Q1 := Lib.hid q1
            have Q2 := Lib.hid q2
            have hk : (N3 : Int) - (s.size : Int) = (K : Int) := by omega
            have hNa : s.size + j ≤ N3 := by omega
            have hNb : N3 ≤ 1049576 := by omega
            have hK0 : (1 : Int) ≤ (K : Int) := by omega
            have d1 : decide (K < 1) = false := by simp; omega
            have d2 : decide ((K : Int) < 1) = false := by simp; omega
            have d3 : ((K : Int) == 0) = false := by simp; omega
            have hKb : K ≤ 1000 := hle.2
            have HNK := Lib.hid hNK
            clear q1 q2 r1 r2 hxx e1 hbt hK hKK hle hu u2 hNK hv
            have f2_0 : u2.cell? ⟨(w.heap.size + 2), 0, none⟩ = some (.string nm3) := Ta2.out.2.2.2.1.cellAt 0
            have f2_1 : u2.cell? ⟨(w.heap.size + 2), 1, none⟩ = some (.string qu3) := Ta2.out.2.2.2.1.cellAt 1
            have f2_2 : u2.cell? ⟨(w.heap.size + 2), 2, none⟩ = some (.int .i64 (pr3 : Int)) := Ta2.out.2.2.2.1.cellAt 2
            have f2_3 : u2.cell? ⟨(w.heap.size + 2), 3, none⟩ = some (.int .i64 (a3 : Int)) := Ta2.out.2.2.2.1.cellAt 3
            have f2_4 : u2.cell? ⟨(w.heap.size + 2), 4, none⟩ = some (.int .i64 (b3 : Int)) := Ta2.out.2.2.2.1.cellAt 4
            have f2_5 : u2.cell? ⟨(w.heap.size + 2), 5, none⟩ = some (.int .i64 (c3 : Int)) := Ta2.out.2.2.2.1.cellAt 5
            have f2_6 : u2.cell? ⟨(w.heap.size + 2), 6, none⟩ = some (.slice A3 n3 cp3) := Ta2.out.2.2.2.1.cellAt 6
            have f2_7 : u2.cell? ⟨(w.heap.size + 2), 7, none⟩ = some (.string ap3) := Ta2.out.2.2.2.1.cellAt 7
            have f2_8 : u2.cell? ⟨(w.heap.size + 2), 8, none⟩ = some (.string ga3) := Ta2.out.2.2.2.1.cellAt 8
            have f2_9 : u2.cell? ⟨(w.heap.size + 2), 9, none⟩ = some (.int .i64 (sz3 : Int)) := Ta2.out.2.2.2.1.cellAt 9
            go_wp2_with fail
            refine (KV.out _ (HR3.out.later Ta2.out.1)).mono ?_
            rintro e u3 ⟨rfl, hb⟩
            have Ta3 : Hid (Below w.heap.size w u3 ∧ Bk u3 w.heap.size 26 #[.string nm1, .int .i64 a1, .int .i64 b1, .int .i64 c1, .slice A1 n1 cp1] ∧ Bk u3 (w.heap.size + 1) 28 #[.string nm2, .int .i64 a2, .int .i64 b2, .int .i64 c2] ∧ Bk u3 (w.heap.size + 2) 30 #[.string nm3, .string qu3, .int .i64 (pr3 : Int), .int .i64 (a3 : Int), .int .i64 (b3 : Int), .int .i64 (c3 : Int), .slice A3 n3 cp3, .string ap3, .string ga3, .int .i64 (sz3 : Int)] ∧ Rd u3 G1 (bs ++ L1) ∧ Rd u3 G2 (bs ++ L2) ∧ Rd u3 (some ⟨gg3, 0, none⟩) (bs ++ L3)) := ⟨Ta2.out.1.trans ((hb).mono Ta2.out.1.size), Ta2.out.2.1.later (hb), Ta2.out.2.2.1.later (hb), Ta2.out.2.2.2.1.later (hb), Ta2.out.2.2.2.2.1.below (hb), Ta2.out.2.2.2.2.2.1.below (hb), Ta2.out.2.2.2.2.2.2.below (hb)⟩
            clear hb Ta2 KV f2_0 f2_1 f2_2 f2_3 f2_4 f2_5 f2_6 f2_7 f2_8 f2_9
            go_wp2_with (at_builtin; refine wpList_append_cut _ rfl (.tmp 170) (.tmp 171) 36 9 rfl 5 i0 Try.underlying36 Try.underlying9 hi hy0 hy1 hy2 gg3 N3 (bs ++ L3) t rfl rfl Ta3.out.2.2.2.2.2.2 HL3.out (by omega) ?_)
            intro A7_3 c7_3 w7_3 hr7 hb7 hc7 hm7
            rw [← List.append_assoc] at hr7
            unfold maxLen at hm7
            have hm7x : c7_3 ≤ 9223372036854775807 := by omega
            clear hm7
            have Tb3 : Hid (Below w.heap.size w w7_3 ∧ Bk w7_3 w.heap.size 26 #[.string nm1, .int .i64 a1, .int .i64 b1, .int .i64 c1, .slice A1 n1 cp1] ∧ Bk w7_3 (w.heap.size + 1) 28 #[.string nm2, .int .i64 a2, .int .i64 b2, .int .i64 c2] ∧ Bk w7_3 (w.heap.size + 2) 30 #[.string nm3, .string qu3, .int .i64 (pr3 : Int), .int .i64 (a3 : Int), .int .i64 (b3 : Int), .int .i64 (c3 : Int), .slice A3 n3 cp3, .string ap3, .string ga3, .int .i64 (sz3 : Int)] ∧ Rd w7_3 G1 (bs ++ L1) ∧ Rd w7_3 G2 (bs ++ L2) ∧ Rd w7_3 (some ⟨gg3, 0, none⟩) (bs ++ L3)) := ⟨Ta3.out.1.trans ((hb7).mono Ta3.out.1.size), Ta3.out.2.1.later (hb7), Ta3.out.2.2.1.later (hb7), Ta3.out.2.2.2.1.later (hb7), Ta3.out.2.2.2.2.1.below (hb7), Ta3.out.2.2.2.2.2.1.below (hb7), Ta3.out.2.2.2.2.2.2.below (hb7)⟩
            clear hb7 Ta3
            go_wp2_with fail
            refine (Q1.out _ _ _ hr7 hc7 hm7x).mono ?_
            rintro e w8_3 ⟨v8, rfl, ho8, hb8⟩
            have Tc3 : Hid (Below w.heap.size w w8_3 ∧ Bk w8_3 w.heap.size 26 #[.string nm1, .int .i64 a1, .int .i64 b1, .int .i64 c1, .slice A1 n1 cp1] ∧ Bk w8_3 (w.heap.size + 1) 28 #[.string nm2, .int .i64 a2, .int .i64 b2, .int .i64 c2] ∧ Bk w8_3 (w.heap.size + 2) 30 #[.string nm3, .string qu3, .int .i64 (pr3 : Int), .int .i64 (a3 : Int), .int .i64 (b3 : Int), .int .i64 (c3 : Int), .slice A3 n3 cp3, .string ap3, .string ga3, .int .i64 (sz3 : Int)] ∧ Rd w8_3 G1 (bs ++ L1) ∧ Rd w8_3 G2 (bs ++ L2) ∧ Rd w8_3 (some ⟨gg3, 0, none⟩) (bs ++ L3)) := ⟨Tb3.out.1.trans ((hb8).mono Tb3.out.1.size), Tb3.out.2.1.later (hb8), Tb3.out.2.2.1.later (hb8), Tb3.out.2.2.2.1.later (hb8), Tb3.out.2.2.2.2.1.below (hb8), Tb3.out.2.2.2.2.2.1.below (hb8), Tb3.out.2.2.2.2.2.2.below (hb8)⟩
            clear hb8 hr7 Tb3
            obtain ⟨A8_3, p8_3, sl8⟩ := ho8.sl
            obtain ⟨m8_3, hm8⟩ : ∃ m, m = l3.length := ⟨_, rfl⟩
            have hv8 := sl8.val; rw [← hm8] at hv8; subst hv8
            have ca8_3 := sl8.cap; rw [← hm8] at ca8_3
            have cb8_3 : p8_3 ≤ 9223372036854775807 := by have := sl8.cap2; unfold maxLen at this; omega
            have HM8_3 := Lib.hid hm8
            have R8 : Hid (RdL w8_3 A8_3 l3) := sl8.rd
            clear sl8 ho8 hm8
            have Td3 : Hid (Below w.heap.size w (w8_3.alloc (.cells #[.string nm3, .string qu3, .int .i64 (pr3 : Int), .int .i64 (a3 : Int), .int .i64 (b3 : Int), .int .i64 (c3 : Int), .slice A8_3 m8_3 p8_3, .string ap3, .string ga3, .int .i64 (sz3 : Int)] 30)) ∧ Bk (w8_3.alloc (.cells #[.string nm3, .string qu3, .int .i64 (pr3 : Int), .int .i64 (a3 : Int), .int .i64 (b3 : Int), .int .i64 (c3 : Int), .slice A8_3 m8_3 p8_3, .string ap3, .string ga3, .int .i64 (sz3 : Int)] 30)) w.heap.size 26 #[.string nm1, .int .i64 a1, .int .i64 b1, .int .i64 c1, .slice A1 n1 cp1] ∧ Bk (w8_3.alloc (.cells #[.string nm3, .string qu3, .int .i64 (pr3 : Int), .int .i64 (a3 : Int), .int .i64 (b3 : Int), .int .i64 (c3 : Int), .slice A8_3 m8_3 p8_3, .string ap3, .string ga3, .int .i64 (sz3 : Int)] 30)) (w.heap.size + 1) 28 #[.string nm2, .int .i64 a2, .int .i64 b2, .int .i64 c2] ∧ Bk (w8_3.alloc (.cells #[.string nm3, .string qu3, .int .i64 (pr3 : Int), .int .i64 (a3 : Int), .int .i64 (b3 : Int), .int .i64 (c3 : Int), .slice A8_3 m8_3 p8_3, .string ap3, .string ga3, .int .i64 (sz3 : Int)] 30)) (w.heap.size + 2) 30 #[.string nm3, .string qu3, .int .i64 (pr3 : Int), .int .i64 (a3 : Int), .int .i64 (b3 : Int), .int .i64 (c3 : Int), .slice A3 n3 cp3, .string ap3, .string ga3, .int .i64 (sz3 : Int)] ∧ Rd (w8_3.alloc (.cells #[.string nm3, .string qu3, .int .i64 (pr3 : Int), .int .i64 (a3 : Int), .int .i64 (b3 : Int), .int .i64 (c3 : Int), .slice A8_3 m8_3 p8_3, .string ap3, .string ga3, .int .i64 (sz3 : Int)] 30)) G1 (bs ++ L1) ∧ Rd (w8_3.alloc (.cells #[.string nm3, .string qu3, .int .i64 (pr3 : Int), .int .i64 (a3 : Int), .int .i64 (b3 : Int), .int .i64 (c3 : Int), .slice A8_3 m8_3 p8_3, .string ap3, .string ga3, .int .i64 (sz3 : Int)] 30)) G2 (bs ++ L2) ∧ Rd (w8_3.alloc (.cells #[.string nm3, .string qu3, .int .i64 (pr3 : Int), .int .i64 (a3 : Int), .int .i64 (b3 : Int), .int .i64 (c3 : Int), .slice A8_3 m8_3 p8_3, .string ap3, .string ga3, .int .i64 (sz3 : Int)] 30)) (some ⟨gg3, 0, none⟩) (bs ++ L3) ∧ Bk (w8_3.alloc (.cells #[.string nm3, .string qu3, .int .i64 (pr3 : Int), .int .i64 (a3 : Int), .int .i64 (b3 : Int), .int .i64 (c3 : Int), .slice A8_3 m8_3 p8_3, .string ap3, .string ga3, .int .i64 (sz3 : Int)] 30)) w8_3.heap.size 30 #[.string nm3, .string qu3, .int .i64 (pr3 : Int), .int .i64 (a3 : Int), .int .i64 (b3 : Int), .int .i64 (c3 : Int), .slice A8_3 m8_3 p8_3, .string ap3, .string ga3, .int .i64 (sz3 : Int)] ∧ RdL (w8_3.alloc (.cells #[.string nm3, .string qu3, .int .i64 (pr3 : Int), .int .i64 (a3 : Int), .int .i64 (b3 : Int), .int .i64 (c3 : Int), .slice A8_3 m8_3 p8_3, .string ap3, .string ga3, .int .i64 (sz3 : Int)] 30)) A8_3 l3) := ⟨Tc3.out.1.alloc Tc3.out.1.size _, Tc3.out.2.1.later ((Below.refl _ _).alloc (Nat.le_refl _) _), Tc3.out.2.2.1.later ((Below.refl _ _).alloc (Nat.le_refl _) _), Tc3.out.2.2.2.1.later ((Below.refl _ _).alloc (Nat.le_refl _) _), Tc3.out.2.2.2.2.1.below ((Below.refl _ _).alloc (Nat.le_refl _) _), Tc3.out.2.2.2.2.2.1.below ((Below.refl _ _).alloc (Nat.le_refl _) _), Tc3.out.2.2.2.2.2.2.below ((Below.refl _ _).alloc (Nat.le_refl _) _), Bk.fresh _ _ _, R8.out.later ((Below.refl _ _).alloc (Nat.le_refl _) _)⟩
            clear Tc3 R8
            go_wp2_with fail
            refine (Q2.out _ C3 _ (Td3.out.2.2.2.2.2.2.1.take _) (by omega) (by omega)).mono ?_
            rintro e w10_3 ⟨v10, rfl, ho10, hb10⟩
            obtain ⟨A10_3, p10_3, sl10⟩ := ho10.sl
            have hv10 := sl10.val
            obtain ⟨m10_3, hm10⟩ : ∃ m, m = xl_3.length := ⟨_, rfl⟩
            rw [← hm10] at hv10; subst hv10
            clear sl10 ho10 hm10
            have Te3 : Hid (Below w.heap.size w w10_3 ∧ Bk w10_3 w.heap.size 26 #[.string nm1, .int .i64 a1, .int .i64 b1, .int .i64 c1, .slice A1 n1 cp1] ∧ Bk w10_3 (w.heap.size + 1) 28 #[.string nm2, .int .i64 a2, .int .i64 b2, .int .i64 c2] ∧ Bk w10_3 (w.heap.size + 2) 30 #[.string nm3, .string qu3, .int .i64 (pr3 : Int), .int .i64 (a3 : Int), .int .i64 (b3 : Int), .int .i64 (c3 : Int), .slice A3 n3 cp3, .string ap3, .string ga3, .int .i64 (sz3 : Int)] ∧ Rd w10_3 G1 (bs ++ L1) ∧ Rd w10_3 G2 (bs ++ L2) ∧ Rd w10_3 (some ⟨gg3, 0, none⟩) (bs ++ L3) ∧ Bk w10_3 w8_3.heap.size 30 #[.string nm3, .string qu3, .int .i64 (pr3 : Int), .int .i64 (a3 : Int), .int .i64 (b3 : Int), .int .i64 (c3 : Int), .slice A8_3 m8_3 p8_3, .string ap3, .string ga3, .int .i64 (sz3 : Int)] ∧ RdL w10_3 A8_3 l3) := ⟨Td3.out.1.trans ((hb10).mono Td3.out.1.size), Td3.out.2.1.later (hb10), Td3.out.2.2.1.later (hb10), Td3.out.2.2.2.1.later (hb10), Td3.out.2.2.2.2.1.below (hb10), Td3.out.2.2.2.2.2.1.below (hb10), Td3.out.2.2.2.2.2.2.1.below (hb10), Td3.out.2.2.2.2.2.2.2.1.later (hb10), Td3.out.2.2.2.2.2.2.2.2.later (hb10)⟩
            clear hb10 Td3
            clear hk d1 d2 d3 hj hjK hNa hNb hK0 hKb HNK Q1 Q2
            have Tf3 : Hid (Below w.heap.size w (w10_3.alloc (.cells #[.string xn_3, .string xq_3, .int .i64 (xp_3 : Int), .int .i64 (xa_3 : Int), .int .i64 (xb_3 : Int), .int .i64 (xc_3 : Int), .slice A10_3 m10_3 p10_3, .string xap_3, .string xg_3, .int .i64 (xz_3 : Int)] 30)) ∧ Bk (w10_3.alloc (.cells #[.string xn_3, .string xq_3, .int .i64 (xp_3 : Int), .int .i64 (xa_3 : Int), .int .i64 (xb_3 : Int), .int .i64 (xc_3 : Int), .slice A10_3 m10_3 p10_3, .string xap_3, .string xg_3, .int .i64 (xz_3 : Int)] 30)) w.heap.size 26 #[.string nm1, .int .i64 a1, .int .i64 b1, .int .i64 c1, .slice A1 n1 cp1] ∧ Bk (w10_3.alloc (.cells #[.string xn_3, .string xq_3, .int .i64 (xp_3 : Int), .int .i64 (xa_3 : Int), .int .i64 (xb_3 : Int), .int .i64 (xc_3 : Int), .slice A10_3 m10_3 p10_3, .string xap_3, .string xg_3, .int .i64 (xz_3 : Int)] 30)) (w.heap.size + 1) 28 #[.string nm2, .int .i64 a2, .int .i64 b2, .int .i64 c2] ∧ Bk (w10_3.alloc (.cells #[.string xn_3, .string xq_3, .int .i64 (xp_3 : Int), .int .i64 (xa_3 : Int), .int .i64 (xb_3 : Int), .int .i64 (xc_3 : Int), .slice A10_3 m10_3 p10_3, .string xap_3, .string xg_3, .int .i64 (xz_3 : Int)] 30)) (w.heap.size + 2) 30 #[.string nm3, .string qu3, .int .i64 (pr3 : Int), .int .i64 (a3 : Int), .int .i64 (b3 : Int), .int .i64 (c3 : Int), .slice A3 n3 cp3, .string ap3, .string ga3, .int .i64 (sz3 : Int)] ∧ Rd (w10_3.alloc (.cells #[.string xn_3, .string xq_3, .int .i64 (xp_3 : Int), .int .i64 (xa_3 : Int), .int .i64 (xb_3 : Int), .int .i64 (xc_3 : Int), .slice A10_3 m10_3 p10_3, .string xap_3, .string xg_3, .int .i64 (xz_3 : Int)] 30)) G1 (bs ++ L1) ∧ Rd (w10_3.alloc (.cells #[.string xn_3, .string xq_3, .int .i64 (xp_3 : Int), .int .i64 (xa_3 : Int), .int .i64 (xb_3 : Int), .int .i64 (xc_3 : Int), .slice A10_3 m10_3 p10_3, .string xap_3, .string xg_3, .int .i64 (xz_3 : Int)] 30)) G2 (bs ++ L2) ∧ Rd (w10_3.alloc (.cells #[.string xn_3, .string xq_3, .int .i64 (xp_3 : Int), .int .i64 (xa_3 : Int), .int .i64 (xb_3 : Int), .int .i64 (xc_3 : Int), .slice A10_3 m10_3 p10_3, .string xap_3, .string xg_3, .int .i64 (xz_3 : Int)] 30)) (some ⟨gg3, 0, none⟩) (bs ++ L3) ∧ Bk (w10_3.alloc (.cells #[.string xn_3, .string xq_3, .int .i64 (xp_3 : Int), .int .i64 (xa_3 : Int), .int .i64 (xb_3 : Int), .int .i64 (xc_3 : Int), .slice A10_3 m10_3 p10_3, .string xap_3, .string xg_3, .int .i64 (xz_3 : Int)] 30)) w8_3.heap.size 30 #[.string nm3, .string qu3, .int .i64 (pr3 : Int), .int .i64 (a3 : Int), .int .i64 (b3 : Int), .int .i64 (c3 : Int), .slice A8_3 m8_3 p8_3, .string ap3, .string ga3, .int .i64 (sz3 : Int)] ∧ RdL (w10_3.alloc (.cells #[.string xn_3, .string xq_3, .int .i64 (xp_3 : Int), .int .i64 (xa_3 : Int), .int .i64 (xb_3 : Int), .int .i64 (xc_3 : Int), .slice A10_3 m10_3 p10_3, .string xap_3, .string xg_3, .int .i64 (xz_3 : Int)] 30)) A8_3 l3) := ⟨Te3.out.1.alloc Te3.out.1.size _, Te3.out.2.1.later ((Below.refl _ _).alloc (Nat.le_refl _) _), Te3.out.2.2.1.later ((Below.refl _ _).alloc (Nat.le_refl _) _), Te3.out.2.2.2.1.later ((Below.refl _ _).alloc (Nat.le_refl _) _), Te3.out.2.2.2.2.1.below ((Below.refl _ _).alloc (Nat.le_refl _) _), Te3.out.2.2.2.2.2.1.below ((Below.refl _ _).alloc (Nat.le_refl _) _), Te3.out.2.2.2.2.2.2.1.below ((Below.refl _ _).alloc (Nat.le_refl _) _), Te3.out.2.2.2.2.2.2.2.1.later ((Below.refl _ _).alloc (Nat.le_refl _) _), Te3.out.2.2.2.2.2.2.2.2.later ((Below.refl _ _).alloc (Nat.le_refl _) _)⟩
            clear Te3
            have f2_0 : (w10_3.alloc (.cells #[.string xn_3, .string xq_3, .int .i64 (xp_3 : Int), .int .i64 (xa_3 : Int), .int .i64 (xb_3 : Int), .int .i64 (xc_3 : Int), .slice A10_3 m10_3 p10_3, .string xap_3, .string xg_3, .int .i64 (xz_3 : Int)] 30)).cell? ⟨(w.heap.size + 2), 0, none⟩ = some (.string nm3) := Tf3.out.2.2.2.1.cellAt 0
            have f2_1 : (w10_3.alloc (.cells #[.string xn_3, .string xq_3, .int .i64 (xp_3 : Int), .int .i64 (xa_3 : Int), .int .i64 (xb_3 : Int), .int .i64 (xc_3 : Int), .slice A10_3 m10_3 p10_3, .string xap_3, .string xg_3, .int .i64 (xz_3 : Int)] 30)).cell? ⟨(w.heap.size + 2), 1, none⟩ = some (.string qu3) := Tf3.out.2.2.2.1.cellAt 1
            have f2_2 : (w10_3.alloc (.cells #[.string xn_3, .string xq_3, .int .i64 (xp_3 : Int), .int .i64 (xa_3 : Int), .int .i64 (xb_3 : Int), .int .i64 (xc_3 : Int), .slice A10_3 m10_3 p10_3, .string xap_3, .string xg_3, .int .i64 (xz_3 : Int)] 30)).cell? ⟨(w.heap.size + 2), 2, none⟩ = some (.int .i64 (pr3 : Int)) := Tf3.out.2.2.2.1.cellAt 2
            have f2_3 : (w10_3.alloc (.cells #[.string xn_3, .string xq_3, .int .i64 (xp_3 : Int), .int .i64 (xa_3 : Int), .int .i64 (xb_3 : Int), .int .i64 (xc_3 : Int), .slice A10_3 m10_3 p10_3, .string xap_3, .string xg_3, .int .i64 (xz_3 : Int)] 30)).cell? ⟨(w.heap.size + 2), 3, none⟩ = some (.int .i64 (a3 : Int)) := Tf3.out.2.2.2.1.cellAt 3
            have f2_4 : (w10_3.alloc (.cells #[.string xn_3, .string xq_3, .int .i64 (xp_3 : Int), .int .i64 (xa_3 : Int), .int .i64 (xb_3 : Int), .int .i64 (xc_3 : Int), .slice A10_3 m10_3 p10_3, .string xap_3, .string xg_3, .int .i64 (xz_3 : Int)] 30)).cell? ⟨(w.heap.size + 2), 4, none⟩ = some (.int .i64 (b3 : Int)) := Tf3.out.2.2.2.1.cellAt 4
            have f2_5 : (w10_3.alloc (.cells #[.string xn_3, .string xq_3, .int .i64 (xp_3 : Int), .int .i64 (xa_3 : Int), .int .i64 (xb_3 : Int), .int .i64 (xc_3 : Int), .slice A10_3 m10_3 p10_3, .string xap_3, .string xg_3, .int .i64 (xz_3 : Int)] 30)).cell? ⟨(w.heap.size + 2), 5, none⟩ = some (.int .i64 (c3 : Int)) := Tf3.out.2.2.2.1.cellAt 5
            have f2_6 : (w10_3.alloc (.cells #[.string xn_3, .string xq_3, .int .i64 (xp_3 : Int), .int .i64 (xa_3 : Int), .int .i64 (xb_3 : Int), .int .i64 (xc_3 : Int), .slice A10_3 m10_3 p10_3, .string xap_3, .string xg_3, .int .i64 (xz_3 : Int)] 30)).cell? ⟨(w.heap.size + 2), 6, none⟩ = some (.slice A3 n3 cp3) := Tf3.out.2.2.2.1.cellAt 6
            have f2_7 : (w10_3.alloc (.cells #[.string xn_3, .string xq_3, .int .i64 (xp_3 : Int), .int .i64 (xa_3 : Int), .int .i64 (xb_3 : Int), .int .i64 (xc_3 : Int), .slice A10_3 m10_3 p10_3, .string xap_3, .string xg_3, .int .i64 (xz_3 : Int)] 30)).cell? ⟨(w.heap.size + 2), 7, none⟩ = some (.string ap3) := Tf3.out.2.2.2.1.cellAt 7
            have f2_8 : (w10_3.alloc (.cells #[.string xn_3, .string xq_3, .int .i64 (xp_3 : Int), .int .i64 (xa_3 : Int), .int .i64 (xb_3 : Int), .int .i64 (xc_3 : Int), .slice A10_3 m10_3 p10_3, .string xap_3, .string xg_3, .int .i64 (xz_3 : Int)] 30)).cell? ⟨(w.heap.size + 2), 8, none⟩ = some (.string ga3) := Tf3.out.2.2.2.1.cellAt 8
            have f2_9 : (w10_3.alloc (.cells #[.string xn_3, .string xq_3, .int .i64 (xp_3 : Int), .int .i64 (xa_3 : Int), .int .i64 (xb_3 : Int), .int .i64 (xc_3 : Int), .slice A10_3 m10_3 p10_3, .string xap_3, .string xg_3, .int .i64 (xz_3 : Int)] 30)).cell? ⟨(w.heap.size + 2), 9, none⟩ = some (.int .i64 (sz3 : Int)) := Tf3.out.2.2.2.1.cellAt 9
            have f6_0 : (w10_3.alloc (.cells #[.string xn_3, .string xq_3, .int .i64 (xp_3 : Int), .int .i64 (xa_3 : Int), .int .i64 (xb_3 : Int), .int .i64 (xc_3 : Int), .slice A10_3 m10_3 p10_3, .string xap_3, .string xg_3, .int .i64 (xz_3 : Int)] 30)).cell? ⟨w8_3.heap.size, 0, none⟩ = some (.string nm3) := Tf3.out.2.2.2.2.2.2.2.1.cellAt 0
            have f6_1 : (w10_3.alloc (.cells #[.string xn_3, .string xq_3, .int .i64 (xp_3 : Int), .int .i64 (xa_3 : Int), .int .i64 (xb_3 : Int), .int .i64 (xc_3 : Int), .slice A10_3 m10_3 p10_3, .string xap_3, .string xg_3, .int .i64 (xz_3 : Int)] 30)).cell? ⟨w8_3.heap.size, 1, none⟩ = some (.string qu3) := Tf3.out.2.2.2.2.2.2.2.1.cellAt 1
            have f6_2 : (w10_3.alloc (.cells #[.string xn_3, .string xq_3, .int .i64 (xp_3 : Int), .int .i64 (xa_3 : Int), .int .i64 (xb_3 : Int), .int .i64 (xc_3 : Int), .slice A10_3 m10_3 p10_3, .string xap_3, .string xg_3, .int .i64 (xz_3 : Int)] 30)).cell? ⟨w8_3.heap.size, 2, none⟩ = some (.int .i64 (pr3 : Int)) := Tf3.out.2.2.2.2.2.2.2.1.cellAt 2
            have f6_3 : (w10_3.alloc (.cells #[.string xn_3, .string xq_3, .int .i64 (xp_3 : Int), .int .i64 (xa_3 : Int), .int .i64 (xb_3 : Int), .int .i64 (xc_3 : Int), .slice A10_3 m10_3 p10_3, .string xap_3, .string xg_3, .int .i64 (xz_3 : Int)] 30)).cell? ⟨w8_3.heap.size, 3, none⟩ = some (.int .i64 (a3 : Int)) := Tf3.out.2.2.2.2.2.2.2.1.cellAt 3
            have f6_4 : (w10_3.alloc (.cells #[.string xn_3, .string xq_3, .int .i64 (xp_3 : Int), .int .i64 (xa_3 : Int), .int .i64 (xb_3 : Int), .int .i64 (xc_3 : Int), .slice A10_3 m10_3 p10_3, .string xap_3, .string xg_3, .int .i64 (xz_3 : Int)] 30)).cell? ⟨w8_3.heap.size, 4, none⟩ = some (.int .i64 (b3 : Int)) := Tf3.out.2.2.2.2.2.2.2.1.cellAt 4
            have f6_5 : (w10_3.alloc (.cells #[.string xn_3, .string xq_3, .int .i64 (xp_3 : Int), .int .i64 (xa_3 : Int), .int .i64 (xb_3 : Int), .int .i64 (xc_3 : Int), .slice A10_3 m10_3 p10_3, .string xap_3, .string xg_3, .int .i64 (xz_3 : Int)] 30)).cell? ⟨w8_3.heap.size, 5, none⟩ = some (.int .i64 (c3 : Int)) := Tf3.out.2.2.2.2.2.2.2.1.cellAt 5
            have f6_6 : (w10_3.alloc (.cells #[.string xn_3, .string xq_3, .int .i64 (xp_3 : Int), .int .i64 (xa_3 : Int), .int .i64 (xb_3 : Int), .int .i64 (xc_3 : Int), .slice A10_3 m10_3 p10_3, .string xap_3, .string xg_3, .int .i64 (xz_3 : Int)] 30)).cell? ⟨w8_3.heap.size, 6, none⟩ = some (.slice A8_3 m8_3 p8_3) := Tf3.out.2.2.2.2.2.2.2.1.cellAt 6
            have f6_7 : (w10_3.alloc (.cells #[.string xn_3, .string xq_3, .int .i64 (xp_3 : Int), .int .i64 (xa_3 : Int), .int .i64 (xb_3 : Int), .int .i64 (xc_3 : Int), .slice A10_3 m10_3 p10_3, .string xap_3, .string xg_3, .int .i64 (xz_3 : Int)] 30)).cell? ⟨w8_3.heap.size, 7, none⟩ = some (.string ap3) := Tf3.out.2.2.2.2.2.2.2.1.cellAt 7
            have f6_8 : (w10_3.alloc (.cells #[.string xn_3, .string xq_3, .int .i64 (xp_3 : Int), .int .i64 (xa_3 : Int), .int .i64 (xb_3 : Int), .int .i64 (xc_3 : Int), .slice A10_3 m10_3 p10_3, .string xap_3, .string xg_3, .int .i64 (xz_3 : Int)] 30)).cell? ⟨w8_3.heap.size, 8, none⟩ = some (.string ga3) := Tf3.out.2.2.2.2.2.2.2.1.cellAt 8
            have f6_9 : (w10_3.alloc (.cells #[.string xn_3, .string xq_3, .int .i64 (xp_3 : Int), .int .i64 (xa_3 : Int), .int .i64 (xb_3 : Int), .int .i64 (xc_3 : Int), .slice A10_3 m10_3 p10_3, .string xap_3, .string xg_3, .int .i64 (xz_3 : Int)] 30)).cell? ⟨w8_3.heap.size, 9, none⟩ = some (.int .i64 (sz3 : Int)) := Tf3.out.2.2.2.2.2.2.2.1.cellAt 9
            go_wp2_with fail
            refine (sameTask_yes nm3 qu3 (pr3 : Int) (a3 : Int) (b3 : Int) (c3 : Int) A8_3 m8_3 p8_3 A3 n3 cp3 l3 ap3 ga3 (sz3 : Int) _ HM8_3 HN3 (Lib.hid Tf3.out.2.2.2.2.2.2.2.2) (Lib.hid (HR3.out.later Tf3.out.1)) ca8_3 cb8_3 hc3 hm3).mono ?_
            rintro e w12_3 ⟨rfl, hb12⟩
            have Tg3 : Hid (Below w.heap.size w w12_3 ∧ Bk w12_3 w.heap.size 26 #[.string nm1, .int .i64 a1, .int .i64 b1, .int .i64 c1, .slice A1 n1 cp1] ∧ Bk w12_3 (w.heap.size + 1) 28 #[.string nm2, .int .i64 a2, .int .i64 b2, .int .i64 c2] ∧ Bk w12_3 (w.heap.size + 2) 30 #[.string nm3, .string qu3, .int .i64 (pr3 : Int), .int .i64 (a3 : Int), .int .i64 (b3 : Int), .int .i64 (c3 : Int), .slice A3 n3 cp3, .string ap3, .string ga3, .int .i64 (sz3 : Int)] ∧ Rd w12_3 G1 (bs ++ L1) ∧ Rd w12_3 G2 (bs ++ L2) ∧ Rd w12_3 (some ⟨gg3, 0, none⟩) (bs ++ L3)) := ⟨Tf3.out.1.trans ((hb12).mono Tf3.out.1.size), Tf3.out.2.1.later (hb12), Tf3.out.2.2.1.later (hb12), Tf3.out.2.2.2.1.later (hb12), Tf3.out.2.2.2.2.1.below (hb12), Tf3.out.2.2.2.2.2.1.below (hb12), Tf3.out.2.2.2.2.2.2.1.below (hb12)⟩
            clear hb12 Tf3 f2_0 f2_1 f2_2 f2_3 f2_4 f2_5 f2_6 f2_7 f2_8 f2_9 f6_0 f6_1 f6_2 f6_3 f6_4 f6_5 f6_6 f6_7 f6_8 f6_9
            go_wp2
            go_ret
            exact ⟨rfl, Tg3.out.1⟩
        case pos =>
          rw [hv] at kv
          have KV := Lib.hid kv
          clear kv
          have hle := queueEnc_le hv
          have hbt : L2 = queueEnc nm2 a2 b2 c2 := HB2.out.trans (if_pos hv)
          have hx := rd_head Ta1.out.2.2.2.2.2.1 (by rw [hbt, List.length_append]; omega) X2.out
          obtain ⟨gg2, hg⟩ := hx
          subst hg
          have hK : L2.length = (queueEnc nm2 a2 b2 c2).length := by rw [hbt]
          rw [← hK] at hle
          obtain ⟨K, hKK⟩ : ∃ K, K = L2.length := ⟨_, rfl⟩
          rw [← hKK] at hle
          have hNK : N2 = s.size + K := by rw [HL2.out, List.length_append, ← hsl.out, hKK]
          obtain ⟨j, hj⟩ : ∃ j : Nat, cut % (K : Int) = (j : Int) := ⟨(cut % (K : Int)).toNat, by have := Int.emod_nonneg cut (show (K : Int) ≠ 0 by omega); omega⟩
          have hjK : j < K := by have := Int.emod_lt_of_pos cut (show (0 : Int) < (K : Int) by omega); omega
          have hu := hv
          unfold queueB at hu
          simp only [Bool.and_eq_true, decide_eq_true_eq] at hu
          have u2 := rB_bd hu.2
          obtain ⟨a2, rfl⟩ : ∃ x : Nat, a2 = (x : Int) := ⟨a2.toNat, by omega⟩
          obtain ⟨b2, rfl⟩ : ∃ x : Nat, b2 = (x : Int) := ⟨b2.toNat, by omega⟩
          obtain ⟨c2, rfl⟩ : ∃ x : Nat, c2 = (x : Int) := ⟨c2.toNat, by omega⟩
          have q1 := fun A c W (hr : Rd W A (bs ++ L2 ++ t.data.toList)) (hc : N2 + t.size ≤ c) (hm : c ≤ 9223372036854775807) => takeQueue_any A (N2 + t.size) c (s.size : Int) (bs ++ L2 ++ t.data.toList) W (by show _ = _; rw [List.length_append, str_len, ← HL2.out]) (Lib.hid hr) hc hm
          have r1 := queue_at (l := bs ++ L2 ++ t.data.toList) (x := bs) (y := t.data.toList) hv (by rw [hbt]; simp)
          rw [← hsl.out] at r1
          rw [r1] at q1
          have e1 : (((bs ++ queueEnc nm2 a2 b2 c2).length : Nat) : Int) = (N2 : Int) := by rw [← hbt, ← HL2.out]
          unfold retQueue at q1
          simp only [] at q1
          rw [e1] at q1
          have q2 := fun A c W (hr : Rd W A ((bs ++ L2).take (s.size + j))) (hc : s.size + j ≤ c) (hm : c ≤ 9223372036854775807) => takeQueue_any A (s.size + j) c (s.size : Int) ((bs ++ L2).take (s.size + j)) W (by show _ = _; rw [List.length_take, ← HL2.out]; omega) (Lib.hid hr) hc hm
          have r2 := queue_cut (x := bs) (j := j) hv (by rw [← hbt, ← hKK]; exact hjK)
          rw [← hsl.out, ← hbt] at r2
          obtain ⟨xn_2, xa_2, xb_2, xc_2, xx_2, xe_2, hxx⟩ := qu_eta (tQueue ((bs ++ L2).take (s.size + j)) (s.size : Int))
          rw [hxx] at q2 r2
          unfold retQueue at q2
          simp only [] at q2 r2
          have ec1 : (xe_2 == 0) = false := by simpa using r2
          have ec2 : (xe_2 != 0) = true := by simpa using r2
          have Q1 := Lib.hid q1
          have Q2 := Lib.hid q2
          have hk : (N2 : Int) - (s.size : Int) = (K : Int) := by omega
          have hNa : s.size + j ≤ N2 := by omega
          have hNb : N2 ≤ 1049576 := by omega
          have hK0 : (1 : Int) ≤ (K : Int) := by omega
          have d1 : decide (K < 1) = false := by simp; omega
          have d2 : decide ((K : Int) < 1) = false := by simp; omega
          have d3 : ((K : Int) == 0) = false := by simp; omega
          have hKb : K ≤ 1000 := hle.2
          have HNK := Lib.hid hNK
          clear q1 q2 r1 r2 hxx e1 hbt hK hKK hle hu u2 hNK hv
          have nq := fun w => neq_queue nm2 (a2 : Int) (b2 : Int) (c2 : Int) w
          have f1_0 : u1.cell? ⟨(w.heap.size + 1), 0, none⟩ = some (.string nm2) := Ta1.out.2.2.1.cellAt 0
          have f1_1 : u1.cell? ⟨(w.heap.size + 1), 1, none⟩ = some (.int .i64 (a2 : Int)) := Ta1.out.2.2.1.cellAt 1
          have f1_2 : u1.cell? ⟨(w.heap.size + 1), 2, none⟩ = some (.int .i64 (b2 : Int)) := Ta1.out.2.2.1.cellAt 2
          have f1_3 : u1.cell? ⟨(w.heap.size + 1), 3, none⟩ = some (.int .i64 (c2 : Int)) := Ta1.out.2.2.1.cellAt 3
          go_wp2_with fail
          refine (KV.out _).mono ?_
          rintro e u2 ⟨rfl, hb⟩
          have Ta2 : Hid (Below w.heap.size w u2 ∧ Bk u2 w.heap.size 26 #[.string nm1, .int .i64 a1, .int .i64 b1, .int .i64 c1, .slice A1 n1 cp1] ∧ Bk u2 (w.heap.size + 1) 28 #[.string nm2, .int .i64 (a2 : Int), .int .i64 (b2 : Int), .int .i64 (c2 : Int)] ∧ Bk u2 (w.heap.size + 2) 30 #[.string nm3, .string qu3, .int .i64 pr3, .int .i64 a3, .int .i64 b3, .int .i64 c3, .slice A3 n3 cp3, .string ap3, .string ga3, .int .i64 sz3] ∧ Rd u2 G1 (bs ++ L1) ∧ Rd u2 (some ⟨gg2, 0, none⟩) (bs ++ L2) ∧ Rd u2 G3 (bs ++ L3)) := ⟨Ta1.out.1.trans ((hb).mono Ta1.out.1.size), Ta1.out.2.1.later (hb), Ta1.out.2.2.1.later (hb), Ta1.out.2.2.2.1.later (hb), Ta1.out.2.2.2.2.1.below (hb), Ta1.out.2.2.2.2.2.1.below (hb), Ta1.out.2.2.2.2.2.2.below (hb)⟩
          clear hb Ta1 KV f1_0 f1_1 f1_2 f1_3
          go_wp2_with (at_builtin; refine wpList_append_cut _ rfl (.tmp 119) (.tmp 120) 36 9 rfl 5 i0 Try.underlying36 Try.underlying9 hi hy0 hy1 hy2 gg2 N2 (bs ++ L2) t rfl rfl Ta2.out.2.2.2.2.2.1 HL2.out (by omega) ?_)
          intro A7_2 c7_2 w7_2 hr7 hb7 hc7 hm7
          rw [← List.append_assoc] at hr7
          unfold maxLen at hm7
          have hm7x : c7_2 ≤ 9223372036854775807 := by omega
          clear hm7
          have Tb2 : Hid (Below w.heap.size w w7_2 ∧ Bk w7_2 w.heap.size 26 #[.string nm1, .int .i64 a1, .int .i64 b1, .int .i64 c1, .slice A1 n1 cp1] ∧ Bk w7_2 (w.heap.size + 1) 28 #[.string nm2, .int .i64 (a2 : Int), .int .i64 (b2 : Int), .int .i64 (c2 : Int)] ∧ Bk w7_2 (w.heap.size + 2) 30 #[.string nm3, .string qu3, .int .i64 pr3, .int .i64 a3, .int .i64 b3, .int .i64 c3, .slice A3 n3 cp3, .string ap3, .string ga3, .int .i64 sz3] ∧ Rd w7_2 G1 (bs ++ L1) ∧ Rd w7_2 (some ⟨gg2, 0, none⟩) (bs ++ L2) ∧ Rd w7_2 G3 (bs ++ L3)) := ⟨Ta2.out.1.trans ((hb7).mono Ta2.out.1.size), Ta2.out.2.1.later (hb7), Ta2.out.2.2.1.later (hb7), Ta2.out.2.2.2.1.later (hb7), Ta2.out.2.2.2.2.1.below (hb7), Ta2.out.2.2.2.2.2.1.below (hb7), Ta2.out.2.2.2.2.2.2.below (hb7)⟩
          clear hb7 Ta2
          go_wp2_with fail
          refine (Q1.out _ _ _ hr7 hc7 hm7x).mono ?_
          rintro e w8_2 ⟨rfl, hb8⟩
          have Tc2 : Hid (Below w.heap.size w w8_2 ∧ Bk w8_2 w.heap.size 26 #[.string nm1, .int .i64 a1, .int .i64 b1, .int .i64 c1, .slice A1 n1 cp1] ∧ Bk w8_2 (w.heap.size + 1) 28 #[.string nm2, .int .i64 (a2 : Int), .int .i64 (b2 : Int), .int .i64 (c2 : Int)] ∧ Bk w8_2 (w.heap.size + 2) 30 #[.string nm3, .string qu3, .int .i64 pr3, .int .i64 a3, .int .i64 b3, .int .i64 c3, .slice A3 n3 cp3, .string ap3, .string ga3, .int .i64 sz3] ∧ Rd w8_2 G1 (bs ++ L1) ∧ Rd w8_2 (some ⟨gg2, 0, none⟩) (bs ++ L2) ∧ Rd w8_2 G3 (bs ++ L3)) := ⟨Tb2.out.1.trans ((hb8).mono Tb2.out.1.size), Tb2.out.2.1.later (hb8), Tb2.out.2.2.1.later (hb8), Tb2.out.2.2.2.1.later (hb8), Tb2.out.2.2.2.2.1.below (hb8), Tb2.out.2.2.2.2.2.1.below (hb8), Tb2.out.2.2.2.2.2.2.below (hb8)⟩
          clear hb8 hr7 Tb2
          have Td2 : Hid (Below w.heap.size w (w8_2.alloc (.cells #[.string nm2, .int .i64 (a2 : Int), .int .i64 (b2 : Int), .int .i64 (c2 : Int)] 28)) ∧ Bk (w8_2.alloc (.cells #[.string nm2, .int .i64 (a2 : Int), .int .i64 (b2 : Int), .int .i64 (c2 : Int)] 28)) w.heap.size 26 #[.string nm1, .int .i64 a1, .int .i64 b1, .int .i64 c1, .slice A1 n1 cp1] ∧ Bk (w8_2.alloc (.cells #[.string nm2, .int .i64 (a2 : Int), .int .i64 (b2 : Int), .int .i64 (c2 : Int)] 28)) (w.heap.size + 1) 28 #[.string nm2, .int .i64 (a2 : Int), .int .i64 (b2 : Int), .int .i64 (c2 : Int)] ∧ Bk (w8_2.alloc (.cells #[.string nm2, .int .i64 (a2 : Int), .int .i64 (b2 : Int), .int .i64 (c2 : Int)] 28)) (w.heap.size + 2) 30 #[.string nm3, .string qu3, .int .i64 pr3, .int .i64 a3, .int .i64 b3, .int .i64 c3, .slice A3 n3 cp3, .string ap3, .string ga3, .int .i64 sz3] ∧ Rd (w8_2.alloc (.cells #[.string nm2, .int .i64 (a2 : Int), .int .i64 (b2 : Int), .int .i64 (c2 : Int)] 28)) G1 (bs ++ L1) ∧ Rd (w8_2.alloc (.cells #[.string nm2, .int .i64 (a2 : Int), .int .i64 (b2 : Int), .int .i64 (c2 : Int)] 28)) (some ⟨gg2, 0, none⟩) (bs ++ L2) ∧ Rd (w8_2.alloc (.cells #[.string nm2, .int .i64 (a2 : Int), .int .i64 (b2 : Int), .int .i64 (c2 : Int)] 28)) G3 (bs ++ L3) ∧ Bk (w8_2.alloc (.cells #[.string nm2, .int .i64 (a2 : Int), .int .i64 (b2 : Int), .int .i64 (c2 : Int)] 28)) w8_2.heap.size 28 #[.string nm2, .int .i64 (a2 : Int), .int .i64 (b2 : Int), .int .i64 (c2 : Int)]) := ⟨Tc2.out.1.alloc Tc2.out.1.size _, Tc2.out.2.1.later ((Below.refl _ _).alloc (Nat.le_refl _) _), Tc2.out.2.2.1.later ((Below.refl _ _).alloc (Nat.le_refl _) _), Tc2.out.2.2.2.1.later ((Below.refl _ _).alloc (Nat.le_refl _) _), Tc2.out.2.2.2.2.1.below ((Below.refl _ _).alloc (Nat.le_refl _) _), Tc2.out.2.2.2.2.2.1.below ((Below.refl _ _).alloc (Nat.le_refl _) _), Tc2.out.2.2.2.2.2.2.below ((Below.refl _ _).alloc (Nat.le_refl _) _), Bk.fresh _ _ _⟩
          clear Tc2
          go_wp2_with fail
          refine (Q2.out _ C2 _ (Td2.out.2.2.2.2.2.1.take _) (by omega) (by omega)).mono ?_
          rintro e w10_2 ⟨rfl, hb10⟩
          have Te2 : Hid (Below w.heap.size w w10_2 ∧ Bk w10_2 w.heap.size 26 #[.string nm1, .int .i64 a1, .int .i64 b1, .int .i64 c1, .slice A1 n1 cp1] ∧ Bk w10_2 (w.heap.size + 1) 28 #[.string nm2, .int .i64 (a2 : Int), .int .i64 (b2 : Int), .int .i64 (c2 : Int)] ∧ Bk w10_2 (w.heap.size + 2) 30 #[.string nm3, .string qu3, .int .i64 pr3, .int .i64 a3, .int .i64 b3, .int .i64 c3, .slice A3 n3 cp3, .string ap3, .string ga3, .int .i64 sz3] ∧ Rd w10_2 G1 (bs ++ L1) ∧ Rd w10_2 (some ⟨gg2, 0, none⟩) (bs ++ L2) ∧ Rd w10_2 G3 (bs ++ L3) ∧ Bk w10_2 w8_2.heap.size 28 #[.string nm2, .int .i64 (a2 : Int), .int .i64 (b2 : Int), .int .i64 (c2 : Int)]) := ⟨Td2.out.1.trans ((hb10).mono Td2.out.1.size), Td2.out.2.1.later (hb10), Td2.out.2.2.1.later (hb10), Td2.out.2.2.2.1.later (hb10), Td2.out.2.2.2.2.1.below (hb10), Td2.out.2.2.2.2.2.1.below (hb10), Td2.out.2.2.2.2.2.2.1.below (hb10), Td2.out.2.2.2.2.2.2.2.later (hb10)⟩
          clear hb10 Td2
          clear hk d1 d2 d3 hj hjK hNa hNb hK0 hKb HNK Q1 Q2
          have Tf2 : Hid (Below w.heap.size w (w10_2.alloc (.cells #[.string xn_2, .int .i64 (xa_2 : Int), .int .i64 (xb_2 : Int), .int .i64 (xc_2 : Int)] 28)) ∧ Bk (w10_2.alloc (.cells #[.string xn_2, .int .i64 (xa_2 : Int), .int .i64 (xb_2 : Int), .int .i64 (xc_2 : Int)] 28)) w.heap.size 26 #[.string nm1, .int .i64 a1, .int .i64 b1, .int .i64 c1, .slice A1 n1 cp1] ∧ Bk (w10_2.alloc (.cells #[.string xn_2, .int .i64 (xa_2 : Int), .int .i64 (xb_2 : Int), .int .i64 (xc_2 : Int)] 28)) (w.heap.size + 1) 28 #[.string nm2, .int .i64 (a2 : Int), .int .i64 (b2 : Int), .int .i64 (c2 : Int)] ∧ Bk (w10_2.alloc (.cells #[.string xn_2, .int .i64 (xa_2 : Int), .int .i64 (xb_2 : Int), .int .i64 (xc_2 : Int)] 28)) (w.heap.size + 2) 30 #[.string nm3, .string qu3, .int .i64 pr3, .int .i64 a3, .int .i64 b3, .int .i64 c3, .slice A3 n3 cp3, .string ap3, .string ga3, .int .i64 sz3] ∧ Rd (w10_2.alloc (.cells #[.string xn_2, .int .i64 (xa_2 : Int), .int .i64 (xb_2 : Int), .int .i64 (xc_2 : Int)] 28)) G1 (bs ++ L1) ∧ Rd (w10_2.alloc (.cells #[.string xn_2, .int .i64 (xa_2 : Int), .int .i64 (xb_2 : Int), .int .i64 (xc_2 : Int)] 28)) (some ⟨gg2, 0, none⟩) (bs ++ L2) ∧ Rd (w10_2.alloc (.cells #[.string xn_2, .int .i64 (xa_2 : Int), .int .i64 (xb_2 : Int), .int .i64 (xc_2 : Int)] 28)) G3 (bs ++ L3) ∧ Bk (w10_2.alloc (.cells #[.string xn_2, .int .i64 (xa_2 : Int), .int .i64 (xb_2 : Int), .int .i64 (xc_2 : Int)] 28)) w8_2.heap.size 28 #[.string nm2, .int .i64 (a2 : Int), .int .i64 (b2 : Int), .int .i64 (c2 : Int)]) := ⟨Te2.out.1.alloc Te2.out.1.size _, Te2.out.2.1.later ((Below.refl _ _).alloc (Nat.le_refl _) _), Te2.out.2.2.1.later ((Below.refl _ _).alloc (Nat.le_refl _) _), Te2.out.2.2.2.1.later ((Below.refl _ _).alloc (Nat.le_refl _) _), Te2.out.2.2.2.2.1.below ((Below.refl _ _).alloc (Nat.le_refl _) _), Te2.out.2.2.2.2.2.1.below ((Below.refl _ _).alloc (Nat.le_refl _) _), Te2.out.2.2.2.2.2.2.1.below ((Below.refl _ _).alloc (Nat.le_refl _) _), Te2.out.2.2.2.2.2.2.2.later ((Below.refl _ _).alloc (Nat.le_refl _) _)⟩
          clear Te2
          have f1_0 : (w10_2.alloc (.cells #[.string xn_2, .int .i64 (xa_2 : Int), .int .i64 (xb_2 : Int), .int .i64 (xc_2 : Int)] 28)).cell? ⟨(w.heap.size + 1), 0, none⟩ = some (.string nm2) := Tf2.out.2.2.1.cellAt 0
          have f1_1 : (w10_2.alloc (.cells #[.string xn_2, .int .i64 (xa_2 : Int), .int .i64 (xb_2 : Int), .int .i64 (xc_2 : Int)] 28)).cell? ⟨(w.heap.size + 1), 1, none⟩ = some (.int .i64 (a2 : Int)) := Tf2.out.2.2.1.cellAt 1
          have f1_2 : (w10_2.alloc (.cells #[.string xn_2, .int .i64 (xa_2 : Int), .int .i64 (xb_2 : Int), .int .i64 (xc_2 : Int)] 28)).cell? ⟨(w.heap.size + 1), 2, none⟩ = some (.int .i64 (b2 : Int)) := Tf2.out.2.2.1.cellAt 2
          have f1_3 : (w10_2.alloc (.cells #[.string xn_2, .int .i64 (xa_2 : Int), .int .i64 (xb_2 : Int), .int .i64 (xc_2 : Int)] 28)).cell? ⟨(w.heap.size + 1), 3, none⟩ = some (.int .i64 (c2 : Int)) := Tf2.out.2.2.1.cellAt 3
          have f6_0 : (w10_2.alloc (.cells #[.string xn_2, .int .i64 (xa_2 : Int), .int .i64 (xb_2 : Int), .int .i64 (xc_2 : Int)] 28)).cell? ⟨w8_2.heap.size, 0, none⟩ = some (.string nm2) := Tf2.out.2.2.2.2.2.2.2.cellAt 0
          have f6_1 : (w10_2.alloc (.cells #[.string xn_2, .int .i64 (xa_2 : Int), .int .i64 (xb_2 : Int), .int .i64 (xc_2 : Int)] 28)).cell? ⟨w8_2.heap.size, 1, none⟩ = some (.int .i64 (a2 : Int)) := Tf2.out.2.2.2.2.2.2.2.cellAt 1
          have f6_2 : (w10_2.alloc (.cells #[.string xn_2, .int .i64 (xa_2 : Int), .int .i64 (xb_2 : Int), .int .i64 (xc_2 : Int)] 28)).cell? ⟨w8_2.heap.size, 2, none⟩ = some (.int .i64 (b2 : Int)) := Tf2.out.2.2.2.2.2.2.2.cellAt 2
          have f6_3 : (w10_2.alloc (.cells #[.string xn_2, .int .i64 (xa_2 : Int), .int .i64 (xb_2 : Int), .int .i64 (xc_2 : Int)] 28)).cell? ⟨w8_2.heap.size, 3, none⟩ = some (.int .i64 (c2 : Int)) := Tf2.out.2.2.2.2.2.2.2.cellAt 3
          have Tg2 : Hid (Below w.heap.size w (w10_2.alloc (.cells #[.string xn_2, .int .i64 (xa_2 : Int), .int .i64 (xb_2 : Int), .int .i64 (xc_2 : Int)] 28)) ∧ Bk (w10_2.alloc (.cells #[.string xn_2, .int .i64 (xa_2 : Int), .int .i64 (xb_2 : Int), .int .i64 (xc_2 : Int)] 28)) w.heap.size 26 #[.string nm1, .int .i64 a1, .int .i64 b1, .int .i64 c1, .slice A1 n1 cp1] ∧ Bk (w10_2.alloc (.cells #[.string xn_2, .int .i64 (xa_2 : Int), .int .i64 (xb_2 : Int), .int .i64 (xc_2 : Int)] 28)) (w.heap.size + 1) 28 #[.string nm2, .int .i64 (a2 : Int), .int .i64 (b2 : Int), .int .i64 (c2 : Int)] ∧ Bk (w10_2.alloc (.cells #[.string xn_2, .int .i64 (xa_2 : Int), .int .i64 (xb_2 : Int), .int .i64 (xc_2 : Int)] 28)) (w.heap.size + 2) 30 #[.string nm3, .string qu3, .int .i64 pr3, .int .i64 a3, .int .i64 b3, .int .i64 c3, .slice A3 n3 cp3, .string ap3, .string ga3, .int .i64 sz3] ∧ Rd (w10_2.alloc (.cells #[.string xn_2, .int .i64 (xa_2 : Int), .int .i64 (xb_2 : Int), .int .i64 (xc_2 : Int)] 28)) G1 (bs ++ L1) ∧ Rd (w10_2.alloc (.cells #[.string xn_2, .int .i64 (xa_2 : Int), .int .i64 (xb_2 : Int), .int .i64 (xc_2 : Int)] 28)) (some ⟨gg2, 0, none⟩) (bs ++ L2) ∧ Rd (w10_2.alloc (.cells #[.string xn_2, .int .i64 (xa_2 : Int), .int .i64 (xb_2 : Int), .int .i64 (xc_2 : Int)] 28)) G3 (bs ++ L3)) := ⟨Tf2.out.1.trans ((Below.refl _ _).mono Tf2.out.1.size), Tf2.out.2.1.later (Below.refl _ _), Tf2.out.2.2.1.later (Below.refl _ _), Tf2.out.2.2.2.1.later (Below.refl _ _), Tf2.out.2.2.2.2.1.below (Below.refl _ _), Tf2.out.2.2.2.2.2.1.below (Below.refl _ _), Tf2.out.2.2.2.2.2.2.1.below (Below.refl _ _)⟩
          clear Tf2
          have kv := KT.out
          clear KT
          by_cases hv : taskB nm3 qu3 pr3 a3 b3 c3 l3 ap3 ga3 sz3 = true
          case neg =>
            have hv' : taskB nm3 qu3 pr3 a3 b3 c3 l3 ap3 ga3 sz3 = false := by simpa using hv
            rw [hv'] at kv
            clear hv hv'
            have KV := Lib.hid kv
            clear kv
            have f2_0 : (w10_2.alloc (.cells #[.string xn_2, .int .i64 (xa_2 : Int), .int .i64 (xb_2 : Int), .int .i64 (xc_2 : Int)] 28)).cell? ⟨(w.heap.size + 2), 0, none⟩ = some (.string nm3) := Tg2.out.2.2.2.1.cellAt 0
            have f2_1 : (w10_2.alloc (.cells #[.string xn_2, .int .i64 (xa_2 : Int), .int .i64 (xb_2 : Int), .int .i64 (xc_2 : Int)] 28)).cell? ⟨(w.heap.size + 2), 1, none⟩ = some (.string qu3) := Tg2.out.2.2.2.1.cellAt 1
            have f2_2 : (w10_2.alloc (.cells #[.string xn_2, .int .i64 (xa_2 : Int), .int .i64 (xb_2 : Int), .int .i64 (xc_2 : Int)] 28)).cell? ⟨(w.heap.size + 2), 2, none⟩ = some (.int .i64 pr3) := Tg2.out.2.2.2.1.cellAt 2
            have f2_3 : (w10_2.alloc (.cells #[.string xn_2, .int .i64 (xa_2 : Int), .int .i64 (xb_2 : Int), .int .i64 (xc_2 : Int)] 28)).cell? ⟨(w.heap.size + 2), 3, none⟩ = some (.int .i64 a3) := Tg2.out.2.2.2.1.cellAt 3
            have f2_4 : (w10_2.alloc (.cells #[.string xn_2, .int .i64 (xa_2 : Int), .int .i64 (xb_2 : Int), .int .i64 (xc_2 : Int)] 28)).cell? ⟨(w.heap.size + 2), 4, none⟩ = some (.int .i64 b3) := Tg2.out.2.2.2.1.cellAt 4
            have f2_5 : (w10_2.alloc (.cells #[.string xn_2, .int .i64 (xa_2 : Int), .int .i64 (xb_2 : Int), .int .i64 (xc_2 : Int)] 28)).cell? ⟨(w.heap.size + 2), 5, none⟩ = some (.int .i64 c3) := Tg2.out.2.2.2.1.cellAt 5
            have f2_6 : (w10_2.alloc (.cells #[.string xn_2, .int .i64 (xa_2 : Int), .int .i64 (xb_2 : Int), .int .i64 (xc_2 : Int)] 28)).cell? ⟨(w.heap.size + 2), 6, none⟩ = some (.slice A3 n3 cp3) := Tg2.out.2.2.2.1.cellAt 6
            have f2_7 : (w10_2.alloc (.cells #[.string xn_2, .int .i64 (xa_2 : Int), .int .i64 (xb_2 : Int), .int .i64 (xc_2 : Int)] 28)).cell? ⟨(w.heap.size + 2), 7, none⟩ = some (.string ap3) := Tg2.out.2.2.2.1.cellAt 7
            have f2_8 : (w10_2.alloc (.cells #[.string xn_2, .int .i64 (xa_2 : Int), .int .i64 (xb_2 : Int), .int .i64 (xc_2 : Int)] 28)).cell? ⟨(w.heap.size + 2), 8, none⟩ = some (.string ga3) := Tg2.out.2.2.2.1.cellAt 8
            have f2_9 : (w10_2.alloc (.cells #[.string xn_2, .int .i64 (xa_2 : Int), .int .i64 (xb_2 : Int), .int .i64 (xc_2 : Int)] 28)).cell? ⟨(w.heap.size + 2), 9, none⟩ = some (.int .i64 sz3) := Tg2.out.2.2.2.1.cellAt 9
            go_wp2_with fail
            refine (KV.out _ (HR3.out.later Tg2.out.1)).mono ?_
            rintro e u3 ⟨rfl, hb⟩
            have Ta3 : Hid (Below w.heap.size w u3 ∧ Bk u3 w.heap.size 26 #[.string nm1, .int .i64 a1, .int .i64 b1, .int .i64 c1, .slice A1 n1 cp1] ∧ Bk u3 (w.heap.size + 1) 28 #[.string nm2, .int .i64 (a2 : Int), .int .i64 (b2 : Int), .int .i64 (c2 : Int)] ∧ Bk u3 (w.heap.size + 2) 30 #[.string nm3, .string qu3, .int .i64 pr3, .int .i64 a3, .int .i64 b3, .int .i64 c3, .slice A3 n3 cp3, .string ap3, .string ga3, .int .i64 sz3] ∧ Rd u3 G1 (bs ++ L1) ∧ Rd u3 (some ⟨gg2, 0, none⟩) (bs ++ L2) ∧ Rd u3 G3 (bs ++ L3)) := ⟨Tg2.out.1.trans ((hb).mono Tg2.out.1.size), Tg2.out.2.1.later (hb), Tg2.out.2.2.1.later (hb), Tg2.out.2.2.2.1.later (hb), Tg2.out.2.2.2.2.1.below (hb), Tg2.out.2.2.2.2.2.1.below (hb), Tg2.out.2.2.2.2.2.2.below (hb)⟩
            clear hb Tg2 KV f2_0 f2_1 f2_2 f2_3 f2_4 f2_5 f2_6 f2_7 f2_8 f2_9
            go_wp2
            go_ret
            exact ⟨rfl, Ta3.out.1⟩
          case pos =>
            rw [hv] at kv
            have KV := Lib.hid kv
            clear kv
            have hle := taskEnc_le hv
            have hbt : L3 = taskEnc nm3 qu3 pr3 a3 b3 c3 l3 ap3 ga3 sz3 := HB3.out.trans (if_pos hv)
            have hx := rd_head Tg2.out.2.2.2.2.2.2 (by rw [hbt, List.length_append]; omega) X3.out
            obtain ⟨gg3, hg⟩ := hx
            subst hg
            have hK : L3.length = (taskEnc nm3 qu3 pr3 a3 b3 c3 l3 ap3 ga3 sz3).length := by rw [hbt]
            rw [← hK] at hle
            obtain ⟨K, hKK⟩ : ∃ K, K = L3.length := ⟨_, rfl⟩
            rw [← hKK] at hle
            have hNK : N3 = s.size + K := by rw [HL3.out, List.length_append, ← hsl.out, hKK]
            obtain ⟨j, hj⟩ : ∃ j : Nat, cut % (K : Int) = (j : Int) := ⟨(cut % (K : Int)).toNat, by have := Int.emod_nonneg cut (show (K : Int) ≠ 0 by omega); omega⟩
            have hjK : j < K := by have := Int.emod_lt_of_pos cut (show (0 : Int) < (K : Int) by omega); omega
            have hu := hv
            unfold taskB at hu
            simp only [Bool.and_eq_true, decide_eq_true_eq] at hu
            obtain ⟨⟨⟨⟨⟨⟨⟨v1, v2⟩, v3⟩, v4⟩, v5⟩, v6⟩, v7⟩, v8⟩ := hu
            have u2 := rB_bd v5
            have u3 := gangB_le v8
            have hu := v1
            clear v1 v2 v5 v6 v7 v8
            obtain ⟨pr3, rfl⟩ : ∃ x : Nat, pr3 = (x : Int) := ⟨pr3.toNat, by omega⟩
            obtain ⟨a3, rfl⟩ : ∃ x : Nat, a3 = (x : Int) := ⟨a3.toNat, by omega⟩
            obtain ⟨b3, rfl⟩ : ∃ x : Nat, b3 = (x : Int) := ⟨b3.toNat, by omega⟩
            obtain ⟨c3, rfl⟩ : ∃ x : Nat, c3 = (x : Int) := ⟨c3.toNat, by omega⟩
            obtain ⟨sz3, rfl⟩ : ∃ x : Nat, sz3 = (x : Int) := ⟨sz3.toNat, by omega⟩
            clear u3 v3 v4
            have q1 := fun A c W (hr : Rd W A (bs ++ L3 ++ t.data.toList)) (hc : N3 + t.size ≤ c) (hm : c ≤ 9223372036854775807) => takeTask_any A (N3 + t.size) c (s.size : Int) (bs ++ L3 ++ t.data.toList) W (by show _ = _; rw [List.length_append, str_len, ← HL3.out]) (Lib.hid hr) hc hm
            have r1 := task_at (l := bs ++ L3 ++ t.data.toList) (x := bs) (y := t.data.toList) hv (by rw [hbt]; simp)
            rw [← hsl.out] at r1
            rw [r1] at q1
            have e1 : (((bs ++ taskEnc nm3 qu3 pr3 a3 b3 c3 l3 ap3 ga3 sz3).length : Nat) : Int) = (N3 : Int) := by rw [← hbt, ← HL3.out]
            unfold retTask at q1
            simp only [] at q1
            rw [e1] at q1
            have q2 := fun A c W (hr : Rd W A ((bs ++ L3).take (s.size + j))) (hc : s.size + j ≤ c) (hm : c ≤ 9223372036854775807) => takeTask_any A (s.size + j) c (s.size : Int) ((bs ++ L3).take (s.size + j)) W (by show _ = _; rw [List.length_take, ← HL3.out]; omega) (Lib.hid hr) hc hm
            have r2 := task_cut (x := bs) (j := j) hv (by rw [← hbt, ← hKK]; exact hjK)
            rw [← hsl.out, ← hbt] at r2
            obtain ⟨xn_3, xq_3, xp_3, xa_3, xb_3, xc_3, xl_3, xap_3, xg_3, xz_3, xx_3, xe_3, hxx⟩ := tk_eta (tTask ((bs ++ L3).take (s.size + j)) (s.size : Int))
            rw [hxx] at q2 r2
            unfold retTask at q2
            simp only [] at q2 r2
            have ec1 : (xe_3 == 0) = false := by simpa using r2
            have ec2 : (xe_3 != 0) = true := by simpa using r2
            have Q1 := Lib.hid q1
            have Q2 := Lib.hid q2
            have hk : (N3 : Int) - (s.size : Int) = (K : Int) := by omega
            have hNa : s.size + j ≤ N3 := by omega
            have hNb : N3 ≤ 1049576 := by omega
            have hK0 : (1 : Int) ≤ (K : Int) := by omega
            have d1 : decide (K < 1) = false := by simp; omega
            have d2 : decide ((K : Int) < 1) = false := by simp; omega
            have d3 : ((K : Int) == 0) = false := by simp; omega
            have hKb : K ≤ 1000 := hle.2
            have HNK := Lib.hid hNK
            clear q1 q2 r1 r2 hxx e1 hbt hK hKK hle hu u2 hNK hv
            have f2_0 : (w10_2.alloc (.cells #[.string xn_2, .int .i64 (xa_2 : Int), .int .i64 (xb_2 : Int), .int .i64 (xc_2 : Int)] 28)).cell? ⟨(w.heap.size + 2), 0, none⟩ = some (.string nm3) := Tg2.out.2.2.2.1.cellAt 0
            have f2_1 : (w10_2.alloc (.cells #[.string xn_2, .int .i64 (xa_2 : Int), .int .i64 (xb_2 : Int), .int .i64 (xc_2 : Int)] 28)).cell? ⟨(w.heap.size + 2), 1, none⟩ = some (.string qu3) := Tg2.out.2.2.2.1.cellAt 1
            have f2_2 : (w10_2.alloc (.cells #[.string xn_2, .int .i64 (xa_2 : Int), .int .i64 (xb_2 : Int), .int .i64 (xc_2 : Int)] 28)).cell? ⟨(w.heap.size + 2), 2, none⟩ = some (.int .i64 (pr3 : Int)) := Tg2.out.2.2.2.1.cellAt 2
            have f2_3 : (w10_2.alloc (.cells #[.string xn_2, .int .i64 (xa_2 : Int), .int .i64 (xb_2 : Int), .int .i64 (xc_2 : Int)] 28)).cell? ⟨(w.heap.size + 2), 3, none⟩ = some (.int .i64 (a3 : Int)) := Tg2.out.2.2.2.1.cellAt 3
            have f2_4 : (w10_2.alloc (.cells #[.string xn_2, .int .i64 (xa_2 : Int), .int .i64 (xb_2 : Int), .int .i64 (xc_2 : Int)] 28)).cell? ⟨(w.heap.size + 2), 4, none⟩ = some (.int .i64 (b3 : Int)) := Tg2.out.2.2.2.1.cellAt 4
            have f2_5 : (w10_2.alloc (.cells #[.string xn_2, .int .i64 (xa_2 : Int), .int .i64 (xb_2 : Int), .int .i64 (xc_2 : Int)] 28)).cell? ⟨(w.heap.size + 2), 5, none⟩ = some (.int .i64 (c3 : Int)) := Tg2.out.2.2.2.1.cellAt 5
            have f2_6 : (w10_2.alloc (.cells #[.string xn_2, .int .i64 (xa_2 : Int), .int .i64 (xb_2 : Int), .int .i64 (xc_2 : Int)] 28)).cell? ⟨(w.heap.size + 2), 6, none⟩ = some (.slice A3 n3 cp3) := Tg2.out.2.2.2.1.cellAt 6
            have f2_7 : (w10_2.alloc (.cells #[.string xn_2, .int .i64 (xa_2 : Int), .int .i64 (xb_2 : Int), .int .i64 (xc_2 : Int)] 28)).cell? ⟨(w.heap.size + 2), 7, none⟩ = some (.string ap3) := Tg2.out.2.2.2.1.cellAt 7
            have f2_8 : (w10_2.alloc (.cells #[.string xn_2, .int .i64 (xa_2 : Int), .int .i64 (xb_2 : Int), .int .i64 (xc_2 : Int)] 28)).cell? ⟨(w.heap.size + 2), 8, none⟩ = some (.string ga3) := Tg2.out.2.2.2.1.cellAt 8
            have f2_9 : (w10_2.alloc (.cells #[.string xn_2, .int .i64 (xa_2 : Int), .int .i64 (xb_2 : Int), .int .i64 (xc_2 : Int)] 28)).cell? ⟨(w.heap.size + 2), 9, none⟩ = some (.int .i64 (sz3 : Int)) := Tg2.out.2.2.2.1.cellAt 9
            go_wp2_with fail
            refine (KV.out _ (HR3.out.later Tg2.out.1)).mono ?_
            rintro e u3 ⟨rfl, hb⟩
            have Ta3 : Hid (Below w.heap.size w u3 ∧ Bk u3 w.heap.size 26 #[.string nm1, .int .i64 a1, .int .i64 b1, .int .i64 c1, .slice A1 n1 cp1] ∧ Bk u3 (w.heap.size + 1) 28 #[.string nm2, .int .i64 (a2 : Int), .int .i64 (b2 : Int), .int .i64 (c2 : Int)] ∧ Bk u3 (w.heap.size + 2) 30 #[.string nm3, .string qu3, .int .i64 (pr3 : Int), .int .i64 (a3 : Int), .int .i64 (b3 : Int), .int .i64 (c3 : Int), .slice A3 n3 cp3, .string ap3, .string ga3, .int .i64 (sz3 : Int)] ∧ Rd u3 G1 (bs ++ L1) ∧ Rd u3 (some ⟨gg2, 0, none⟩) (bs ++ L2) ∧ Rd u3 (some ⟨gg3, 0, none⟩) (bs ++ L3)) := ⟨Tg2.out.1.trans ((hb).mono Tg2.out.1.size), Tg2.out.2.1.later (hb), Tg2.out.2.2.1.later (hb), Tg2.out.2.2.2.1.later (hb), Tg2.out.2.2.2.2.1.below (hb), Tg2.out.2.2.2.2.2.1.below (hb), Tg2.out.2.2.2.2.2.2.below (hb)⟩
            clear hb Tg2 KV f2_0 f2_1 f2_2 f2_3 f2_4 f2_5 f2_6 f2_7 f2_8 f2_9
            go_wp2_with (at_builtin; refine wpList_append_cut _ rfl (.tmp 170) (.tmp 171) 36 9 rfl 5 i0 Try.underlying36 Try.underlying9 hi hy0 hy1 hy2 gg3 N3 (bs ++ L3) t rfl rfl Ta3.out.2.2.2.2.2.2 HL3.out (by omega) ?_)
            intro A7_3 c7_3 w7_3 hr7 hb7 hc7 hm7
            rw [← List.append_assoc] at hr7
            unfold maxLen at hm7
            have hm7x : c7_3 ≤ 9223372036854775807 := by omega
            clear hm7
            have Tb3 : Hid (Below w.heap.size w w7_3 ∧ Bk w7_3 w.heap.size 26 #[.string nm1, .int .i64 a1, .int .i64 b1, .int .i64 c1, .slice A1 n1 cp1] ∧ Bk w7_3 (w.heap.size + 1) 28 #[.string nm2, .int .i64 (a2 : Int), .int .i64 (b2 : Int), .int .i64 (c2 : Int)] ∧ Bk w7_3 (w.heap.size + 2) 30 #[.string nm3, .string qu3, .int .i64 (pr3 : Int), .int .i64 (a3 : Int), .int .i64 (b3 : Int), .int .i64 (c3 : Int), .slice A3 n3 cp3, .string ap3, .string ga3, .int .i64 (sz3 : Int)] ∧ Rd w7_3 G1 (bs ++ L1) ∧ Rd w7_3 (some ⟨gg2, 0, none⟩) (bs ++ L2) ∧ Rd w7_3 (some ⟨gg3, 0, none⟩) (bs ++ L3)) := ⟨Ta3.out.1.trans ((hb7).mono Ta3.out.1.size), Ta3.out.2.1.later (hb7), Ta3.out.2.2.1.later (hb7), Ta3.out.2.2.2.1.later (hb7), Ta3.out.2.2.2.2.1.below (hb7), Ta3.out.2.2.2.2.2.1.below (hb7), Ta3.out.2.2.2.2.2.2.below (hb7)⟩
            clear hb7 Ta3
            go_wp2_with fail
            refine (Q1.out _ _ _ hr7 hc7 hm7x).mono ?_
            rintro e w8_3 ⟨v8, rfl, ho8, hb8⟩
            have Tc3 : Hid (Below w.heap.size w w8_3 ∧ Bk w8_3 w.heap.size 26 #[.string nm1, .int .i64 a1, .int .i64 b1, .int .i64 c1, .slice A1 n1 cp1] ∧ Bk w8_3 (w.heap.size + 1) 28 #[.string nm2, .int .i64 (a2 : Int), .int .i64 (b2 : Int), .int .i64 (c2 : Int)] ∧ Bk w8_3 (w.heap.size + 2) 30 #[.string nm3, .string qu3, .int .i64 (pr3 : Int), .int .i64 (a3 : Int), .int .i64 (b3 : Int), .int .i64 (c3 : Int), .slice A3 n3 cp3, .string ap3, .string ga3, .int .i64 (sz3 : Int)] ∧ Rd w8_3 G1 (bs ++ L1) ∧ Rd w8_3 (some ⟨gg2, 0, none⟩) (bs ++ L2) ∧ Rd w8_3 (some ⟨gg3, 0, none⟩) (bs ++ L3)) := ⟨Tb3.out.1.trans ((hb8).mono Tb3.out.1.size), Tb3.out.2.1.later (hb8), Tb3.out.2.2.1.later (hb8), Tb3.out.2.2.2.1.later (hb8), Tb3.out.2.2.2.2.1.below (hb8), Tb3.out.2.2.2.2.2.1.below (hb8), Tb3.out.2.2.2.2.2.2.below (hb8)⟩
            clear hb8 hr7 Tb3
            obtain ⟨A8_3, p8_3, sl8⟩ := ho8.sl
            obtain ⟨m8_3, hm8⟩ : ∃ m, m = l3.length := ⟨_, rfl⟩
            have hv8 := sl8.val; rw [← hm8] at hv8; subst hv8
            have ca8_3 := sl8.cap; rw [← hm8] at ca8_3
            have cb8_3 : p8_3 ≤ 9223372036854775807 := by have := sl8.cap2; unfold maxLen at this; omega
            have HM8_3 := Lib.hid hm8
            have R8 : Hid (RdL w8_3 A8_3 l3) := sl8.rd
            clear sl8 ho8 hm8
            have Td3 : Hid (Below w.heap.size w (w8_3.alloc (.cells #[.string nm3, .string qu3, .int .i64 (pr3 : Int), .int .i64 (a3 : Int), .int .i64 (b3 : Int), .int .i64 (c3 : Int), .slice A8_3 m8_3 p8_3, .string ap3, .string ga3, .int .i64 (sz3 : Int)] 30)) ∧ Bk (w8_3.alloc (.cells #[.string nm3, .string qu3, .int .i64 (pr3 : Int), .int .i64 (a3 : Int), .int .i64 (b3 : Int), .int .i64 (c3 : Int), .slice A8_3 m8_3 p8_3, .string ap3, .string ga3, .int .i64 (sz3 : Int)] 30)) w.heap.size 26 #[.string nm1, .int .i64 a1, .int .i64 b1, .int .i64 c1, .slice A1 n1 cp1] ∧ Bk (w8_3.alloc (.cells #[.string nm3, .string qu3, .int .i64 (pr3 : Int), .int .i64 (a3 : Int), .int .i64 (b3 : Int), .int .i64 (c3 : Int), .slice A8_3 m8_3 p8_3, .string ap3, .string ga3, .int .i64 (sz3 : Int)] 30)) (w.heap.size + 1) 28 #[.string nm2, .int .i64 (a2 : Int), .int .i64 (b2 : Int), .int .i64 (c2 : Int)] ∧ Bk (w8_3.alloc (.cells #[.string nm3, .string qu3, .int .i64 (pr3 : Int), .int .i64 (a3 : Int), .int .i64 (b3 : Int), .int .i64 (c3 : Int), .slice A8_3 m8_3 p8_3, .string ap3, .string ga3, .int .i64 (sz3 : Int)] 30)) (w.heap.size + 2) 30 #[.string nm3, .string qu3, .int .i64 (pr3 : Int), .int .i64 (a3 : Int), .int .i64 (b3 : Int), .int .i64 (c3 : Int), .slice A3 n3 cp3, .string ap3, .string ga3, .int .i64 (sz3 : Int)] ∧ Rd (w8_3.alloc (.cells #[.string nm3, .string qu3, .int .i64 (pr3 : Int), .int .i64 (a3 : Int), .int .i64 (b3 : Int), .int .i64 (c3 : Int), .slice A8_3 m8_3 p8_3, .string ap3, .string ga3, .int .i64 (sz3 : Int)] 30)) G1 (bs ++ L1) ∧ Rd (w8_3.alloc (.cells #[.string nm3, .string qu3, .int .i64 (pr3 : Int), .int .i64 (a3 : Int), .int .i64 (b3 : Int), .int .i64 (c3 : Int), .slice A8_3 m8_3 p8_3, .string ap3, .string ga3, .int .i64 (sz3 : Int)] 30)) (some ⟨gg2, 0, none⟩) (bs ++ L2) ∧ Rd (w8_3.alloc (.cells #[.string nm3, .string qu3, .int .i64 (pr3 : Int), .int .i64 (a3 : Int), .int .i64 (b3 : Int), .int .i64 (c3 : Int), .slice A8_3 m8_3 p8_3, .string ap3, .string ga3, .int .i64 (sz3 : Int)] 30)) (some ⟨gg3, 0, none⟩) (bs ++ L3) ∧ Bk (w8_3.alloc (.cells #[.string nm3, .string qu3, .int .i64 (pr3 : Int), .int .i64 (a3 : Int), .int .i64 (b3 : Int), .int .i64 (c3 : Int), .slice A8_3 m8_3 p8_3, .string ap3, .string ga3, .int .i64 (sz3 : Int)] 30)) w8_3.heap.size 30 #[.string nm3, .string qu3, .int .i64 (pr3 : Int), .int .i64 (a3 : Int), .int .i64 (b3 : Int), .int .i64 (c3 : Int), .slice A8_3 m8_3 p8_3, .string ap3, .string ga3, .int .i64 (sz3 : Int)] ∧ RdL (w8_3.alloc (.cells #[.string nm3, .string qu3, .int .i64 (pr3 : Int), .int .i64 (a3 : Int), .int .i64 (b3 : Int), .int .i64 (c3 : Int), .slice A8_3 m8_3 p8_3, .string ap3, .string ga3, .int .i64 (sz3 : Int)] 30)) A8_3 l3) := ⟨Tc3.out.1.alloc Tc3.out.1.size _, Tc3.out.2.1.later ((Below.refl _ _).alloc (Nat.le_refl _) _), Tc3.out.2.2.1.later ((Below.refl _ _).alloc (Nat.le_refl _) _), Tc3.out.2.2.2.1.later ((Below.refl _ _).alloc (Nat.le_refl _) _), Tc3.out.2.2.2.2.1.below ((Below.refl _ _).alloc (Nat.le_refl _) _), Tc3.out.2.2.2.2.2.1.below ((Below.refl _ _).alloc (Nat.le_refl _) _), Tc3.out.2.2.2.2.2.2.below ((Below.refl _ _).alloc (Nat.le_refl _) _), Bk.fresh _ _ _, R8.out.later ((Below.refl _ _).alloc (Nat.le_refl _) _)⟩
            clear Tc3 R8
            go_wp2_with fail
            refine (Q2.out _ C3 _ (Td3.out.2.2.2.2.2.2.1.take _) (by omega) (by omega)).mono ?_
            rintro e w10_3 ⟨v10, rfl, ho10, hb10⟩
            obtain ⟨A10_3, p10_3, sl10⟩ := ho10.sl
            have hv10 := sl10.val
            obtain ⟨m10_3, hm10⟩ : ∃ m, m = xl_3.length := ⟨_, rfl⟩
            rw [← hm10] at hv10; subst hv10
            clear sl10 ho10 hm10
            have Te3 : Hid (Below w.heap.size w w10_3 ∧ Bk w10_3 w.heap.size 26 #[.string nm1, .int .i64 a1, .int .i64 b1, .int .i64 c1, .slice A1 n1 cp1] ∧ Bk w10_3 (w.heap.size + 1) 28 #[.string nm2, .int .i64 (a2 : Int), .int .i64 (b2 : Int), .int .i64 (c2 : Int)] ∧ Bk w10_3 (w.heap.size + 2) 30 #[.string nm3, .string qu3, .int .i64 (pr3 : Int), .int .i64 (a3 : Int), .int .i64 (b3 : Int), .int .i64 (c3 : Int), .slice A3 n3 cp3, .string ap3, .string ga3, .int .i64 (sz3 : Int)] ∧ Rd w10_3 G1 (bs ++ L1) ∧ Rd w10_3 (some ⟨gg2, 0, none⟩) (bs ++ L2) ∧ Rd w10_3 (some ⟨gg3, 0, none⟩) (bs ++ L3) ∧ Bk w10_3 w8_3.heap.size 30 #[.string nm3, .string qu3, .int .i64 (pr3 : Int), .int .i64 (a3 : Int), .int .i64 (b3 : Int), .int .i64 (c3 : Int), .slice A8_3 m8_3 p8_3, .string ap3, .string ga3, .int .i64 (sz3 : Int)] ∧ RdL w10_3 A8_3 l3) := ⟨Td3.out.1.trans ((hb10).mono Td3.out.1.size), Td3.out.2.1.later (hb10), Td3.out.2.2.1.later (hb10), Td3.out.2.2.2.1.later (hb10), Td3.out.2.2.2.2.1.below (hb10), Td3.out.2.2.2.2.2.1.below (hb10), Td3.out.2.2.2.2.2.2.1.below (hb10), Td3.out.2.2.2.2.2.2.2.1.later (hb10), Td3.out.2.2.2.2.2.2.2.2.later (hb10)⟩
            clear hb10 Td3
            clear hk d1 d2 d3 hj hjK hNa hNb hK0 hKb HNK Q1 Q2
            have Tf3 : Hid (Below w.heap.size w (w10_3.alloc (.cells #[.string xn_3, .string xq_3, .int .i64 (xp_3 : Int), .int .i64 (xa_3 : Int), .int .i64 (xb_3 : Int), .int .i64 (xc_3 : Int), .slice A10_3 m10_3 p10_3, .string xap_3, .string xg_3, .int .i64 (xz_3 : Int)] 30)) ∧ Bk (w10_3.alloc (.cells #[.string xn_3, .string xq_3, .int .i64 (xp_3 : Int), .int .i64 (xa_3 : Int), .int .i64 (xb_3 : Int), .int .i64 (xc_3 : Int), .slice A10_3 m10_3 p10_3, .string xap_3, .string xg_3, .int .i64 (xz_3 : Int)] 30)) w.heap.size 26 #[.string nm1, .int .i64 a1, .int .i64 b1, .int .i64 c1, .slice A1 n1 cp1] ∧ Bk (w10_3.alloc (.cells #[.string xn_3, .string xq_3, .int .i64 (xp_3 : Int), .int .i64 (xa_3 : Int), .int .i64 (xb_3 : Int), .int .i64 (xc_3 : Int), .slice A10_3 m10_3 p10_3, .string xap_3, .string xg_3, .int .i64 (xz_3 : Int)] 30)) (w.heap.size + 1) 28 #[.string nm2, .int .i64 (a2 : Int), .int .i64 (b2 : Int), .int .i64 (c2 : Int)] ∧ Bk (w10_3.alloc (.cells #[.string xn_3, .string xq_3, .int .i64 (xp_3 : Int), .int .i64 (xa_3 : Int), .int .i64 (xb_3 : Int), .int .i64 (xc_3 : Int), .slice A10_3 m10_3 p10_3, .string xap_3, .string xg_3, .int .i64 (xz_3 : Int)] 30)) (w.heap.size + 2) 30 #[.string nm3, .string qu3, .int .i64 (pr3 : Int), .int .i64 (a3 : Int), .int .i64 (b3 : Int), .int .i64 (c3 : Int), .slice A3 n3 cp3, .string ap3, .string ga3, .int .i64 (sz3 : Int)] ∧ Rd (w10_3.alloc (.cells #[.string xn_3, .string xq_3, .int .i64 (xp_3 : Int), .int .i64 (xa_3 : Int), .int .i64 (xb_3 : Int), .int .i64 (xc_3 : Int), .slice A10_3 m10_3 p10_3, .string xap_3, .string xg_3, .int .i64 (xz_3 : Int)] 30)) G1 (bs ++ L1) ∧ Rd (w10_3.alloc (.cells #[.string xn_3, .string xq_3, .int .i64 (xp_3 : Int), .int .i64 (xa_3 : Int), .int .i64 (xb_3 : Int), .int .i64 (xc_3 : Int), .slice A10_3 m10_3 p10_3, .string xap_3, .string xg_3, .int .i64 (xz_3 : Int)] 30)) (some ⟨gg2, 0, none⟩) (bs ++ L2) ∧ Rd (w10_3.alloc (.cells #[.string xn_3, .string xq_3, .int .i64 (xp_3 : Int), .int .i64 (xa_3 : Int), .int .i64 (xb_3 : Int), .int .i64 (xc_3 : Int), .slice A10_3 m10_3 p10_3, .string xap_3, .string xg_3, .int .i64 (xz_3 : Int)] 30)) (some ⟨gg3, 0, none⟩) (bs ++ L3) ∧ Bk (w10_3.alloc (.cells #[.string xn_3, .string xq_3, .int .i64 (xp_3 : Int), .int .i64 (xa_3 : Int), .int .i64 (xb_3 : Int), .int .i64 (xc_3 : Int), .slice A10_3 m10_3 p10_3, .string xap_3, .string xg_3, .int .i64 (xz_3 : Int)] 30)) w8_3.heap.size 30 #[.string nm3, .string qu3, .int .i64 (pr3 : Int), .int .i64 (a3 : Int), .int .i64 (b3 : Int), .int .i64 (c3 : Int), .slice A8_3 m8_3 p8_3, .string ap3, .string ga3, .int .i64 (sz3 : Int)] ∧ RdL (w10_3.alloc (.cells #[.string xn_3, .string xq_3, .int .i64 (xp_3 : Int), .int .i64 (xa_3 : Int), .int .i64 (xb_3 : Int), .int .i64 (xc_3 : Int), .slice A10_3 m10_3 p10_3, .string xap_3, .string xg_3, .int .i64 (xz_3 : Int)] 30)) A8_3 l3) := ⟨Te3.out.1.alloc Te3.out.1.size _, Te3.out.2.1.later ((Below.refl _ _).alloc (Nat.le_refl _) _), Te3.out.2.2.1.later ((Below.refl _ _).alloc (Nat.le_refl _) _), Te3.out.2.2.2.1.later ((Below.refl _ _).alloc (Nat.le_refl _) _), Te3.out.2.2.2.2.1.below ((Below.refl _ _).alloc (Nat.le_refl _) _), Te3.out.2.2.2.2.2.1.below ((Below.refl _ _).alloc (Nat.le_refl _) _), Te3.out.2.2.2.2.2.2.1.below ((Below.refl _ _).alloc (Nat.le_refl _) _), Te3.out.2.2.2.2.2.2.2.1.later ((Below.refl _ _).alloc (Nat.le_refl _) _), Te3.out.2.2.2.2.2.2.2.2.later ((Below.refl _ _).alloc (Nat.le_refl _) _)⟩
            clear Te3
            have f2_0 : (w10_3.alloc (.cells #[.string xn_3, .string xq_3, .int .i64 (xp_3 : Int), .int .i64 (xa_3 : Int), .int .i64 (xb_3 : Int), .int .i64 (xc_3 : Int), .slice A10_3 m10_3 p10_3, .string xap_3, .string xg_3, .int .i64 (xz_3 : Int)] 30)).cell? ⟨(w.heap.size + 2), 0, none⟩ = some (.string nm3) := Tf3.out.2.2.2.1.cellAt 0
            have f2_1 : (w10_3.alloc (.cells #[.string xn_3, .string xq_3, .int .i64 (xp_3 : Int), .int .i64 (xa_3 : Int), .int .i64 (xb_3 : Int), .int .i64 (xc_3 : Int), .slice A10_3 m10_3 p10_3, .string xap_3, .string xg_3, .int .i64 (xz_3 : Int)] 30)).cell? ⟨(w.heap.size + 2), 1, none⟩ = some (.string qu3) := Tf3.out.2.2.2.1.cellAt 1
            have f2_2 : (w10_3.alloc (.cells #[.string xn_3, .string xq_3, .int .i64 (xp_3 : Int), .int .i64 (xa_3 : Int), .int .i64 (xb_3 : Int), .int .i64 (xc_3 : Int), .slice A10_3 m10_3 p10_3, .string xap_3, .string xg_3, .int .i64 (xz_3 : Int)] 30)).cell? ⟨(w.heap.size + 2), 2, none⟩ = some (.int .i64 (pr3 : Int)) := Tf3.out.2.2.2.1.cellAt 2
            have f2_3 : (w10_3.alloc (.cells #[.string xn_3, .string xq_3, .int .i64 (xp_3 : Int), .int .i64 (xa_3 : Int), .int .i64 (xb_3 : Int), .int .i64 (xc_3 : Int), .slice A10_3 m10_3 p10_3, .string xap_3, .string xg_3, .int .i64 (xz_3 : Int)] 30)).cell? ⟨(w.heap.size + 2), 3, none⟩ = some (.int .i64 (a3 : Int)) := Tf3.out.2.2.2.1.cellAt 3
            have f2_4 : (w10_3.alloc (.cells #[.string xn_3, .string xq_3, .int .i64 (xp_3 : Int), .int .i64 (xa_3 : Int), .int .i64 (xb_3 : Int), .int .i64 (xc_3 : Int), .slice A10_3 m10_3 p10_3, .string xap_3, .string xg_3, .int .i64 (xz_3 : Int)] 30)).cell? ⟨(w.heap.size + 2), 4, none⟩ = some (.int .i64 (b3 : Int)) := Tf3.out.2.2.2.1.cellAt 4
            have f2_5 : (w10_3.alloc (.cells #[.string xn_3, .string xq_3, .int .i64 (xp_3 : Int), .int .i64 (xa_3 : Int), .int .i64 (xb_3 : Int), .int .i64 (xc_3 : Int), .slice A10_3 m10_3 p10_3, .string xap_3, .string xg_3, .int .i64 (xz_3 : Int)] 30)).cell? ⟨(w.heap.size + 2), 5, none⟩ = some (.int .i64 (c3 : Int)) := Tf3.out.2.2.2.1.cellAt 5
            have f2_6 : (w10_3.alloc (.cells #[.string xn_3, .string xq_3, .int .i64 (xp_3 : Int), .int .i64 (xa_3 : Int), .int .i64 (xb_3 : Int), .int .i64 (xc_3 : Int), .slice A10_3 m10_3 p10_3, .string xap_3, .string xg_3, .int .i64 (xz_3 : Int)] 30)).cell? ⟨(w.heap.size + 2), 6, none⟩ = some (.slice A3 n3 cp3) := Tf3.out.2.2.2.1.cellAt 6
            have f2_7 : (w10_3.alloc (.cells #[.string xn_3, .string xq_3, .int .i64 (xp_3 : Int), .int .i64 (xa_3 : Int), .int .i64 (xb_3 : Int), .int .i64 (xc_3 : Int), .slice A10_3 m10_3 p10_3, .string xap_3, .string xg_3, .int .i64 (xz_3 : Int)] 30)).cell? ⟨(w.heap.size + 2), 7, none⟩ = some (.string ap3) := Tf3.out.2.2.2.1.cellAt 7
            have f2_8 : (w10_3.alloc (.cells #[.string xn_3, .string xq_3, .int .i64 (xp_3 : Int), .int .i64 (xa_3 : Int), .int .i64 (xb_3 : Int), .int .i64 (xc_3 : Int), .slice A10_3 m10_3 p10_3, .string xap_3, .string xg_3, .int .i64 (xz_3 : Int)] 30)).cell? ⟨(w.heap.size + 2), 8, none⟩ = some (.string ga3) := Tf3.out.2.2.2.1.cellAt 8
            have f2_9 : (w10_3.alloc (.cells #[.string xn_3, .string xq_3, .int .i64 (xp_3 : Int), .int .i64 (xa_3 : Int), .int .i64 (xb_3 : Int), .int .i64 (xc_3 : Int), .slice A10_3 m10_3 p10_3, .string xap_3, .string xg_3, .int .i64 (xz_3 : Int)] 30)).cell? ⟨(w.heap.size + 2), 9, none⟩ = some (.int .i64 (sz3 : Int)) := Tf3.out.2.2.2.1.cellAt 9
            have f6_0 : (w10_3.alloc (.cells #[.string xn_3, .string xq_3, .int .i64 (xp_3 : Int), .int .i64 (xa_3 : Int), .int .i64 (xb_3 : Int), .int .i64 (xc_3 : Int), .slice A10_3 m10_3 p10_3, .string xap_3, .string xg_3, .int .i64 (xz_3 : Int)] 30)).cell? ⟨w8_3.heap.size, 0, none⟩ = some (.string nm3) := Tf3.out.2.2.2.2.2.2.2.1.cellAt 0
            have f6_1 : (w10_3.alloc (.cells #[.string xn_3, .string xq_3, .int .i64 (xp_3 : Int), .int .i64 (xa_3 : Int), .int .i64 (xb_3 : Int), .int .i64 (xc_3 : Int), .slice A10_3 m10_3 p10_3, .string xap_3, .string xg_3, .int .i64 (xz_3 : Int)] 30)).cell? ⟨w8_3.heap.size, 1, none⟩ = some (.string qu3) := Tf3.out.2.2.2.2.2.2.2.1.cellAt 1
            have f6_2 : (w10_3.alloc (.cells #[.string xn_3, .string xq_3, .int .i64 (xp_3 : Int), .int .i64 (xa_3 : Int), .int .i64 (xb_3 : Int), .int .i64 (xc_3 : Int), .slice A10_3 m10_3 p10_3, .string xap_3, .string xg_3, .int .i64 (xz_3 : Int)] 30)).cell? ⟨w8_3.heap.size, 2, none⟩ = some (.int .i64 (pr3 : Int)) := Tf3.out.2.2.2.2.2.2.2.1.cellAt 2
            have f6_3 : (w10_3.alloc (.cells #[.string xn_3, .string xq_3, .int .i64 (xp_3 : Int), .int .i64 (xa_3 : Int), .int .i64 (xb_3 : Int), .int .i64 (xc_3 : Int), .slice A10_3 m10_3 p10_3, .string xap_3, .string xg_3, .int .i64 (xz_3 : Int)] 30)).cell? ⟨w8_3.heap.size, 3, none⟩ = some (.int .i64 (a3 : Int)) := Tf3.out.2.2.2.2.2.2.2.1.cellAt 3
            have f6_4 : (w10_3.alloc (.cells #[.string xn_3, .string xq_3, .int .i64 (xp_3 : Int), .int .i64 (xa_3 : Int), .int .i64 (xb_3 : Int), .int .i64 (xc_3 : Int), .slice A10_3 m10_3 p10_3, .string xap_3, .string xg_3, .int .i64 (xz_3 : Int)] 30)).cell? ⟨w8_3.heap.size, 4, none⟩ = some (.int .i64 (b3 : Int)) := Tf3.out.2.2.2.2.2.2.2.1.cellAt 4
            have f6_5 : (w10_3.alloc (.cells #[.string xn_3, .string xq_3, .int .i64 (xp_3 : Int), .int .i64 (xa_3 : Int), .int .i64 (xb_3 : Int), .int .i64 (xc_3 : Int), .slice A10_3 m10_3 p10_3, .string xap_3, .string xg_3, .int .i64 (xz_3 : Int)] 30)).cell? ⟨w8_3.heap.size, 5, none⟩ = some (.int .i64 (c3 : Int)) := Tf3.out.2.2.2.2.2.2.2.1.cellAt 5
            have f6_6 : (w10_3.alloc (.cells #[.string xn_3, .string xq_3, .int .i64 (xp_3 : Int), .int .i64 (xa_3 : Int), .int .i64 (xb_3 : Int), .int .i64 (xc_3 : Int), .slice A10_3 m10_3 p10_3, .string xap_3, .string xg_3, .int .i64 (xz_3 : Int)] 30)).cell? ⟨w8_3.heap.size, 6, none⟩ = some (.slice A8_3 m8_3 p8_3) := Tf3.out.2.2.2.2.2.2.2.1.cellAt 6
            have f6_7 : (w10_3.alloc (.cells #[.string xn_3, .string xq_3, .int .i64 (xp_3 : Int), .int .i64 (xa_3 : Int), .int .i64 (xb_3 : Int), .int .i64 (xc_3 : Int), .slice A10_3 m10_3 p10_3, .string xap_3, .string xg_3, .int .i64 (xz_3 : Int)] 30)).cell? ⟨w8_3.heap.size, 7, none⟩ = some (.string ap3) := Tf3.out.2.2.2.2.2.2.2.1.cellAt 7
            have f6_8 : (w10_3.alloc (.cells #[.string xn_3, .string xq_3, .int .i64 (xp_3 : Int), .int .i64 (xa_3 : Int), .int .i64 (xb_3 : Int), .int .i64 (xc_3 : Int), .slice A10_3 m10_3 p10_3, .string xap_3, .string xg_3, .int .i64 (xz_3 : Int)] 30)).cell? ⟨w8_3.heap.size, 8, none⟩ = some (.string ga3) := Tf3.out.2.2.2.2.2.2.2.1.cellAt 8
            have f6_9 : (w10_3.alloc (.cells #[.string xn_3, .string xq_3, .int .i64 (xp_3 : Int), .int .i64 (xa_3 : Int), .int .i64 (xb_3 : Int), .int .i64 (xc_3 : Int), .slice A10_3 m10_3 p10_3, .string xap_3, .string xg_3, .int .i64 (xz_3 : Int)] 30)).cell? ⟨w8_3.heap.size, 9, none⟩ = some (.int .i64 (sz3 : Int)) := Tf3.out.2.2.2.2.2.2.2.1.cellAt 9
            go_wp2_with fail
            refine (sameTask_yes nm3 qu3 (pr3 : Int) (a3 : Int) (b3 : Int) (c3 : Int) A8_3 m8_3 p8_3 A3 n3 cp3 l3 ap3 ga3 (sz3 : Int) _ HM8_3 HN3 (Lib.hid Tf3.out.2.2.2.2.2.2.2.2) (Lib.hid (HR3.out.later Tf3.out.1)) ca8_3 cb8_3 hc3 hm3).mono ?_
            rintro e w12_3 ⟨rfl, hb12⟩
            have Tg3 : Hid (Below w.heap.size w w12_3 ∧ Bk w12_3 w.heap.size 26 #[.string nm1, .int .i64 a1, .int .i64 b1, .int .i64 c1, .slice A1 n1 cp1] ∧ Bk w12_3 (w.heap.size + 1) 28 #[.string nm2, .int .i64 (a2 : Int), .int .i64 (b2 : Int), .int .i64 (c2 : Int)] ∧ Bk w12_3 (w.heap.size + 2) 30 #[.string nm3, .string qu3, .int .i64 (pr3 : Int), .int .i64 (a3 : Int), .int .i64 (b3 : Int), .int .i64 (c3 : Int), .slice A3 n3 cp3, .string ap3, .string ga3, .int .i64 (sz3 : Int)] ∧ Rd w12_3 G1 (bs ++ L1) ∧ Rd w12_3 (some ⟨gg2, 0, none⟩) (bs ++ L2) ∧ Rd w12_3 (some ⟨gg3, 0, none⟩) (bs ++ L3)) := ⟨Tf3.out.1.trans ((hb12).mono Tf3.out.1.size), Tf3.out.2.1.later (hb12), Tf3.out.2.2.1.later (hb12), Tf3.out.2.2.2.1.later (hb12), Tf3.out.2.2.2.2.1.below (hb12), Tf3.out.2.2.2.2.2.1.below (hb12), Tf3.out.2.2.2.2.2.2.1.below (hb12)⟩
            clear hb12 Tf3 f2_0 f2_1 f2_2 f2_3 f2_4 f2_5 f2_6 f2_7 f2_8 f2_9 f6_0 f6_1 f6_2 f6_3 f6_4 f6_5 f6_6 f6_7 f6_8 f6_9
            go_wp2
            go_ret
            exact ⟨rfl, Tg3.out.1⟩
      case pos =>
        rw [hv] at kv
        have KV := Lib.hid kv
        clear kv
        have hle := nodeEnc_le hv
        have hbt : L1 = nodeEnc nm1 a1 b1 c1 l1 := HB1.out.trans (if_pos hv)
        have hx := rd_head T4.out.2.2.2.2.1 (by rw [hbt, List.length_append]; omega) X1.out
        obtain ⟨gg1, hg⟩ := hx
        subst hg
        have hK : L1.length = (nodeEnc nm1 a1 b1 c1 l1).length := by rw [hbt]
        rw [← hK] at hle
        obtain ⟨K, hKK⟩ : ∃ K, K = L1.length := ⟨_, rfl⟩
        rw [← hKK] at hle
        have hNK : N1 = s.size + K := by rw [HL1.out, List.length_append, ← hsl.out, hKK]
        obtain ⟨j, hj⟩ : ∃ j : Nat, cut % (K : Int) = (j : Int) := ⟨(cut % (K : Int)).toNat, by have := Int.emod_nonneg cut (show (K : Int) ≠ 0 by omega); omega⟩
        have hjK : j < K := by have := Int.emod_lt_of_pos cut (show (0 : Int) < (K : Int) by omega); omega
        have hu := hv
        unfold nodeB at hu
        simp only [Bool.and_eq_true, decide_eq_true_eq] at hu
        have u2 := rB_bd hu.1.2
        obtain ⟨a1, rfl⟩ : ∃ x : Nat, a1 = (x : Int) := ⟨a1.toNat, by omega⟩
        obtain ⟨b1, rfl⟩ : ∃ x : Nat, b1 = (x : Int) := ⟨b1.toNat, by omega⟩
        obtain ⟨c1, rfl⟩ : ∃ x : Nat, c1 = (x : Int) := ⟨c1.toNat, by omega⟩
        have q1 := fun A c W (hr : Rd W A (bs ++ L1 ++ t.data.toList)) (hc : N1 + t.size ≤ c) (hm : c ≤ 9223372036854775807) => takeNode_any A (N1 + t.size) c (s.size : Int) (bs ++ L1 ++ t.data.toList) W (by show _ = _; rw [List.length_append, str_len, ← HL1.out]) (Lib.hid hr) hc hm
        have r1 := node_at (l := bs ++ L1 ++ t.data.toList) (x := bs) (y := t.data.toList) hv (by rw [hbt]; simp)
        rw [← hsl.out] at r1
        rw [r1] at q1
        have e1 : (((bs ++ nodeEnc nm1 a1 b1 c1 l1).length : Nat) : Int) = (N1 : Int) := by rw [← hbt, ← HL1.out]
        unfold retNode at q1
        simp only [] at q1
        rw [e1] at q1
        have q2 := fun A c W (hr : Rd W A ((bs ++ L1).take (s.size + j))) (hc : s.size + j ≤ c) (hm : c ≤ 9223372036854775807) => takeNode_any A (s.size + j) c (s.size : Int) ((bs ++ L1).take (s.size + j)) W (by show _ = _; rw [List.length_take, ← HL1.out]; omega) (Lib.hid hr) hc hm
        have r2 := node_cut (x := bs) (j := j) hv (by rw [← hbt, ← hKK]; exact hjK)
        rw [← hsl.out, ← hbt] at r2
        obtain ⟨xn_1, xa_1, xb_1, xc_1, xl_1, xx_1, xe_1, hxx⟩ := nd_eta (tNode ((bs ++ L1).take (s.size + j)) (s.size : Int))
        rw [hxx] at q2 r2
        unfold retNode at q2
        simp only [] at q2 r2
        have ec1 : (xe_1 == 0) = false := by simpa using r2
        have ec2 : (xe_1 != 0) = true := by simpa using r2
        have Q1 := Lib.hid q1
        have Q2 := Lib.hid q2
        have hk : (N1 : Int) - (s.size : Int) = (K : Int) := by omega
        have hNa : s.size + j ≤ N1 := by omega
        have hNb : N1 ≤ 1049576 := by omega
        have hK0 : (1 : Int) ≤ (K : Int) := by omega
        have d1 : decide (K < 1) = false := by simp; omega
        have d2 : decide ((K : Int) < 1) = false := by simp; omega
        have d3 : ((K : Int) == 0) = false := by simp; omega
        have hKb : K ≤ 1000 := hle.2
        have HNK := Lib.hid hNK
        clear q1 q2 r1 r2 hxx e1 hbt hK hKK hle hu u2 hNK hv
        have f0_0 : wc.cell? ⟨w.heap.size, 0, none⟩ = some (.string nm1) := T4.out.2.1.cellAt 0
        have f0_1 : wc.cell? ⟨w.heap.size, 1, none⟩ = some (.int .i64 (a1 : Int)) := T4.out.2.1.cellAt 1
        have f0_2 : wc.cell? ⟨w.heap.size, 2, none⟩ = some (.int .i64 (b1 : Int)) := T4.out.2.1.cellAt 2
        have f0_3 : wc.cell? ⟨w.heap.size, 3, none⟩ = some (.int .i64 (c1 : Int)) := T4.out.2.1.cellAt 3
        have f0_4 : wc.cell? ⟨w.heap.size, 4, none⟩ = some (.slice A1 n1 cp1) := T4.out.2.1.cellAt 4
        go_wp2_with fail
        refine (KV.out _ (HR1.out.later T4.out.1)).mono ?_
        rintro e u1 ⟨rfl, hb⟩
        have Ta1 : Hid (Below w.heap.size w u1 ∧ Bk u1 w.heap.size 26 #[.string nm1, .int .i64 (a1 : Int), .int .i64 (b1 : Int), .int .i64 (c1 : Int), .slice A1 n1 cp1] ∧ Bk u1 (w.heap.size + 1) 28 #[.string nm2, .int .i64 a2, .int .i64 b2, .int .i64 c2] ∧ Bk u1 (w.heap.size + 2) 30 #[.string nm3, .string qu3, .int .i64 pr3, .int .i64 a3, .int .i64 b3, .int .i64 c3, .slice A3 n3 cp3, .string ap3, .string ga3, .int .i64 sz3] ∧ Rd u1 (some ⟨gg1, 0, none⟩) (bs ++ L1) ∧ Rd u1 G2 (bs ++ L2) ∧ Rd u1 G3 (bs ++ L3)) := ⟨T4.out.1.trans ((hb).mono T4.out.1.size), T4.out.2.1.later (hb), T4.out.2.2.1.later (hb), T4.out.2.2.2.1.later (hb), T4.out.2.2.2.2.1.below (hb), T4.out.2.2.2.2.2.1.below (hb), T4.out.2.2.2.2.2.2.below (hb)⟩
        clear hb T4 KV f0_0 f0_1 f0_2 f0_3 f0_4
        go_wp2_with (at_builtin; refine wpList_append_cut _ rfl (.tmp 67) (.tmp 68) 36 9 rfl 5 i0 Try.underlying36 Try.underlying9 hi hy0 hy1 hy2 gg1 N1 (bs ++ L1) t rfl rfl Ta1.out.2.2.2.2.1 HL1.out (by omega) ?_)
        intro A7_1 c7_1 w7_1 hr7 hb7 hc7 hm7
        rw [← List.append_assoc] at hr7
        unfold maxLen at hm7
        have hm7x : c7_1 ≤ 9223372036854775807 := by omega
        clear hm7
        have Tb1 : Hid (Below w.heap.size w w7_1 ∧ Bk w7_1 w.heap.size 26 #[.string nm1, .int .i64 (a1 : Int), .int .i64 (b1 : Int), .int .i64 (c1 : Int), .slice A1 n1 cp1] ∧ Bk w7_1 (w.heap.size + 1) 28 #[.string nm2, .int .i64 a2, .int .i64 b2, .int .i64 c2] ∧ Bk w7_1 (w.heap.size + 2) 30 #[.string nm3, .string qu3, .int .i64 pr3, .int .i64 a3, .int .i64 b3, .int .i64 c3, .slice A3 n3 cp3, .string ap3, .string ga3, .int .i64 sz3] ∧ Rd w7_1 (some ⟨gg1, 0, none⟩) (bs ++ L1) ∧ Rd w7_1 G2 (bs ++ L2) ∧ Rd w7_1 G3 (bs ++ L3)) := ⟨Ta1.out.1.trans ((hb7).mono Ta1.out.1.size), Ta1.out.2.1.later (hb7), Ta1.out.2.2.1.later (hb7), Ta1.out.2.2.2.1.later (hb7), Ta1.out.2.2.2.2.1.below (hb7), Ta1.out.2.2.2.2.2.1.below (hb7), Ta1.out.2.2.2.2.2.2.below (hb7)⟩
        clear hb7 Ta1
        go_wp2_with fail
        refine (Q1.out _ _ _ hr7 hc7 hm7x).mono ?_
        rintro e w8_1 ⟨v8, rfl, ho8, hb8⟩
        have Tc1 : Hid (Below w.heap.size w w8_1 ∧ Bk w8_1 w.heap.size 26 #[.string nm1, .int .i64 (a1 : Int), .int .i64 (b1 : Int), .int .i64 (c1 : Int), .slice A1 n1 cp1] ∧ Bk w8_1 (w.heap.size + 1) 28 #[.string nm2, .int .i64 a2, .int .i64 b2, .int .i64 c2] ∧ Bk w8_1 (w.heap.size + 2) 30 #[.string nm3, .string qu3, .int .i64 pr3, .int .i64 a3, .int .i64 b3, .int .i64 c3, .slice A3 n3 cp3, .string ap3, .string ga3, .int .i64 sz3] ∧ Rd w8_1 (some ⟨gg1, 0, none⟩) (bs ++ L1) ∧ Rd w8_1 G2 (bs ++ L2) ∧ Rd w8_1 G3 (bs ++ L3)) := ⟨Tb1.out.1.trans ((hb8).mono Tb1.out.1.size), Tb1.out.2.1.later (hb8), Tb1.out.2.2.1.later (hb8), Tb1.out.2.2.2.1.later (hb8), Tb1.out.2.2.2.2.1.below (hb8), Tb1.out.2.2.2.2.2.1.below (hb8), Tb1.out.2.2.2.2.2.2.below (hb8)⟩
        clear hb8 hr7 Tb1
        obtain ⟨A8_1, p8_1, sl8⟩ := ho8.sl
        obtain ⟨m8_1, hm8⟩ : ∃ m, m = l1.length := ⟨_, rfl⟩
        have hv8 := sl8.val; rw [← hm8] at hv8; subst hv8
        have ca8_1 := sl8.cap; rw [← hm8] at ca8_1
        have cb8_1 : p8_1 ≤ 9223372036854775807 := by have := sl8.cap2; unfold maxLen at this; omega
        have HM8_1 := Lib.hid hm8
        have R8 : Hid (RdL w8_1 A8_1 l1) := sl8.rd
        clear sl8 ho8 hm8
        have Td1 : Hid (Below w.heap.size w (w8_1.alloc (.cells #[.string nm1, .int .i64 (a1 : Int), .int .i64 (b1 : Int), .int .i64 (c1 : Int), .slice A8_1 m8_1 p8_1] 26)) ∧ Bk (w8_1.alloc (.cells #[.string nm1, .int .i64 (a1 : Int), .int .i64 (b1 : Int), .int .i64 (c1 : Int), .slice A8_1 m8_1 p8_1] 26)) w.heap.size 26 #[.string nm1, .int .i64 (a1 : Int), .int .i64 (b1 : Int), .int .i64 (c1 : Int), .slice A1 n1 cp1] ∧ Bk (w8_1.alloc (.cells #[.string nm1, .int .i64 (a1 : Int), .int .i64 (b1 : Int), .int .i64 (c1 : Int), .slice A8_1 m8_1 p8_1] 26)) (w.heap.size + 1) 28 #[.string nm2, .int .i64 a2, .int .i64 b2, .int .i64 c2] ∧ Bk (w8_1.alloc (.cells #[.string nm1, .int .i64 (a1 : Int), .int .i64 (b1 : Int), .int .i64 (c1 : Int), .slice A8_1 m8_1 p8_1] 26)) (w.heap.size + 2) 30 #[.string nm3, .string qu3, .int .i64 pr3, .int .i64 a3, .int .i64 b3, .int .i64 c3, .slice A3 n3 cp3, .string ap3, .string ga3, .int .i64 sz3] ∧ Rd (w8_1.alloc (.cells #[.string nm1, .int .i64 (a1 : Int), .int .i64 (b1 : Int), .int .i64 (c1 : Int), .slice A8_1 m8_1 p8_1] 26)) (some ⟨gg1, 0, none⟩) (bs ++ L1) ∧ Rd (w8_1.alloc (.cells #[.string nm1, .int .i64 (a1 : Int), .int .i64 (b1 : Int), .int .i64 (c1 : Int), .slice A8_1 m8_1 p8_1] 26)) G2 (bs ++ L2) ∧ Rd (w8_1.alloc (.cells #[.string nm1, .int .i64 (a1 : Int), .int .i64 (b1 : Int), .int .i64 (c1 : Int), .slice A8_1 m8_1 p8_1] 26)) G3 (bs ++ L3) ∧ Bk (w8_1.alloc (.cells #[.string nm1, .int .i64 (a1 : Int), .int .i64 (b1 : Int), .int .i64 (c1 : Int), .slice A8_1 m8_1 p8_1] 26)) w8_1.heap.size 26 #[.string nm1, .int .i64 (a1 : Int), .int .i64 (b1 : Int), .int .i64 (c1 : Int), .slice A8_1 m8_1 p8_1] ∧ RdL (w8_1.alloc (.cells #[.string nm1, .int .i64 (a1 : Int), .int .i64 (b1 : Int), .int .i64 (c1 : Int), .slice A8_1 m8_1 p8_1] 26)) A8_1 l1) := ⟨Tc1.out.1.alloc Tc1.out.1.size _, Tc1.out.2.1.later ((Below.refl _ _).alloc (Nat.le_refl _) _), Tc1.out.2.2.1.later ((Below.refl _ _).alloc (Nat.le_refl _) _), Tc1.out.2.2.2.1.later ((Below.refl _ _).alloc (Nat.le_refl _) _), Tc1.out.2.2.2.2.1.below ((Below.refl _ _).alloc (Nat.le_refl _) _), Tc1.out.2.2.2.2.2.1.below ((Below.refl _ _).alloc (Nat.le_refl _) _), Tc1.out.2.2.2.2.2.2.below ((Below.refl _ _).alloc (Nat.le_refl _) _), Bk.fresh _ _ _, R8.out.later ((Below.refl _ _).alloc (Nat.le_refl _) _)⟩
        clear Tc1 R8
        go_wp2_with fail
        refine (Q2.out _ C1 _ (Td1.out.2.2.2.2.1.take _) (by omega) (by omega)).mono ?_
        rintro e w10_1 ⟨v10, rfl, ho10, hb10⟩
        obtain ⟨A10_1, p10_1, sl10⟩ := ho10.sl
        have hv10 := sl10.val
        obtain ⟨m10_1, hm10⟩ : ∃ m, m = xl_1.length := ⟨_, rfl⟩
        rw [← hm10] at hv10; subst hv10
        clear sl10 ho10 hm10
        have Te1 : Hid (Below w.heap.size w w10_1 ∧ Bk w10_1 w.heap.size 26 #[.string nm1, .int .i64 (a1 : Int), .int .i64 (b1 : Int), .int .i64 (c1 : Int), .slice A1 n1 cp1] ∧ Bk w10_1 (w.heap.size + 1) 28 #[.string nm2, .int .i64 a2, .int .i64 b2, .int .i64 c2] ∧ Bk w10_1 (w.heap.size + 2) 30 #[.string nm3, .string qu3, .int .i64 pr3, .int .i64 a3, .int .i64 b3, .int .i64 c3, .slice A3 n3 cp3, .string ap3, .string ga3, .int .i64 sz3] ∧ Rd w10_1 (some ⟨gg1, 0, none⟩) (bs ++ L1) ∧ Rd w10_1 G2 (bs ++ L2) ∧ Rd w10_1 G3 (bs ++ L3) ∧ Bk w10_1 w8_1.heap.size 26 #[.string nm1, .int .i64 (a1 : Int), .int .i64 (b1 : Int), .int .i64 (c1 : Int), .slice A8_1 m8_1 p8_1] ∧ RdL w10_1 A8_1 l1) := ⟨Td1.out.1.trans ((hb10).mono Td1.out.1.size), Td1.out.2.1.later (hb10), Td1.out.2.2.1.later (hb10), Td1.out.2.2.2.1.later (hb10), Td1.out.2.2.2.2.1.below (hb10), Td1.out.2.2.2.2.2.1.below (hb10), Td1.out.2.2.2.2.2.2.1.below (hb10), Td1.out.2.2.2.2.2.2.2.1.later (hb10), Td1.out.2.2.2.2.2.2.2.2.later (hb10)⟩
        clear hb10 Td1
        clear hk d1 d2 d3 hj hjK hNa hNb hK0 hKb HNK Q1 Q2
        have Tf1 : Hid (Below w.heap.size w (w10_1.alloc (.cells #[.string xn_1, .int .i64 (xa_1 : Int), .int .i64 (xb_1 : Int), .int .i64 (xc_1 : Int), .slice A10_1 m10_1 p10_1] 26)) ∧ Bk (w10_1.alloc (.cells #[.string xn_1, .int .i64 (xa_1 : Int), .int .i64 (xb_1 : Int), .int .i64 (xc_1 : Int), .slice A10_1 m10_1 p10_1] 26)) w.heap.size 26 #[.string nm1, .int .i64 (a1 : Int), .int .i64 (b1 : Int), .int .i64 (c1 : Int), .slice A1 n1 cp1] ∧ Bk (w10_1.alloc (.cells #[.string xn_1, .int .i64 (xa_1 : Int), .int .i64 (xb_1 : Int), .int .i64 (xc_1 : Int), .slice A10_1 m10_1 p10_1] 26)) (w.heap.size + 1) 28 #[.string nm2, .int .i64 a2, .int .i64 b2, .int .i64 c2] ∧ Bk (w10_1.alloc (.cells #[.string xn_1, .int .i64 (xa_1 : Int), .int .i64 (xb_1 : Int), .int .i64 (xc_1 : Int), .slice A10_1 m10_1 p10_1] 26)) (w.heap.size + 2) 30 #[.string nm3, .string qu3, .int .i64 pr3, .int .i64 a3, .int .i64 b3, .int .i64 c3, .slice A3 n3 cp3, .string ap3, .string ga3, .int .i64 sz3] ∧ Rd (w10_1.alloc (.cells #[.string xn_1, .int .i64 (xa_1 : Int), .int .i64 (xb_1 : Int), .int .i64 (xc_1 : Int), .slice A10_1 m10_1 p10_1] 26)) (some ⟨gg1, 0, none⟩) (bs ++ L1) ∧ Rd (w10_1.alloc (.cells #[.string xn_1, .int .i64 (xa_1 : Int), .int .i64 (xb_1 : Int), .int .i64 (xc_1 : Int), .slice A10_1 m10_1 p10_1] 26)) G2 (bs ++ L2) ∧ Rd (w10_1.alloc (.cells #[.string xn_1, .int .i64 (xa_1 : Int), .int .i64 (xb_1 : Int), .int .i64 (xc_1 : Int), .slice A10_1 m10_1 p10_1] 26)) G3 (bs ++ L3) ∧ Bk (w10_1.alloc (.cells #[.string xn_1, .int .i64 (xa_1 : Int), .int .i64 (xb_1 : Int), .int .i64 (xc_1 : Int), .slice A10_1 m10_1 p10_1] 26)) w8_1.heap.size 26 #[.string nm1, .int .i64 (a1 : Int), .int .i64 (b1 : Int), .int .i64 (c1 : Int), .slice A8_1 m8_1 p8_1] ∧ RdL (w10_1.alloc (.cells #[.string xn_1, .int .i64 (xa_1 : Int), .int .i64 (xb_1 : Int), .int .i64 (xc_1 : Int), .slice A10_1 m10_1 p10_1] 26)) A8_1 l1) := ⟨Te1.out.1.alloc Te1.out.1.size _, Te1.out.2.1.later ((Below.refl _ _).alloc (Nat.le_refl _) _), Te1.out.2.2.1.later ((Below.refl _ _).alloc (Nat.le_refl _) _), Te1.out.2.2.2.1.later ((Below.refl _ _).alloc (Nat.le_refl _) _), Te1.out.2.2.2.2.1.below ((Below.refl _ _).alloc (Nat.le_refl _) _), Te1.out.2.2.2.2.2.1.below ((Below.refl _ _).alloc (Nat.le_refl _) _), Te1.out.2.2.2.2.2.2.1.below ((Below.refl _ _).alloc (Nat.le_refl _) _), Te1.out.2.2.2.2.2.2.2.1.later ((Below.refl _ _).alloc (Nat.le_refl _) _), Te1.out.2.2.2.2.2.2.2.2.later ((Below.refl _ _).alloc (Nat.le_refl _) _)⟩
        clear Te1
        have f0_0 : (w10_1.alloc (.cells #[.string xn_1, .int .i64 (xa_1 : Int), .int .i64 (xb_1 : Int), .int .i64 (xc_1 : Int), .slice A10_1 m10_1 p10_1] 26)).cell? ⟨w.heap.size, 0, none⟩ = some (.string nm1) := Tf1.out.2.1.cellAt 0
        have f0_1 : (w10_1.alloc (.cells #[.string xn_1, .int .i64 (xa_1 : Int), .int .i64 (xb_1 : Int), .int .i64 (xc_1 : Int), .slice A10_1 m10_1 p10_1] 26)).cell? ⟨w.heap.size, 1, none⟩ = some (.int .i64 (a1 : Int)) := Tf1.out.2.1.cellAt 1
        have f0_2 : (w10_1.alloc (.cells #[.string xn_1, .int .i64 (xa_1 : Int), .int .i64 (xb_1 : Int), .int .i64 (xc_1 : Int), .slice A10_1 m10_1 p10_1] 26)).cell? ⟨w.heap.size, 2, none⟩ = some (.int .i64 (b1 : Int)) := Tf1.out.2.1.cellAt 2
        have f0_3 : (w10_1.alloc (.cells #[.string xn_1, .int .i64 (xa_1 : Int), .int .i64 (xb_1 : Int), .int .i64 (xc_1 : Int), .slice A10_1 m10_1 p10_1] 26)).cell? ⟨w.heap.size, 3, none⟩ = some (.int .i64 (c1 : Int)) := Tf1.out.2.1.cellAt 3
        have f0_4 : (w10_1.alloc (.cells #[.string xn_1, .int .i64 (xa_1 : Int), .int .i64 (xb_1 : Int), .int .i64 (xc_1 : Int), .slice A10_1 m10_1 p10_1] 26)).cell? ⟨w.heap.size, 4, none⟩ = some (.slice A1 n1 cp1) := Tf1.out.2.1.cellAt 4
        have f6_0 : (w10_1.alloc (.cells #[.string xn_1, .int .i64 (xa_1 : Int), .int .i64 (xb_1 : Int), .int .i64 (xc_1 : Int), .slice A10_1 m10_1 p10_1] 26)).cell? ⟨w8_1.heap.size, 0, none⟩ = some (.string nm1) := Tf1.out.2.2.2.2.2.2.2.1.cellAt 0
        have f6_1 : (w10_1.alloc (.cells #[.string xn_1, .int .i64 (xa_1 : Int), .int .i64 (xb_1 : Int), .int .i64 (xc_1 : Int), .slice A10_1 m10_1 p10_1] 26)).cell? ⟨w8_1.heap.size, 1, none⟩ = some (.int .i64 (a1 : Int)) := Tf1.out.2.2.2.2.2.2.2.1.cellAt 1
        have f6_2 : (w10_1.alloc (.cells #[.string xn_1, .int .i64 (xa_1 : Int), .int .i64 (xb_1 : Int), .int .i64 (xc_1 : Int), .slice A10_1 m10_1 p10_1] 26)).cell? ⟨w8_1.heap.size, 2, none⟩ = some (.int .i64 (b1 : Int)) := Tf1.out.2.2.2.2.2.2.2.1.cellAt 2
        have f6_3 : (w10_1.alloc (.cells #[.string xn_1, .int .i64 (xa_1 : Int), .int .i64 (xb_1 : Int), .int .i64 (xc_1 : Int), .slice A10_1 m10_1 p10_1] 26)).cell? ⟨w8_1.heap.size, 3, none⟩ = some (.int .i64 (c1 : Int)) := Tf1.out.2.2.2.2.2.2.2.1.cellAt 3
        have f6_4 : (w10_1.alloc (.cells #[.string xn_1, .int .i64 (xa_1 : Int), .int .i64 (xb_1 : Int), .int .i64 (xc_1 : Int), .slice A10_1 m10_1 p10_1] 26)).cell? ⟨w8_1.heap.size, 4, none⟩ = some (.slice A8_1 m8_1 p8_1) := Tf1.out.2.2.2.2.2.2.2.1.cellAt 4
        go_wp2_with fail
        refine (sameNode_yes nm1 (a1 : Int) (b1 : Int) (c1 : Int) A8_1 m8_1 p8_1 A1 n1 cp1 l1 _ HM8_1 HN1 (Lib.hid Tf1.out.2.2.2.2.2.2.2.2) (Lib.hid (HR1.out.later Tf1.out.1)) ca8_1 cb8_1 hc1 hm1).mono ?_
        rintro e w12_1 ⟨rfl, hb12⟩
        have Tg1 : Hid (Below w.heap.size w w12_1 ∧ Bk w12_1 w.heap.size 26 #[.string nm1, .int .i64 (a1 : Int), .int .i64 (b1 : Int), .int .i64 (c1 : Int), .slice A1 n1 cp1] ∧ Bk w12_1 (w.heap.size + 1) 28 #[.string nm2, .int .i64 a2, .int .i64 b2, .int .i64 c2] ∧ Bk w12_1 (w.heap.size + 2) 30 #[.string nm3, .string qu3, .int .i64 pr3, .int .i64 a3, .int .i64 b3, .int .i64 c3, .slice A3 n3 cp3, .string ap3, .string ga3, .int .i64 sz3] ∧ Rd w12_1 (some ⟨gg1, 0, none⟩) (bs ++ L1) ∧ Rd w12_1 G2 (bs ++ L2) ∧ Rd w12_1 G3 (bs ++ L3)) := ⟨Tf1.out.1.trans ((hb12).mono Tf1.out.1.size), Tf1.out.2.1.later (hb12), Tf1.out.2.2.1.later (hb12), Tf1.out.2.2.2.1.later (hb12), Tf1.out.2.2.2.2.1.below (hb12), Tf1.out.2.2.2.2.2.1.below (hb12), Tf1.out.2.2.2.2.2.2.1.below (hb12)⟩
        clear hb12 Tf1 f0_0 f0_1 f0_2 f0_3 f0_4 f6_0 f6_1 f6_2 f6_3 f6_4
        have kv := KQ.out
        clear KQ
        by_cases hv : queueB nm2 a2 b2 c2 = true
        case neg =>
          have hv' : queueB nm2 a2 b2 c2 = false := by simpa using hv
          rw [hv'] at kv
          clear hv hv'
          have KV := Lib.hid kv
          clear kv
          have f1_0 : w12_1.cell? ⟨(w.heap.size + 1), 0, none⟩ = some (.string nm2) := Tg1.out.2.2.1.cellAt 0
          have f1_1 : w12_1.cell? ⟨(w.heap.size + 1), 1, none⟩ = some (.int .i64 a2) := Tg1.out.2.2.1.cellAt 1
          have f1_2 : w12_1.cell? ⟨(w.heap.size + 1), 2, none⟩ = some (.int .i64 b2) := Tg1.out.2.2.1.cellAt 2
          have f1_3 : w12_1.cell? ⟨(w.heap.size + 1), 3, none⟩ = some (.int .i64 c2) := Tg1.out.2.2.1.cellAt 3
          go_wp2_with fail
          refine (KV.out _).mono ?_
          rintro e u2 ⟨rfl, hb⟩
          have Ta2 : Hid (Below w.heap.size w u2 ∧ Bk u2 w.heap.size 26 #[.string nm1, .int .i64 (a1 : Int), .int .i64 (b1 : Int), .int .i64 (c1 : Int), .slice A1 n1 cp1] ∧ Bk u2 (w.heap.size + 1) 28 #[.string nm2, .int .i64 a2, .int .i64 b2, .int .i64 c2] ∧ Bk u2 (w.heap.size + 2) 30 #[.string nm3, .string qu3, .int .i64 pr3, .int .i64 a3, .int .i64 b3, .int .i64 c3, .slice A3 n3 cp3, .string ap3, .string ga3, .int .i64 sz3] ∧ Rd u2 (some ⟨gg1, 0, none⟩) (bs ++ L1) ∧ Rd u2 G2 (bs ++ L2) ∧ Rd u2 G3 (bs ++ L3)) := ⟨Tg1.out.1.trans ((hb).mono Tg1.out.1.size), Tg1.out.2.1.later (hb), Tg1.out.2.2.1.later (hb), Tg1.out.2.2.2.1.later (hb), Tg1.out.2.2.2.2.1.below (hb), Tg1.out.2.2.2.2.2.1.below (hb), Tg1.out.2.2.2.2.2.2.below (hb)⟩
          clear hb Tg1 KV f1_0 f1_1 f1_2 f1_3
          have kv := KT.out
          clear KT
          by_cases hv : taskB nm3 qu3 pr3 a3 b3 c3 l3 ap3 ga3 sz3 = true
          case neg =>
            have hv' : taskB nm3 qu3 pr3 a3 b3 c3 l3 ap3 ga3 sz3 = false := by simpa using hv
            rw [hv'] at kv
            clear hv hv'
            have KV := Lib.hid kv
            clear kv
            have f2_0 : u2.cell? ⟨(w.heap.size + 2), 0, none⟩ = some (.string nm3) := Ta2.out.2.2.2.1.cellAt 0
            have f2_1 : u2.cell? ⟨(w.heap.size + 2), 1, none⟩ = some (.string qu3) := Ta2.out.2.2.2.1.cellAt 1
            have f2_2 : u2.cell? ⟨(w.heap.size + 2), 2, none⟩ = some (.int .i64 pr3) := Ta2.out.2.2.2.1.cellAt 2
            have f2_3 : u2.cell? ⟨(w.heap.size + 2), 3, none⟩ = some (.int .i64 a3) := Ta2.out.2.2.2.1.cellAt 3
            have f2_4 : u2.cell? ⟨(w.heap.size + 2), 4, none⟩ = some (.int .i64 b3) := Ta2.out.2.2.2.1.cellAt 4
            have f2_5 : u2.cell? ⟨(w.heap.size + 2), 5, none⟩ = some (.int .i64 c3) := Ta2.out.2.2.2.1.cellAt 5
            have f2_6 : u2.cell? ⟨(w.heap.size + 2), 6, none⟩ = some (.slice A3 n3 cp3) := Ta2.out.2.2.2.1.cellAt 6
            have f2_7 : u2.cell? ⟨(w.heap.size + 2), 7, none⟩ = some (.string ap3) := Ta2.out.2.2.2.1.cellAt 7
            have f2_8 : u2.cell? ⟨(w.heap.size + 2), 8, none⟩ = some (.string ga3) := Ta2.out.2.2.2.1.cellAt 8
            have f2_9 : u2.cell? ⟨(w.heap.size + 2), 9, none⟩ = some (.int .i64 sz3) := Ta2.out.2.2.2.1.cellAt 9
            go_wp2_with fail
            refine (KV.out _ (HR3.out.later Ta2.out.1)).mono ?_
            rintro e u3 ⟨rfl, hb⟩
            have Ta3 : Hid (Below w.heap.size w u3 ∧ Bk u3 w.heap.size 26 #[.string nm1, .int .i64 (a1 : Int), .int .i64 (b1 : Int), .int .i64 (c1 : Int), .slice A1 n1 cp1] ∧ Bk u3 (w.heap.size + 1) 28 #[.string nm2, .int .i64 a2, .int .i64 b2, .int .i64 c2] ∧ Bk u3 (w.heap.size + 2) 30 #[.string nm3, .string qu3, .int .i64 pr3, .int .i64 a3, .int .i64 b3, .int .i64 c3, .slice A3 n3 cp3, .string ap3, .string ga3, .int .i64 sz3] ∧ Rd u3 (some ⟨gg1, 0, none⟩) (bs ++ L1) ∧ Rd u3 G2 (bs ++ L2) ∧ Rd u3 G3 (bs ++ L3)) := ⟨Ta2.out.1.trans ((hb).mono Ta2.out.1.size), Ta2.out.2.1.later (hb), Ta2.out.2.2.1.later (hb), Ta2.out.2.2.2.1.later (hb), Ta2.out.2.2.2.2.1.below (hb), Ta2.out.2.2.2.2.2.1.below (hb), Ta2.out.2.2.2.2.2.2.below (hb)⟩
            clear hb Ta2 KV f2_0 f2_1 f2_2 f2_3 f2_4 f2_5 f2_6 f2_7 f2_8 f2_9
            go_wp2
            go_ret
            exact ⟨rfl, Ta3.out.1⟩
          case pos =>
            rw [hv] at kv
            have KV := Lib.hid kv
            clear kv
            have hle := taskEnc_le hv
            have hbt : L3 = taskEnc nm3 qu3 pr3 a3 b3 c3 l3 ap3 ga3 sz3 := HB3.out.trans (if_pos hv)
            have hx := rd_head Ta2.out.2.2.2.2.2.2 (by rw [hbt, List.length_append]; omega) X3.out
            obtain ⟨gg3, hg⟩ := hx
            subst hg
            have hK : L3.length = (taskEnc nm3 qu3 pr3 a3 b3 c3 l3 ap3 ga3 sz3).length := by rw [hbt]
            rw [← hK] at hle
            obtain ⟨K, hKK⟩ : ∃ K, K = L3.length := ⟨_, rfl⟩
            rw [← hKK] at hle
            have hNK : N3 = s.size + K := by rw [HL3.out, List.length_append, ← hsl.out, hKK]
            obtain ⟨j, hj⟩ : ∃ j : Nat, cut % (K : Int) = (j : Int) := ⟨(cut % (K : Int)).toNat, by have := Int.emod_nonneg cut (show (K : Int) ≠ 0 by omega); omega⟩
            have hjK : j < K := by have := Int.emod_lt_of_pos cut (show (0 : Int) < (K : Int) by omega); omega
            have hu := hv
            unfold taskB at hu
            simp only [Bool.and_eq_true, decide_eq_true_eq] at hu
            obtain ⟨⟨⟨⟨⟨⟨⟨v1, v2⟩, v3⟩, v4⟩, v5⟩, v6⟩, v7⟩, v8⟩ := hu
            have u2 := rB_bd v5
            have u3 := gangB_le v8
            have hu := v1
            clear v1 v2 v5 v6 v7 v8
            obtain ⟨pr3, rfl⟩ : ∃ x : Nat, pr3 = (x : Int) := ⟨pr3.toNat, by omega⟩
            obtain ⟨a3, rfl⟩ : ∃ x : Nat, a3 = (x : Int) := ⟨a3.toNat, by omega⟩
            obtain ⟨b3, rfl⟩ : ∃ x : Nat, b3 = (x : Int) := ⟨b3.toNat, by omega⟩
            obtain ⟨c3, rfl⟩ : ∃ x : Nat, c3 = (x : Int) := ⟨c3.toNat, by omega⟩
            obtain ⟨sz3, rfl⟩ : ∃ x : Nat, sz3 = (x : Int) := ⟨sz3.toNat, by omega⟩
            clear u3 v3 v4
            have q1 := fun A c W (hr : Rd W A (bs ++ L3 ++ t.data.toList)) (hc : N3 + t.size ≤ c) (hm : c ≤ 9223372036854775807) => takeTask_any A (N3 + t.size) c (s.size : Int) (bs ++ L3 ++ t.data.toList) W (by show _ = _; rw [List.length_append, str_len, ← HL3.out]) (Lib.hid hr) hc hm
            have r1 := task_at (l := bs ++ L3 ++ t.data.toList) (x := bs) (y := t.data.toList) hv (by rw [hbt]; simp)
            rw [← hsl.out] at r1
            rw [r1] at q1
            have e1 : (((bs ++ taskEnc nm3 qu3 pr3 a3 b3 c3 l3 ap3 ga3 sz3).length : Nat) : Int) = (N3 : Int) := by rw [← hbt, ← HL3.out]
            unfold retTask at q1
            simp only [] at q1
            rw [e1] at q1
            have q2 := fun A c W (hr : Rd W A ((bs ++ L3).take (s.size + j))) (hc : s.size + j ≤ c) (hm : c ≤ 9223372036854775807) => takeTask_any A (s.size + j) c (s.size : Int) ((bs ++ L3).take (s.size + j)) W (by show _ = _; rw [List.length_take, ← HL3.out]; omega) (Lib.hid hr) hc hm
            have r2 := task_cut (x := bs) (j := j) hv (by rw [← hbt, ← hKK]; exact hjK)
            rw [← hsl.out, ← hbt] at r2
            obtain ⟨xn_3, xq_3, xp_3, xa_3, xb_3, xc_3, xl_3, xap_3, xg_3, xz_3, xx_3, xe_3, hxx⟩ := tk_eta (tTask ((bs ++ L3).take (s.size + j)) (s.size : Int))
            rw [hxx] at q2 r2
            unfold retTask at q2
            simp only [] at q2 r2
            have ec1 : (xe_3 == 0) = false := by simpa using r2
            have ec2 : (xe_3 != 0) = true := by simpa using r2
            have Q1 := Lib.hid q1
            have Q2 := Lib.hid q2
            have hk : (N3 : Int) - (s.size : Int) = (K : Int) := by omega
            have hNa : s.size + j ≤ N3 := by omega
            have hNb : N3 ≤ 1049576 := by omega
            have hK0 : (1 : Int) ≤ (K : Int) := by omega
            have d1 : decide (K < 1) = false := by simp; omega
            have d2 : decide ((K : Int) < 1) = false := by simp; omega
            have d3 : ((K : Int) == 0) = false := by simp; omega
            have hKb : K ≤ 1000 := hle.2
            have HNK := Lib.hid hNK
            clear q1 q2 r1 r2 hxx e1 hbt hK hKK hle hu u2 hNK hv
            have f2_0 : u2.cell? ⟨(w.heap.size + 2), 0, none⟩ = some (.string nm3) := Ta2.out.2.2.2.1.cellAt 0
            have f2_1 : u2.cell? ⟨(w.heap.size + 2), 1, none⟩ = some (.string qu3) := Ta2.out.2.2.2.1.cellAt 1
            have f2_2 : u2.cell? ⟨(w.heap.size + 2), 2, none⟩ = some (.int .i64 (pr3 : Int)) := Ta2.out.2.2.2.1.cellAt 2
            have f2_3 : u2.cell? ⟨(w.heap.size + 2), 3, none⟩ = some (.int .i64 (a3 : Int)) := Ta2.out.2.2.2.1.cellAt 3
            have f2_4 : u2.cell? ⟨(w.heap.size + 2), 4, none⟩ = some (.int .i64 (b3 : Int)) := Ta2.out.2.2.2.1.cellAt 4
            have f2_5 : u2.cell? ⟨(w.heap.size + 2), 5, none⟩ = some (.int .i64 (c3 : Int)) := Ta2.out.2.2.2.1.cellAt 5
            have f2_6 : u2.cell? ⟨(w.heap.size + 2), 6, none⟩ = some (.slice A3 n3 cp3) := Ta2.out.2.2.2.1.cellAt 6
            have f2_7 : u2.cell? ⟨(w.heap.size + 2), 7, none⟩ = some (.string ap3) := Ta2.out.2.2.2.1.cellAt 7
            have f2_8 : u2.cell? ⟨(w.heap.size + 2), 8, none⟩ = some (.string ga3) := Ta2.out.2.2.2.1.cellAt 8
            have f2_9 : u2.cell? ⟨(w.heap.size + 2), 9, none⟩ = some (.int .i64 (sz3 : Int)) := Ta2.out.2.2.2.1.cellAt 9
            go_wp2_with fail
            refine (KV.out _ (HR3.out.later Ta2.out.1)).mono ?_
            rintro e u3 ⟨rfl, hb⟩
            have Ta3 : Hid (Below w.heap.size w u3 ∧ Bk u3 w.heap.size 26 #[.string nm1, .int .i64 (a1 : Int), .int .i64 (b1 : Int), .int .i64 (c1 : Int), .slice A1 n1 cp1] ∧ Bk u3 (w.heap.size + 1) 28 #[.string nm2, .int .i64 a2, .int .i64 b2, .int .i64 c2] ∧ Bk u3 (w.heap.size + 2) 30 #[.string nm3, .string qu3, .int .i64 (pr3 : Int), .int .i64 (a3 : Int), .int .i64 (b3 : Int), .int .i64 (c3 : Int), .slice A3 n3 cp3, .string ap3, .string ga3, .int .i64 (sz3 : Int)] ∧ Rd u3 (some ⟨gg1, 0, none⟩) (bs ++ L1) ∧ Rd u3 G2 (bs ++ L2) ∧ Rd u3 (some ⟨gg3, 0, none⟩) (bs ++ L3)) := ⟨Ta2.out.1.trans ((hb).mono Ta2.out.1.size), Ta2.out.2.1.later (hb), Ta2.out.2.2.1.later (hb), Ta2.out.2.2.2.1.later (hb), Ta2.out.2.2.2.2.1.below (hb), Ta2.out.2.2.2.2.2.1.below (hb), Ta2.out.2.2.2.2.2.2.below (hb)⟩
            clear hb Ta2 KV f2_0 f2_1 f2_2 f2_3 f2_4 f2_5 f2_6 f2_7 f2_8 f2_9
            go_wp2_with (at_builtin; refine wpList_append_cut _ rfl (.tmp 170) (.tmp 171) 36 9 rfl 5 i0 Try.underlying36 Try.underlying9 hi hy0 hy1 hy2 gg3 N3 (bs ++ L3) t rfl rfl Ta3.out.2.2.2.2.2.2 HL3.out (by omega) ?_)
            intro A7_3 c7_3 w7_3 hr7 hb7 hc7 hm7
            rw [← List.append_assoc] at hr7
            unfold maxLen at hm7
            have hm7x : c7_3 ≤ 9223372036854775807 := by omega
            clear hm7
            have Tb3 : Hid (Below w.heap.size w w7_3 ∧ Bk w7_3 w.heap.size 26 #[.string nm1, .int .i64 (a1 : Int), .int .i64 (b1 : Int), .int .i64 (c1 : Int), .slice A1 n1 cp1] ∧ Bk w7_3 (w.heap.size + 1) 28 #[.string nm2, .int .i64 a2, .int .i64 b2, .int .i64 c2] ∧ Bk w7_3 (w.heap.size + 2) 30 #[.string nm3, .string qu3, .int .i64 (pr3 : Int), .int .i64 (a3 : Int), .int .i64 (b3 : Int), .int .i64 (c3 : Int), .slice A3 n3 cp3, .string ap3, .string ga3, .int .i64 (sz3 : Int)] ∧ Rd w7_3 (some ⟨gg1, 0, none⟩) (bs ++ L1) ∧ Rd w7_3 G2 (bs ++ L2) ∧ Rd w7_3 (some ⟨gg3, 0, none⟩) (bs ++ L3)) := ⟨Ta3.out.1.trans ((hb7).mono Ta3.out.1.size), Ta3.out.2.1.later (hb7), Ta3.out.2.2.1.later (hb7), Ta3.out.2.2.2.1.later (hb7), Ta3.out.2.2.2.2.1.below (hb7), Ta3.out.2.2.2.2.2.1.below (hb7), Ta3.out.2.2.2.2.2.2.below (hb7)⟩
            clear hb7 Ta3
            go_wp2_with fail
            refine (Q1.out _ _ _ hr7 hc7 hm7x).mono ?_
            rintro e w8_3 ⟨v8, rfl, ho8, hb8⟩
            have Tc3 : Hid (Below w.heap.size w w8_3 ∧ Bk w8_3 w.heap.size 26 #[.string nm1, .int .i64 (a1 : Int), .int .i64 (b1 : Int), .int .i64 (c1 : Int), .slice A1 n1 cp1] ∧ Bk w8_3 (w.heap.size + 1) 28 #[.string nm2, .int .i64 a2, .int .i64 b2, .int .i64 c2] ∧ Bk w8_3 (w.heap.size + 2) 30 #[.string nm3, .string qu3, .int .i64 (pr3 : Int), .int .i64 (a3 : Int), .int .i64 (b3 : Int), .int .i64 (c3 : Int), .slice A3 n3 cp3, .string ap3, .string ga3, .int .i64 (sz3 : Int)] ∧ Rd w8_3 (some ⟨gg1, 0, none⟩) (bs ++ L1) ∧ Rd w8_3 G2 (bs ++ L2) ∧ Rd w8_3 (some ⟨gg3, 0, none⟩) (bs ++ L3)) := ⟨Tb3.out.1.trans ((hb8).mono Tb3.out.1.size), Tb3.out.2.1.later (hb8), Tb3.out.2.2.1.later (hb8), Tb3.out.2.2.2.1.later (hb8), Tb3.out.2.2.2.2.1.below (hb8), Tb3.out.2.2.2.2.2.1.below (hb8), Tb3.out.2.2.2.2.2.2.below (hb8)⟩
            clear hb8 hr7 Tb3
            obtain ⟨A8_3, p8_3, sl8⟩ := ho8.sl
            obtain ⟨m8_3, hm8⟩ : ∃ m, m = l3.length := ⟨_, rfl⟩
            have hv8 := sl8.val; rw [← hm8] at hv8; subst hv8
            have ca8_3 := sl8.cap; rw [← hm8] at ca8_3
            have cb8_3 : p8_3 ≤ 9223372036854775807 := by have := sl8.cap2; unfold maxLen at this; omega
            have HM8_3 := Lib.hid hm8
            have R8 : Hid (RdL w8_3 A8_3 l3) := sl8.rd
            clear sl8 ho8 hm8
            have Td3 : Hid (Below w.heap.size w (w8_3.alloc (.cells #[.string nm3, .string qu3, .int .i64 (pr3 : Int), .int .i64 (a3 : Int), .int .i64 (b3 : Int), .int .i64 (c3 : Int), .slice A8_3 m8_3 p8_3, .string ap3, .string ga3, .int .i64 (sz3 : Int)] 30)) ∧ Bk (w8_3.alloc (.cells #[.string nm3, .string qu3, .int .i64 (pr3 : Int), .int .i64 (a3 : Int), .int .i64 (b3 : Int), .int .i64 (c3 : Int), .slice A8_3 m8_3 p8_3, .string ap3, .string ga3, .int .i64 (sz3 : Int)] 30)) w.heap.size 26 #[.string nm1, .int .i64 (a1 : Int), .int .i64 (b1 : Int), .int .i64 (c1 : Int), .slice A1 n1 cp1] ∧ Bk (w8_3.alloc (.cells #[.string nm3, .string qu3, .int .i64 (pr3 : Int), .int .i64 (a3 : Int), .int .i64 (b3 : Int), .int .i64 (c3 : Int), .slice A8_3 m8_3 p8_3, .string ap3, .string ga3, .int .i64 (sz3 : Int)] 30)) (w.heap.size + 1) 28 #[.string nm2, .int .i64 a2, .int .i64 b2, .int .i64 c2] ∧ Bk (w8_3.alloc (.cells #[.string nm3, .string qu3, .int .i64 (pr3 : Int), .int .i64 (a3 : Int), .int .i64 (b3 : Int), .int .i64 (c3 : Int), .slice A8_3 m8_3 p8_3, .string ap3, .string ga3, .int .i64 (sz3 : Int)] 30)) (w.heap.size + 2) 30 #[.string nm3, .string qu3, .int .i64 (pr3 : Int), .int .i64 (a3 : Int), .int .i64 (b3 : Int), .int .i64 (c3 : Int), .slice A3 n3 cp3, .string ap3, .string ga3, .int .i64 (sz3 : Int)] ∧ Rd (w8_3.alloc (.cells #[.string nm3, .string qu3, .int .i64 (pr3 : Int), .int .i64 (a3 : Int), .int .i64 (b3 : Int), .int .i64 (c3 : Int), .slice A8_3 m8_3 p8_3, .string ap3, .string ga3, .int .i64 (sz3 : Int)] 30)) (some ⟨gg1, 0, none⟩) (bs ++ L1) ∧ Rd (w8_3.alloc (.cells #[.string nm3, .string qu3, .int .i64 (pr3 : Int), .int .i64 (a3 : Int), .int .i64 (b3 : Int), .int .i64 (c3 : Int), .slice A8_3 m8_3 p8_3, .string ap3, .string ga3, .int .i64 (sz3 : Int)] 30)) G2 (bs ++ L2) ∧ Rd (w8_3.alloc (.cells #[.string nm3, .string qu3, .int .i64 (pr3 : Int), .int .i64 (a3 : Int), .int .i64 (b3 : Int), .int .i64 (c3 : Int), .slice A8_3 m8_3 p8_3, .string ap3, .string ga3, .int .i64 (sz3 : Int)] 30)) (some ⟨gg3, 0, none⟩) (bs ++ L3) ∧ Bk (w8_3.alloc (.cells #[.string nm3, .string qu3, .int .i64 (pr3 : Int), .int .i64 (a3 : Int), .int .i64 (b3 : Int), .int .i64 (c3 : Int), .slice A8_3 m8_3 p8_3, .string ap3, .string ga3, .int .i64 (sz3 : Int)] 30)) w8_3.heap.size 30 #[.string nm3, .string qu3, .int .i64 (pr3 : Int), .int .i64 (a3 : Int), .int .i64 (b3 : Int), .int .i64 (c3 : Int), .slice A8_3 m8_3 p8_3, .string ap3, .string ga3, .int .i64 (sz3 : Int)] ∧ RdL (w8_3.alloc (.cells #[.string nm3, .string qu3, .int .i64 (pr3 : Int), .int .i64 (a3 : Int), .int .i64 (b3 : Int), .int .i64 (c3 : Int), .slice A8_3 m8_3 p8_3, .string ap3, .string ga3, .int .i64 (sz3 : Int)] 30)) A8_3 l3) := ⟨Tc3.out.1.alloc Tc3.out.1.size _, Tc3.out.2.1.later ((Below.refl _ _).alloc (Nat.le_refl _) _), Tc3.out.2.2.1.later ((Below.refl _ _).alloc (Nat.le_refl _) _), Tc3.out.2.2.2.1.later ((Below.refl _ _).alloc (Nat.le_refl _) _), Tc3.out.2.2.2.2.1.below ((Below.refl _ _).alloc (Nat.le_refl _) _), Tc3.out.2.2.2.2.2.1.below ((Below.refl _ _).alloc (Nat.le_refl _) _), Tc3.out.2.2.2.2.2.2.below ((Below.refl _ _).alloc (Nat.le_refl _) _), Bk.fresh _ _ _, R8.out.later ((Below.refl _ _).alloc (Nat.le_refl _) _)⟩
            clear Tc3 R8
            go_wp2_with fail
            refine (Q2.out _ C3 _ (Td3.out.2.2.2.2.2.2.1.take _) (by omega) (by omega)).mono ?_
            rintro e w10_3 ⟨v10, rfl, ho10, hb10⟩
            obtain ⟨A10_3, p10_3, sl10⟩ := ho10.sl
            have hv10 := sl10.val
            obtain ⟨m10_3, hm10⟩ : ∃ m, m = xl_3.length := ⟨_, rfl⟩
            rw [← hm10] at hv10; subst hv10
            clear sl10 ho10 hm10
            have Te3 : Hid (Below w.heap.size w w10_3 ∧ Bk w10_3 w.heap.size 26 #[.string nm1, .int .i64 (a1 : Int), .int .i64 (b1 : Int), .int .i64 (c1 : Int), .slice A1 n1 cp1] ∧ Bk w10_3 (w.heap.size + 1) 28 #[.string nm2, .int .i64 a2, .int .i64 b2, .int .i64 c2] ∧ Bk w10_3 (w.heap.size + 2) 30 #[.string nm3, .string qu3, .int .i64 (pr3 : Int), .int .i64 (a3 : Int), .int .i64 (b3 : Int), .int .i64 (c3 : Int), .slice A3 n3 cp3, .string ap3, .string ga3, .int .i64 (sz3 : Int)] ∧ Rd w10_3 (some ⟨gg1, 0, none⟩) (bs ++ L1) ∧ Rd w10_3 G2 (bs ++ L2) ∧ Rd w10_3 (some ⟨gg3, 0, none⟩) (bs ++ L3) ∧ Bk w10_3 w8_3.heap.size 30 #[.string nm3, .string qu3, .int .i64 (pr3 : Int), .int .i64 (a3 : Int), .int .i64 (b3 : Int), .int .i64 (c3 : Int), .slice A8_3 m8_3 p8_3, .string ap3, .string ga3, .int .i64 (sz3 : Int)] ∧ RdL w10_3 A8_3 l3) := ⟨Td3.out.1.trans ((hb10).mono Td3.out.1.size), Td3.out.2.1.later (hb10), Td3.out.2.2.1.later (hb10), Td3.out.2.2.2.1.later (hb10), Td3.out.2.2.2.2.1.below (hb10), Td3.out.2.2.2.2.2.1.below (hb10), Td3.out.2.2.2.2.2.2.1.below (hb10), Td3.out.2.2.2.2.2.2.2.1.later (hb10), Td3.out.2.2.2.2.2.2.2.2.later (hb10)⟩
            clear hb10 Td3
            clear hk d1 d2 d3 hj hjK hNa hNb hK0 hKb HNK Q1 Q2
            have Tf3 : Hid (Below w.heap.size w (w10_3.alloc (.cells #[.string xn_3, .string xq_3, .int .i64 (xp_3 : Int), .int .i64 (xa_3 : Int), .int .i64 (xb_3 : Int), .int .i64 (xc_3 : Int), .slice A10_3 m10_3 p10_3, .string xap_3, .string xg_3, .int .i64 (xz_3 : Int)] 30)) ∧ Bk (w10_3.alloc (.cells #[.string xn_3, .string xq_3, .int .i64 (xp_3 : Int), .int .i64 (xa_3 : Int), .int .i64 (xb_3 : Int), .int .i64 (xc_3 : Int), .slice A10_3 m10_3 p10_3, .string xap_3, .string xg_3, .int .i64 (xz_3 : Int)] 30)) w.heap.size 26 #[.string nm1, .int .i64 (a1 : Int), .int .i64 (b1 : Int), .int .i64 (c1 : Int), .slice A1 n1 cp1] ∧ Bk (w10_3.alloc (.cells #[.string xn_3, .string xq_3, .int .i64 (xp_3 : Int), .int .i64 (xa_3 : Int), .int .i64 (xb_3 : Int), .int .i64 (xc_3 : Int), .slice A10_3 m10_3 p10_3, .string xap_3, .string xg_3, .int .i64 (xz_3 : Int)] 30)) (w.heap.size + 1) 28 #[.string nm2, .int .i64 a2, .int .i64 b2, .int .i64 c2] ∧ Bk (w10_3.alloc (.cells #[.string xn_3, .string xq_3, .int .i64 (xp_3 : Int), .int .i64 (xa_3 : Int), .int .i64 (xb_3 : Int), .int .i64 (xc_3 : Int), .slice A10_3 m10_3 p10_3, .string xap_3, .string xg_3, .int .i64 (xz_3 : Int)] 30)) (w.heap.size + 2) 30 #[.string nm3, .string qu3, .int .i64 (pr3 : Int), .int .i64 (a3 : Int), .int .i64 (b3 : Int), .int .i64 (c3 : Int), .slice A3 n3 cp3, .string ap3, .string ga3, .int .i64 (sz3 : Int)] ∧ Rd (w10_3.alloc (.cells #[.string xn_3, .string xq_3, .int .i64 (xp_3 : Int), .int .i64 (xa_3 : Int), .int .i64 (xb_3 : Int), .int .i64 (xc_3 : Int), .slice A10_3 m10_3 p10_3, .string xap_3, .string xg_3, .int .i64 (xz_3 : Int)] 30)) (some ⟨gg1, 0, none⟩) (bs ++ L1) ∧ Rd (w10_3.alloc (.cells #[.string xn_3, .string xq_3, .int .i64 (xp_3 : Int), .int .i64 (xa_3 : Int), .int .i64 (xb_3 : Int), .int .i64 (xc_3 : Int), .slice A10_3 m10_3 p10_3, .string xap_3, .string xg_3, .int .i64 (xz_3 : Int)] 30)) G2 (bs ++ L2) ∧ Rd (w10_3.alloc (.cells #[.string xn_3, .string xq_3, .int .i64 (xp_3 : Int), .int .i64 (xa_3 : Int), .int .i64 (xb_3 : Int), .int .i64 (xc_3 : Int), .slice A10_3 m10_3 p10_3, .string xap_3, .string xg_3, .int .i64 (xz_3 : Int)] 30)) (some ⟨gg3, 0, none⟩) (bs ++ L3) ∧ Bk (w10_3.alloc (.cells #[.string xn_3, .string xq_3, .int .i64 (xp_3 : Int), .int .i64 (xa_3 : Int), .int .i64 (xb_3 : Int), .int .i64 (xc_3 : Int), .slice A10_3 m10_3 p10_3, .string xap_3, .string xg_3, .int .i64 (xz_3 : Int)] 30)) w8_3.heap.size 30 #[.string nm3, .string qu3, .int .i64 (pr3 : Int), .int .i64 (a3 : Int), .int .i64 (b3 : Int), .int .i64 (c3 : Int), .slice A8_3 m8_3 p8_3, .string ap3, .string ga3, .int .i64 (sz3 : Int)] ∧ RdL (w10_3.alloc (.cells #[.string xn_3, .string xq_3, .int .i64 (xp_3 : Int), .int .i64 (xa_3 : Int), .int .i64 (xb_3 : Int), .int .i64 (xc_3 : Int), .slice A10_3 m10_3 p10_3, .string xap_3, .string xg_3, .int .i64 (xz_3 : Int)] 30)) A8_3 l3) := ⟨Te3.out.1.alloc Te3.out.1.size _, Te3.out.2.1.later ((Below.refl _ _).alloc (Nat.le_refl _) _), Te3.out.2.2.1.later ((Below.refl _ _).alloc (Nat.le_refl _) _), Te3.out.2.2.2.1.later ((Below.refl _ _).alloc (Nat.le_refl _) _), Te3.out.2.2.2.2.1.below ((Below.refl _ _).alloc (Nat.le_refl _) _), Te3.out.2.2.2.2.2.1.below ((Below.refl _ _).alloc (Nat.le_refl _) _), Te3.out.2.2.2.2.2.2.1.below ((Below.refl _ _).alloc (Nat.le_refl _) _), Te3.out.2.2.2.2.2.2.2.1.later ((Below.refl _ _).alloc (Nat.le_refl _) _), Te3.out.2.2.2.2.2.2.2.2.later ((Below.refl _ _).alloc (Nat.le_refl _) _)⟩
            clear Te3
            have f2_0 : (w10_3.alloc (.cells #[.string xn_3, .string xq_3, .int .i64 (xp_3 : Int), .int .i64 (xa_3 : Int), .int .i64 (xb_3 : Int), .int .i64 (xc_3 : Int), .slice A10_3 m10_3 p10_3, .string xap_3, .string xg_3, .int .i64 (xz_3 : Int)] 30)).cell? ⟨(w.heap.size + 2), 0, none⟩ = some (.string nm3) := Tf3.out.2.2.2.1.cellAt 0
            have f2_1 : (w10_3.alloc (.cells #[.string xn_3, .string xq_3, .int .i64 (xp_3 : Int), .int .i64 (xa_3 : Int), .int .i64 (xb_3 : Int), .int .i64 (xc_3 : Int), .slice A10_3 m10_3 p10_3, .string xap_3, .string xg_3, .int .i64 (xz_3 : Int)] 30)).cell? ⟨(w.heap.size + 2), 1, none⟩ = some (.string qu3) := Tf3.out.2.2.2.1.cellAt 1
            have f2_2 : (w10_3.alloc (.cells #[.string xn_3, .string xq_3, .int .i64 (xp_3 : Int), .int .i64 (xa_3 : Int), .int .i64 (xb_3 : Int), .int .i64 (xc_3 : Int), .slice A10_3 m10_3 p10_3, .string xap_3, .string xg_3, .int .i64 (xz_3 : Int)] 30)).cell? ⟨(w.heap.size + 2), 2, none⟩ = some (.int .i64 (pr3 : Int)) := Tf3.out.2.2.2.1.cellAt 2
            have f2_3 : (w10_3.alloc (.cells #[.string xn_3, .string xq_3, .int .i64 (xp_3 : Int), .int .i64 (xa_3 : Int), .int .i64 (xb_3 : Int), .int .i64 (xc_3 : Int), .slice A10_3 m10_3 p10_3, .string xap_3, .string xg_3, .int .i64 (xz_3 : Int)] 30)).cell? ⟨(w.heap.size + 2), 3, none⟩ = some (.int .i64 (a3 : Int)) := Tf3.out.2.2.2.1.cellAt 3
            have f2_4 : (w10_3.alloc (.cells #[.string xn_3, .string xq_3, .int .i64 (xp_3 : Int), .int .i64 (xa_3 : Int), .int .i64 (xb_3 : Int), .int .i64 (xc_3 : Int), .slice A10_3 m10_3 p10_3, .string xap_3, .string xg_3, .int .i64 (xz_3 : Int)] 30)).cell? ⟨(w.heap.size + 2), 4, none⟩ = some (.int .i64 (b3 : Int)) := Tf3.out.2.2.2.1.cellAt 4
            have f2_5 : (w10_3.alloc (.cells #[.string xn_3, .string xq_3, .int .i64 (xp_3 : Int), .int .i64 (xa_3 : Int), .int .i64 (xb_3 : Int), .int .i64 (xc_3 : Int), .slice A10_3 m10_3 p10_3, .string xap_3, .string xg_3, .int .i64 (xz_3 : Int)] 30)).cell? ⟨(w.heap.size + 2), 5, none⟩ = some (.int .i64 (c3 : Int)) := Tf3.out.2.2.2.1.cellAt 5
            have f2_6 : (w10_3.alloc (.cells #[.string xn_3, .string xq_3, .int .i64 (xp_3 : Int), .int .i64 (xa_3 : Int), .int .i64 (xb_3 : Int), .int .i64 (xc_3 : Int), .slice A10_3 m10_3 p10_3, .string xap_3, .string xg_3, .int .i64 (xz_3 : Int)] 30)).cell? ⟨(w.heap.size + 2), 6, none⟩ = some (.slice A3 n3 cp3) := Tf3.out.2.2.2.1.cellAt 6
            have f2_7 : (w10_3.alloc (.cells #[.string xn_3, .string xq_3, .int .i64 (xp_3 : Int), .int .i64 (xa_3 : Int), .int .i64 (xb_3 : Int), .int .i64 (xc_3 : Int), .slice A10_3 m10_3 p10_3, .string xap_3, .string xg_3, .int .i64 (xz_3 : Int)] 30)).cell? ⟨(w.heap.size + 2), 7, none⟩ = some (.string ap3) := Tf3.out.2.2.2.1.cellAt 7
            have f2_8 : (w10_3.alloc (.cells #[.string xn_3, .string xq_3, .int .i64 (xp_3 : Int), .int .i64 (xa_3 : Int), .int .i64 (xb_3 : Int), .int .i64 (xc_3 : Int), .slice A10_3 m10_3 p10_3, .string xap_3, .string xg_3, .int .i64 (xz_3 : Int)] 30)).cell? ⟨(w.heap.size + 2), 8, none⟩ = some (.string ga3) := Tf3.out.2.2.2.1.cellAt 8
            have f2_9 : (w10_3.alloc (.cells #[.string xn_3, .string xq_3, .int .i64 (xp_3 : Int), .int .i64 (xa_3 : Int), .int .i64 (xb_3 : Int), .int .i64 (xc_3 : Int), .slice A10_3 m10_3 p10_3, .string xap_3, .string xg_3, .int .i64 (xz_3 : Int)] 30)).cell? ⟨(w.heap.size + 2), 9, none⟩ = some (.int .i64 (sz3 : Int)) := Tf3.out.2.2.2.1.cellAt 9
            have f6_0 : (w10_3.alloc (.cells #[.string xn_3, .string xq_3, .int .i64 (xp_3 : Int), .int .i64 (xa_3 : Int), .int .i64 (xb_3 : Int), .int .i64 (xc_3 : Int), .slice A10_3 m10_3 p10_3, .string xap_3, .string xg_3, .int .i64 (xz_3 : Int)] 30)).cell? ⟨w8_3.heap.size, 0, none⟩ = some (.string nm3) := Tf3.out.2.2.2.2.2.2.2.1.cellAt 0
            have f6_1 : (w10_3.alloc (.cells #[.string xn_3, .string xq_3, .int .i64 (xp_3 : Int), .int .i64 (xa_3 : Int), .int .i64 (xb_3 : Int), .int .i64 (xc_3 : Int), .slice A10_3 m10_3 p10_3, .string xap_3, .string xg_3, .int .i64 (xz_3 : Int)] 30)).cell? ⟨w8_3.heap.size, 1, none⟩ = some (.string qu3) := Tf3.out.2.2.2.2.2.2.2.1.cellAt 1
            have f6_2 : (w10_3.alloc (.cells #[.string xn_3, .string xq_3, .int .i64 (xp_3 : Int), .int .i64 (xa_3 : Int), .int .i64 (xb_3 : Int), .int .i64 (xc_3 : Int), .slice A10_3 m10_3 p10_3, .string xap_3, .string xg_3, .int .i64 (xz_3 : Int)] 30)).cell? ⟨w8_3.heap.size, 2, none⟩ = some (.int .i64 (pr3 : Int)) := Tf3.out.2.2.2.2.2.2.2.1.cellAt 2
            have f6_3 : (w10_3.alloc (.cells #[.string xn_3, .string xq_3, .int .i64 (xp_3 : Int), .int .i64 (xa_3 : Int), .int .i64 (xb_3 : Int), .int .i64 (xc_3 : Int), .slice A10_3 m10_3 p10_3, .string xap_3, .string xg_3, .int .i64 (xz_3 : Int)] 30)).cell? ⟨w8_3.heap.size, 3, none⟩ = some (.int .i64 (a3 : Int)) := Tf3.out.2.2.2.2.2.2.2.1.cellAt 3
            have f6_4 : (w10_3.alloc (.cells #[.string xn_3, .string xq_3, .int .i64 (xp_3 : Int), .int .i64 (xa_3 : Int), .int .i64 (xb_3 : Int), .int .i64 (xc_3 : Int), .slice A10_3 m10_3 p10_3, .string xap_3, .string xg_3, .int .i64 (xz_3 : Int)] 30)).cell? ⟨w8_3.heap.size, 4, none⟩ = some (.int .i64 (b3 : Int)) := Tf3.out.2.2.2.2.2.2.2.1.cellAt 4
            have f6_5 : (w10_3.alloc (.cells #[.string xn_3, .string xq_3, .int .i64 (xp_3 : Int), .int .i64 (xa_3 : Int), .int .i64 (xb_3 : Int), .int .i64 (xc_3 : Int), .slice A10_3 m10_3 p10_3, .string xap_3, .string xg_3, .int .i64 (xz_3 : Int)] 30)).cell? ⟨w8_3.heap.size, 5, none⟩ = some (.int .i64 (c3 : Int)) := Tf3.out.2.2.2.2.2.2.2.1.cellAt 5
            have f6_6 : (w10_3.alloc (.cells #[.string xn_3, .string xq_3, .int .i64 (xp_3 : Int), .int .i64 (xa_3 : Int), .int .i64 (xb_3 : Int), .int .i64 (xc_3 : Int), .slice A10_3 m10_3 p10_3, .string xap_3, .string xg_3, .int .i64 (xz_3 : Int)] 30)).cell? ⟨w8_3.heap.size, 6, none⟩ = some (.slice A8_3 m8_3 p8_3) := Tf3.out.2.2.2.2.2.2.2.1.cellAt 6
            have f6_7 : (w10_3.alloc (.cells #[.string xn_3, .string xq_3, .int .i64 (xp_3 : Int), .int .i64 (xa_3 : Int), .int .i64 (xb_3 : Int), .int .i64 (xc_3 : Int), .slice A10_3 m10_3 p10_3, .string xap_3, .string xg_3, .int .i64 (xz_3 : Int)] 30)).cell? ⟨w8_3.heap.size, 7, none⟩ = some (.string ap3) := Tf3.out.2.2.2.2.2.2.2.1.cellAt 7
            have f6_8 : (w10_3.alloc (.cells #[.string xn_3, .string xq_3, .int .i64 (xp_3 : Int), .int .i64 (xa_3 : Int), .int .i64 (xb_3 : Int), .int .i64 (xc_3 : Int), .slice A10_3 m10_3 p10_3, .string xap_3, .string xg_3, .int .i64 (xz_3 : Int)] 30)).cell? ⟨w8_3.heap.size, 8, none⟩ = some (.string ga3) := Tf3.out.2.2.2.2.2.2.2.1.cellAt 8
            have f6_9 : (w10_3.alloc (.cells #[.string xn_3, .string xq_3, .int .i64 (xp_3 : Int), .int .i64 (xa_3 : Int), .int .i64 (xb_3 : Int), .int .i64 (xc_3 : Int), .slice A10_3 m10_3 p10_3, .string xap_3, .string xg_3, .int .i64 (xz_3 : Int)] 30)).cell? ⟨w8_3.heap.size, 9, none⟩ = some (.int .i64 (sz3 : Int)) := Tf3.out.2.2.2.2.2.2.2.1.cellAt 9
            go_wp2_with fail
            refine (sameTask_yes nm3 qu3 (pr3 : Int) (a3 : Int) (b3 : Int) (c3 : Int) A8_3 m8_3 p8_3 A3 n3 cp3 l3 ap3 ga3 (sz3 : Int) _ HM8_3 HN3 (Lib.hid Tf3.out.2.2.2.2.2.2.2.2) (Lib.hid (HR3.out.later Tf3.out.1)) ca8_3 cb8_3 hc3 hm3).mono ?_
            rintro e w12_3 ⟨rfl, hb12⟩
            have Tg3 : Hid (Below w.heap.size w w12_3 ∧ Bk w12_3 w.heap.size 26 #[.string nm1, .int .i64 (a1 : Int), .int .i64 (b1 : Int), .int .i64 (c1 : Int), .slice A1 n1 cp1] ∧ Bk w12_3 (w.heap.size + 1) 28 #[.string nm2, .int .i64 a2, .int .i64 b2, .int .i64 c2] ∧ Bk w12_3 (w.heap.size + 2) 30 #[.string nm3, .string qu3, .int .i64 (pr3 : Int), .int .i64 (a3 : Int), .int .i64 (b3 : Int), .int .i64 (c3 : Int), .slice A3 n3 cp3, .string ap3, .string ga3, .int .i64 (sz3 : Int)] ∧ Rd w12_3 (some ⟨gg1, 0, none⟩) (bs ++ L1) ∧ Rd w12_3 G2 (bs ++ L2) ∧ Rd w12_3 (some ⟨gg3, 0, none⟩) (bs ++ L3)) := ⟨Tf3.out.1.trans ((hb12).mono Tf3.out.1.size), Tf3.out.2.1.later (hb12), Tf3.out.2.2.1.later (hb12), Tf3.out.2.2.2.1.later (hb12), Tf3.out.2.2.2.2.1.below (hb12), Tf3.out.2.2.2.2.2.1.below (hb12), Tf3.out.2.2.2.2.2.2.1.below (hb12)⟩
            clear hb12 Tf3 f2_0 f2_1 f2_2 f2_3 f2_4 f2_5 f2_6 f2_7 f2_8 f2_9 f6_0 f6_1 f6_2 f6_3 f6_4 f6_5 f6_6 f6_7 f6_8 f6_9
            go_wp2
            go_ret
            exact ⟨rfl, Tg3.out.1⟩
        case pos =>
          rw [hv] at kv
          have KV := Lib.hid kv
          clear kv
          have hle := queueEnc_le hv
          have hbt : L2 = queueEnc nm2 a2 b2 c2 := HB2.out.trans (if_pos hv)
          have hx := rd_head Tg1.out.2.2.2.2.2.1 (by rw [hbt, List.length_append]; omega) X2.out
          obtain ⟨gg2, hg⟩ := hx
          subst hg
          have hK : L2.length = (queueEnc nm2 a2 b2 c2).length := by rw [hbt]
          rw [← hK] at hle
          obtain ⟨K, hKK⟩ : ∃ K, K = L2.length := ⟨_, rfl⟩
          rw [← hKK] at hle
          have hNK : N2 = s.size + K := by rw [HL2.out, List.length_append, ← hsl.out, hKK]
          obtain ⟨j, hj⟩ : ∃ j : Nat, cut % (K : Int) = (j : Int) := ⟨(cut % (K : Int)).toNat, by have := Int.emod_nonneg cut (show (K : Int) ≠ 0 by omega); omega⟩
          have hjK : j < K := by have := Int.emod_lt_of_pos cut (show (0 : Int) < (K : Int) by omega); omega
          have hu := hv
          unfold queueB at hu
          simp only [Bool.and_eq_true, decide_eq_true_eq] at hu
          have u2 := rB_bd hu.2
          obtain ⟨a2, rfl⟩ : ∃ x : Nat, a2 = (x : Int) := ⟨a2.toNat, by omega⟩
          obtain ⟨b2, rfl⟩ : ∃ x : Nat, b2 = (x : Int) := ⟨b2.toNat, by omega⟩
          obtain ⟨c2, rfl⟩ : ∃ x : Nat, c2 = (x : Int) := ⟨c2.toNat, by omega⟩
          have q1 := fun A c W (hr : Rd W A (bs ++ L2 ++ t.data.toList)) (hc : N2 + t.size ≤ c) (hm : c ≤ 9223372036854775807) => takeQueue_any A (N2 + t.size) c (s.size : Int) (bs ++ L2 ++ t.data.toList) W (by show _ = _; rw [List.length_append, str_len, ← HL2.out]) (Lib.hid hr) hc hm
          have r1 := queue_at (l := bs ++ L2 ++ t.data.toList) (x := bs) (y := t.data.toList) hv (by rw [hbt]; simp)
          rw [← hsl.out] at r1
          rw [r1] at q1
          have e1 : (((bs ++ queueEnc nm2 a2 b2 c2).length : Nat) : Int) = (N2 : Int) := by rw [← hbt, ← HL2.out]
          unfold retQueue at q1
          simp only [] at q1
          rw [e1] at q1
          have q2 := fun A c W (hr : Rd W A ((bs ++ L2).take (s.size + j))) (hc : s.size + j ≤ c) (hm : c ≤ 9223372036854775807) => takeQueue_any A (s.size + j) c (s.size : Int) ((bs ++ L2).take (s.size + j)) W (by show _ = _; rw [List.length_take, ← HL2.out]; omega) (Lib.hid hr) hc hm
          have r2 := queue_cut (x := bs) (j := j) hv (by rw [← hbt, ← hKK]; exact hjK)
          rw [← hsl.out, ← hbt] at r2
          obtain ⟨xn_2, xa_2, xb_2, xc_2, xx_2, xe_2, hxx⟩ := qu_eta (tQueue ((bs ++ L2).take (s.size + j)) (s.size : Int))
          rw [hxx] at q2 r2
          unfold retQueue at q2
          simp only [] at q2 r2
          have ec1 : (xe_2 == 0) = false := by simpa using r2
          have ec2 : (xe_2 != 0) = true := by simpa using r2
          have Q1 := Lib.hid q1
          have Q2 := Lib.hid q2
          have hk : (N2 : Int) - (s.size : Int) = (K : Int) := by omega
          have hNa : s.size + j ≤ N2 := by omega
          have hNb : N2 ≤ 1049576 := by omega
          have hK0 : (1 : Int) ≤ (K : Int) := by omega
          have d1 : decide (K < 1) = false := by simp; omega
          have d2 : decide ((K : Int) < 1) = false := by simp; omega
          have d3 : ((K : Int) == 0) = false := by simp; omega
          have hKb : K ≤ 1000 := hle.2
          have HNK := Lib.hid hNK
          clear q1 q2 r1 r2 hxx e1 hbt hK hKK hle hu u2 hNK hv
          have nq := fun w => neq_queue nm2 (a2 : Int) (b2 : Int) (c2 : Int) w
          have f1_0 : w12_1.cell? ⟨(w.heap.size + 1), 0, none⟩ = some (.string nm2) := Tg1.out.2.2.1.cellAt 0
          have f1_1 : w12_1.cell? ⟨(w.heap.size + 1), 1, none⟩ = some (.int .i64 (a2 : Int)) := Tg1.out.2.2.1.cellAt 1
          have f1_2 : w12_1.cell? ⟨(w.heap.size + 1), 2, none⟩ = some (.int .i64 (b2 : Int)) := Tg1.out.2.2.1.cellAt 2
          have f1_3 : w12_1.cell? ⟨(w.heap.size + 1), 3, none⟩ = some (.int .i64 (c2 : Int)) := Tg1.out.2.2.1.cellAt 3
          go_wp2_with fail
          refine (KV.out _).mono ?_
          rintro e u2 ⟨rfl, hb⟩
          have Ta2 : Hid (Below w.heap.size w u2 ∧ Bk u2 w.heap.size 26 #[.string nm1, .int .i64 (a1 : Int), .int .i64 (b1 : Int), .int .i64 (c1 : Int), .slice A1 n1 cp1] ∧ Bk u2 (w.heap.size + 1) 28 #[.string nm2, .int .i64 (a2 : Int), .int .i64 (b2 : Int), .int .i64 (c2 : Int)] ∧ Bk u2 (w.heap.size + 2) 30 #[.string nm3, .string qu3, .int .i64 pr3, .int .i64 a3, .int .i64 b3, .int .i64 c3, .slice A3 n3 cp3, .string ap3, .string ga3, .int .i64 sz3] ∧ Rd u2 (some ⟨gg1, 0, none⟩) (bs ++ L1) ∧ Rd u2 (some ⟨gg2, 0, none⟩) (bs ++ L2) ∧ Rd u2 G3 (bs ++ L3)) := ⟨Tg1.out.1.trans ((hb).mono Tg1.out.1.size), Tg1.out.2.1.later (hb), Tg1.out.2.2.1.later (hb), Tg1.out.2.2.2.1.later (hb), Tg1.out.2.2.2.2.1.below (hb), Tg1.out.2.2.2.2.2.1.below (hb), Tg1.out.2.2.2.2.2.2.below (hb)⟩
          clear hb Tg1 KV f1_0 f1_1 f1_2 f1_3
          go_wp2_with (at_builtin; refine wpList_append_cut _ rfl (.tmp 119) (.tmp 120) 36 9 rfl 5 i0 Try.underlying36 Try.underlying9 hi hy0 hy1 hy2 gg2 N2 (bs ++ L2) t rfl rfl Ta2.out.2.2.2.2.2.1 HL2.out (by omega) ?_)
          intro A7_2 c7_2 w7_2 hr7 hb7 hc7 hm7
          rw [← List.append_assoc] at hr7
          unfold maxLen at hm7
          have hm7x : c7_2 ≤ 9223372036854775807 := by omega
          clear hm7
          have Tb2 : Hid (Below w.heap.size w w7_2 ∧ Bk w7_2 w.heap.size 26 #[.string nm1, .int .i64 (a1 : Int), .int .i64 (b1 : Int), .int .i64 (c1 : Int), .slice A1 n1 cp1] ∧ Bk w7_2 (w.heap.size + 1) 28 #[.string nm2, .int .i64 (a2 : Int), .int .i64 (b2 : Int), .int .i64 (c2 : Int)] ∧ Bk w7_2 (w.heap.size + 2) 30 #[.string nm3, .string qu3, .int .i64 pr3, .int .i64 a3, .int .i64 b3, .int .i64 c3, .slice A3 n3 cp3, .string ap3, .string ga3, .int .i64 sz3] ∧ Rd w7_2 (some ⟨gg1, 0, none⟩) (bs ++ L1) ∧ Rd w7_2 (some ⟨gg2, 0, none⟩) (bs ++ L2) ∧ Rd w7_2 G3 (bs ++ L3)) := ⟨Ta2.out.1.trans ((hb7).mono Ta2.out.1.size), Ta2.out.2.1.later (hb7), Ta2.out.2.2.1.later (hb7), Ta2.out.2.2.2.1.later (hb7), Ta2.out.2.2.2.2.1.below (hb7), Ta2.out.2.2.2.2.2.1.below (hb7), Ta2.out.2.2.2.2.2.2.below (hb7)⟩
          clear hb7 Ta2
          go_wp2_with fail
          refine (Q1.out _ _ _ hr7 hc7 hm7x).mono ?_
          rintro e w8_2 ⟨rfl, hb8⟩
          have Tc2 : Hid (Below w.heap.size w w8_2 ∧ Bk w8_2 w.heap.size 26 #[.string nm1, .int .i64 (a1 : Int), .int .i64 (b1 : Int), .int .i64 (c1 : Int), .slice A1 n1 cp1] ∧ Bk w8_2 (w.heap.size + 1) 28 #[.string nm2, .int .i64 (a2 : Int), .int .i64 (b2 : Int), .int .i64 (c2 : Int)] ∧ Bk w8_2 (w.heap.size + 2) 30 #[.string nm3, .string qu3, .int .i64 pr3, .int .i64 a3, .int .i64 b3, .int .i64 c3, .slice A3 n3 cp3, .string ap3, .string ga3, .int .i64 sz3] ∧ Rd w8_2 (some ⟨gg1, 0, none⟩) (bs ++ L1) ∧ Rd w8_2 (some ⟨gg2, 0, none⟩) (bs ++ L2) ∧ Rd w8_2 G3 (bs ++ L3)) := ⟨Tb2.out.1.trans ((hb8).mono Tb2.out.1.size), Tb2.out.2.1.later (hb8), Tb2.out.2.2.1.later (hb8), Tb2.out.2.2.2.1.later (hb8), Tb2.out.2.2.2.2.1.below (hb8), Tb2.out.2.2.2.2.2.1.below (hb8), Tb2.out.2.2.2.2.2.2.below (hb8)⟩
          clear hb8 hr7 Tb2
          have Td2 : Hid (Below w.heap.size w (w8_2.alloc (.cells #[.string nm2, .int .i64 (a2 : Int), .int .i64 (b2 : Int), .int .i64 (c2 : Int)] 28)) ∧ Bk (w8_2.alloc (.cells #[.string nm2, .int .i64 (a2 : Int), .int .i64 (b2 : Int), .int .i64 (c2 : Int)] 28)) w.heap.size 26 #[.string nm1, .int .i64 (a1 : Int), .int .i64 (b1 : Int), .int .i64 (c1 : Int), .slice A1 n1 cp1] ∧ Bk (w8_2.alloc (.cells #[.string nm2, .int .i64 (a2 : Int), .int .i64 (b2 : Int), .int .i64 (c2 : Int)] 28)) (w.heap.size + 1) 28 #[.string nm2, .int .i64 (a2 : Int), .int .i64 (b2 : Int), .int .i64 (c2 : Int)] ∧ Bk (w8_2.alloc (.cells #[.string nm2, .int .i64 (a2 : Int), .int .i64 (b2 : Int), .int .i64 (c2 : Int)] 28)) (w.heap.size + 2) 30 #[.string nm3, .string qu3, .int .i64 pr3, .int .i64 a3, .int .i64 b3, .int .i64 c3, .slice A3 n3 cp3, .string ap3, .string ga3, .int .i64 sz3] ∧ Rd (w8_2.alloc (.cells #[.string nm2, .int .i64 (a2 : Int), .int .i64 (b2 : Int), .int .i64 (c2 : Int)] 28)) (some ⟨gg1, 0, none⟩) (bs ++ L1) ∧ Rd (w8_2.alloc (.cells #[.string nm2, .int .i64 (a2 : Int), .int .i64 (b2 : Int), .int .i64 (c2 : Int)] 28)) (some ⟨gg2, 0, none⟩) (bs ++ L2) ∧ Rd (w8_2.alloc (.cells #[.string nm2, .int .i64 (a2 : Int), .int .i64 (b2 : Int), .int .i64 (c2 : Int)] 28)) G3 (bs ++ L3) ∧ Bk (w8_2.alloc (.cells #[.string nm2, .int .i64 (a2 : Int), .int .i64 (b2 : Int), .int .i64 (c2 : Int)] 28)) w8_2.heap.size 28 #[.string nm2, .int .i64 (a2 : Int), .int .i64 (b2 : Int), .int .i64 (c2 : Int)]) := ⟨Tc2.out.1.alloc Tc2.out.1.size _, Tc2.out.2.1.later ((Below.refl _ _).alloc (Nat.le_refl _) _), Tc2.out.2.2.1.later ((Below.refl _ _).alloc (Nat.le_refl _) _), Tc2.out.2.2.2.1.later ((Below.refl _ _).alloc (Nat.le_refl _) _), Tc2.out.2.2.2.2.1.below ((Below.refl _ _).alloc (Nat.le_refl _) _), Tc2.out.2.2.2.2.2.1.below ((Below.refl _ _).alloc (Nat.le_refl _) _), Tc2.out.2.2.2.2.2.2.below ((Below.refl _ _).alloc (Nat.le_refl _) _), Bk.fresh _ _ _⟩
          clear Tc2
          go_wp2_with fail
          refine (Q2.out _ C2 _ (Td2.out.2.2.2.2.2.1.take _) (by omega) (by omega)).mono ?_
          rintro e w10_2 ⟨rfl, hb10⟩
          have Te2 : Hid (Below w.heap.size w w10_2 ∧ Bk w10_2 w.heap.size 26 #[.string nm1, .int .i64 (a1 : Int), .int .i64 (b1 : Int), .int .i64 (c1 : Int), .slice A1 n1 cp1] ∧ Bk w10_2 (w.heap.size + 1) 28 #[.string nm2, .int .i64 (a2 : Int), .int .i64 (b2 : Int), .int .i64 (c2 : Int)] ∧ Bk w10_2 (w.heap.size + 2) 30 #[.string nm3, .string qu3, .int .i64 pr3, .int .i64 a3, .int .i64 b3, .int .i64 c3, .slice A3 n3 cp3, .string ap3, .string ga3, .int .i64 sz3] ∧ Rd w10_2 (some ⟨gg1, 0, none⟩) (bs ++ L1) ∧ Rd w10_2 (some ⟨gg2, 0, none⟩) (bs ++ L2) ∧ Rd w10_2 G3 (bs ++ L3) ∧ Bk w10_2 w8_2.heap.size 28 #[.string nm2, .int .i64 (a2 : Int), .int .i64 (b2 : Int), .int .i64 (c2 : Int)]) := ⟨Td2.out.1.trans ((hb10).mono Td2.out.1.size), Td2.out.2.1.later (hb10), Td2.out.2.2.1.later (hb10), Td2.out.2.2.2.1.later (hb10), Td2.out.2.2.2.2.1.below (hb10), Td2.out.2.2.2.2.2.1.below (hb10), Td2.out.2.2.2.2.2.2.1.below (hb10), Td2.out.2.2.2.2.2.2.2.later (hb10)⟩
          clear hb10 Td2
          clear hk d1 d2 d3 hj hjK hNa hNb hK0 hKb HNK Q1 Q2
          have Tf2 : Hid (Below w.heap.size w (w10_2.alloc (.cells #[.string xn_2, .int .i64 (xa_2 : Int), .int .i64 (xb_2 : Int), .int .i64 (xc_2 : Int)] 28)) ∧ Bk (w10_2.alloc (.cells #[.string xn_2, .int .i64 (xa_2 : Int), .int .i64 (xb_2 : Int), .int .i64 (xc_2 : Int)] 28)) w.heap.size 26 #[.string nm1, .int .i64 (a1 : Int), .int .i64 (b1 : Int), .int .i64 (c1 : Int), .slice A1 n1 cp1] ∧ Bk (w10_2.alloc (.cells #[.string xn_2, .int .i64 (xa_2 : Int), .int .i64 (xb_2 : Int), .int .i64 (xc_2 : Int)] 28)) (w.heap.size + 1) 28 #[.string nm2, .int .i64 (a2 : Int), .int .i64 (b2 : Int), .int .i64 (c2 : Int)] ∧ Bk (w10_2.alloc (.cells #[.string xn_2, .int .i64 (xa_2 : Int), .int .i64 (xb_2 : Int), .int .i64 (xc_2 : Int)] 28)) (w.heap.size + 2) 30 #[.string nm3, .string qu3, .int .i64 pr3, .int .i64 a3, .int .i64 b3, .int .i64 c3, .slice A3 n3 cp3, .string ap3, .string ga3, .int .i64 sz3] ∧ Rd (w10_2.alloc (.cells #[.string xn_2, .int .i64 (xa_2 : Int), .int .i64 (xb_2 : Int), .int .i64 (xc_2 : Int)] 28)) (some ⟨gg1, 0, none⟩) (bs ++ L1) ∧ Rd (w10_2.alloc (.cells #[.string xn_2, .int .i64 (xa_2 : Int), .int .i64 (xb_2 : Int), .int .i64 (xc_2 : Int)] 28)) (some ⟨gg2, 0, none⟩) (bs ++ L2) ∧ Rd (w10_2.alloc (.cells #[.string xn_2, .int .i64 (xa_2 : Int), .int .i64 (xb_2 : Int), .int .i64 (xc_2 : Int)] 28)) G3 (bs ++ L3) ∧ Bk (w10_2.alloc (.cells #[.string xn_2, .int .i64 (xa_2 : Int), .int .i64 (xb_2 : Int), .int .i64 (xc_2 : Int)] 28)) w8_2.heap.size 28 #[.string nm2, .int .i64 (a2 : Int), .int .i64 (b2 : Int), .int .i64 (c2 : Int)]) := ⟨Te2.out.1.alloc Te2.out.1.size _, Te2.out.2.1.later ((Below.refl _ _).alloc (Nat.le_refl _) _), Te2.out.2.2.1.later ((Below.refl _ _).alloc (Nat.le_refl _) _), Te2.out.2.2.2.1.later ((Below.refl _ _).alloc (Nat.le_refl _) _), Te2.out.2.2.2.2.1.below ((Below.refl _ _).alloc (Nat.le_refl _) _), Te2.out.2.2.2.2.2.1.below ((Below.refl _ _).alloc (Nat.le_refl _) _), Te2.out.2.2.2.2.2.2.1.below ((Below.refl _ _).alloc (Nat.le_refl _) _), Te2.out.2.2.2.2.2.2.2.later ((Below.refl _ _).alloc (Nat.le_refl _) _)⟩
          clear Te2
          have f1_0 : (w10_2.alloc (.cells #[.string xn_2, .int .i64 (xa_2 : Int), .int .i64 (xb_2 : Int), .int .i64 (xc_2 : Int)] 28)).cell? ⟨(w.heap.size + 1), 0, none⟩ = some (.string nm2) := Tf2.out.2.2.1.cellAt 0
          have f1_1 : (w10_2.alloc (.cells #[.string xn_2, .int .i64 (xa_2 : Int), .int .i64 (xb_2 : Int), .int .i64 (xc_2 : Int)] 28)).cell? ⟨(w.heap.size + 1), 1, none⟩ = some (.int .i64 (a2 : Int)) := Tf2.out.2.2.1.cellAt 1
          have f1_2 : (w10_2.alloc (.cells #[.string xn_2, .int .i64 (xa_2 : Int), .int .i64 (xb_2 : Int), .int .i64 (xc_2 : Int)] 28)).cell? ⟨(w.heap.size + 1), 2, none⟩ = some (.int .i64 (b2 : Int)) := Tf2.out.2.2.1.cellAt 2
          have f1_3 : (w10_2.alloc (.cells #[.string xn_2, .int .i64 (xa_2 : Int), .int .i64 (xb_2 : Int), .int .i64 (xc_2 : Int)] 28)).cell? ⟨(w.heap.size + 1), 3, none⟩ = some (.int .i64 (c2 : Int)) := Tf2.out.2.2.1.cellAt 3
          have f6_0 : (w10_2.alloc (.cells #[.string xn_2, .int .i64 (xa_2 : Int), .int .i64 (xb_2 : Int), .int .i64 (xc_2 : Int)] 28)).cell? ⟨w8_2.heap.size, 0, none⟩ = some (.string nm2) := Tf2.out.2.2.2.2.2.2.2.cellAt 0
          have f6_1 : (w10_2.alloc (.cells #[.string xn_2, .int .i64 (xa_2 : Int), .int .i64 (xb_2 : Int), .int .i64 (xc_2 : Int)] 28)).cell? ⟨w8_2.heap.size, 1, none⟩ = some (.int .i64 (a2 : Int)) := Tf2.out.2.2.2.2.2.2.2.cellAt 1
          have f6_2 : (w10_2.alloc (.cells #[.string xn_2, .int .i64 (xa_2 : Int), .int .i64 (xb_2 : Int), .int .i64 (xc_2 : Int)] 28)).cell? ⟨w8_2.heap.size, 2, none⟩ = some (.int .i64 (b2 : Int)) := Tf2.out.2.2.2.2.2.2.2.cellAt 2
          have f6_3 : (w10_2.alloc (.cells #[.string xn_2, .int .i64 (xa_2 : Int), .int .i64 (xb_2 : Int), .int .i64 (xc_2 : Int)] 28)).cell? ⟨w8_2.heap.size, 3, none⟩ = some (.int .i64 (c2 : Int)) := Tf2.out.2.2.2.2.2.2.2.cellAt 3
          have Tg2 : Hid (Below w.heap.size w (w10_2.alloc (.cells #[.string xn_2, .int .i64 (xa_2 : Int), .int .i64 (xb_2 : Int), .int .i64 (xc_2 : Int)] 28)) ∧ Bk (w10_2.alloc (.cells #[.string xn_2, .int .i64 (xa_2 : Int), .int .i64 (xb_2 : Int), .int .i64 (xc_2 : Int)] 28)) w.heap.size 26 #[.string nm1, .int .i64 (a1 : Int), .int .i64 (b1 : Int), .int .i64 (c1 : Int), .slice A1 n1 cp1] ∧ Bk (w10_2.alloc (.cells #[.string xn_2, .int .i64 (xa_2 : Int), .int .i64 (xb_2 : Int), .int .i64 (xc_2 : Int)] 28)) (w.heap.size + 1) 28 #[.string nm2, .int .i64 (a2 : Int), .int .i64 (b2 : Int), .int .i64 (c2 : Int)] ∧ Bk (w10_2.alloc (.cells #[.string xn_2, .int .i64 (xa_2 : Int), .int .i64 (xb_2 : Int), .int .i64 (xc_2 : Int)] 28)) (w.heap.size + 2) 30 #[.string nm3, .string qu3, .int .i64 pr3, .int .i64 a3, .int .i64 b3, .int .i64 c3, .slice A3 n3 cp3, .string ap3, .string ga3, .int .i64 sz3] ∧ Rd (w10_2.alloc (.cells #[.string xn_2, .int .i64 (xa_2 : Int), .int .i64 (xb_2 : Int), .int .i64 (xc_2 : Int)] 28)) (some ⟨gg1, 0, none⟩) (bs ++ L1) ∧ Rd (w10_2.alloc (.cells #[.string xn_2, .int .i64 (xa_2 : Int), .int .i64 (xb_2 : Int), .int .i64 (xc_2 : Int)] 28)) (some ⟨gg2, 0, none⟩) (bs ++ L2) ∧ Rd (w10_2.alloc (.cells #[.string xn_2, .int .i64 (xa_2 : Int), .int .i64 (xb_2 : Int), .int .i64 (xc_2 : Int)] 28)) G3 (bs ++ L3)) := ⟨Tf2.out.1.trans ((Below.refl _ _).mono Tf2.out.1.size), Tf2.out.2.1.later (Below.refl _ _), Tf2.out.2.2.1.later (Below.refl _ _), Tf2.out.2.2.2.1.later (Below.refl _ _), Tf2.out.2.2.2.2.1.below (Below.refl _ _), Tf2.out.2.2.2.2.2.1.below (Below.refl _ _), Tf2.out.2.2.2.2.2.2.1.below (Below.refl _ _)⟩
          clear Tf2
          have kv := KT.out
          clear KT
          by_cases hv : taskB nm3 qu3 pr3 a3 b3 c3 l3 ap3 ga3 sz3 = true
          case neg =>
            have hv' : taskB nm3 qu3 pr3 a3 b3 c3 l3 ap3 ga3 sz3 = false := by simpa using hv
            rw [hv'] at kv
            clear hv hv'
            have KV := Lib.hid kv
            clear kv
            have f2_0 : (w10_2.alloc (.cells #[.string xn_2, .int .i64 (xa_2 : Int), .int .i64 (xb_2 : Int), .int .i64 (xc_2 : Int)] 28)).cell? ⟨(w.heap.size + 2), 0, none⟩ = some (.string nm3) := Tg2.out.2.2.2.1.cellAt 0
            have f2_1 : (w10_2.alloc (.cells #[.string xn_2, .int .i64 (xa_2 : Int), .int .i64 (xb_2 : Int), .int .i64 (xc_2 : Int)] 28)).cell? ⟨(w.heap.size + 2), 1, none⟩ = some (.string qu3) := Tg2.out.2.2.2.1.cellAt 1
            have f2_2 : (w10_2.alloc (.cells #[.string xn_2, .int .i64 (xa_2 : Int), .int .i64 (xb_2 : Int), .int .i64 (xc_2 : Int)] 28)).cell? ⟨(w.heap.size + 2), 2, none⟩ = some (.int .i64 pr3) := Tg2.out.2.2.2.1.cellAt 2
            have f2_3 : (w10_2.alloc (.cells #[.string xn_2, .int .i64 (xa_2 : Int), .int .i64 (xb_2 : Int), .int .i64 (xc_2 : Int)] 28)).cell? ⟨(w.heap.size + 2), 3, none⟩ = some (.int .i64 a3) := Tg2.out.2.2.2.1.cellAt 3
            have f2_4 : (w10_2.alloc (.cells #[.string xn_2, .int .i64 (xa_2 : Int), .int .i64 (xb_2 : Int), .int .i64 (xc_2 : Int)] 28)).cell? ⟨(w.heap.size + 2), 4, none⟩ = some (.int .i64 b3) := Tg2.out.2.2.2.1.cellAt 4
            have f2_5 : (w10_2.alloc (.cells #[.string xn_2, .int .i64 (xa_2 : Int), .int .i64 (xb_2 : Int), .int .i64 (xc_2 : Int)] 28)).cell? ⟨(w.heap.size + 2), 5, none⟩ = some (.int .i64 c3) := Tg2.out.2.2.2.1.cellAt 5
            have f2_6 : (w10_2.alloc (.cells #[.string xn_2, .int .i64 (xa_2 : Int), .int .i64 (xb_2 : Int), .int .i64 (xc_2 : Int)] 28)).cell? ⟨(w.heap.size + 2), 6, none⟩ = some (.slice A3 n3 cp3) := Tg2.out.2.2.2.1.cellAt 6
            have f2_7 : (w10_2.alloc (.cells #[.string xn_2, .int .i64 (xa_2 : Int), .int .i64 (xb_2 : Int), .int .i64 (xc_2 : Int)] 28)).cell? ⟨(w.heap.size + 2), 7, none⟩ = some (.string ap3) := Tg2.out.2.2.2.1.cellAt 7
            have f2_8 : (w10_2.alloc (.cells #[.string xn_2, .int .i64 (xa_2 : Int), .int .i64 (xb_2 : Int), .int .i64 (xc_2 : Int)] 28)).cell? ⟨(w.heap.size + 2), 8, none⟩ = some (.string ga3) := Tg2.out.2.2.2.1.cellAt 8
            have f2_9 : (w10_2.alloc (.cells #[.string xn_2, .int .i64 (xa_2 : Int), .int .i64 (xb_2 : Int), .int .i64 (xc_2 : Int)] 28)).cell? ⟨(w.heap.size + 2), 9, none⟩ = some (.int .i64 sz3) := Tg2.out.2.2.2.1.cellAt 9
            go_wp2_with fail
            refine (KV.out _ (HR3.out.later Tg2.out.1)).mono ?_
            rintro e u3 ⟨rfl, hb⟩
            have Ta3 : Hid (Below w.heap.size w u3 ∧ Bk u3 w.heap.size 26 #[.string nm1, .int .i64 (a1 : Int), .int .i64 (b1 : Int), .int .i64 (c1 : Int), .slice A1 n1 cp1] ∧ Bk u3 (w.heap.size + 1) 28 #[.string nm2, .int .i64 (a2 : Int), .int .i64 (b2 : Int), .int .i64 (c2 : Int)] ∧ Bk u3 (w.heap.size + 2) 30 #[.string nm3, .string qu3, .int .i64 pr3, .int .i64 a3, .int .i64 b3, .int .i64 c3, .slice A3 n3 cp3, .string ap3, .string ga3, .int .i64 sz3] ∧ Rd u3 (some ⟨gg1, 0, none⟩) (bs ++ L1) ∧ Rd u3 (some ⟨gg2, 0, none⟩) (bs ++ L2) ∧ Rd u3 G3 (bs ++ L3)) := ⟨Tg2.out.1.trans ((hb).mono Tg2.out.1.size), Tg2.out.2.1.later (hb), Tg2.out.2.2.1.later (hb), Tg2.out.2.2.2.1.later (hb), Tg2.out.2.2.2.2.1.below (hb), Tg2.out.2.2.2.2.2.1.below (hb), Tg2.out.2.2.2.2.2.2.below (hb)⟩
            clear hb Tg2 KV f2_0 f2_1 f2_2 f2_3 f2_4 f2_5 f2_6 f2_7 f2_8 f2_9
            go_wp2
            go_ret
            exact ⟨rfl, Ta3.out.1⟩
          case pos =>
            rw [hv] at kv
            have KV := Lib.hid kv
            clear kv
            have hle := taskEnc_le hv
            have hbt : L3 = taskEnc nm3 qu3 pr3 a3 b3 c3 l3 ap3 ga3 sz3 := HB3.out.trans (if_pos hv)
            have hx := rd_head Tg2.out.2.2.2.2.2.2 (by rw [hbt, List.length_append]; omega) X3.out
            obtain ⟨gg3, hg⟩ := hx
            subst hg
            have hK : L3.length = (taskEnc nm3 qu3 pr3 a3 b3 c3 l3 ap3 ga3 sz3).length := by rw [hbt]
            rw [← hK] at hle
            obtain ⟨K, hKK⟩ : ∃ K, K = L3.length := ⟨_, rfl⟩
            rw [← hKK] at hle
            have hNK : N3 = s.size + K := by rw [HL3.out, List.length_append, ← hsl.out, hKK]
            obtain ⟨j, hj⟩ : ∃ j : Nat, cut % (K : Int) = (j : Int) := ⟨(cut % (K : Int)).toNat, by have := Int.emod_nonneg cut (show (K : Int) ≠ 0 by omega); omega⟩
            have hjK : j < K := by have := Int.emod_lt_of_pos cut (show (0 : Int) < (K : Int) by omega); omega
            have hu := hv
            unfold taskB at hu
            simp only [Bool.and_eq_true, decide_eq_true_eq] at hu
            obtain ⟨⟨⟨⟨⟨⟨⟨v1, v2⟩, v3⟩, v4⟩, v5⟩, v6⟩, v7⟩, v8⟩ := hu
            have u2 := rB_bd v5
            have u3 := gangB_le v8
            have hu := v1
            clear v1 v2 v5 v6 v7 v8
            obtain ⟨pr3, rfl⟩ : ∃ x : Nat, pr3 = (x : Int) := ⟨pr3.toNat, by omega⟩
            obtain ⟨a3, rfl⟩ : ∃ x : Nat, a3 = (x : Int) := ⟨a3.toNat, by omega⟩
            obtain ⟨b3, rfl⟩ : ∃ x : Nat, b3 = (x : Int) := ⟨b3.toNat, by omega⟩
            obtain ⟨c3, rfl⟩ : ∃ x : Nat, c3 = (x : Int) := ⟨c3.toNat, by omega⟩
            obtain ⟨sz3, rfl⟩ : ∃ x : Nat, sz3 = (x : Int) := ⟨sz3.toNat, by omega⟩
            clear u3 v3 v4
            have q1 := fun A c W (hr : Rd W A (bs ++ L3 ++ t.data.toList)) (hc : N3 + t.size ≤ c) (hm : c ≤ 9223372036854775807) => takeTask_any A (N3 + t.size) c (s.size : Int) (bs ++ L3 ++ t.data.toList) W (by show _ = _; rw [List.length_append, str_len, ← HL3.out]) (Lib.hid hr) hc hm
            have r1 := task_at (l := bs ++ L3 ++ t.data.toList) (x := bs) (y := t.data.toList) hv (by rw [hbt]; simp)
            rw [← hsl.out] at r1
            rw [r1] at q1
            have e1 : (((bs ++ taskEnc nm3 qu3 pr3 a3 b3 c3 l3 ap3 ga3 sz3).length : Nat) : Int) = (N3 : Int) := by rw [← hbt, ← HL3.out]
            unfold retTask at q1
            simp only [] at q1
            rw [e1] at q1
            have q2 := fun A c W (hr : Rd W A ((bs ++ L3).take (s.size + j))) (hc : s.size + j ≤ c) (hm : c ≤ 9223372036854775807) => takeTask_any A (s.size + j) c (s.size : Int) ((bs ++ L3).take (s.size + j)) W (by show _ = _; rw [List.length_take, ← HL3.out]; omega) (Lib.hid hr) hc hm
            have r2 := task_cut (x := bs) (j := j) hv (by rw [← hbt, ← hKK]; exact hjK)
            rw [← hsl.out, ← hbt] at r2
            obtain ⟨xn_3, xq_3, xp_3, xa_3, xb_3, xc_3, xl_3, xap_3, xg_3, xz_3, xx_3, xe_3, hxx⟩ := tk_eta (tTask ((bs ++ L3).take (s.size + j)) (s.size : Int))
            rw [hxx] at q2 r2
            unfold retTask at q2
            simp only [] at q2 r2
            have ec1 : (xe_3 == 0) = false := by simpa using r2
            have ec2 : (xe_3 != 0) = true := by simpa using r2
            have Q1 := Lib.hid q1
            have Q2 := Lib.hid q2
            have hk : (N3 : Int) - (s.size : Int) = (K : Int) := by omega
            have hNa : s.size + j ≤ N3 := by omega
            have hNb : N3 ≤ 1049576 := by omega
            have hK0 : (1 : Int) ≤ (K : Int) := by omega
            have d1 : decide (K < 1) = false := by simp; omega
            have d2 : decide ((K : Int) < 1) = false := by simp; omega
            have d3 : ((K : Int) == 0) = false := by simp; omega
            have hKb : K ≤ 1000 := hle.2
            have HNK := Lib.hid hNK
            clear q1 q2 r1 r2 hxx e1 hbt hK hKK hle hu u2 hNK hv
            have f2_0 : (w10_2.alloc (.cells #[.string xn_2, .int .i64 (xa_2 : Int), .int .i64 (xb_2 : Int), .int .i64 (xc_2 : Int)] 28)).cell? ⟨(w.heap.size + 2), 0, none⟩ = some (.string nm3) := Tg2.out.2.2.2.1.cellAt 0
            have f2_1 : (w10_2.alloc (.cells #[.string xn_2, .int .i64 (xa_2 : Int), .int .i64 (xb_2 : Int), .int .i64 (xc_2 : Int)] 28)).cell? ⟨(w.heap.size + 2), 1, none⟩ = some (.string qu3) := Tg2.out.2.2.2.1.cellAt 1
            have f2_2 : (w10_2.alloc (.cells #[.string xn_2, .int .i64 (xa_2 : Int), .int .i64 (xb_2 : Int), .int .i64 (xc_2 : Int)] 28)).cell? ⟨(w.heap.size + 2), 2, none⟩ = some (.int .i64 (pr3 : Int)) := Tg2.out.2.2.2.1.cellAt 2
            have f2_3 : (w10_2.alloc (.cells #[.string xn_2, .int .i64 (xa_2 : Int), .int .i64 (xb_2 : Int), .int .i64 (xc_2 : Int)] 28)).cell? ⟨(w.heap.size + 2), 3, none⟩ = some (.int .i64 (a3 : Int)) := Tg2.out.2.2.2.1.cellAt 3
            have f2_4 : (w10_2.alloc (.cells #[.string xn_2, .int .i64 (xa_2 : Int), .int .i64 (xb_2 : Int), .int .i64 (xc_2 : Int)] 28)).cell? ⟨(w.heap.size + 2), 4, none⟩ = some (.int .i64 (b3 : Int)) := Tg2.out.2.2.2.1.cellAt 4
            have f2_5 : (w10_2.alloc (.cells #[.string xn_2, .int .i64 (xa_2 : Int), .int .i64 (xb_2 : Int), .int .i64 (xc_2 : Int)] 28)).cell? ⟨(w.heap.size + 2), 5, none⟩ = some (.int .i64 (c3 : Int)) := Tg2.out.2.2.2.1.cellAt 5
            have f2_6 : (w10_2.alloc (.cells #[.string xn_2, .int .i64 (xa_2 : Int), .int .i64 (xb_2 : Int), .int .i64 (xc_2 : Int)] 28)).cell? ⟨(w.heap.size + 2), 6, none⟩ = some (.slice A3 n3 cp3) := Tg2.out.2.2.2.1.cellAt 6
            have f2_7 : (w10_2.alloc (.cells #[.string xn_2, .int .i64 (xa_2 : Int), .int .i64 (xb_2 : Int), .int .i64 (xc_2 : Int)] 28)).cell? ⟨(w.heap.size + 2), 7, none⟩ = some (.string ap3) := Tg2.out.2.2.2.1.cellAt 7
            have f2_8 : (w10_2.alloc (.cells #[.string xn_2, .int .i64 (xa_2 : Int), .int .i64 (xb_2 : Int), .int .i64 (xc_2 : Int)] 28)).cell? ⟨(w.heap.size + 2), 8, none⟩ = some (.string ga3) := Tg2.out.2.2.2.1.cellAt 8
            have f2_9 : (w10_2.alloc (.cells #[.string xn_2, .int .i64 (xa_2 : Int), .int .i64 (xb_2 : Int), .int .i64 (xc_2 : Int)] 28)).cell? ⟨(w.heap.size + 2), 9, none⟩ = some (.int .i64 (sz3 : Int)) := Tg2.out.2.2.2.1.cellAt 9
            go_wp2_with fail
            refine (KV.out _ (HR3.out.later Tg2.out.1)).mono ?_
            rintro e u3 ⟨rfl, hb⟩
            have Ta3 : Hid (Below w.heap.size w u3 ∧ Bk u3 w.heap.size 26 #[.string nm1, .int .i64 (a1 : Int), .int .i64 (b1 : Int), .int .i64 (c1 : Int), .slice A1 n1 cp1] ∧ Bk u3 (w.heap.size + 1) 28 #[.string nm2, .int .i64 (a2 : Int), .int .i64 (b2 : Int), .int .i64 (c2 : Int)] ∧ Bk u3 (w.heap.size + 2) 30 #[.string nm3, .string qu3, .int .i64 (pr3 : Int), .int .i64 (a3 : Int), .int .i64 (b3 : Int), .int .i64 (c3 : Int), .slice A3 n3 cp3, .string ap3, .string ga3, .int .i64 (sz3 : Int)] ∧ Rd u3 (some ⟨gg1, 0, none⟩) (bs ++ L1) ∧ Rd u3 (some ⟨gg2, 0, none⟩) (bs ++ L2) ∧ Rd u3 (some ⟨gg3, 0, none⟩) (bs ++ L3)) := ⟨Tg2.out.1.trans ((hb).mono Tg2.out.1.size), Tg2.out.2.1.later (hb), Tg2.out.2.2.1.later (hb), Tg2.out.2.2.2.1.later (hb), Tg2.out.2.2.2.2.1.below (hb), Tg2.out.2.2.2.2.2.1.below (hb), Tg2.out.2.2.2.2.2.2.below (hb)⟩
            clear hb Tg2 KV f2_0 f2_1 f2_2 f2_3 f2_4 f2_5 f2_6 f2_7 f2_8 f2_9
            go_wp2_with (at_builtin; refine wpList_append_cut _ rfl (.tmp 170) (.tmp 171) 36 9 rfl 5 i0 Try.underlying36 Try.underlying9 hi hy0 hy1 hy2 gg3 N3 (bs ++ L3) t rfl rfl Ta3.out.2.2.2.2.2.2 HL3.out (by omega) ?_)
            intro A7_3 c7_3 w7_3 hr7 hb7 hc7 hm7
            rw [← List.append_assoc] at hr7
            unfold maxLen at hm7
            have hm7x : c7_3 ≤ 9223372036854775807 := by omega
            clear hm7
            have Tb3 : Hid (Below w.heap.size w w7_3 ∧ Bk w7_3 w.heap.size 26 #[.string nm1, .int .i64 (a1 : Int), .int .i64 (b1 : Int), .int .i64 (c1 : Int), .slice A1 n1 cp1] ∧ Bk w7_3 (w.heap.size + 1) 28 #[.string nm2, .int .i64 (a2 : Int), .int .i64 (b2 : Int), .int .i64 (c2 : Int)] ∧ Bk w7_3 (w.heap.size + 2) 30 #[.string nm3, .string qu3, .int .i64 (pr3 : Int), .int .i64 (a3 : Int), .int .i64 (b3 : Int), .int .i64 (c3 : Int), .slice A3 n3 cp3, .string ap3, .string ga3, .int .i64 (sz3 : Int)] ∧ Rd w7_3 (some ⟨gg1, 0, none⟩) (bs ++ L1) ∧ Rd w7_3 (some ⟨gg2, 0, none⟩) (bs ++ L2) ∧ Rd w7_3 (some ⟨gg3, 0, none⟩) (bs ++ L3)) := ⟨Ta3.out.1.trans ((hb7).mono Ta3.out.1.size), Ta3.out.2.1.later (hb7), Ta3.out.2.2.1.later (hb7), Ta3.out.2.2.2.1.later (hb7), Ta3.out.2.2.2.2.1.below (hb7), Ta3.out.2.2.2.2.2.1.below (hb7), Ta3.out.2.2.2.2.2.2.below (hb7)⟩
            clear hb7 Ta3
            go_wp2_with fail
            refine (Q1.out _ _ _ hr7 hc7 hm7x).mono ?_
            rintro e w8_3 ⟨v8, rfl, ho8, hb8⟩
            have Tc3 : Hid (Below w.heap.size w w8_3 ∧ Bk w8_3 w.heap.size 26 #[.string nm1, .int .i64 (a1 : Int), .int .i64 (b1 : Int), .int .i64 (c1 : Int), .slice A1 n1 cp1] ∧ Bk w8_3 (w.heap.size + 1) 28 #[.string nm2, .int .i64 (a2 : Int), .int .i64 (b2 : Int), .int .i64 (c2 : Int)] ∧ Bk w8_3 (w.heap.size + 2) 30 #[.string nm3, .string qu3, .int .i64 (pr3 : Int), .int .i64 (a3 : Int), .int .i64 (b3 : Int), .int .i64 (c3 : Int), .slice A3 n3 cp3, .string ap3, .string ga3, .int .i64 (sz3 : Int)] ∧ Rd w8_3 (some ⟨gg1, 0, none⟩) (bs ++ L1) ∧ Rd w8_3 (some ⟨gg2, 0, none⟩) (bs ++ L2) ∧ Rd w8_3 (some ⟨gg3, 0, none⟩) (bs ++ L3)) := ⟨Tb3.out.1.trans ((hb8).mono Tb3.out.1.size), Tb3.out.2.1.later (hb8), Tb3.out.2.2.1.later (hb8), Tb3.out.2.2.2.1.later (hb8), Tb3.out.2.2.2.2.1.below (hb8), Tb3.out.2.2.2.2.2.1.below (hb8), Tb3.out.2.2.2.2.2.2.below (hb8)⟩
            clear hb8 hr7 Tb3
            obtain ⟨A8_3, p8_3, sl8⟩ := ho8.sl
            obtain ⟨m8_3, hm8⟩ : ∃ m, m = l3.length := ⟨_, rfl⟩
            have hv8 := sl8.val; rw [← hm8] at hv8; subst hv8
            have ca8_3 := sl8.cap; rw [← hm8] at ca8_3
            have cb8_3 : p8_3 ≤ 9223372036854775807 := by have := sl8.cap2; unfold maxLen at this; omega
            have HM8_3 := Lib.hid hm8
            have R8 : Hid (RdL w8_3 A8_3 l3) := sl8.rd
            clear sl8 ho8 hm8
            have Td3 : Hid (Below w.heap.size w (w8_3.alloc (.cells #[.string nm3, .string qu3, .int .i64 (pr3 : Int), .int .i64 (a3 : Int), .int .i64 (b3 : Int), .int .i64 (c3 : Int), .slice A8_3 m8_3 p8_3, .string ap3, .string ga3, .int .i64 (sz3 : Int)] 30)) ∧ Bk (w8_3.alloc (.cells #[.string nm3, .string qu3, .int .i64 (pr3 : Int), .int .i64 (a3 : Int), .int .i64 (b3 : Int), .int .i64 (c3 : Int), .slice A8_3 m8_3 p8_3, .string ap3, .string ga3, .int .i64 (sz3 : Int)] 30)) w.heap.size 26 #[.string nm1, .int .i64 (a1 : Int), .int .i64 (b1 : Int), .int .i64 (c1 : Int), .slice A1 n1 cp1] ∧ Bk (w8_3.alloc (.cells #[.string nm3, .string qu3, .int .i64 (pr3 : Int), .int .i64 (a3 : Int), .int .i64 (b3 : Int), .int .i64 (c3 : Int), .slice A8_3 m8_3 p8_3, .string ap3, .string ga3, .int .i64 (sz3 : Int)] 30)) (w.heap.size + 1) 28 #[.string nm2, .int .i64 (a2 : Int), .int .i64 (b2 : Int), .int .i64 (c2 : Int)] ∧ Bk (w8_3.alloc (.cells #[.string nm3, .string qu3, .int .i64 (pr3 : Int), .int .i64 (a3 : Int), .int .i64 (b3 : Int), .int .i64 (c3 : Int), .slice A8_3 m8_3 p8_3, .string ap3, .string ga3, .int .i64 (sz3 : Int)] 30)) (w.heap.size + 2) 30 #[.string nm3, .string qu3, .int .i64 (pr3 : Int), .int .i64 (a3 : Int), .int .i64 (b3 : Int), .int .i64 (c3 : Int), .slice A3 n3 cp3, .string ap3, .string ga3, .int .i64 (sz3 : Int)] ∧ Rd (w8_3.alloc (.cells #[.string nm3, .string qu3, .int .i64 (pr3 : Int), .int .i64 (a3 : Int), .int .i64 (b3 : Int), .int .i64 (c3 : Int), .slice A8_3 m8_3 p8_3, .string ap3, .string ga3, .int .i64 (sz3 : Int)] 30)) (some ⟨gg1, 0, none⟩) (bs ++ L1) ∧ Rd (w8_3.alloc (.cells #[.string nm3, .string qu3, .int .i64 (pr3 : Int), .int .i64 (a3 : Int), .int .i64 (b3 : Int), .int .i64 (c3 : Int), .slice A8_3 m8_3 p8_3, .string ap3, .string ga3, .int .i64 (sz3 : Int)] 30)) (some ⟨gg2, 0, none⟩) (bs ++ L2) ∧ Rd (w8_3.alloc (.cells #[.string nm3, .string qu3, .int .i64 (pr3 : Int), .int .i64 (a3 : Int), .int .i64 (b3 : Int), .int .i64 (c3 : Int), .slice A8_3 m8_3 p8_3, .string ap3, .string ga3, .int .i64 (sz3 : Int)] 30)) (some ⟨gg3, 0, none⟩) (bs ++ L3) ∧ Bk (w8_3.alloc (.cells #[.string nm3, .string qu3, .int .i64 (pr3 : Int), .int .i64 (a3 : Int), .int .i64 (b3 : Int), .int .i64 (c3 : Int), .slice A8_3 m8_3 p8_3, .string ap3, .string ga3, .int .i64 (sz3 : Int)] 30)) w8_3.heap.size 30 #[.string nm3, .string qu3, .int .i64 (pr3 : Int), .int .i64 (a3 : Int), .int .i64 (b3 : Int), .int .i64 (c3 : Int), .slice A8_3 m8_3 p8_3, .string ap3, .string ga3, .int .i64 (sz3 : Int)] ∧ RdL (w8_3.alloc (.cells #[.string nm3, .string qu3, .int .i64 (pr3 : Int), .int .i64 (a3 : Int), .int .i64 (b3 : Int), .int .i64 (c3 : Int), .slice A8_3 m8_3 p8_3, .string ap3, .string ga3, .int .i64 (sz3 : Int)] 30)) A8_3 l3) := ⟨Tc3.out.1.alloc Tc3.out.1.size _, Tc3.out.2.1.later ((Below.refl _ _).alloc (Nat.le_refl _) _), Tc3.out.2.2.1.later ((Below.refl _ _).alloc (Nat.le_refl _) _), Tc3.out.2.2.2.1.later ((Below.refl _ _).alloc (Nat.le_refl _) _), Tc3.out.2.2.2.2.1.below ((Below.refl _ _).alloc (Nat.le_refl _) _), Tc3.out.2.2.2.2.2.1.below ((Below.refl _ _).alloc (Nat.le_refl _) _), Tc3.out.2.2.2.2.2.2.below ((Below.refl _ _).alloc (Nat.le_refl _) _), Bk.fresh _ _ _, R8.out.later ((Below.refl _ _).alloc (Nat.le_refl _) _)⟩
            clear Tc3 R8
            go_wp2_with fail
            refine (Q2.out _ C3 _ (Td3.out.2.2.2.2.2.2.1.take _) (by omega) (by omega)).mono ?_
            rintro e w10_3 ⟨v10, rfl, ho10, hb10⟩
            obtain ⟨A10_3, p10_3, sl10⟩ := ho10.sl
            have hv10 := sl10.val
            obtain ⟨m10_3, hm10⟩ : ∃ m, m = xl_3.length := ⟨_, rfl⟩
            rw [← hm10] at hv10; subst hv10
            clear sl10 ho10 hm10
            have Te3 : Hid (Below w.heap.size w w10_3 ∧ Bk w10_3 w.heap.size 26 #[.string nm1, .int .i64 (a1 : Int), .int .i64 (b1 : Int), .int .i64 (c1 : Int), .slice A1 n1 cp1] ∧ Bk w10_3 (w.heap.size + 1) 28 #[.string nm2, .int .i64 (a2 : Int), .int .i64 (b2 : Int), .int .i64 (c2 : Int)] ∧ Bk w10_3 (w.heap.size + 2) 30 #[.string nm3, .string qu3, .int .i64 (pr3 : Int), .int .i64 (a3 : Int), .int .i64 (b3 : Int), .int .i64 (c3 : Int), .slice A3 n3 cp3, .string ap3, .string ga3, .int .i64 (sz3 : Int)] ∧ Rd w10_3 (some ⟨gg1, 0, none⟩) (bs ++ L1) ∧ Rd w10_3 (some ⟨gg2, 0, none⟩) (bs ++ L2) ∧ Rd w10_3 (some ⟨gg3, 0, none⟩) (bs ++ L3) ∧ Bk w10_3 w8_3.heap.size 30 #[.string nm3, .string qu3, .int .i64 (pr3 : Int), .int .i64 (a3 : Int), .int .i64 (b3 : Int), .int .i64 (c3 : Int), .slice A8_3 m8_3 p8_3, .string ap3, .string ga3, .int .i64 (sz3 : Int)] ∧ RdL w10_3 A8_3 l3) := ⟨Td3.out.1.trans ((hb10).mono Td3.out.1.size), Td3.out.2.1.later (hb10), Td3.out.2.2.1.later (hb10), Td3.out.2.2.2.1.later (hb10), Td3.out.2.2.2.2.1.below (hb10), Td3.out.2.2.2.2.2.1.below (hb10), Td3.out.2.2.2.2.2.2.1.below (hb10), Td3.out.2.2.2.2.2.2.2.1.later (hb10), Td3.out.2.2.2.2.2.2.2.2.later (hb10)⟩
            clear hb10 Td3
            clear hk d1 d2 d3 hj hjK hNa hNb hK0 hKb HNK Q1 Q2
            have Tf3 : Hid (Below w.heap.size w (w10_3.alloc (.cells #[.string xn_3, .string xq_3, .int .i64 (xp_3 : Int), .int .i64 (xa_3 : Int), .int .i64 (xb_3 : Int), .int .i64 (xc_3 : Int), .slice A10_3 m10_3 p10_3, .string xap_3, .string xg_3, .int .i64 (xz_3 : Int)] 30)) ∧ Bk (w10_3.alloc (.cells #[.string xn_3, .string xq_3, .int .i64 (xp_3 : Int), .int .i64 (xa_3 : Int), .int .i64 (xb_3 : Int), .int .i64 (xc_3 : Int), .slice A10_3 m10_3 p10_3, .string xap_3, .string xg_3, .int .i64 (xz_3 : Int)] 30)) w.heap.size 26 #[.string nm1, .int .i64 (a1 : Int), .int .i64 (b1 : Int), .int .i64 (c1 : Int), .slice A1 n1 cp1] ∧ Bk (w10_3.alloc (.cells #[.string xn_3, .string xq_3, .int .i64 (xp_3 : Int), .int .i64 (xa_3 : Int), .int .i64 (xb_3 : Int), .int .i64 (xc_3 : Int), .slice A10_3 m10_3 p10_3, .string xap_3, .string xg_3, .int .i64 (xz_3 : Int)] 30)) (w.heap.size + 1) 28 #[.string nm2, .int .i64 (a2 : Int), .int .i64 (b2 : Int), .int .i64 (c2 : Int)] ∧ Bk (w10_3.alloc (.cells #[.string xn_3, .string xq_3, .int .i64 (xp_3 : Int), .int .i64 (xa_3 : Int), .int .i64 (xb_3 : Int), .int .i64 (xc_3 : Int), .slice A10_3 m10_3 p10_3, .string xap_3, .string xg_3, .int .i64 (xz_3 : Int)] 30)) (w.heap.size + 2) 30 #[.string nm3, .string qu3, .int .i64 (pr3 : Int), .int .i64 (a3 : Int), .int .i64 (b3 : Int), .int .i64 (c3 : Int), .slice A3 n3 cp3, .string ap3, .string ga3, .int .i64 (sz3 : Int)] ∧ Rd (w10_3.alloc (.cells #[.string xn_3, .string xq_3, .int .i64 (xp_3 : Int), .int .i64 (xa_3 : Int), .int .i64 (xb_3 : Int), .int .i64 (xc_3 : Int), .slice A10_3 m10_3 p10_3, .string xap_3, .string xg_3, .int .i64 (xz_3 : Int)] 30)) (some ⟨gg1, 0, none⟩) (bs ++ L1) ∧ Rd (w10_3.alloc (.cells #[.string xn_3, .string xq_3, .int .i64 (xp_3 : Int), .int .i64 (xa_3 : Int), .int .i64 (xb_3 : Int), .int .i64 (xc_3 : Int), .slice A10_3 m10_3 p10_3, .string xap_3, .string xg_3, .int .i64 (xz_3 : Int)] 30)) (some ⟨gg2, 0, none⟩) (bs ++ L2) ∧ Rd (w10_3.alloc (.cells #[.string xn_3, .string xq_3, .int .i64 (xp_3 : Int), .int .i64 (xa_3 : Int), .int .i64 (xb_3 : Int), .int .i64 (xc_3 : Int), .slice A10_3 m10_3 p10_3, .string xap_3, .string xg_3, .int .i64 (xz_3 : Int)] 30)) (some ⟨gg3, 0, none⟩) (bs ++ L3) ∧ Bk (w10_3.alloc (.cells #[.string xn_3, .string xq_3, .int .i64 (xp_3 : Int), .int .i64 (xa_3 : Int), .int .i64 (xb_3 : Int), .int .i64 (xc_3 : Int), .slice A10_3 m10_3 p10_3, .string xap_3, .string xg_3, .int .i64 (xz_3 : Int)] 30)) w8_3.heap.size 30 #[.string nm3, .string qu3, .int .i64 (pr3 : Int), .int .i64 (a3 : Int), .int .i64 (b3 : Int), .int .i64 (c3 : Int), .slice A8_3 m8_3 p8_3, .string ap3, .string ga3, .int .i64 (sz3 : Int)] ∧ RdL (w10_3.alloc (.cells #[.string xn_3, .string xq_3, .int .i64 (xp_3 : Int), .int .i64 (xa_3 : Int), .int .i64 (xb_3 : Int), .int .i64 (xc_3 : Int), .slice A10_3 m10_3 p10_3, .string xap_3, .string xg_3, .int .i64 (xz_3 : Int)] 30)) A8_3 l3) := ⟨Te3.out.1.alloc Te3.out.1.size _, Te3.out.2.1.later ((Below.refl _ _).alloc (Nat.le_refl _) _), Te3.out.2.2.1.later ((Below.refl _ _).alloc (Nat.le_refl _) _), Te3.out.2.2.2.1.later ((Below.refl _ _).alloc (Nat.le_refl _) _), Te3.out.2.2.2.2.1.below ((Below.refl _ _).alloc (Nat.le_refl _) _), Te3.out.2.2.2.2.2.1.below ((Below.refl _ _).alloc (Nat.le_refl _) _), Te3.out.2.2.2.2.2.2.1.below ((Below.refl _ _).alloc (Nat.le_refl _) _), Te3.out.2.2.2.2.2.2.2.1.later ((Below.refl _ _).alloc (Nat.le_refl _) _), Te3.out.2.2.2.2.2.2.2.2.later ((Below.refl _ _).alloc (Nat.le_refl _) _)⟩
            clear Te3
            have f2_0 : (w10_3.alloc (.cells #[.string xn_3, .string xq_3, .int .i64 (xp_3 : Int), .int .i64 (xa_3 : Int), .int .i64 (xb_3 : Int), .int .i64 (xc_3 : Int), .slice A10_3 m10_3 p10_3, .string xap_3, .string xg_3, .int .i64 (xz_3 : Int)] 30)).cell? ⟨(w.heap.size + 2), 0, none⟩ = some (.string nm3) := Tf3.out.2.2.2.1.cellAt 0
            have f2_1 : (w10_3.alloc (.cells #[.string xn_3, .string xq_3, .int .i64 (xp_3 : Int), .int .i64 (xa_3 : Int), .int .i64 (xb_3 : Int), .int .i64 (xc_3 : Int), .slice A10_3 m10_3 p10_3, .string xap_3, .string xg_3, .int .i64 (xz_3 : Int)] 30)).cell? ⟨(w.heap.size + 2), 1, none⟩ = some (.string qu3) := Tf3.out.2.2.2.1.cellAt 1
            have f2_2 : (w10_3.alloc (.cells #[.string xn_3, .string xq_3, .int .i64 (xp_3 : Int), .int .i64 (xa_3 : Int), .int .i64 (xb_3 : Int), .int .i64 (xc_3 : Int), .slice A10_3 m10_3 p10_3, .string xap_3, .string xg_3, .int .i64 (xz_3 : Int)] 30)).cell? ⟨(w.heap.size + 2), 2, none⟩ = some (.int .i64 (pr3 : Int)) := Tf3.out.2.2.2.1.cellAt 2
            have f2_3 : (w10_3.alloc (.cells #[.string xn_3, .string xq_3, .int .i64 (xp_3 : Int), .int .i64 (xa_3 : Int), .int .i64 (xb_3 : Int), .int .i64 (xc_3 : Int), .slice A10_3 m10_3 p10_3, .string xap_3, .string xg_3, .int .i64 (xz_3 : Int)] 30)).cell? ⟨(w.heap.size + 2), 3, none⟩ = some (.int .i64 (a3 : Int)) := Tf3.out.2.2.2.1.cellAt 3
            have f2_4 : (w10_3.alloc (.cells #[.string xn_3, .string xq_3, .int .i64 (xp_3 : Int), .int .i64 (xa_3 : Int), .int .i64 (xb_3 : Int), .int .i64 (xc_3 : Int), .slice A10_3 m10_3 p10_3, .string xap_3, .string xg_3, .int .i64 (xz_3 : Int)] 30)).cell? ⟨(w.heap.size + 2), 4, none⟩ = some (.int .i64 (b3 : Int)) := Tf3.out.2.2.2.1.cellAt 4
            have f2_5 : (w10_3.alloc (.cells #[.string xn_3, .string xq_3, .int .i64 (xp_3 : Int), .int .i64 (xa_3 : Int), .int .i64 (xb_3 : Int), .int .i64 (xc_3 : Int), .slice A10_3 m10_3 p10_3, .string xap_3, .string xg_3, .int .i64 (xz_3 : Int)] 30)).cell? ⟨(w.heap.size + 2), 5, none⟩ = some (.int .i64 (c3 : Int)) := Tf3.out.2.2.2.1.cellAt 5
            have f2_6 : (w10_3.alloc (.cells #[.string xn_3, .string xq_3, .int .i64 (xp_3 : Int), .int .i64 (xa_3 : Int), .int .i64 (xb_3 : Int), .int .i64 (xc_3 : Int), .slice A10_3 m10_3 p10_3, .string xap_3, .string xg_3, .int .i64 (xz_3 : Int)] 30)).cell? ⟨(w.heap.size + 2), 6, none⟩ = some (.slice A3 n3 cp3) := Tf3.out.2.2.2.1.cellAt 6
            have f2_7 : (w10_3.alloc (.cells #[.string xn_3, .string xq_3, .int .i64 (xp_3 : Int), .int .i64 (xa_3 : Int), .int .i64 (xb_3 : Int), .int .i64 (xc_3 : Int), .slice A10_3 m10_3 p10_3, .string xap_3, .string xg_3, .int .i64 (xz_3 : Int)] 30)).cell? ⟨(w.heap.size + 2), 7, none⟩ = some (.string ap3) := Tf3.out.2.2.2.1.cellAt 7
            have f2_8 : (w10_3.alloc (.cells #[.string xn_3, .string xq_3, .int .i64 (xp_3 : Int), .int .i64 (xa_3 : Int), .int .i64 (xb_3 : Int), .int .i64 (xc_3 : Int), .slice A10_3 m10_3 p10_3, .string xap_3, .string xg_3, .int .i64 (xz_3 : Int)] 30)).cell? ⟨(w.heap.size + 2), 8, none⟩ = some (.string ga3) := Tf3.out.2.2.2.1.cellAt 8
            have f2_9 : (w10_3.alloc (.cells #[.string xn_3, .string xq_3, .int .i64 (xp_3 : Int), .int .i64 (xa_3 : Int), .int .i64 (xb_3 : Int), .int .i64 (xc_3 : Int), .slice A10_3 m10_3 p10_3, .string xap_3, .string xg_3, .int .i64 (xz_3 : Int)] 30)).cell? ⟨(w.heap.size + 2), 9, none⟩ = some (.int .i64 (sz3 : Int)) := Tf3.out.2.2.2.1.cellAt 9
            have f6_0 : (w10_3.alloc (.cells #[.string xn_3, .string xq_3, .int .i64 (xp_3 : Int), .int .i64 (xa_3 : Int), .int .i64 (xb_3 : Int), .int .i64 (xc_3 : Int), .slice A10_3 m10_3 p10_3, .string xap_3, .string xg_3, .int .i64 (xz_3 : Int)] 30)).cell? ⟨w8_3.heap.size, 0, none⟩ = some (.string nm3) := Tf3.out.2.2.2.2.2.2.2.1.cellAt 0
            have f6_1 : (w10_3.alloc (.cells #[.string xn_3, .string xq_3, .int .i64 (xp_3 : Int), .int .i64 (xa_3 : Int), .int .i64 (xb_3 : Int), .int .i64 (xc_3 : Int), .slice A10_3 m10_3 p10_3, .string xap_3, .string xg_3, .int .i64 (xz_3 : Int)] 30)).cell? ⟨w8_3.heap.size, 1, none⟩ = some (.string qu3) := Tf3.out.2.2.2.2.2.2.2.1.cellAt 1
            have f6_2 : (w10_3.alloc (.cells #[.string xn_3, .string xq_3, .int .i64 (xp_3 : Int), .int .i64 (xa_3 : Int), .int .i64 (xb_3 : Int), .int .i64 (xc_3 : Int), .slice A10_3 m10_3 p10_3, .string xap_3, .string xg_3, .int .i64 (xz_3 : Int)] 30)).cell? ⟨w8_3.heap.size, 2, none⟩ = some (.int .i64 (pr3 : Int)) := Tf3.out.2.2.2.2.2.2.2.1.cellAt 2
            have f6_3 : (w10_3.alloc (.cells #[.string xn_3, .string xq_3, .int .i64 (xp_3 : Int), .int .i64 (xa_3 : Int), .int .i64 (xb_3 : Int), .int .i64 (xc_3 : Int), .slice A10_3 m10_3 p10_3, .string xap_3, .string xg_3, .int .i64 (xz_3 : Int)] 30)).cell? ⟨w8_3.heap.size, 3, none⟩ = some (.int .i64 (a3 : Int)) := Tf3.out.2.2.2.2.2.2.2.1.cellAt 3
            have f6_4 : (w10_3.alloc (.cells #[.string xn_3, .string xq_3, .int .i64 (xp_3 : Int), .int .i64 (xa_3 : Int), .int .i64 (xb_3 : Int), .int .i64 (xc_3 : Int), .slice A10_3 m10_3 p10_3, .string xap_3, .string xg_3, .int .i64 (xz_3 : Int)] 30)).cell? ⟨w8_3.heap.size, 4, none⟩ = some (.int .i64 (b3 : Int)) := Tf3.out.2.2.2.2.2.2.2.1.cellAt 4
            have f6_5 : (w10_3.alloc (.cells #[.string xn_3, .string xq_3, .int .i64 (xp_3 : Int), .int .i64 (xa_3 : Int), .int .i64 (xb_3 : Int), .int .i64 (xc_3 : Int), .slice A10_3 m10_3 p10_3, .string xap_3, .string xg_3, .int .i64 (xz_3 : Int)] 30)).cell? ⟨w8_3.heap.size, 5, none⟩ = some (.int .i64 (c3 : Int)) := Tf3.out.2.2.2.2.2.2.2.1.cellAt 5
            have f6_6 : (w10_3.alloc (.cells #[.string xn_3, .string xq_3, .int .i64 (xp_3 : Int), .int .i64 (xa_3 : Int), .int .i64 (xb_3 : Int), .int .i64 (xc_3 : Int), .slice A10_3 m10_3 p10_3, .string xap_3, .string xg_3, .int .i64 (xz_3 : Int)] 30)).cell? ⟨w8_3.heap.size, 6, none⟩ = some (.slice A8_3 m8_3 p8_3) := Tf3.out.2.2.2.2.2.2.2.1.cellAt 6
            have f6_7 : (w10_3.alloc (.cells #[.string xn_3, .string xq_3, .int .i64 (xp_3 : Int), .int .i64 (xa_3 : Int), .int .i64 (xb_3 : Int), .int .i64 (xc_3 : Int), .slice A10_3 m10_3 p10_3, .string xap_3, .string xg_3, .int .i64 (xz_3 : Int)] 30)).cell? ⟨w8_3.heap.size, 7, none⟩ = some (.string ap3) := Tf3.out.2.2.2.2.2.2.2.1.cellAt 7
            have f6_8 : (w10_3.alloc (.cells #[.string xn_3, .string xq_3, .int .i64 (xp_3 : Int), .int .i64 (xa_3 : Int), .int .i64 (xb_3 : Int), .int .i64 (xc_3 : Int), .slice A10_3 m10_3 p10_3, .string xap_3, .string xg_3, .int .i64 (xz_3 : Int)] 30)).cell? ⟨w8_3.heap.size, 8, none⟩ = some (.string ga3) := Tf3.out.2.2.2.2.2.2.2.1.cellAt 8
            have f6_9 : (w10_3.alloc (.cells #[.string xn_3, .string xq_3, .int .i64 (xp_3 : Int), .int .i64 (xa_3 : Int), .int .i64 (xb_3 : Int), .int .i64 (xc_3 : Int), .slice A10_3 m10_3 p10_3, .string xap_3, .string xg_3, .int .i64 (xz_3 : Int)] 30)).cell? ⟨w8_3.heap.size, 9, none⟩ = some (.int .i64 (sz3 : Int)) := Tf3.out.2.2.2.2.2.2.2.1.cellAt 9
            go_wp2_with fail
            refine (sameTask_yes nm3 qu3 (pr3 : Int) (a3 : Int) (b3 : Int) (c3 : Int) A8_3 m8_3 p8_3 A3 n3 cp3 l3 ap3 ga3 (sz3 : Int) _ HM8_3 HN3 (Lib.hid Tf3.out.2.2.2.2.2.2.2.2) (Lib.hid (HR3.out.later Tf3.out.1)) ca8_3 cb8_3 hc3 hm3).mono ?_
            rintro e w12_3 ⟨rfl, hb12⟩
            have Tg3 : Hid (Below w.heap.size w w12_3 ∧ Bk w12_3 w.heap.size 26 #[.string nm1, .int .i64 (a1 : Int), .int .i64 (b1 : Int), .int .i64 (c1 : Int), .slice A1 n1 cp1] ∧ Bk w12_3 (w.heap.size + 1) 28 #[.string nm2, .int .i64 (a2 : Int), .int .i64 (b2 : Int), .int .i64 (c2 : Int)] ∧ Bk w12_3 (w.heap.size + 2) 30 #[.string nm3, .string qu3, .int .i64 (pr3 : Int), .int .i64 (a3 : Int), .int .i64 (b3 : Int), .int .i64 (c3 : Int), .slice A3 n3 cp3, .string ap3, .string ga3, .int .i64 (sz3 : Int)] ∧ Rd w12_3 (some ⟨gg1, 0, none⟩) (bs ++ L1) ∧ Rd w12_3 (some ⟨gg2, 0, none⟩) (bs ++ L2) ∧ Rd w12_3 (some ⟨gg3, 0, none⟩) (bs ++ L3)) := ⟨Tf3.out.1.trans ((hb12).mono Tf3.out.1.size), Tf3.out.2.1.later (hb12), Tf3.out.2.2.1.later (hb12), Tf3.out.2.2.2.1.later (hb12), Tf3.out.2.2.2.2.1.below (hb12), Tf3.out.2.2.2.2.2.1.below (hb12), Tf3.out.2.2.2.2.2.2.1.below (hb12)⟩
            clear hb12 Tf3 f2_0 f2_1 f2_2 f2_3 f2_4 f2_5 f2_6 f2_7 f2_8 f2_9 f6_0 f6_1 f6_2 f6_3 f6_4 f6_5 f6_6 f6_7 f6_8 f6_9
            go_wp2
            go_ret
            exact ⟨rfl, Tg3.out.1⟩
end Go.Proofs.Ytgedofggkfmlnaa.modelBack
