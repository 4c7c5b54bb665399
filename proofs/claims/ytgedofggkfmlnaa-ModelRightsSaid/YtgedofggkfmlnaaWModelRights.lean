/- The walk of ModelRights: any node, queue and task can be, or not, and has the bytes that the document says, or none. Conditions: texts and slices that Go can have. -/
import Derived.Test.YtgedofggkfmlnaaLwf
import Derived.Test.YtgedofggkfmlnaaRen
import Derived.Deep.RegionHeld3
import Derived.Deep.DrawnRows
namespace Go.Proofs.Ytgedofggkfmlnaa.modelRights
open Go.RowKit
set_option linter.unusedSimpArgs false
set_option linter.unusedVariables false

theorem add_S (s : ByteArray) (l : List UInt8) : s ++ S l = S (s.data.toList ++ l) := by
  apply ByteArray.ext
  apply Array.ext'
  simp [S]
theorem nodeBytes_le (nm : ByteArray) (a b c : Int) (l : List Lb) : (nodeBytes nm a b c l).length ≤ 1000 := by
  unfold nodeBytes
  split
  · rename_i h
    unfold nodeB at h
    simp only [Bool.and_eq_true] at h
    have h1 := encT_le (nameB_le h.1.1).2
    have h2 := rB_bd h.1.2
    have h3 := labelsB_le h.2
    have h4 := vecEnc_le (a := a.toNat) (b := b.toNat) (c := c.toNat) (by omega) (by omega) (by omega)
    have h5 := labEnc_le h3.1 h3.2
    rw [nodeEnc, List.length_append, List.length_append]; omega
  · simp
theorem queueBytes_le (nm : ByteArray) (a b c : Int) : (queueBytes nm a b c).length ≤ 1000 := by
  unfold queueBytes
  split
  · rename_i h
    unfold queueB at h
    simp only [Bool.and_eq_true] at h
    have h1 := encT_le (nameB_le h.1).2
    have h2 := rB_bd h.2
    have h4 := vecEnc_le (a := a.toNat) (b := b.toNat) (c := c.toNat) (by omega) (by omega) (by omega)
    rw [queueEnc, List.length_append]; omega
  · simp
theorem taskBytes_le (nm qu : ByteArray) (pr a b c : Int) (l : List Lb) (ap ga : ByteArray) (sz : Int) : (taskBytes nm qu pr a b c l ap ga sz).length ≤ 1000 := by
  unfold taskBytes
  split
  · rename_i h
    unfold taskB at h
    simp only [Bool.and_eq_true, decide_eq_true_eq] at h
    obtain ⟨⟨⟨⟨⟨⟨⟨v1, v2⟩, v3⟩, v4⟩, v5⟩, v6⟩, v7⟩, v8⟩ := h
    have h1 := encT_le (nameB_le v1).2
    have h2 := encT_le (nameB_le v2).2
    have h3 := rB_bd v5
    have h4 := labelsB_le v6
    have h5 := vecEnc_le (a := a.toNat) (b := b.toNat) (c := c.toNat) (by omega) (by omega) (by omega)
    have h6 := labEnc_le h4.1 h4.2
    have h7 := encT_le (apartB_le v7)
    have h8 := gangB_le v8
    have h9 := encT_le h8.1
    have h10 := enc_le (n := pr.toNat) (by omega)
    have h11 := enc_le (n := sz.toNat) (by omega)
    simp only [taskEnc, List.length_append]; omega
  · simp
theorem neq_self (v : Bool) : (v != v) = false := by cases v <;> rfl

attribute [local go_sem ↓] Go.wp_at_zero Go.wp_at_succ
set_option maxHeartbeats 8000000 in
set_option maxRecDepth 100000 in
theorem walk (s : ByteArray) (nm1 : ByteArray) (a1 b1 c1 : Int) (A1 : Option Addr) (n1 cp1 : Nat) (l1 : List Lb) (nm2 : ByteArray) (a2 b2 c2 : Int) (nm3 qu3 : ByteArray) (pr3 a3 b3 c3 : Int) (A3 : Option Addr) (n3 cp3 : Nat) (l3 : List Lb) (ap3 ga3 : ByteArray) (sz3 : Int) (w : World)
    (zs : s.size ≤ 140737488351232) (zn1 : nm1.size ≤ 140737488351232) (hn1 : n1 = l1.length) (hr1 : RdL w A1 l1) (hc1 : n1 ≤ cp1) (hm1 : cp1 ≤ 9223372036854775807) (hz1 : Sz l1) (zn2 : nm2.size ≤ 140737488351232)
    (zn3 : nm3.size ≤ 140737488351232) (zq3 : qu3.size ≤ 140737488351232) (za3 : ap3.size ≤ 140737488351232) (zg3 : ga3.size ≤ 140737488351232) (hn3 : n3 = l3.length) (hr3 : RdL w A3 l3) (hc3 : n3 ≤ cp3) (hm3 : cp3 ≤ 9223372036854775807) (hz3 : Sz l3) :
    Calls Try.prog 3 #[.string s, .agg #[.string nm1, .int .i64 a1, .int .i64 b1, .int .i64 c1, .slice A1 n1 cp1], .agg #[.string nm2, .int .i64 a2, .int .i64 b2, .int .i64 c2], .agg #[.string nm3, .string qu3, .int .i64 pr3, .int .i64 a3, .int .i64 b3, .int .i64 c3, .slice A3 n3 cp3, .string ap3, .string ga3, .int .i64 sz3]] w fun e w' => e = .returned (.bool true) ∧ Below w.heap.size w w' := by
  have HN1 := Lib.hid hn1
  have HR1 := Lib.hid hr1
  have HZ1 := Lib.hid hz1
  have HN3 := Lib.hid hn3
  have HR3 := Lib.hid hr3
  have HZ3 := Lib.hid hz3
  clear hn1 hr1 hz1 hn3 hr3 hz3
  have hsl : Hid (s.size = s.data.toList.length) := (str_len s).symm
  have kf := fun W (h1 : RdL W A1 l1) (h3 : RdL W A3 l3) => few_law nm1 a1 b1 c1 A1 n1 cp1 l1 nm2 a2 b2 c2 nm3 qu3 pr3 a3 b3 c3 A3 n3 cp3 l3 ap3 ga3 sz3 W zn1 zn2 zn3 zq3 za3 zg3 HN1 (Lib.hid h1) HZ1 hc1 hm1 HN3 (Lib.hid h3) HZ3 hc3 hm3
  have kn := fun W (h : RdL W A1 l1) => node_any nm1 a1 b1 c1 A1 n1 cp1 l1 W (by omega) HN1 (Lib.hid h) HZ1 hc1 hm1
  have rn := fun W (h : RdL W A1 l1) => rnode_any nm1 a1 b1 c1 A1 n1 cp1 l1 W (by omega) HN1 (Lib.hid h) HZ1 hc1 hm1
  have kq := fun W => queue_any nm2 a2 b2 c2 W (by omega)
  have rq := fun W => rqueue_any nm2 a2 b2 c2 W (by omega)
  have kt := fun W (h : RdL W A3 l3) => task_any nm3 qu3 pr3 a3 b3 c3 A3 n3 cp3 l3 ap3 ga3 sz3 W (by omega) (by omega) HN3 (Lib.hid h) HZ3 hc3 hm3 (by omega) (by omega)
  have rt := fun W (h : RdL W A3 l3) => rtask_any nm3 qu3 pr3 a3 b3 c3 A3 n3 cp3 l3 ap3 ga3 sz3 W (by omega) (by omega) HN3 (Lib.hid h) HZ3 hc3 hm3 (by omega) (by omega)
  have y1 := nodeBytes_le nm1 a1 b1 c1 l1
  have y2 := queueBytes_le nm2 a2 b2 c2
  have y3 := taskBytes_le nm3 qu3 pr3 a3 b3 c3 l3 ap3 ga3 sz3
  obtain ⟨N1, hN1⟩ : ∃ N, N = (s.data.toList ++ nodeBytes nm1 a1 b1 c1 l1).length := ⟨_, rfl⟩
  obtain ⟨N2, hN2⟩ : ∃ N, N = (s.data.toList ++ queueBytes nm2 a2 b2 c2).length := ⟨_, rfl⟩
  obtain ⟨N3, hN3⟩ : ∃ N, N = (s.data.toList ++ taskBytes nm3 qu3 pr3 a3 b3 c3 l3 ap3 ga3 sz3).length := ⟨_, rfl⟩
  have pn := fun A c W (hr : Rd W A s.data.toList) (h : RdL W A1 l1) => putNode_any A c s.size s.data.toList nm1 a1 b1 c1 A1 n1 cp1 l1 N1 W hsl (Lib.hid hr) (by omega) (by omega) HN1 (Lib.hid h) HZ1 hc1 hm1 (Lib.hid hN1)
  have bn := fun W (h : RdL W A1 l1) => rnodeBytes_any nm1 a1 b1 c1 A1 n1 cp1 l1 W (by omega) HN1 (Lib.hid h) HZ1 hc1 hm1
  have pq := fun A c W (hr : Rd W A s.data.toList) => putQueue_any A c s.size s.data.toList nm2 a2 b2 c2 N2 W hsl (Lib.hid hr) (by omega) (by omega) (Lib.hid hN2)
  have bq := fun W => rqueueBytes_any nm2 a2 b2 c2 W (by omega)
  have pt := fun A c W (hr : Rd W A s.data.toList) (h : RdL W A3 l3) => putTask_any A c s.size s.data.toList nm3 qu3 pr3 a3 b3 c3 A3 n3 cp3 l3 ap3 ga3 sz3 N3 W hsl (Lib.hid hr) (by omega) (by omega) (by omega) HN3 (Lib.hid h) HZ3 hc3 hm3 (by omega) (by omega) (Lib.hid hN3)
  have bt := fun W (h : RdL W A3 l3) => rtaskBytes_any nm3 qu3 pr3 a3 b3 c3 A3 n3 cp3 l3 ap3 ga3 sz3 W (by omega) (by omega) HN3 (Lib.hid h) HZ3 hc3 hm3 (by omega) (by omega)
  have z1 : (S (nodeBytes nm1 a1 b1 c1 l1)).size ≤ 1000 := by rw [S_size]; exact y1
  have z2 : (S (queueBytes nm2 a2 b2 c2)).size ≤ 1000 := by rw [S_size]; exact y2
  have z3 : (S (taskBytes nm3 qu3 pr3 a3 b3 c3 l3 ap3 ga3 sz3)).size ≤ 1000 := by rw [S_size]; exact y3
  have d1 := add_S s (nodeBytes nm1 a1 b1 c1 l1)
  have d2 := add_S s (queueBytes nm2 a2 b2 c2)
  have d3 := add_S s (taskBytes nm3 qu3 pr3 a3 b3 c3 l3 ap3 ga3 sz3)
  clear y1 y2 y3
  generalize nodeB nm1 a1 b1 c1 l1 = v1 at kn rn
  generalize queueB nm2 a2 b2 c2 = v2 at kq rq
  generalize taskB nm3 qu3 pr3 a3 b3 c3 l3 ap3 ga3 sz3 = v3 at kt rt
  generalize fewP l1 l3 _ = f at kf
  generalize nodeBytes nm1 a1 b1 c1 l1 = L1 at pn bn z1 d1 hN1
  generalize queueBytes nm2 a2 b2 c2 = L2 at pq bq z2 d2 hN2
  generalize taskBytes nm3 qu3 pr3 a3 b3 c3 l3 ap3 ga3 sz3 = L3 at pt bt z3 d3 hN3
  obtain ⟨S1, hS1⟩ : ∃ X, X = S (s.data.toList ++ L1) := ⟨_, rfl⟩
  obtain ⟨S2, hS2⟩ : ∃ X, X = S (s.data.toList ++ L2) := ⟨_, rfl⟩
  obtain ⟨S3, hS3⟩ : ∃ X, X = S (s.data.toList ++ L3) := ⟨_, rfl⟩
  rw [← hS1] at d1
  rw [← hS2] at d2
  rw [← hS3] at d3
  generalize S L1 = E1 at bn z1 d1
  generalize S L2 = E2 at bq z2 d2
  generalize S L3 = E3 at bt z3 d3
  have x1 : ¬ 9223372036854775807 < s.size + E1.size := by omega
  have x2 : ¬ 9223372036854775807 < s.size + E2.size := by omega
  have x3 : ¬ 9223372036854775807 < s.size + E3.size := by omega
  have HL1 := Lib.hid hN1
  have HL2 := Lib.hid hN2
  have HL3 := Lib.hid hN3
  have HS1 := Lib.hid hS1
  have HS2 := Lib.hid hS2
  have HS3 := Lib.hid hS3
  have KN := Lib.hid kn
  have RN := Lib.hid rn
  have KQ := Lib.hid kq
  have RQ := Lib.hid rq
  have KT := Lib.hid kt
  have RT := Lib.hid rt
  have PN := Lib.hid pn
  have BN := Lib.hid bn
  have PQ := Lib.hid pq
  have BQ := Lib.hid bq
  have PT := Lib.hid pt
  have BT := Lib.hid bt
  have D := Lib.hid (And.intro d1 (And.intro d2 d3))
  clear hN1 hN2 hN3 hS1 hS2 hS3 kn rn kq rq kt rt pn bn pq bq pt bt d1 d2 d3
  cases f
  case false =>
    have KF := Lib.hid kf
    clear kf
    have T0 : Hid (Below w.heap.size w (((w.alloc (.cells #[.string nm1, .int .i64 a1, .int .i64 b1, .int .i64 c1, .slice A1 n1 cp1] 26)).alloc (.cells #[.string nm2, .int .i64 a2, .int .i64 b2, .int .i64 c2] 28)).alloc (.cells #[.string nm3, .string qu3, .int .i64 pr3, .int .i64 a3, .int .i64 b3, .int .i64 c3, .slice A3 n3 cp3, .string ap3, .string ga3, .int .i64 sz3] 30)) ∧ Bk (((w.alloc (.cells #[.string nm1, .int .i64 a1, .int .i64 b1, .int .i64 c1, .slice A1 n1 cp1] 26)).alloc (.cells #[.string nm2, .int .i64 a2, .int .i64 b2, .int .i64 c2] 28)).alloc (.cells #[.string nm3, .string qu3, .int .i64 pr3, .int .i64 a3, .int .i64 b3, .int .i64 c3, .slice A3 n3 cp3, .string ap3, .string ga3, .int .i64 sz3] 30)) w.heap.size 26 #[.string nm1, .int .i64 a1, .int .i64 b1, .int .i64 c1, .slice A1 n1 cp1] ∧ Bk (((w.alloc (.cells #[.string nm1, .int .i64 a1, .int .i64 b1, .int .i64 c1, .slice A1 n1 cp1] 26)).alloc (.cells #[.string nm2, .int .i64 a2, .int .i64 b2, .int .i64 c2] 28)).alloc (.cells #[.string nm3, .string qu3, .int .i64 pr3, .int .i64 a3, .int .i64 b3, .int .i64 c3, .slice A3 n3 cp3, .string ap3, .string ga3, .int .i64 sz3] 30)) (w.heap.size + 1) 28 #[.string nm2, .int .i64 a2, .int .i64 b2, .int .i64 c2] ∧ Bk (((w.alloc (.cells #[.string nm1, .int .i64 a1, .int .i64 b1, .int .i64 c1, .slice A1 n1 cp1] 26)).alloc (.cells #[.string nm2, .int .i64 a2, .int .i64 b2, .int .i64 c2] 28)).alloc (.cells #[.string nm3, .string qu3, .int .i64 pr3, .int .i64 a3, .int .i64 b3, .int .i64 c3, .slice A3 n3 cp3, .string ap3, .string ga3, .int .i64 sz3] 30)) (w.heap.size + 2) 30 #[.string nm3, .string qu3, .int .i64 pr3, .int .i64 a3, .int .i64 b3, .int .i64 c3, .slice A3 n3 cp3, .string ap3, .string ga3, .int .i64 sz3]) := ⟨(((Below.refl _ _).alloc (Nat.le_refl _) _).alloc (by simp) _).alloc (by simp; omega) _, ((Bk.fresh _ _ _).allocs _).allocs _, (Bk.freshAt _ _ _ (by simp)).allocs _, Bk.freshAt _ _ _ (by simp)⟩
    go_enter Try.func3, Try.ntmps3
    go_wp2_with fail
    refine (awake_any _).mono ?_
    rintro e w1 ⟨rfl, hb1⟩
    have T1 : Hid (Below w.heap.size w w1 ∧ Bk w1 w.heap.size 26 #[.string nm1, .int .i64 a1, .int .i64 b1, .int .i64 c1, .slice A1 n1 cp1] ∧ Bk w1 (w.heap.size + 1) 28 #[.string nm2, .int .i64 a2, .int .i64 b2, .int .i64 c2] ∧ Bk w1 (w.heap.size + 2) 30 #[.string nm3, .string qu3, .int .i64 pr3, .int .i64 a3, .int .i64 b3, .int .i64 c3, .slice A3 n3 cp3, .string ap3, .string ga3, .int .i64 sz3]) := ⟨T0.out.1.trans (hb1.mono T0.out.1.size), T0.out.2.1.later hb1, T0.out.2.2.1.later hb1, T0.out.2.2.2.later hb1⟩
    clear hb1 T0
    have k0 : w1.cell? ⟨w.heap.size, 0, none⟩ = some (.string nm1) := T1.out.2.1.cellAt 0
    have k1 : w1.cell? ⟨w.heap.size, 1, none⟩ = some (.int .i64 a1) := T1.out.2.1.cellAt 1
    have k2 : w1.cell? ⟨w.heap.size, 2, none⟩ = some (.int .i64 b1) := T1.out.2.1.cellAt 2
    have k3 : w1.cell? ⟨w.heap.size, 3, none⟩ = some (.int .i64 c1) := T1.out.2.1.cellAt 3
    have k4 : w1.cell? ⟨w.heap.size, 4, none⟩ = some (.slice A1 n1 cp1) := T1.out.2.1.cellAt 4
    have k5 : w1.cell? ⟨(w.heap.size + 1), 0, none⟩ = some (.string nm2) := T1.out.2.2.1.cellAt 0
    have k6 : w1.cell? ⟨(w.heap.size + 1), 1, none⟩ = some (.int .i64 a2) := T1.out.2.2.1.cellAt 1
    have k7 : w1.cell? ⟨(w.heap.size + 1), 2, none⟩ = some (.int .i64 b2) := T1.out.2.2.1.cellAt 2
    have k8 : w1.cell? ⟨(w.heap.size + 1), 3, none⟩ = some (.int .i64 c2) := T1.out.2.2.1.cellAt 3
    have k9 : w1.cell? ⟨(w.heap.size + 2), 0, none⟩ = some (.string nm3) := T1.out.2.2.2.cellAt 0
    have k10 : w1.cell? ⟨(w.heap.size + 2), 1, none⟩ = some (.string qu3) := T1.out.2.2.2.cellAt 1
    have k11 : w1.cell? ⟨(w.heap.size + 2), 2, none⟩ = some (.int .i64 pr3) := T1.out.2.2.2.cellAt 2
    have k12 : w1.cell? ⟨(w.heap.size + 2), 3, none⟩ = some (.int .i64 a3) := T1.out.2.2.2.cellAt 3
    have k13 : w1.cell? ⟨(w.heap.size + 2), 4, none⟩ = some (.int .i64 b3) := T1.out.2.2.2.cellAt 4
    have k14 : w1.cell? ⟨(w.heap.size + 2), 5, none⟩ = some (.int .i64 c3) := T1.out.2.2.2.cellAt 5
    have k15 : w1.cell? ⟨(w.heap.size + 2), 6, none⟩ = some (.slice A3 n3 cp3) := T1.out.2.2.2.cellAt 6
    have k16 : w1.cell? ⟨(w.heap.size + 2), 7, none⟩ = some (.string ap3) := T1.out.2.2.2.cellAt 7
    have k17 : w1.cell? ⟨(w.heap.size + 2), 8, none⟩ = some (.string ga3) := T1.out.2.2.2.cellAt 8
    have k18 : w1.cell? ⟨(w.heap.size + 2), 9, none⟩ = some (.int .i64 sz3) := T1.out.2.2.2.cellAt 9
    have zk : w.heap.size + 2 < w1.heap.size := T1.out.2.2.2.here
    have zk0 : w.heap.size < w1.heap.size := by omega
    have zk1 : w.heap.size + 1 < w1.heap.size := by omega
    go_wp2_with fail
    refine (KF.out _ (HR1.out.later T1.out.1) (HR3.out.later T1.out.1)).mono ?_
    rintro e w2 ⟨rfl, hb2⟩
    have T2 : Hid (Below w.heap.size w w2 ∧ Bk w2 w.heap.size 26 #[.string nm1, .int .i64 a1, .int .i64 b1, .int .i64 c1, .slice A1 n1 cp1] ∧ Bk w2 (w.heap.size + 1) 28 #[.string nm2, .int .i64 a2, .int .i64 b2, .int .i64 c2] ∧ Bk w2 (w.heap.size + 2) 30 #[.string nm3, .string qu3, .int .i64 pr3, .int .i64 a3, .int .i64 b3, .int .i64 c3, .slice A3 n3 cp3, .string ap3, .string ga3, .int .i64 sz3]) := ⟨T1.out.1.trans (hb2.mono T1.out.1.size), T1.out.2.1.later hb2, T1.out.2.2.1.later hb2, T1.out.2.2.2.later hb2⟩
    clear hb2 T1 k0 k1 k2 k3 k4 k5 k6 k7 k8 k9 k10 k11 k12 k13 k14 k15 k16 k17 k18
    go_wp2_with fail
    refine (awake_any _).mono ?_
    rintro e w3 ⟨rfl, hb3⟩
    go_wp2
    go_ret
    exact ⟨rfl, T2.out.1.trans (hb3.mono T2.out.1.size)⟩
  case true =>
    have KF := Lib.hid kf
    clear kf
    have T0 : Hid (Below w.heap.size w (((w.alloc (.cells #[.string nm1, .int .i64 a1, .int .i64 b1, .int .i64 c1, .slice A1 n1 cp1] 26)).alloc (.cells #[.string nm2, .int .i64 a2, .int .i64 b2, .int .i64 c2] 28)).alloc (.cells #[.string nm3, .string qu3, .int .i64 pr3, .int .i64 a3, .int .i64 b3, .int .i64 c3, .slice A3 n3 cp3, .string ap3, .string ga3, .int .i64 sz3] 30)) ∧ Bk (((w.alloc (.cells #[.string nm1, .int .i64 a1, .int .i64 b1, .int .i64 c1, .slice A1 n1 cp1] 26)).alloc (.cells #[.string nm2, .int .i64 a2, .int .i64 b2, .int .i64 c2] 28)).alloc (.cells #[.string nm3, .string qu3, .int .i64 pr3, .int .i64 a3, .int .i64 b3, .int .i64 c3, .slice A3 n3 cp3, .string ap3, .string ga3, .int .i64 sz3] 30)) w.heap.size 26 #[.string nm1, .int .i64 a1, .int .i64 b1, .int .i64 c1, .slice A1 n1 cp1] ∧ Bk (((w.alloc (.cells #[.string nm1, .int .i64 a1, .int .i64 b1, .int .i64 c1, .slice A1 n1 cp1] 26)).alloc (.cells #[.string nm2, .int .i64 a2, .int .i64 b2, .int .i64 c2] 28)).alloc (.cells #[.string nm3, .string qu3, .int .i64 pr3, .int .i64 a3, .int .i64 b3, .int .i64 c3, .slice A3 n3 cp3, .string ap3, .string ga3, .int .i64 sz3] 30)) (w.heap.size + 1) 28 #[.string nm2, .int .i64 a2, .int .i64 b2, .int .i64 c2] ∧ Bk (((w.alloc (.cells #[.string nm1, .int .i64 a1, .int .i64 b1, .int .i64 c1, .slice A1 n1 cp1] 26)).alloc (.cells #[.string nm2, .int .i64 a2, .int .i64 b2, .int .i64 c2] 28)).alloc (.cells #[.string nm3, .string qu3, .int .i64 pr3, .int .i64 a3, .int .i64 b3, .int .i64 c3, .slice A3 n3 cp3, .string ap3, .string ga3, .int .i64 sz3] 30)) (w.heap.size + 2) 30 #[.string nm3, .string qu3, .int .i64 pr3, .int .i64 a3, .int .i64 b3, .int .i64 c3, .slice A3 n3 cp3, .string ap3, .string ga3, .int .i64 sz3]) := ⟨(((Below.refl _ _).alloc (Nat.le_refl _) _).alloc (by simp) _).alloc (by simp; omega) _, ((Bk.fresh _ _ _).allocs _).allocs _, (Bk.freshAt _ _ _ (by simp)).allocs _, Bk.freshAt _ _ _ (by simp)⟩
    go_enter Try.func3, Try.ntmps3
    go_wp2_with fail
    refine (awake_any _).mono ?_
    rintro e w1 ⟨rfl, hb1⟩
    have T1 : Hid (Below w.heap.size w w1 ∧ Bk w1 w.heap.size 26 #[.string nm1, .int .i64 a1, .int .i64 b1, .int .i64 c1, .slice A1 n1 cp1] ∧ Bk w1 (w.heap.size + 1) 28 #[.string nm2, .int .i64 a2, .int .i64 b2, .int .i64 c2] ∧ Bk w1 (w.heap.size + 2) 30 #[.string nm3, .string qu3, .int .i64 pr3, .int .i64 a3, .int .i64 b3, .int .i64 c3, .slice A3 n3 cp3, .string ap3, .string ga3, .int .i64 sz3]) := ⟨T0.out.1.trans (hb1.mono T0.out.1.size), T0.out.2.1.later hb1, T0.out.2.2.1.later hb1, T0.out.2.2.2.later hb1⟩
    clear hb1 T0
    have k0 : w1.cell? ⟨w.heap.size, 0, none⟩ = some (.string nm1) := T1.out.2.1.cellAt 0
    have k1 : w1.cell? ⟨w.heap.size, 1, none⟩ = some (.int .i64 a1) := T1.out.2.1.cellAt 1
    have k2 : w1.cell? ⟨w.heap.size, 2, none⟩ = some (.int .i64 b1) := T1.out.2.1.cellAt 2
    have k3 : w1.cell? ⟨w.heap.size, 3, none⟩ = some (.int .i64 c1) := T1.out.2.1.cellAt 3
    have k4 : w1.cell? ⟨w.heap.size, 4, none⟩ = some (.slice A1 n1 cp1) := T1.out.2.1.cellAt 4
    have k5 : w1.cell? ⟨(w.heap.size + 1), 0, none⟩ = some (.string nm2) := T1.out.2.2.1.cellAt 0
    have k6 : w1.cell? ⟨(w.heap.size + 1), 1, none⟩ = some (.int .i64 a2) := T1.out.2.2.1.cellAt 1
    have k7 : w1.cell? ⟨(w.heap.size + 1), 2, none⟩ = some (.int .i64 b2) := T1.out.2.2.1.cellAt 2
    have k8 : w1.cell? ⟨(w.heap.size + 1), 3, none⟩ = some (.int .i64 c2) := T1.out.2.2.1.cellAt 3
    have k9 : w1.cell? ⟨(w.heap.size + 2), 0, none⟩ = some (.string nm3) := T1.out.2.2.2.cellAt 0
    have k10 : w1.cell? ⟨(w.heap.size + 2), 1, none⟩ = some (.string qu3) := T1.out.2.2.2.cellAt 1
    have k11 : w1.cell? ⟨(w.heap.size + 2), 2, none⟩ = some (.int .i64 pr3) := T1.out.2.2.2.cellAt 2
    have k12 : w1.cell? ⟨(w.heap.size + 2), 3, none⟩ = some (.int .i64 a3) := T1.out.2.2.2.cellAt 3
    have k13 : w1.cell? ⟨(w.heap.size + 2), 4, none⟩ = some (.int .i64 b3) := T1.out.2.2.2.cellAt 4
    have k14 : w1.cell? ⟨(w.heap.size + 2), 5, none⟩ = some (.int .i64 c3) := T1.out.2.2.2.cellAt 5
    have k15 : w1.cell? ⟨(w.heap.size + 2), 6, none⟩ = some (.slice A3 n3 cp3) := T1.out.2.2.2.cellAt 6
    have k16 : w1.cell? ⟨(w.heap.size + 2), 7, none⟩ = some (.string ap3) := T1.out.2.2.2.cellAt 7
    have k17 : w1.cell? ⟨(w.heap.size + 2), 8, none⟩ = some (.string ga3) := T1.out.2.2.2.cellAt 8
    have k18 : w1.cell? ⟨(w.heap.size + 2), 9, none⟩ = some (.int .i64 sz3) := T1.out.2.2.2.cellAt 9
    have zk : w.heap.size + 2 < w1.heap.size := T1.out.2.2.2.here
    have zk0 : w.heap.size < w1.heap.size := by omega
    have zk1 : w.heap.size + 1 < w1.heap.size := by omega
    go_wp2_with fail
    refine (KF.out _ (HR1.out.later T1.out.1) (HR3.out.later T1.out.1)).mono ?_
    rintro e w2 ⟨rfl, hb2⟩
    have T2 : Hid (Below w.heap.size w w2 ∧ Bk w2 w.heap.size 26 #[.string nm1, .int .i64 a1, .int .i64 b1, .int .i64 c1, .slice A1 n1 cp1] ∧ Bk w2 (w.heap.size + 1) 28 #[.string nm2, .int .i64 a2, .int .i64 b2, .int .i64 c2] ∧ Bk w2 (w.heap.size + 2) 30 #[.string nm3, .string qu3, .int .i64 pr3, .int .i64 a3, .int .i64 b3, .int .i64 c3, .slice A3 n3 cp3, .string ap3, .string ga3, .int .i64 sz3]) := ⟨T1.out.1.trans (hb2.mono T1.out.1.size), T1.out.2.1.later hb2, T1.out.2.2.1.later hb2, T1.out.2.2.2.later hb2⟩
    clear hb2 T1 k0 k1 k2 k3 k4 k5 k6 k7 k8 k9 k10 k11 k12 k13 k14 k15 k16 k17 k18
    have m0 : w2.cell? ⟨w.heap.size, 0, none⟩ = some (.string nm1) := T2.out.2.1.cellAt 0
    have m1 : w2.cell? ⟨w.heap.size, 1, none⟩ = some (.int .i64 a1) := T2.out.2.1.cellAt 1
    have m2 : w2.cell? ⟨w.heap.size, 2, none⟩ = some (.int .i64 b1) := T2.out.2.1.cellAt 2
    have m3 : w2.cell? ⟨w.heap.size, 3, none⟩ = some (.int .i64 c1) := T2.out.2.1.cellAt 3
    have m4 : w2.cell? ⟨w.heap.size, 4, none⟩ = some (.slice A1 n1 cp1) := T2.out.2.1.cellAt 4
    have m5 : w2.cell? ⟨(w.heap.size + 1), 0, none⟩ = some (.string nm2) := T2.out.2.2.1.cellAt 0
    have m6 : w2.cell? ⟨(w.heap.size + 1), 1, none⟩ = some (.int .i64 a2) := T2.out.2.2.1.cellAt 1
    have m7 : w2.cell? ⟨(w.heap.size + 1), 2, none⟩ = some (.int .i64 b2) := T2.out.2.2.1.cellAt 2
    have m8 : w2.cell? ⟨(w.heap.size + 1), 3, none⟩ = some (.int .i64 c2) := T2.out.2.2.1.cellAt 3
    have m9 : w2.cell? ⟨(w.heap.size + 2), 0, none⟩ = some (.string nm3) := T2.out.2.2.2.cellAt 0
    have m10 : w2.cell? ⟨(w.heap.size + 2), 1, none⟩ = some (.string qu3) := T2.out.2.2.2.cellAt 1
    have m11 : w2.cell? ⟨(w.heap.size + 2), 2, none⟩ = some (.int .i64 pr3) := T2.out.2.2.2.cellAt 2
    have m12 : w2.cell? ⟨(w.heap.size + 2), 3, none⟩ = some (.int .i64 a3) := T2.out.2.2.2.cellAt 3
    have m13 : w2.cell? ⟨(w.heap.size + 2), 4, none⟩ = some (.int .i64 b3) := T2.out.2.2.2.cellAt 4
    have m14 : w2.cell? ⟨(w.heap.size + 2), 5, none⟩ = some (.int .i64 c3) := T2.out.2.2.2.cellAt 5
    have m15 : w2.cell? ⟨(w.heap.size + 2), 6, none⟩ = some (.slice A3 n3 cp3) := T2.out.2.2.2.cellAt 6
    have m16 : w2.cell? ⟨(w.heap.size + 2), 7, none⟩ = some (.string ap3) := T2.out.2.2.2.cellAt 7
    have m17 : w2.cell? ⟨(w.heap.size + 2), 8, none⟩ = some (.string ga3) := T2.out.2.2.2.cellAt 8
    have m18 : w2.cell? ⟨(w.heap.size + 2), 9, none⟩ = some (.int .i64 sz3) := T2.out.2.2.2.cellAt 9
    have zm : w.heap.size + 2 < w2.heap.size := T2.out.2.2.2.here
    have zm0 : w.heap.size < w2.heap.size := by omega
    have zm1 : w.heap.size + 1 < w2.heap.size := by omega
    have L1 : Hid (RdL w2 A1 l1) := HR1.out.later T2.out.1
    have L3 : Hid (RdL w2 A3 l3) := HR3.out.later T2.out.1
    have nv1 := neq_self v1
    have nv2 := neq_self v2
    have nv3 := neq_self v3
    go_wp2_with fail
    refine wp_region_later (by kernel_rfl) (by kernel_rfl) ?_; have hL : ∀ (w : World) (x : Later w) (b o : Nat), b < w.heap.size → x.to.cell? ⟨b, o, none⟩ = w.cell? ⟨b, o, none⟩ := fun w x b o hb => x.cell hb; have hN := Later.some; (repeat (go_big_quiet_step (((first | (go_at_call 10; (with_reducible exact Later.call (KN.out _ (RdL.of_later _ L1.out)))) | (go_at_call 11; (with_reducible exact Later.call (RN.out _ (RdL.of_later _ L1.out)))) | (go_at_call 12; (with_reducible exact Later.call (KQ.out _))) | (go_at_call 13; (with_reducible exact Later.call (RQ.out _))) | (go_at_call 14; (with_reducible exact Later.call (KT.out _ (RdL.of_later _ L3.out)))) | (go_at_call 15; (with_reducible exact Later.call (RT.out _ (RdL.of_later _ L3.out))))))))); refine wpQuiet_nil ?_; intro w3 hw3; have hb3 := Later.out hw3; clear hw3 hL hN
    have T3 : Hid (Below w.heap.size w w3 ∧ Bk w3 w.heap.size 26 #[.string nm1, .int .i64 a1, .int .i64 b1, .int .i64 c1, .slice A1 n1 cp1] ∧ Bk w3 (w.heap.size + 1) 28 #[.string nm2, .int .i64 a2, .int .i64 b2, .int .i64 c2] ∧ Bk w3 (w.heap.size + 2) 30 #[.string nm3, .string qu3, .int .i64 pr3, .int .i64 a3, .int .i64 b3, .int .i64 c3, .slice A3 n3 cp3, .string ap3, .string ga3, .int .i64 sz3]) := ⟨T2.out.1.trans (hb3.mono T2.out.1.size), T2.out.2.1.later hb3, T2.out.2.2.1.later hb3, T2.out.2.2.2.later hb3⟩
    have r0 : w3.cell? ⟨w.heap.size, 0, none⟩ = some (.string nm1) := T3.out.2.1.cellAt 0
    have r1 : w3.cell? ⟨w.heap.size, 1, none⟩ = some (.int .i64 a1) := T3.out.2.1.cellAt 1
    have r2 : w3.cell? ⟨w.heap.size, 2, none⟩ = some (.int .i64 b1) := T3.out.2.1.cellAt 2
    have r3 : w3.cell? ⟨w.heap.size, 3, none⟩ = some (.int .i64 c1) := T3.out.2.1.cellAt 3
    have r4 : w3.cell? ⟨w.heap.size, 4, none⟩ = some (.slice A1 n1 cp1) := T3.out.2.1.cellAt 4
    have r5 : w3.cell? ⟨(w.heap.size + 1), 0, none⟩ = some (.string nm2) := T3.out.2.2.1.cellAt 0
    have r6 : w3.cell? ⟨(w.heap.size + 1), 1, none⟩ = some (.int .i64 a2) := T3.out.2.2.1.cellAt 1
    have r7 : w3.cell? ⟨(w.heap.size + 1), 2, none⟩ = some (.int .i64 b2) := T3.out.2.2.1.cellAt 2
    have r8 : w3.cell? ⟨(w.heap.size + 1), 3, none⟩ = some (.int .i64 c2) := T3.out.2.2.1.cellAt 3
    have r9 : w3.cell? ⟨(w.heap.size + 2), 0, none⟩ = some (.string nm3) := T3.out.2.2.2.cellAt 0
    have r10 : w3.cell? ⟨(w.heap.size + 2), 1, none⟩ = some (.string qu3) := T3.out.2.2.2.cellAt 1
    have r11 : w3.cell? ⟨(w.heap.size + 2), 2, none⟩ = some (.int .i64 pr3) := T3.out.2.2.2.cellAt 2
    have r12 : w3.cell? ⟨(w.heap.size + 2), 3, none⟩ = some (.int .i64 a3) := T3.out.2.2.2.cellAt 3
    have r13 : w3.cell? ⟨(w.heap.size + 2), 4, none⟩ = some (.int .i64 b3) := T3.out.2.2.2.cellAt 4
    have r14 : w3.cell? ⟨(w.heap.size + 2), 5, none⟩ = some (.int .i64 c3) := T3.out.2.2.2.cellAt 5
    have r15 : w3.cell? ⟨(w.heap.size + 2), 6, none⟩ = some (.slice A3 n3 cp3) := T3.out.2.2.2.cellAt 6
    have r16 : w3.cell? ⟨(w.heap.size + 2), 7, none⟩ = some (.string ap3) := T3.out.2.2.2.cellAt 7
    have r17 : w3.cell? ⟨(w.heap.size + 2), 8, none⟩ = some (.string ga3) := T3.out.2.2.2.cellAt 8
    have r18 : w3.cell? ⟨(w.heap.size + 2), 9, none⟩ = some (.int .i64 sz3) := T3.out.2.2.2.cellAt 9
    have zr : w.heap.size + 2 < w3.heap.size := T3.out.2.2.2.here
    have zr0 : w.heap.size < w3.heap.size := by omega
    have zr1 : w.heap.size + 1 < w3.heap.size := by omega
    have M1 : Hid (RdL w3 A1 l1) := HR1.out.later T3.out.1
    have M3 : Hid (RdL w3 A3 l3) := HR3.out.later T3.out.1
    clear hb3 T2 zk zm zk0 zk1 zm0 zm1 L1 L3 nv1 nv2 nv3 KF KN RN KQ RQ KT RT m0 m1 m2 m3 m4 m5 m6 m7 m8 m9 m10 m11 m12 m13 m14 m15 m16 m17 m18
    obtain ⟨d1, d2, d3⟩ := D.out
    clear D
    go_wp2_with fail
    refine wp_region_held_drew (S := fun W => Below w3.heap.size w3 W) (by kernel_rfl) (Below.drew (Below.refl _ _)) (fun hS0 => ?_)
    refine wpAnyH_take (i := 0) (v := ?_) rfl (by kernel_rfl) (by kernel_rfl) (by kernel_rfl) (fun _ _ _ h => h) (Or.inl ⟨by rfl, ?_⟩) hS0 ?_
    rotate_left
    · intro W _; go_simp; try with_reducible rfl
    try simp only [Act.put, List.getElem_toArray, List.getElem_cons_zero, List.setIfInBounds_toArray, List.set_cons_zero, List.set_cons_succ]
    refine wpAnyH_take (i := 2) (v := ?_) rfl (by kernel_rfl) (by kernel_rfl) (by kernel_rfl) (fun _ _ _ h => h) (Or.inl ⟨by rfl, ?_⟩) hS0 ?_
    rotate_left
    · intro W hSW; have hx : ∀ b o, b < w3.heap.size → W.cell? ⟨b, o, none⟩ = w3.cell? ⟨b, o, none⟩ := fun b o h => hSW.cell (p := ⟨b, o, none⟩) h; go_simp; try with_reducible rfl
    try simp only [Act.put, List.getElem_toArray, List.getElem_cons_zero, List.getElem_cons_succ, List.setIfInBounds_toArray, List.set_cons_zero, List.set_cons_succ]
    refine wpAnyH_take (i := 5) (v := ?_) rfl (by kernel_rfl) (by kernel_rfl) (by kernel_rfl) (fun _ _ _ h => h) (Or.inl ⟨by rfl, ?_⟩) hS0 ?_
    rotate_left
    · intro W _; go_simp; try with_reducible rfl
    try simp only [Act.put, List.getElem_toArray, List.getElem_cons_zero, List.getElem_cons_succ, List.setIfInBounds_toArray, List.set_cons_zero, List.set_cons_succ]
    refine wpAnyH_take (i := 6) (v := ?_) rfl (by kernel_rfl) (by kernel_rfl) (by kernel_rfl) (fun _ _ _ h => h) (Or.inl ⟨by rfl, ?_⟩) hS0 ?_
    rotate_left
    · intro W hSW; have hx : ∀ b o, b < w3.heap.size → W.cell? ⟨b, o, none⟩ = w3.cell? ⟨b, o, none⟩ := fun b o h => hSW.cell (p := ⟨b, o, none⟩) h; go_simp; try with_reducible rfl
    try simp only [Act.put, List.getElem_toArray, List.getElem_cons_zero, List.getElem_cons_succ, List.setIfInBounds_toArray, List.set_cons_zero, List.set_cons_succ]
    refine wpAnyH_ready (rs := [1]) (by kernel_rfl) (by simp) ?_
    refine AllReadyH.cons rfl (fun K hK => ?_) AllReadyH.nil
    obtain ⟨cA1, wA1, hA1, rA1, bA1, sA1, lA1, mA1⟩ := run_bytes_rd (P := Try.prog) w3.drew (src := 9) (dst := 36) (e := 5) (s := s) Try.underlying9 Try.underlying36 Try.underlying5 (by unfold maxLen; omega)
    go_simp
    refine hK.out _ _ (hS0.trans ((bA1).mono hS0.size)) (fun hS1 => ?_)
    clear hK K
    try simp only [Act.put, List.getElem_toArray, List.getElem_cons_zero, List.getElem_cons_succ, List.setIfInBounds_toArray, List.set_cons_zero, List.set_cons_succ]
    refine wpAnyH_ready (rs := [3]) (by kernel_rfl) (by simp) ?_
    refine AllReadyH.cons rfl (fun K hK => ?_) AllReadyH.nil
    go_simp
    refine (PN.out _ _ _ rA1 (M1.out.later hS1)).mono ?_
    rintro e w1p ⟨G1, C1, rfl, ro1, co1, cm1, ho1, hbp1⟩
    have q1 := run_str_rd (P := Try.prog) w1p (src := 36) (dst := 9) (c := C1) Try.underlying36 Try.underlying5 Try.underlying9 HL1.out ro1
    rw [show (⟨(s.data.toList ++ L1).toArray⟩ : ByteArray) = S1 from HS1.out.symm] at q1
    go_simp
    refine hK.out _ _ (hS1.trans ((hbp1).mono hS1.size)) (fun hS2 => ?_)
    clear hK K
    try simp only [Act.put, List.getElem_toArray, List.getElem_cons_zero, List.getElem_cons_succ, List.setIfInBounds_toArray, List.set_cons_zero, List.set_cons_succ]
    refine wpAnyH_ready (rs := [4, 7]) (by kernel_rfl) (by simp) ?_
    refine (AllReadyH.cons rfl (fun K hK => ?_) (AllReadyH.cons rfl (fun K hK => ?_) AllReadyH.nil))
    · go_simp
      refine hK.out _ _ hS2 (fun hS3 => ?_)
      clear hK K
      try simp only [Act.put, List.getElem_toArray, List.getElem_cons_zero, List.getElem_cons_succ, List.setIfInBounds_toArray, List.set_cons_zero, List.set_cons_succ]
      refine wpAnyH_ready (rs := [7]) (by kernel_rfl) (by simp) ?_
      refine AllReadyH.cons rfl (fun K hK => ?_) AllReadyH.nil
      go_simp
      refine (BN.out _ (M1.out.later hS3)).mono ?_
      rintro e w1n ⟨rfl, hbn1⟩
      have u1 := run_str_rd (P := Try.prog) w1n (src := 36) (dst := 9) (c := C1) Try.underlying36 Try.underlying5 Try.underlying9 HL1.out (ro1.below hbn1)
      rw [show (⟨(s.data.toList ++ L1).toArray⟩ : ByteArray) = S1 from HS1.out.symm] at u1
      go_simp
      refine hK.out _ _ (hS3.trans ((hbn1).mono hS3.size)) (fun hS4 => ?_)
      clear hK K
      try simp only [Act.put, List.getElem_toArray, List.getElem_cons_zero, List.getElem_cons_succ, List.setIfInBounds_toArray, List.set_cons_zero, List.set_cons_succ]
      refine wpAnyH_take (i := 8) (v := ?_) rfl (by kernel_rfl) (by kernel_rfl) (by kernel_rfl) (fun _ _ _ h => h) (Or.inl ⟨by rfl, ?_⟩) hS4 ?_
      rotate_left
      · intro W _; go_simp; try with_reducible rfl
      try simp only [Act.put, List.getElem_toArray, List.getElem_cons_zero, List.getElem_cons_succ, List.setIfInBounds_toArray, List.set_cons_zero, List.set_cons_succ]
      refine wpAnyH_take (i := 9) (v := ?_) rfl (by kernel_rfl) (by kernel_rfl) (by kernel_rfl) (fun _ _ _ h => h) (Or.inl ⟨by rfl, ?_⟩) hS4 ?_
      rotate_left
      · intro W _; go_simp; try with_reducible rfl
      try simp only [Act.put, List.getElem_toArray, List.getElem_cons_zero, List.getElem_cons_succ, List.setIfInBounds_toArray, List.set_cons_zero, List.set_cons_succ]
      refine wpAnyH_take (i := 10) (v := ?_) rfl (by kernel_rfl) (by kernel_rfl) (by kernel_rfl) (fun _ _ _ h => h) (Or.inl ⟨by rfl, ?_⟩) hS4 ?_
      rotate_left
      · intro W _; go_simp; try with_reducible rfl
      try simp only [Act.put, List.getElem_toArray, List.getElem_cons_zero, List.getElem_cons_succ, List.setIfInBounds_toArray, List.set_cons_zero, List.set_cons_succ]
      refine wpAnyH_take (i := 11) (v := ?_) rfl (by kernel_rfl) (by kernel_rfl) (by kernel_rfl) (fun _ _ _ h => h) (Or.inl ⟨by rfl, ?_⟩) hS4 ?_
      rotate_left
      · intro W _; go_simp; try with_reducible rfl
      try simp only [Act.put, List.getElem_toArray, List.getElem_cons_zero, List.getElem_cons_succ, List.setIfInBounds_toArray, List.set_cons_zero, List.set_cons_succ]
      refine wpAnyH_take (i := 13) (v := ?_) rfl (by kernel_rfl) (by kernel_rfl) (by kernel_rfl) (fun _ _ _ h => h) (Or.inl ⟨by rfl, ?_⟩) hS4 ?_
      rotate_left
      · intro W hSW; have hx : ∀ b o, b < w3.heap.size → W.cell? ⟨b, o, none⟩ = w3.cell? ⟨b, o, none⟩ := fun b o h => hSW.cell (p := ⟨b, o, none⟩) h; go_simp; try with_reducible rfl
      try simp only [Act.put, List.getElem_toArray, List.getElem_cons_zero, List.getElem_cons_succ, List.setIfInBounds_toArray, List.set_cons_zero, List.set_cons_succ]
      refine wpAnyH_take (i := 16) (v := ?_) rfl (by kernel_rfl) (by kernel_rfl) (by kernel_rfl) (fun _ _ _ h => h) (Or.inl ⟨by rfl, ?_⟩) hS4 ?_
      rotate_left
      · intro W _; go_simp; try with_reducible rfl
      try simp only [Act.put, List.getElem_toArray, List.getElem_cons_zero, List.getElem_cons_succ, List.setIfInBounds_toArray, List.set_cons_zero, List.set_cons_succ]
      refine wpAnyH_take (i := 17) (v := ?_) rfl (by kernel_rfl) (by kernel_rfl) (by kernel_rfl) (fun _ _ _ h => h) (Or.inl ⟨by rfl, ?_⟩) hS4 ?_
      rotate_left
      · intro W hSW; have hx : ∀ b o, b < w3.heap.size → W.cell? ⟨b, o, none⟩ = w3.cell? ⟨b, o, none⟩ := fun b o h => hSW.cell (p := ⟨b, o, none⟩) h; go_simp; try with_reducible rfl
      try simp only [Act.put, List.getElem_toArray, List.getElem_cons_zero, List.getElem_cons_succ, List.setIfInBounds_toArray, List.set_cons_zero, List.set_cons_succ]
      refine wpAnyH_ready (rs := [12]) (by kernel_rfl) (by simp) ?_
      refine AllReadyH.cons rfl (fun K hK => ?_) AllReadyH.nil
      obtain ⟨cA2, wA2, hA2, rA2, bA2, sA2, lA2, mA2⟩ := run_bytes_rd (P := Try.prog) w1n (src := 9) (dst := 36) (e := 5) (s := s) Try.underlying9 Try.underlying36 Try.underlying5 (by unfold maxLen; omega)
      go_simp
      refine hK.out _ _ (hS4.trans ((bA2).mono hS4.size)) (fun hS5 => ?_)
      clear hK K
      try simp only [Act.put, List.getElem_toArray, List.getElem_cons_zero, List.getElem_cons_succ, List.setIfInBounds_toArray, List.set_cons_zero, List.set_cons_succ]
      refine wpAnyH_ready (rs := [14]) (by kernel_rfl) (by simp) ?_
      refine AllReadyH.cons rfl (fun K hK => ?_) AllReadyH.nil
      go_simp
      refine (PQ.out _ _ _ rA2).mono ?_
      rintro e w2p ⟨G2, C2, rfl, ro2, co2, cm2, ho2, hbp2⟩
      have q2 := run_str_rd (P := Try.prog) w2p (src := 36) (dst := 9) (c := C2) Try.underlying36 Try.underlying5 Try.underlying9 HL2.out ro2
      rw [show (⟨(s.data.toList ++ L2).toArray⟩ : ByteArray) = S2 from HS2.out.symm] at q2
      go_simp
      refine hK.out _ _ (hS5.trans ((hbp2).mono hS5.size)) (fun hS6 => ?_)
      clear hK K
      try simp only [Act.put, List.getElem_toArray, List.getElem_cons_zero, List.getElem_cons_succ, List.setIfInBounds_toArray, List.set_cons_zero, List.set_cons_succ]
      refine wpAnyH_ready (rs := [15, 18]) (by kernel_rfl) (by simp) ?_
      refine (AllReadyH.cons rfl (fun K hK => ?_) (AllReadyH.cons rfl (fun K hK => ?_) AllReadyH.nil))
      · go_simp
        refine hK.out _ _ hS6 (fun hS7 => ?_)
        clear hK K
        try simp only [Act.put, List.getElem_toArray, List.getElem_cons_zero, List.getElem_cons_succ, List.setIfInBounds_toArray, List.set_cons_zero, List.set_cons_succ]
        refine wpAnyH_ready (rs := [18]) (by kernel_rfl) (by simp) ?_
        refine AllReadyH.cons rfl (fun K hK => ?_) AllReadyH.nil
        go_simp
        refine (BQ.out _).mono ?_
        rintro e w2n ⟨rfl, hbn2⟩
        have u2 := run_str_rd (P := Try.prog) w2n (src := 36) (dst := 9) (c := C2) Try.underlying36 Try.underlying5 Try.underlying9 HL2.out (ro2.below hbn2)
        rw [show (⟨(s.data.toList ++ L2).toArray⟩ : ByteArray) = S2 from HS2.out.symm] at u2
        go_simp
        refine hK.out _ _ (hS7.trans ((hbn2).mono hS7.size)) (fun hS8 => ?_)
        clear hK K
        try simp only [Act.put, List.getElem_toArray, List.getElem_cons_zero, List.getElem_cons_succ, List.setIfInBounds_toArray, List.set_cons_zero, List.set_cons_succ]
        refine wpAnyH_take (i := 19) (v := ?_) rfl (by kernel_rfl) (by kernel_rfl) (by kernel_rfl) (fun _ _ _ h => h) (Or.inl ⟨by rfl, ?_⟩) hS8 ?_
        rotate_left
        · intro W _; go_simp; try with_reducible rfl
        try simp only [Act.put, List.getElem_toArray, List.getElem_cons_zero, List.getElem_cons_succ, List.setIfInBounds_toArray, List.set_cons_zero, List.set_cons_succ]
        refine wpAnyH_take (i := 20) (v := ?_) rfl (by kernel_rfl) (by kernel_rfl) (by kernel_rfl) (fun _ _ _ h => h) (Or.inl ⟨by rfl, ?_⟩) hS8 ?_
        rotate_left
        · intro W _; go_simp; try with_reducible rfl
        try simp only [Act.put, List.getElem_toArray, List.getElem_cons_zero, List.getElem_cons_succ, List.setIfInBounds_toArray, List.set_cons_zero, List.set_cons_succ]
        refine wpAnyH_take (i := 21) (v := ?_) rfl (by kernel_rfl) (by kernel_rfl) (by kernel_rfl) (fun _ _ _ h => h) (Or.inl ⟨by rfl, ?_⟩) hS8 ?_
        rotate_left
        · intro W _; go_simp; try with_reducible rfl
        try simp only [Act.put, List.getElem_toArray, List.getElem_cons_zero, List.getElem_cons_succ, List.setIfInBounds_toArray, List.set_cons_zero, List.set_cons_succ]
        refine wpAnyH_take (i := 22) (v := ?_) rfl (by kernel_rfl) (by kernel_rfl) (by kernel_rfl) (fun _ _ _ h => h) (Or.inl ⟨by rfl, ?_⟩) hS8 ?_
        rotate_left
        · intro W _; go_simp; try with_reducible rfl
        try simp only [Act.put, List.getElem_toArray, List.getElem_cons_zero, List.getElem_cons_succ, List.setIfInBounds_toArray, List.set_cons_zero, List.set_cons_succ]
        refine wpAnyH_take (i := 23) (v := ?_) rfl (by kernel_rfl) (by kernel_rfl) (by kernel_rfl) (fun _ _ _ h => h) (Or.inl ⟨by rfl, ?_⟩) hS8 ?_
        rotate_left
        · intro W _; go_simp; try with_reducible rfl
        try simp only [Act.put, List.getElem_toArray, List.getElem_cons_zero, List.getElem_cons_succ, List.setIfInBounds_toArray, List.set_cons_zero, List.set_cons_succ]
        refine wpAnyH_take (i := 25) (v := ?_) rfl (by kernel_rfl) (by kernel_rfl) (by kernel_rfl) (fun _ _ _ h => h) (Or.inl ⟨by rfl, ?_⟩) hS8 ?_
        rotate_left
        · intro W hSW; have hx : ∀ b o, b < w3.heap.size → W.cell? ⟨b, o, none⟩ = w3.cell? ⟨b, o, none⟩ := fun b o h => hSW.cell (p := ⟨b, o, none⟩) h; go_simp; try with_reducible rfl
        try simp only [Act.put, List.getElem_toArray, List.getElem_cons_zero, List.getElem_cons_succ, List.setIfInBounds_toArray, List.set_cons_zero, List.set_cons_succ]
        refine wpAnyH_take (i := 28) (v := ?_) rfl (by kernel_rfl) (by kernel_rfl) (by kernel_rfl) (fun _ _ _ h => h) (Or.inl ⟨by rfl, ?_⟩) hS8 ?_
        rotate_left
        · intro W _; go_simp; try with_reducible rfl
        try simp only [Act.put, List.getElem_toArray, List.getElem_cons_zero, List.getElem_cons_succ, List.setIfInBounds_toArray, List.set_cons_zero, List.set_cons_succ]
        refine wpAnyH_take (i := 29) (v := ?_) rfl (by kernel_rfl) (by kernel_rfl) (by kernel_rfl) (fun _ _ _ h => h) (Or.inl ⟨by rfl, ?_⟩) hS8 ?_
        rotate_left
        · intro W hSW; have hx : ∀ b o, b < w3.heap.size → W.cell? ⟨b, o, none⟩ = w3.cell? ⟨b, o, none⟩ := fun b o h => hSW.cell (p := ⟨b, o, none⟩) h; go_simp; try with_reducible rfl
        try simp only [Act.put, List.getElem_toArray, List.getElem_cons_zero, List.getElem_cons_succ, List.setIfInBounds_toArray, List.set_cons_zero, List.set_cons_succ]
        refine wpAnyH_ready (rs := [24]) (by kernel_rfl) (by simp) ?_
        refine AllReadyH.cons rfl (fun K hK => ?_) AllReadyH.nil
        obtain ⟨cA3, wA3, hA3, rA3, bA3, sA3, lA3, mA3⟩ := run_bytes_rd (P := Try.prog) w2n (src := 9) (dst := 36) (e := 5) (s := s) Try.underlying9 Try.underlying36 Try.underlying5 (by unfold maxLen; omega)
        go_simp
        refine hK.out _ _ (hS8.trans ((bA3).mono hS8.size)) (fun hS9 => ?_)
        clear hK K
        try simp only [Act.put, List.getElem_toArray, List.getElem_cons_zero, List.getElem_cons_succ, List.setIfInBounds_toArray, List.set_cons_zero, List.set_cons_succ]
        refine wpAnyH_ready (rs := [26]) (by kernel_rfl) (by simp) ?_
        refine AllReadyH.cons rfl (fun K hK => ?_) AllReadyH.nil
        go_simp
        refine (PT.out _ _ _ rA3 (M3.out.later hS9)).mono ?_
        rintro e w3p ⟨G3, C3, rfl, ro3, co3, cm3, ho3, hbp3⟩
        have q3 := run_str_rd (P := Try.prog) w3p (src := 36) (dst := 9) (c := C3) Try.underlying36 Try.underlying5 Try.underlying9 HL3.out ro3
        rw [show (⟨(s.data.toList ++ L3).toArray⟩ : ByteArray) = S3 from HS3.out.symm] at q3
        go_simp
        refine hK.out _ _ (hS9.trans ((hbp3).mono hS9.size)) (fun hS10 => ?_)
        clear hK K
        try simp only [Act.put, List.getElem_toArray, List.getElem_cons_zero, List.getElem_cons_succ, List.setIfInBounds_toArray, List.set_cons_zero, List.set_cons_succ]
        refine wpAnyH_ready (rs := [27, 30]) (by kernel_rfl) (by simp) ?_
        refine (AllReadyH.cons rfl (fun K hK => ?_) (AllReadyH.cons rfl (fun K hK => ?_) AllReadyH.nil))
        · go_simp
          refine hK.out _ _ hS10 (fun hS11 => ?_)
          clear hK K
          try simp only [Act.put, List.getElem_toArray, List.getElem_cons_zero, List.getElem_cons_succ, List.setIfInBounds_toArray, List.set_cons_zero, List.set_cons_succ]
          refine wpAnyH_ready (rs := [30]) (by kernel_rfl) (by simp) ?_
          refine AllReadyH.cons rfl (fun K hK => ?_) AllReadyH.nil
          go_simp
          refine (BT.out _ (M3.out.later hS11)).mono ?_
          rintro e w3n ⟨rfl, hbn3⟩
          have u3 := run_str_rd (P := Try.prog) w3n (src := 36) (dst := 9) (c := C3) Try.underlying36 Try.underlying5 Try.underlying9 HL3.out (ro3.below hbn3)
          rw [show (⟨(s.data.toList ++ L3).toArray⟩ : ByteArray) = S3 from HS3.out.symm] at u3
          go_simp
          refine hK.out _ _ (hS11.trans ((hbn3).mono hS11.size)) (fun hS12 => ?_)
          clear hK K
          try simp only [Act.put, List.getElem_toArray, List.getElem_cons_zero, List.getElem_cons_succ, List.setIfInBounds_toArray, List.set_cons_zero, List.set_cons_succ]
          refine wpAnyH_take (i := 31) (v := ?_) rfl (by kernel_rfl) (by kernel_rfl) (by kernel_rfl) (fun _ _ _ h => h) (Or.inl ⟨by rfl, ?_⟩) hS12 ?_
          rotate_left
          · intro W _; go_simp; try with_reducible rfl
          try simp only [Act.put, List.getElem_toArray, List.getElem_cons_zero, List.getElem_cons_succ, List.setIfInBounds_toArray, List.set_cons_zero, List.set_cons_succ]
          refine wpAnyH_take (i := 32) (v := ?_) rfl (by kernel_rfl) (by kernel_rfl) (by kernel_rfl) (fun _ _ _ h => h) (Or.inl ⟨by rfl, ?_⟩) hS12 ?_
          rotate_left
          · intro W _; go_simp; try with_reducible rfl
          try simp only [Act.put, List.getElem_toArray, List.getElem_cons_zero, List.getElem_cons_succ, List.setIfInBounds_toArray, List.set_cons_zero, List.set_cons_succ]
          refine wpAnyH_take (i := 33) (v := ?_) rfl (by kernel_rfl) (by kernel_rfl) (by kernel_rfl) (fun _ _ _ h => h) (Or.inl ⟨by rfl, ?_⟩) hS12 ?_
          rotate_left
          · intro W _; go_simp; try with_reducible rfl
          try simp only [Act.put, List.getElem_toArray, List.getElem_cons_zero, List.getElem_cons_succ, List.setIfInBounds_toArray, List.set_cons_zero, List.set_cons_succ]
          refine wpAnyH_take (i := 34) (v := ?_) rfl (by kernel_rfl) (by kernel_rfl) (by kernel_rfl) (fun _ _ _ h => h) (Or.inl ⟨by rfl, ?_⟩) hS12 ?_
          rotate_left
          · intro W _; go_simp; try with_reducible rfl
          try simp only [Act.put, List.getElem_toArray, List.getElem_cons_zero, List.getElem_cons_succ, List.setIfInBounds_toArray, List.set_cons_zero, List.set_cons_succ]
          refine wpAnyH_done (by kernel_rfl) ?_ _
          go_wp2
          go_ret
          exact ⟨by simp, T3.out.1.trans (hS12.mono T3.out.1.size)⟩
        · go_simp
          refine (BT.out _ (M3.out.later hS10)).mono ?_
          rintro e w3n ⟨rfl, hbn3⟩
          have u3 := run_str_rd (P := Try.prog) w3n (src := 36) (dst := 9) (c := C3) Try.underlying36 Try.underlying5 Try.underlying9 HL3.out (ro3.below hbn3)
          rw [show (⟨(s.data.toList ++ L3).toArray⟩ : ByteArray) = S3 from HS3.out.symm] at u3
          go_simp
          refine hK.out _ _ (hS10.trans ((hbn3).mono hS10.size)) (fun hS11 => ?_)
          clear hK K
          try simp only [Act.put, List.getElem_toArray, List.getElem_cons_zero, List.getElem_cons_succ, List.setIfInBounds_toArray, List.set_cons_zero, List.set_cons_succ]
          refine wpAnyH_take (i := 31) (v := ?_) rfl (by kernel_rfl) (by kernel_rfl) (by kernel_rfl) (fun _ _ _ h => h) (Or.inl ⟨by rfl, ?_⟩) hS11 ?_
          rotate_left
          · intro W _; go_simp; try with_reducible rfl
          try simp only [Act.put, List.getElem_toArray, List.getElem_cons_zero, List.getElem_cons_succ, List.setIfInBounds_toArray, List.set_cons_zero, List.set_cons_succ]
          refine wpAnyH_ready (rs := [27]) (by kernel_rfl) (by simp) ?_
          refine AllReadyH.cons rfl (fun K hK => ?_) AllReadyH.nil
          go_simp
          refine hK.out _ _ hS11 (fun hS12 => ?_)
          clear hK K
          try simp only [Act.put, List.getElem_toArray, List.getElem_cons_zero, List.getElem_cons_succ, List.setIfInBounds_toArray, List.set_cons_zero, List.set_cons_succ]
          refine wpAnyH_take (i := 32) (v := ?_) rfl (by kernel_rfl) (by kernel_rfl) (by kernel_rfl) (fun _ _ _ h => h) (Or.inl ⟨by rfl, ?_⟩) hS12 ?_
          rotate_left
          · intro W _; go_simp; try with_reducible rfl
          try simp only [Act.put, List.getElem_toArray, List.getElem_cons_zero, List.getElem_cons_succ, List.setIfInBounds_toArray, List.set_cons_zero, List.set_cons_succ]
          refine wpAnyH_take (i := 33) (v := ?_) rfl (by kernel_rfl) (by kernel_rfl) (by kernel_rfl) (fun _ _ _ h => h) (Or.inl ⟨by rfl, ?_⟩) hS12 ?_
          rotate_left
          · intro W _; go_simp; try with_reducible rfl
          try simp only [Act.put, List.getElem_toArray, List.getElem_cons_zero, List.getElem_cons_succ, List.setIfInBounds_toArray, List.set_cons_zero, List.set_cons_succ]
          refine wpAnyH_take (i := 34) (v := ?_) rfl (by kernel_rfl) (by kernel_rfl) (by kernel_rfl) (fun _ _ _ h => h) (Or.inl ⟨by rfl, ?_⟩) hS12 ?_
          rotate_left
          · intro W _; go_simp; try with_reducible rfl
          try simp only [Act.put, List.getElem_toArray, List.getElem_cons_zero, List.getElem_cons_succ, List.setIfInBounds_toArray, List.set_cons_zero, List.set_cons_succ]
          refine wpAnyH_done (by kernel_rfl) ?_ _
          go_wp2
          go_ret
          exact ⟨by simp, T3.out.1.trans (hS12.mono T3.out.1.size)⟩
      · go_simp
        refine (BQ.out _).mono ?_
        rintro e w2n ⟨rfl, hbn2⟩
        have u2 := run_str_rd (P := Try.prog) w2n (src := 36) (dst := 9) (c := C2) Try.underlying36 Try.underlying5 Try.underlying9 HL2.out (ro2.below hbn2)
        rw [show (⟨(s.data.toList ++ L2).toArray⟩ : ByteArray) = S2 from HS2.out.symm] at u2
        go_simp
        refine hK.out _ _ (hS6.trans ((hbn2).mono hS6.size)) (fun hS7 => ?_)
        clear hK K
        try simp only [Act.put, List.getElem_toArray, List.getElem_cons_zero, List.getElem_cons_succ, List.setIfInBounds_toArray, List.set_cons_zero, List.set_cons_succ]
        refine wpAnyH_take (i := 19) (v := ?_) rfl (by kernel_rfl) (by kernel_rfl) (by kernel_rfl) (fun _ _ _ h => h) (Or.inl ⟨by rfl, ?_⟩) hS7 ?_
        rotate_left
        · intro W _; go_simp; try with_reducible rfl
        try simp only [Act.put, List.getElem_toArray, List.getElem_cons_zero, List.getElem_cons_succ, List.setIfInBounds_toArray, List.set_cons_zero, List.set_cons_succ]
        refine wpAnyH_ready (rs := [15]) (by kernel_rfl) (by simp) ?_
        refine AllReadyH.cons rfl (fun K hK => ?_) AllReadyH.nil
        go_simp
        refine hK.out _ _ hS7 (fun hS8 => ?_)
        clear hK K
        try simp only [Act.put, List.getElem_toArray, List.getElem_cons_zero, List.getElem_cons_succ, List.setIfInBounds_toArray, List.set_cons_zero, List.set_cons_succ]
        refine wpAnyH_take (i := 20) (v := ?_) rfl (by kernel_rfl) (by kernel_rfl) (by kernel_rfl) (fun _ _ _ h => h) (Or.inl ⟨by rfl, ?_⟩) hS8 ?_
        rotate_left
        · intro W _; go_simp; try with_reducible rfl
        try simp only [Act.put, List.getElem_toArray, List.getElem_cons_zero, List.getElem_cons_succ, List.setIfInBounds_toArray, List.set_cons_zero, List.set_cons_succ]
        refine wpAnyH_take (i := 21) (v := ?_) rfl (by kernel_rfl) (by kernel_rfl) (by kernel_rfl) (fun _ _ _ h => h) (Or.inl ⟨by rfl, ?_⟩) hS8 ?_
        rotate_left
        · intro W _; go_simp; try with_reducible rfl
        try simp only [Act.put, List.getElem_toArray, List.getElem_cons_zero, List.getElem_cons_succ, List.setIfInBounds_toArray, List.set_cons_zero, List.set_cons_succ]
        refine wpAnyH_take (i := 22) (v := ?_) rfl (by kernel_rfl) (by kernel_rfl) (by kernel_rfl) (fun _ _ _ h => h) (Or.inl ⟨by rfl, ?_⟩) hS8 ?_
        rotate_left
        · intro W _; go_simp; try with_reducible rfl
        try simp only [Act.put, List.getElem_toArray, List.getElem_cons_zero, List.getElem_cons_succ, List.setIfInBounds_toArray, List.set_cons_zero, List.set_cons_succ]
        refine wpAnyH_take (i := 23) (v := ?_) rfl (by kernel_rfl) (by kernel_rfl) (by kernel_rfl) (fun _ _ _ h => h) (Or.inl ⟨by rfl, ?_⟩) hS8 ?_
        rotate_left
        · intro W _; go_simp; try with_reducible rfl
        try simp only [Act.put, List.getElem_toArray, List.getElem_cons_zero, List.getElem_cons_succ, List.setIfInBounds_toArray, List.set_cons_zero, List.set_cons_succ]
        refine wpAnyH_take (i := 25) (v := ?_) rfl (by kernel_rfl) (by kernel_rfl) (by kernel_rfl) (fun _ _ _ h => h) (Or.inl ⟨by rfl, ?_⟩) hS8 ?_
        rotate_left
        · intro W hSW; have hx : ∀ b o, b < w3.heap.size → W.cell? ⟨b, o, none⟩ = w3.cell? ⟨b, o, none⟩ := fun b o h => hSW.cell (p := ⟨b, o, none⟩) h; go_simp; try with_reducible rfl
        try simp only [Act.put, List.getElem_toArray, List.getElem_cons_zero, List.getElem_cons_succ, List.setIfInBounds_toArray, List.set_cons_zero, List.set_cons_succ]
        refine wpAnyH_take (i := 28) (v := ?_) rfl (by kernel_rfl) (by kernel_rfl) (by kernel_rfl) (fun _ _ _ h => h) (Or.inl ⟨by rfl, ?_⟩) hS8 ?_
        rotate_left
        · intro W _; go_simp; try with_reducible rfl
        try simp only [Act.put, List.getElem_toArray, List.getElem_cons_zero, List.getElem_cons_succ, List.setIfInBounds_toArray, List.set_cons_zero, List.set_cons_succ]
        refine wpAnyH_take (i := 29) (v := ?_) rfl (by kernel_rfl) (by kernel_rfl) (by kernel_rfl) (fun _ _ _ h => h) (Or.inl ⟨by rfl, ?_⟩) hS8 ?_
        rotate_left
        · intro W hSW; have hx : ∀ b o, b < w3.heap.size → W.cell? ⟨b, o, none⟩ = w3.cell? ⟨b, o, none⟩ := fun b o h => hSW.cell (p := ⟨b, o, none⟩) h; go_simp; try with_reducible rfl
        try simp only [Act.put, List.getElem_toArray, List.getElem_cons_zero, List.getElem_cons_succ, List.setIfInBounds_toArray, List.set_cons_zero, List.set_cons_succ]
        refine wpAnyH_ready (rs := [24]) (by kernel_rfl) (by simp) ?_
        refine AllReadyH.cons rfl (fun K hK => ?_) AllReadyH.nil
        obtain ⟨cA3, wA3, hA3, rA3, bA3, sA3, lA3, mA3⟩ := run_bytes_rd (P := Try.prog) w2n (src := 9) (dst := 36) (e := 5) (s := s) Try.underlying9 Try.underlying36 Try.underlying5 (by unfold maxLen; omega)
        go_simp
        refine hK.out _ _ (hS8.trans ((bA3).mono hS8.size)) (fun hS9 => ?_)
        clear hK K
        try simp only [Act.put, List.getElem_toArray, List.getElem_cons_zero, List.getElem_cons_succ, List.setIfInBounds_toArray, List.set_cons_zero, List.set_cons_succ]
        refine wpAnyH_ready (rs := [26]) (by kernel_rfl) (by simp) ?_
        refine AllReadyH.cons rfl (fun K hK => ?_) AllReadyH.nil
        go_simp
        refine (PT.out _ _ _ rA3 (M3.out.later hS9)).mono ?_
        rintro e w3p ⟨G3, C3, rfl, ro3, co3, cm3, ho3, hbp3⟩
        have q3 := run_str_rd (P := Try.prog) w3p (src := 36) (dst := 9) (c := C3) Try.underlying36 Try.underlying5 Try.underlying9 HL3.out ro3
        rw [show (⟨(s.data.toList ++ L3).toArray⟩ : ByteArray) = S3 from HS3.out.symm] at q3
        go_simp
        refine hK.out _ _ (hS9.trans ((hbp3).mono hS9.size)) (fun hS10 => ?_)
        clear hK K
        try simp only [Act.put, List.getElem_toArray, List.getElem_cons_zero, List.getElem_cons_succ, List.setIfInBounds_toArray, List.set_cons_zero, List.set_cons_succ]
        refine wpAnyH_ready (rs := [27, 30]) (by kernel_rfl) (by simp) ?_
        refine (AllReadyH.cons rfl (fun K hK => ?_) (AllReadyH.cons rfl (fun K hK => ?_) AllReadyH.nil))
        · go_simp
          refine hK.out _ _ hS10 (fun hS11 => ?_)
          clear hK K
          try simp only [Act.put, List.getElem_toArray, List.getElem_cons_zero, List.getElem_cons_succ, List.setIfInBounds_toArray, List.set_cons_zero, List.set_cons_succ]
          refine wpAnyH_ready (rs := [30]) (by kernel_rfl) (by simp) ?_
          refine AllReadyH.cons rfl (fun K hK => ?_) AllReadyH.nil
          go_simp
          refine (BT.out _ (M3.out.later hS11)).mono ?_
          rintro e w3n ⟨rfl, hbn3⟩
          have u3 := run_str_rd (P := Try.prog) w3n (src := 36) (dst := 9) (c := C3) Try.underlying36 Try.underlying5 Try.underlying9 HL3.out (ro3.below hbn3)
          rw [show (⟨(s.data.toList ++ L3).toArray⟩ : ByteArray) = S3 from HS3.out.symm] at u3
          go_simp
          refine hK.out _ _ (hS11.trans ((hbn3).mono hS11.size)) (fun hS12 => ?_)
          clear hK K
          try simp only [Act.put, List.getElem_toArray, List.getElem_cons_zero, List.getElem_cons_succ, List.setIfInBounds_toArray, List.set_cons_zero, List.set_cons_succ]
          refine wpAnyH_take (i := 31) (v := ?_) rfl (by kernel_rfl) (by kernel_rfl) (by kernel_rfl) (fun _ _ _ h => h) (Or.inl ⟨by rfl, ?_⟩) hS12 ?_
          rotate_left
          · intro W _; go_simp; try with_reducible rfl
          try simp only [Act.put, List.getElem_toArray, List.getElem_cons_zero, List.getElem_cons_succ, List.setIfInBounds_toArray, List.set_cons_zero, List.set_cons_succ]
          refine wpAnyH_take (i := 32) (v := ?_) rfl (by kernel_rfl) (by kernel_rfl) (by kernel_rfl) (fun _ _ _ h => h) (Or.inl ⟨by rfl, ?_⟩) hS12 ?_
          rotate_left
          · intro W _; go_simp; try with_reducible rfl
          try simp only [Act.put, List.getElem_toArray, List.getElem_cons_zero, List.getElem_cons_succ, List.setIfInBounds_toArray, List.set_cons_zero, List.set_cons_succ]
          refine wpAnyH_take (i := 33) (v := ?_) rfl (by kernel_rfl) (by kernel_rfl) (by kernel_rfl) (fun _ _ _ h => h) (Or.inl ⟨by rfl, ?_⟩) hS12 ?_
          rotate_left
          · intro W _; go_simp; try with_reducible rfl
          try simp only [Act.put, List.getElem_toArray, List.getElem_cons_zero, List.getElem_cons_succ, List.setIfInBounds_toArray, List.set_cons_zero, List.set_cons_succ]
          refine wpAnyH_take (i := 34) (v := ?_) rfl (by kernel_rfl) (by kernel_rfl) (by kernel_rfl) (fun _ _ _ h => h) (Or.inl ⟨by rfl, ?_⟩) hS12 ?_
          rotate_left
          · intro W _; go_simp; try with_reducible rfl
          try simp only [Act.put, List.getElem_toArray, List.getElem_cons_zero, List.getElem_cons_succ, List.setIfInBounds_toArray, List.set_cons_zero, List.set_cons_succ]
          refine wpAnyH_done (by kernel_rfl) ?_ _
          go_wp2
          go_ret
          exact ⟨by simp, T3.out.1.trans (hS12.mono T3.out.1.size)⟩
        · go_simp
          refine (BT.out _ (M3.out.later hS10)).mono ?_
          rintro e w3n ⟨rfl, hbn3⟩
          have u3 := run_str_rd (P := Try.prog) w3n (src := 36) (dst := 9) (c := C3) Try.underlying36 Try.underlying5 Try.underlying9 HL3.out (ro3.below hbn3)
          rw [show (⟨(s.data.toList ++ L3).toArray⟩ : ByteArray) = S3 from HS3.out.symm] at u3
          go_simp
          refine hK.out _ _ (hS10.trans ((hbn3).mono hS10.size)) (fun hS11 => ?_)
          clear hK K
          try simp only [Act.put, List.getElem_toArray, List.getElem_cons_zero, List.getElem_cons_succ, List.setIfInBounds_toArray, List.set_cons_zero, List.set_cons_succ]
          refine wpAnyH_take (i := 31) (v := ?_) rfl (by kernel_rfl) (by kernel_rfl) (by kernel_rfl) (fun _ _ _ h => h) (Or.inl ⟨by rfl, ?_⟩) hS11 ?_
          rotate_left
          · intro W _; go_simp; try with_reducible rfl
          try simp only [Act.put, List.getElem_toArray, List.getElem_cons_zero, List.getElem_cons_succ, List.setIfInBounds_toArray, List.set_cons_zero, List.set_cons_succ]
          refine wpAnyH_ready (rs := [27]) (by kernel_rfl) (by simp) ?_
          refine AllReadyH.cons rfl (fun K hK => ?_) AllReadyH.nil
          go_simp
          refine hK.out _ _ hS11 (fun hS12 => ?_)
          clear hK K
          try simp only [Act.put, List.getElem_toArray, List.getElem_cons_zero, List.getElem_cons_succ, List.setIfInBounds_toArray, List.set_cons_zero, List.set_cons_succ]
          refine wpAnyH_take (i := 32) (v := ?_) rfl (by kernel_rfl) (by kernel_rfl) (by kernel_rfl) (fun _ _ _ h => h) (Or.inl ⟨by rfl, ?_⟩) hS12 ?_
          rotate_left
          · intro W _; go_simp; try with_reducible rfl
          try simp only [Act.put, List.getElem_toArray, List.getElem_cons_zero, List.getElem_cons_succ, List.setIfInBounds_toArray, List.set_cons_zero, List.set_cons_succ]
          refine wpAnyH_take (i := 33) (v := ?_) rfl (by kernel_rfl) (by kernel_rfl) (by kernel_rfl) (fun _ _ _ h => h) (Or.inl ⟨by rfl, ?_⟩) hS12 ?_
          rotate_left
          · intro W _; go_simp; try with_reducible rfl
          try simp only [Act.put, List.getElem_toArray, List.getElem_cons_zero, List.getElem_cons_succ, List.setIfInBounds_toArray, List.set_cons_zero, List.set_cons_succ]
          refine wpAnyH_take (i := 34) (v := ?_) rfl (by kernel_rfl) (by kernel_rfl) (by kernel_rfl) (fun _ _ _ h => h) (Or.inl ⟨by rfl, ?_⟩) hS12 ?_
          rotate_left
          · intro W _; go_simp; try with_reducible rfl
          try simp only [Act.put, List.getElem_toArray, List.getElem_cons_zero, List.getElem_cons_succ, List.setIfInBounds_toArray, List.set_cons_zero, List.set_cons_succ]
          refine wpAnyH_done (by kernel_rfl) ?_ _
          go_wp2
          go_ret
          exact ⟨by simp, T3.out.1.trans (hS12.mono T3.out.1.size)⟩
    · go_simp
      refine (BN.out _ (M1.out.later hS2)).mono ?_
      rintro e w1n ⟨rfl, hbn1⟩
      have u1 := run_str_rd (P := Try.prog) w1n (src := 36) (dst := 9) (c := C1) Try.underlying36 Try.underlying5 Try.underlying9 HL1.out (ro1.below hbn1)
      rw [show (⟨(s.data.toList ++ L1).toArray⟩ : ByteArray) = S1 from HS1.out.symm] at u1
      go_simp
      refine hK.out _ _ (hS2.trans ((hbn1).mono hS2.size)) (fun hS3 => ?_)
      clear hK K
      try simp only [Act.put, List.getElem_toArray, List.getElem_cons_zero, List.getElem_cons_succ, List.setIfInBounds_toArray, List.set_cons_zero, List.set_cons_succ]
      refine wpAnyH_take (i := 8) (v := ?_) rfl (by kernel_rfl) (by kernel_rfl) (by kernel_rfl) (fun _ _ _ h => h) (Or.inl ⟨by rfl, ?_⟩) hS3 ?_
      rotate_left
      · intro W _; go_simp; try with_reducible rfl
      try simp only [Act.put, List.getElem_toArray, List.getElem_cons_zero, List.getElem_cons_succ, List.setIfInBounds_toArray, List.set_cons_zero, List.set_cons_succ]
      refine wpAnyH_ready (rs := [4]) (by kernel_rfl) (by simp) ?_
      refine AllReadyH.cons rfl (fun K hK => ?_) AllReadyH.nil
      go_simp
      refine hK.out _ _ hS3 (fun hS4 => ?_)
      clear hK K
      try simp only [Act.put, List.getElem_toArray, List.getElem_cons_zero, List.getElem_cons_succ, List.setIfInBounds_toArray, List.set_cons_zero, List.set_cons_succ]
      refine wpAnyH_take (i := 9) (v := ?_) rfl (by kernel_rfl) (by kernel_rfl) (by kernel_rfl) (fun _ _ _ h => h) (Or.inl ⟨by rfl, ?_⟩) hS4 ?_
      rotate_left
      · intro W _; go_simp; try with_reducible rfl
      try simp only [Act.put, List.getElem_toArray, List.getElem_cons_zero, List.getElem_cons_succ, List.setIfInBounds_toArray, List.set_cons_zero, List.set_cons_succ]
      refine wpAnyH_take (i := 10) (v := ?_) rfl (by kernel_rfl) (by kernel_rfl) (by kernel_rfl) (fun _ _ _ h => h) (Or.inl ⟨by rfl, ?_⟩) hS4 ?_
      rotate_left
      · intro W _; go_simp; try with_reducible rfl
      try simp only [Act.put, List.getElem_toArray, List.getElem_cons_zero, List.getElem_cons_succ, List.setIfInBounds_toArray, List.set_cons_zero, List.set_cons_succ]
      refine wpAnyH_take (i := 11) (v := ?_) rfl (by kernel_rfl) (by kernel_rfl) (by kernel_rfl) (fun _ _ _ h => h) (Or.inl ⟨by rfl, ?_⟩) hS4 ?_
      rotate_left
      · intro W _; go_simp; try with_reducible rfl
      try simp only [Act.put, List.getElem_toArray, List.getElem_cons_zero, List.getElem_cons_succ, List.setIfInBounds_toArray, List.set_cons_zero, List.set_cons_succ]
      refine wpAnyH_take (i := 13) (v := ?_) rfl (by kernel_rfl) (by kernel_rfl) (by kernel_rfl) (fun _ _ _ h => h) (Or.inl ⟨by rfl, ?_⟩) hS4 ?_
      rotate_left
      · intro W hSW; have hx : ∀ b o, b < w3.heap.size → W.cell? ⟨b, o, none⟩ = w3.cell? ⟨b, o, none⟩ := fun b o h => hSW.cell (p := ⟨b, o, none⟩) h; go_simp; try with_reducible rfl
      try simp only [Act.put, List.getElem_toArray, List.getElem_cons_zero, List.getElem_cons_succ, List.setIfInBounds_toArray, List.set_cons_zero, List.set_cons_succ]
      refine wpAnyH_take (i := 16) (v := ?_) rfl (by kernel_rfl) (by kernel_rfl) (by kernel_rfl) (fun _ _ _ h => h) (Or.inl ⟨by rfl, ?_⟩) hS4 ?_
      rotate_left
      · intro W _; go_simp; try with_reducible rfl
      try simp only [Act.put, List.getElem_toArray, List.getElem_cons_zero, List.getElem_cons_succ, List.setIfInBounds_toArray, List.set_cons_zero, List.set_cons_succ]
      refine wpAnyH_take (i := 17) (v := ?_) rfl (by kernel_rfl) (by kernel_rfl) (by kernel_rfl) (fun _ _ _ h => h) (Or.inl ⟨by rfl, ?_⟩) hS4 ?_
      rotate_left
      · intro W hSW; have hx : ∀ b o, b < w3.heap.size → W.cell? ⟨b, o, none⟩ = w3.cell? ⟨b, o, none⟩ := fun b o h => hSW.cell (p := ⟨b, o, none⟩) h; go_simp; try with_reducible rfl
      try simp only [Act.put, List.getElem_toArray, List.getElem_cons_zero, List.getElem_cons_succ, List.setIfInBounds_toArray, List.set_cons_zero, List.set_cons_succ]
      refine wpAnyH_ready (rs := [12]) (by kernel_rfl) (by simp) ?_
      refine AllReadyH.cons rfl (fun K hK => ?_) AllReadyH.nil
      obtain ⟨cA2, wA2, hA2, rA2, bA2, sA2, lA2, mA2⟩ := run_bytes_rd (P := Try.prog) w1n (src := 9) (dst := 36) (e := 5) (s := s) Try.underlying9 Try.underlying36 Try.underlying5 (by unfold maxLen; omega)
      go_simp
      refine hK.out _ _ (hS4.trans ((bA2).mono hS4.size)) (fun hS5 => ?_)
      clear hK K
      try simp only [Act.put, List.getElem_toArray, List.getElem_cons_zero, List.getElem_cons_succ, List.setIfInBounds_toArray, List.set_cons_zero, List.set_cons_succ]
      refine wpAnyH_ready (rs := [14]) (by kernel_rfl) (by simp) ?_
      refine AllReadyH.cons rfl (fun K hK => ?_) AllReadyH.nil
      go_simp
      refine (PQ.out _ _ _ rA2).mono ?_
      rintro e w2p ⟨G2, C2, rfl, ro2, co2, cm2, ho2, hbp2⟩
      have q2 := run_str_rd (P := Try.prog) w2p (src := 36) (dst := 9) (c := C2) Try.underlying36 Try.underlying5 Try.underlying9 HL2.out ro2
      rw [show (⟨(s.data.toList ++ L2).toArray⟩ : ByteArray) = S2 from HS2.out.symm] at q2
      go_simp
      refine hK.out _ _ (hS5.trans ((hbp2).mono hS5.size)) (fun hS6 => ?_)
      clear hK K
      try simp only [Act.put, List.getElem_toArray, List.getElem_cons_zero, List.getElem_cons_succ, List.setIfInBounds_toArray, List.set_cons_zero, List.set_cons_succ]
      refine wpAnyH_ready (rs := [15, 18]) (by kernel_rfl) (by simp) ?_
      refine (AllReadyH.cons rfl (fun K hK => ?_) (AllReadyH.cons rfl (fun K hK => ?_) AllReadyH.nil))
      · go_simp
        refine hK.out _ _ hS6 (fun hS7 => ?_)
        clear hK K
        try simp only [Act.put, List.getElem_toArray, List.getElem_cons_zero, List.getElem_cons_succ, List.setIfInBounds_toArray, List.set_cons_zero, List.set_cons_succ]
        refine wpAnyH_ready (rs := [18]) (by kernel_rfl) (by simp) ?_
        refine AllReadyH.cons rfl (fun K hK => ?_) AllReadyH.nil
        go_simp
        refine (BQ.out _).mono ?_
        rintro e w2n ⟨rfl, hbn2⟩
        have u2 := run_str_rd (P := Try.prog) w2n (src := 36) (dst := 9) (c := C2) Try.underlying36 Try.underlying5 Try.underlying9 HL2.out (ro2.below hbn2)
        rw [show (⟨(s.data.toList ++ L2).toArray⟩ : ByteArray) = S2 from HS2.out.symm] at u2
        go_simp
        refine hK.out _ _ (hS7.trans ((hbn2).mono hS7.size)) (fun hS8 => ?_)
        clear hK K
        try simp only [Act.put, List.getElem_toArray, List.getElem_cons_zero, List.getElem_cons_succ, List.setIfInBounds_toArray, List.set_cons_zero, List.set_cons_succ]
        refine wpAnyH_take (i := 19) (v := ?_) rfl (by kernel_rfl) (by kernel_rfl) (by kernel_rfl) (fun _ _ _ h => h) (Or.inl ⟨by rfl, ?_⟩) hS8 ?_
        rotate_left
        · intro W _; go_simp; try with_reducible rfl
        try simp only [Act.put, List.getElem_toArray, List.getElem_cons_zero, List.getElem_cons_succ, List.setIfInBounds_toArray, List.set_cons_zero, List.set_cons_succ]
        refine wpAnyH_take (i := 20) (v := ?_) rfl (by kernel_rfl) (by kernel_rfl) (by kernel_rfl) (fun _ _ _ h => h) (Or.inl ⟨by rfl, ?_⟩) hS8 ?_
        rotate_left
        · intro W _; go_simp; try with_reducible rfl
        try simp only [Act.put, List.getElem_toArray, List.getElem_cons_zero, List.getElem_cons_succ, List.setIfInBounds_toArray, List.set_cons_zero, List.set_cons_succ]
        refine wpAnyH_take (i := 21) (v := ?_) rfl (by kernel_rfl) (by kernel_rfl) (by kernel_rfl) (fun _ _ _ h => h) (Or.inl ⟨by rfl, ?_⟩) hS8 ?_
        rotate_left
        · intro W _; go_simp; try with_reducible rfl
        try simp only [Act.put, List.getElem_toArray, List.getElem_cons_zero, List.getElem_cons_succ, List.setIfInBounds_toArray, List.set_cons_zero, List.set_cons_succ]
        refine wpAnyH_take (i := 22) (v := ?_) rfl (by kernel_rfl) (by kernel_rfl) (by kernel_rfl) (fun _ _ _ h => h) (Or.inl ⟨by rfl, ?_⟩) hS8 ?_
        rotate_left
        · intro W _; go_simp; try with_reducible rfl
        try simp only [Act.put, List.getElem_toArray, List.getElem_cons_zero, List.getElem_cons_succ, List.setIfInBounds_toArray, List.set_cons_zero, List.set_cons_succ]
        refine wpAnyH_take (i := 23) (v := ?_) rfl (by kernel_rfl) (by kernel_rfl) (by kernel_rfl) (fun _ _ _ h => h) (Or.inl ⟨by rfl, ?_⟩) hS8 ?_
        rotate_left
        · intro W _; go_simp; try with_reducible rfl
        try simp only [Act.put, List.getElem_toArray, List.getElem_cons_zero, List.getElem_cons_succ, List.setIfInBounds_toArray, List.set_cons_zero, List.set_cons_succ]
        refine wpAnyH_take (i := 25) (v := ?_) rfl (by kernel_rfl) (by kernel_rfl) (by kernel_rfl) (fun _ _ _ h => h) (Or.inl ⟨by rfl, ?_⟩) hS8 ?_
        rotate_left
        · intro W hSW; have hx : ∀ b o, b < w3.heap.size → W.cell? ⟨b, o, none⟩ = w3.cell? ⟨b, o, none⟩ := fun b o h => hSW.cell (p := ⟨b, o, none⟩) h; go_simp; try with_reducible rfl
        try simp only [Act.put, List.getElem_toArray, List.getElem_cons_zero, List.getElem_cons_succ, List.setIfInBounds_toArray, List.set_cons_zero, List.set_cons_succ]
        refine wpAnyH_take (i := 28) (v := ?_) rfl (by kernel_rfl) (by kernel_rfl) (by kernel_rfl) (fun _ _ _ h => h) (Or.inl ⟨by rfl, ?_⟩) hS8 ?_
        rotate_left
        · intro W _; go_simp; try with_reducible rfl
        try simp only [Act.put, List.getElem_toArray, List.getElem_cons_zero, List.getElem_cons_succ, List.setIfInBounds_toArray, List.set_cons_zero, List.set_cons_succ]
        refine wpAnyH_take (i := 29) (v := ?_) rfl (by kernel_rfl) (by kernel_rfl) (by kernel_rfl) (fun _ _ _ h => h) (Or.inl ⟨by rfl, ?_⟩) hS8 ?_
        rotate_left
        · intro W hSW; have hx : ∀ b o, b < w3.heap.size → W.cell? ⟨b, o, none⟩ = w3.cell? ⟨b, o, none⟩ := fun b o h => hSW.cell (p := ⟨b, o, none⟩) h; go_simp; try with_reducible rfl
        try simp only [Act.put, List.getElem_toArray, List.getElem_cons_zero, List.getElem_cons_succ, List.setIfInBounds_toArray, List.set_cons_zero, List.set_cons_succ]
        refine wpAnyH_ready (rs := [24]) (by kernel_rfl) (by simp) ?_
        refine AllReadyH.cons rfl (fun K hK => ?_) AllReadyH.nil
        obtain ⟨cA3, wA3, hA3, rA3, bA3, sA3, lA3, mA3⟩ := run_bytes_rd (P := Try.prog) w2n (src := 9) (dst := 36) (e := 5) (s := s) Try.underlying9 Try.underlying36 Try.underlying5 (by unfold maxLen; omega)
        go_simp
        refine hK.out _ _ (hS8.trans ((bA3).mono hS8.size)) (fun hS9 => ?_)
        clear hK K
        try simp only [Act.put, List.getElem_toArray, List.getElem_cons_zero, List.getElem_cons_succ, List.setIfInBounds_toArray, List.set_cons_zero, List.set_cons_succ]
        refine wpAnyH_ready (rs := [26]) (by kernel_rfl) (by simp) ?_
        refine AllReadyH.cons rfl (fun K hK => ?_) AllReadyH.nil
        go_simp
        refine (PT.out _ _ _ rA3 (M3.out.later hS9)).mono ?_
        rintro e w3p ⟨G3, C3, rfl, ro3, co3, cm3, ho3, hbp3⟩
        have q3 := run_str_rd (P := Try.prog) w3p (src := 36) (dst := 9) (c := C3) Try.underlying36 Try.underlying5 Try.underlying9 HL3.out ro3
        rw [show (⟨(s.data.toList ++ L3).toArray⟩ : ByteArray) = S3 from HS3.out.symm] at q3
        go_simp
        refine hK.out _ _ (hS9.trans ((hbp3).mono hS9.size)) (fun hS10 => ?_)
        clear hK K
        try simp only [Act.put, List.getElem_toArray, List.getElem_cons_zero, List.getElem_cons_succ, List.setIfInBounds_toArray, List.set_cons_zero, List.set_cons_succ]
        refine wpAnyH_ready (rs := [27, 30]) (by kernel_rfl) (by simp) ?_
        refine (AllReadyH.cons rfl (fun K hK => ?_) (AllReadyH.cons rfl (fun K hK => ?_) AllReadyH.nil))
        · go_simp
          refine hK.out _ _ hS10 (fun hS11 => ?_)
          clear hK K
          try simp only [Act.put, List.getElem_toArray, List.getElem_cons_zero, List.getElem_cons_succ, List.setIfInBounds_toArray, List.set_cons_zero, List.set_cons_succ]
          refine wpAnyH_ready (rs := [30]) (by kernel_rfl) (by simp) ?_
          refine AllReadyH.cons rfl (fun K hK => ?_) AllReadyH.nil
          go_simp
          refine (BT.out _ (M3.out.later hS11)).mono ?_
          rintro e w3n ⟨rfl, hbn3⟩
          have u3 := run_str_rd (P := Try.prog) w3n (src := 36) (dst := 9) (c := C3) Try.underlying36 Try.underlying5 Try.underlying9 HL3.out (ro3.below hbn3)
          rw [show (⟨(s.data.toList ++ L3).toArray⟩ : ByteArray) = S3 from HS3.out.symm] at u3
          go_simp
          refine hK.out _ _ (hS11.trans ((hbn3).mono hS11.size)) (fun hS12 => ?_)
          clear hK K
          try simp only [Act.put, List.getElem_toArray, List.getElem_cons_zero, List.getElem_cons_succ, List.setIfInBounds_toArray, List.set_cons_zero, List.set_cons_succ]
          refine wpAnyH_take (i := 31) (v := ?_) rfl (by kernel_rfl) (by kernel_rfl) (by kernel_rfl) (fun _ _ _ h => h) (Or.inl ⟨by rfl, ?_⟩) hS12 ?_
          rotate_left
          · intro W _; go_simp; try with_reducible rfl
          try simp only [Act.put, List.getElem_toArray, List.getElem_cons_zero, List.getElem_cons_succ, List.setIfInBounds_toArray, List.set_cons_zero, List.set_cons_succ]
          refine wpAnyH_take (i := 32) (v := ?_) rfl (by kernel_rfl) (by kernel_rfl) (by kernel_rfl) (fun _ _ _ h => h) (Or.inl ⟨by rfl, ?_⟩) hS12 ?_
          rotate_left
          · intro W _; go_simp; try with_reducible rfl
          try simp only [Act.put, List.getElem_toArray, List.getElem_cons_zero, List.getElem_cons_succ, List.setIfInBounds_toArray, List.set_cons_zero, List.set_cons_succ]
          refine wpAnyH_take (i := 33) (v := ?_) rfl (by kernel_rfl) (by kernel_rfl) (by kernel_rfl) (fun _ _ _ h => h) (Or.inl ⟨by rfl, ?_⟩) hS12 ?_
          rotate_left
          · intro W _; go_simp; try with_reducible rfl
          try simp only [Act.put, List.getElem_toArray, List.getElem_cons_zero, List.getElem_cons_succ, List.setIfInBounds_toArray, List.set_cons_zero, List.set_cons_succ]
          refine wpAnyH_take (i := 34) (v := ?_) rfl (by kernel_rfl) (by kernel_rfl) (by kernel_rfl) (fun _ _ _ h => h) (Or.inl ⟨by rfl, ?_⟩) hS12 ?_
          rotate_left
          · intro W _; go_simp; try with_reducible rfl
          try simp only [Act.put, List.getElem_toArray, List.getElem_cons_zero, List.getElem_cons_succ, List.setIfInBounds_toArray, List.set_cons_zero, List.set_cons_succ]
          refine wpAnyH_done (by kernel_rfl) ?_ _
          go_wp2
          go_ret
          exact ⟨by simp, T3.out.1.trans (hS12.mono T3.out.1.size)⟩
        · go_simp
          refine (BT.out _ (M3.out.later hS10)).mono ?_
          rintro e w3n ⟨rfl, hbn3⟩
          have u3 := run_str_rd (P := Try.prog) w3n (src := 36) (dst := 9) (c := C3) Try.underlying36 Try.underlying5 Try.underlying9 HL3.out (ro3.below hbn3)
          rw [show (⟨(s.data.toList ++ L3).toArray⟩ : ByteArray) = S3 from HS3.out.symm] at u3
          go_simp
          refine hK.out _ _ (hS10.trans ((hbn3).mono hS10.size)) (fun hS11 => ?_)
          clear hK K
          try simp only [Act.put, List.getElem_toArray, List.getElem_cons_zero, List.getElem_cons_succ, List.setIfInBounds_toArray, List.set_cons_zero, List.set_cons_succ]
          refine wpAnyH_take (i := 31) (v := ?_) rfl (by kernel_rfl) (by kernel_rfl) (by kernel_rfl) (fun _ _ _ h => h) (Or.inl ⟨by rfl, ?_⟩) hS11 ?_
          rotate_left
          · intro W _; go_simp; try with_reducible rfl
          try simp only [Act.put, List.getElem_toArray, List.getElem_cons_zero, List.getElem_cons_succ, List.setIfInBounds_toArray, List.set_cons_zero, List.set_cons_succ]
          refine wpAnyH_ready (rs := [27]) (by kernel_rfl) (by simp) ?_
          refine AllReadyH.cons rfl (fun K hK => ?_) AllReadyH.nil
          go_simp
          refine hK.out _ _ hS11 (fun hS12 => ?_)
          clear hK K
          try simp only [Act.put, List.getElem_toArray, List.getElem_cons_zero, List.getElem_cons_succ, List.setIfInBounds_toArray, List.set_cons_zero, List.set_cons_succ]
          refine wpAnyH_take (i := 32) (v := ?_) rfl (by kernel_rfl) (by kernel_rfl) (by kernel_rfl) (fun _ _ _ h => h) (Or.inl ⟨by rfl, ?_⟩) hS12 ?_
          rotate_left
          · intro W _; go_simp; try with_reducible rfl
          try simp only [Act.put, List.getElem_toArray, List.getElem_cons_zero, List.getElem_cons_succ, List.setIfInBounds_toArray, List.set_cons_zero, List.set_cons_succ]
          refine wpAnyH_take (i := 33) (v := ?_) rfl (by kernel_rfl) (by kernel_rfl) (by kernel_rfl) (fun _ _ _ h => h) (Or.inl ⟨by rfl, ?_⟩) hS12 ?_
          rotate_left
          · intro W _; go_simp; try with_reducible rfl
          try simp only [Act.put, List.getElem_toArray, List.getElem_cons_zero, List.getElem_cons_succ, List.setIfInBounds_toArray, List.set_cons_zero, List.set_cons_succ]
          refine wpAnyH_take (i := 34) (v := ?_) rfl (by kernel_rfl) (by kernel_rfl) (by kernel_rfl) (fun _ _ _ h => h) (Or.inl ⟨by rfl, ?_⟩) hS12 ?_
          rotate_left
          · intro W _; go_simp; try with_reducible rfl
          try simp only [Act.put, List.getElem_toArray, List.getElem_cons_zero, List.getElem_cons_succ, List.setIfInBounds_toArray, List.set_cons_zero, List.set_cons_succ]
          refine wpAnyH_done (by kernel_rfl) ?_ _
          go_wp2
          go_ret
          exact ⟨by simp, T3.out.1.trans (hS12.mono T3.out.1.size)⟩
      · go_simp
        refine (BQ.out _).mono ?_
        rintro e w2n ⟨rfl, hbn2⟩
        have u2 := run_str_rd (P := Try.prog) w2n (src := 36) (dst := 9) (c := C2) Try.underlying36 Try.underlying5 Try.underlying9 HL2.out (ro2.below hbn2)
        rw [show (⟨(s.data.toList ++ L2).toArray⟩ : ByteArray) = S2 from HS2.out.symm] at u2
        go_simp
        refine hK.out _ _ (hS6.trans ((hbn2).mono hS6.size)) (fun hS7 => ?_)
        clear hK K
        try simp only [Act.put, List.getElem_toArray, List.getElem_cons_zero, List.getElem_cons_succ, List.setIfInBounds_toArray, List.set_cons_zero, List.set_cons_succ]
        refine wpAnyH_take (i := 19) (v := ?_) rfl (by kernel_rfl) (by kernel_rfl) (by kernel_rfl) (fun _ _ _ h => h) (Or.inl ⟨by rfl, ?_⟩) hS7 ?_
        rotate_left
        · intro W _; go_simp; try with_reducible rfl
        try simp only [Act.put, List.getElem_toArray, List.getElem_cons_zero, List.getElem_cons_succ, List.setIfInBounds_toArray, List.set_cons_zero, List.set_cons_succ]
        refine wpAnyH_ready (rs := [15]) (by kernel_rfl) (by simp) ?_
        refine AllReadyH.cons rfl (fun K hK => ?_) AllReadyH.nil
        go_simp
        refine hK.out _ _ hS7 (fun hS8 => ?_)
        clear hK K
        try simp only [Act.put, List.getElem_toArray, List.getElem_cons_zero, List.getElem_cons_succ, List.setIfInBounds_toArray, List.set_cons_zero, List.set_cons_succ]
        refine wpAnyH_take (i := 20) (v := ?_) rfl (by kernel_rfl) (by kernel_rfl) (by kernel_rfl) (fun _ _ _ h => h) (Or.inl ⟨by rfl, ?_⟩) hS8 ?_
        rotate_left
        · intro W _; go_simp; try with_reducible rfl
        try simp only [Act.put, List.getElem_toArray, List.getElem_cons_zero, List.getElem_cons_succ, List.setIfInBounds_toArray, List.set_cons_zero, List.set_cons_succ]
        refine wpAnyH_take (i := 21) (v := ?_) rfl (by kernel_rfl) (by kernel_rfl) (by kernel_rfl) (fun _ _ _ h => h) (Or.inl ⟨by rfl, ?_⟩) hS8 ?_
        rotate_left
        · intro W _; go_simp; try with_reducible rfl
        try simp only [Act.put, List.getElem_toArray, List.getElem_cons_zero, List.getElem_cons_succ, List.setIfInBounds_toArray, List.set_cons_zero, List.set_cons_succ]
        refine wpAnyH_take (i := 22) (v := ?_) rfl (by kernel_rfl) (by kernel_rfl) (by kernel_rfl) (fun _ _ _ h => h) (Or.inl ⟨by rfl, ?_⟩) hS8 ?_
        rotate_left
        · intro W _; go_simp; try with_reducible rfl
        try simp only [Act.put, List.getElem_toArray, List.getElem_cons_zero, List.getElem_cons_succ, List.setIfInBounds_toArray, List.set_cons_zero, List.set_cons_succ]
        refine wpAnyH_take (i := 23) (v := ?_) rfl (by kernel_rfl) (by kernel_rfl) (by kernel_rfl) (fun _ _ _ h => h) (Or.inl ⟨by rfl, ?_⟩) hS8 ?_
        rotate_left
        · intro W _; go_simp; try with_reducible rfl
        try simp only [Act.put, List.getElem_toArray, List.getElem_cons_zero, List.getElem_cons_succ, List.setIfInBounds_toArray, List.set_cons_zero, List.set_cons_succ]
        refine wpAnyH_take (i := 25) (v := ?_) rfl (by kernel_rfl) (by kernel_rfl) (by kernel_rfl) (fun _ _ _ h => h) (Or.inl ⟨by rfl, ?_⟩) hS8 ?_
        rotate_left
        · intro W hSW; have hx : ∀ b o, b < w3.heap.size → W.cell? ⟨b, o, none⟩ = w3.cell? ⟨b, o, none⟩ := fun b o h => hSW.cell (p := ⟨b, o, none⟩) h; go_simp; try with_reducible rfl
        try simp only [Act.put, List.getElem_toArray, List.getElem_cons_zero, List.getElem_cons_succ, List.setIfInBounds_toArray, List.set_cons_zero, List.set_cons_succ]
        refine wpAnyH_take (i := 28) (v := ?_) rfl (by kernel_rfl) (by kernel_rfl) (by kernel_rfl) (fun _ _ _ h => h) (Or.inl ⟨by rfl, ?_⟩) hS8 ?_
        rotate_left
        · intro W _; go_simp; try with_reducible rfl
        try simp only [Act.put, List.getElem_toArray, List.getElem_cons_zero, List.getElem_cons_succ, List.setIfInBounds_toArray, List.set_cons_zero, List.set_cons_succ]
        refine wpAnyH_take (i := 29) (v := ?_) rfl (by kernel_rfl) (by kernel_rfl) (by kernel_rfl) (fun _ _ _ h => h) (Or.inl ⟨by rfl, ?_⟩) hS8 ?_
        rotate_left
        · intro W hSW; have hx : ∀ b o, b < w3.heap.size → W.cell? ⟨b, o, none⟩ = w3.cell? ⟨b, o, none⟩ := fun b o h => hSW.cell (p := ⟨b, o, none⟩) h; go_simp; try with_reducible rfl
        try simp only [Act.put, List.getElem_toArray, List.getElem_cons_zero, List.getElem_cons_succ, List.setIfInBounds_toArray, List.set_cons_zero, List.set_cons_succ]
        refine wpAnyH_ready (rs := [24]) (by kernel_rfl) (by simp) ?_
        refine AllReadyH.cons rfl (fun K hK => ?_) AllReadyH.nil
        obtain ⟨cA3, wA3, hA3, rA3, bA3, sA3, lA3, mA3⟩ := run_bytes_rd (P := Try.prog) w2n (src := 9) (dst := 36) (e := 5) (s := s) Try.underlying9 Try.underlying36 Try.underlying5 (by unfold maxLen; omega)
        go_simp
        refine hK.out _ _ (hS8.trans ((bA3).mono hS8.size)) (fun hS9 => ?_)
        clear hK K
        try simp only [Act.put, List.getElem_toArray, List.getElem_cons_zero, List.getElem_cons_succ, List.setIfInBounds_toArray, List.set_cons_zero, List.set_cons_succ]
        refine wpAnyH_ready (rs := [26]) (by kernel_rfl) (by simp) ?_
        refine AllReadyH.cons rfl (fun K hK => ?_) AllReadyH.nil
        go_simp
        refine (PT.out _ _ _ rA3 (M3.out.later hS9)).mono ?_
        rintro e w3p ⟨G3, C3, rfl, ro3, co3, cm3, ho3, hbp3⟩
        have q3 := run_str_rd (P := Try.prog) w3p (src := 36) (dst := 9) (c := C3) Try.underlying36 Try.underlying5 Try.underlying9 HL3.out ro3
        rw [show (⟨(s.data.toList ++ L3).toArray⟩ : ByteArray) = S3 from HS3.out.symm] at q3
        go_simp
        refine hK.out _ _ (hS9.trans ((hbp3).mono hS9.size)) (fun hS10 => ?_)
        clear hK K
        try simp only [Act.put, List.getElem_toArray, List.getElem_cons_zero, List.getElem_cons_succ, List.setIfInBounds_toArray, List.set_cons_zero, List.set_cons_succ]
        refine wpAnyH_ready (rs := [27, 30]) (by kernel_rfl) (by simp) ?_
        refine (AllReadyH.cons rfl (fun K hK => ?_) (AllReadyH.cons rfl (fun K hK => ?_) AllReadyH.nil))
        · go_simp
          refine hK.out _ _ hS10 (fun hS11 => ?_)
          clear hK K
          try simp only [Act.put, List.getElem_toArray, List.getElem_cons_zero, List.getElem_cons_succ, List.setIfInBounds_toArray, List.set_cons_zero, List.set_cons_succ]
          refine wpAnyH_ready (rs := [30]) (by kernel_rfl) (by simp) ?_
          refine AllReadyH.cons rfl (fun K hK => ?_) AllReadyH.nil
          go_simp
          refine (BT.out _ (M3.out.later hS11)).mono ?_
          rintro e w3n ⟨rfl, hbn3⟩
          have u3 := run_str_rd (P := Try.prog) w3n (src := 36) (dst := 9) (c := C3) Try.underlying36 Try.underlying5 Try.underlying9 HL3.out (ro3.below hbn3)
          rw [show (⟨(s.data.toList ++ L3).toArray⟩ : ByteArray) = S3 from HS3.out.symm] at u3
          go_simp
          refine hK.out _ _ (hS11.trans ((hbn3).mono hS11.size)) (fun hS12 => ?_)
          clear hK K
          try simp only [Act.put, List.getElem_toArray, List.getElem_cons_zero, List.getElem_cons_succ, List.setIfInBounds_toArray, List.set_cons_zero, List.set_cons_succ]
          refine wpAnyH_take (i := 31) (v := ?_) rfl (by kernel_rfl) (by kernel_rfl) (by kernel_rfl) (fun _ _ _ h => h) (Or.inl ⟨by rfl, ?_⟩) hS12 ?_
          rotate_left
          · intro W _; go_simp; try with_reducible rfl
          try simp only [Act.put, List.getElem_toArray, List.getElem_cons_zero, List.getElem_cons_succ, List.setIfInBounds_toArray, List.set_cons_zero, List.set_cons_succ]
          refine wpAnyH_take (i := 32) (v := ?_) rfl (by kernel_rfl) (by kernel_rfl) (by kernel_rfl) (fun _ _ _ h => h) (Or.inl ⟨by rfl, ?_⟩) hS12 ?_
          rotate_left
          · intro W _; go_simp; try with_reducible rfl
          try simp only [Act.put, List.getElem_toArray, List.getElem_cons_zero, List.getElem_cons_succ, List.setIfInBounds_toArray, List.set_cons_zero, List.set_cons_succ]
          refine wpAnyH_take (i := 33) (v := ?_) rfl (by kernel_rfl) (by kernel_rfl) (by kernel_rfl) (fun _ _ _ h => h) (Or.inl ⟨by rfl, ?_⟩) hS12 ?_
          rotate_left
          · intro W _; go_simp; try with_reducible rfl
          try simp only [Act.put, List.getElem_toArray, List.getElem_cons_zero, List.getElem_cons_succ, List.setIfInBounds_toArray, List.set_cons_zero, List.set_cons_succ]
          refine wpAnyH_take (i := 34) (v := ?_) rfl (by kernel_rfl) (by kernel_rfl) (by kernel_rfl) (fun _ _ _ h => h) (Or.inl ⟨by rfl, ?_⟩) hS12 ?_
          rotate_left
          · intro W _; go_simp; try with_reducible rfl
          try simp only [Act.put, List.getElem_toArray, List.getElem_cons_zero, List.getElem_cons_succ, List.setIfInBounds_toArray, List.set_cons_zero, List.set_cons_succ]
          refine wpAnyH_done (by kernel_rfl) ?_ _
          go_wp2
          go_ret
          exact ⟨by simp, T3.out.1.trans (hS12.mono T3.out.1.size)⟩
        · go_simp
          refine (BT.out _ (M3.out.later hS10)).mono ?_
          rintro e w3n ⟨rfl, hbn3⟩
          have u3 := run_str_rd (P := Try.prog) w3n (src := 36) (dst := 9) (c := C3) Try.underlying36 Try.underlying5 Try.underlying9 HL3.out (ro3.below hbn3)
          rw [show (⟨(s.data.toList ++ L3).toArray⟩ : ByteArray) = S3 from HS3.out.symm] at u3
          go_simp
          refine hK.out _ _ (hS10.trans ((hbn3).mono hS10.size)) (fun hS11 => ?_)
          clear hK K
          try simp only [Act.put, List.getElem_toArray, List.getElem_cons_zero, List.getElem_cons_succ, List.setIfInBounds_toArray, List.set_cons_zero, List.set_cons_succ]
          refine wpAnyH_take (i := 31) (v := ?_) rfl (by kernel_rfl) (by kernel_rfl) (by kernel_rfl) (fun _ _ _ h => h) (Or.inl ⟨by rfl, ?_⟩) hS11 ?_
          rotate_left
          · intro W _; go_simp; try with_reducible rfl
          try simp only [Act.put, List.getElem_toArray, List.getElem_cons_zero, List.getElem_cons_succ, List.setIfInBounds_toArray, List.set_cons_zero, List.set_cons_succ]
          refine wpAnyH_ready (rs := [27]) (by kernel_rfl) (by simp) ?_
          refine AllReadyH.cons rfl (fun K hK => ?_) AllReadyH.nil
          go_simp
          refine hK.out _ _ hS11 (fun hS12 => ?_)
          clear hK K
          try simp only [Act.put, List.getElem_toArray, List.getElem_cons_zero, List.getElem_cons_succ, List.setIfInBounds_toArray, List.set_cons_zero, List.set_cons_succ]
          refine wpAnyH_take (i := 32) (v := ?_) rfl (by kernel_rfl) (by kernel_rfl) (by kernel_rfl) (fun _ _ _ h => h) (Or.inl ⟨by rfl, ?_⟩) hS12 ?_
          rotate_left
          · intro W _; go_simp; try with_reducible rfl
          try simp only [Act.put, List.getElem_toArray, List.getElem_cons_zero, List.getElem_cons_succ, List.setIfInBounds_toArray, List.set_cons_zero, List.set_cons_succ]
          refine wpAnyH_take (i := 33) (v := ?_) rfl (by kernel_rfl) (by kernel_rfl) (by kernel_rfl) (fun _ _ _ h => h) (Or.inl ⟨by rfl, ?_⟩) hS12 ?_
          rotate_left
          · intro W _; go_simp; try with_reducible rfl
          try simp only [Act.put, List.getElem_toArray, List.getElem_cons_zero, List.getElem_cons_succ, List.setIfInBounds_toArray, List.set_cons_zero, List.set_cons_succ]
          refine wpAnyH_take (i := 34) (v := ?_) rfl (by kernel_rfl) (by kernel_rfl) (by kernel_rfl) (fun _ _ _ h => h) (Or.inl ⟨by rfl, ?_⟩) hS12 ?_
          rotate_left
          · intro W _; go_simp; try with_reducible rfl
          try simp only [Act.put, List.getElem_toArray, List.getElem_cons_zero, List.getElem_cons_succ, List.setIfInBounds_toArray, List.set_cons_zero, List.set_cons_succ]
          refine wpAnyH_done (by kernel_rfl) ?_ _
          go_wp2
          go_ret
          exact ⟨by simp, T3.out.1.trans (hS12.mono T3.out.1.size)⟩
end Go.Proofs.Ytgedofggkfmlnaa.modelRights
