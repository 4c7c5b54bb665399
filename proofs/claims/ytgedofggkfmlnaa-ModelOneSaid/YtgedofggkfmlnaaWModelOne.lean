/- The walk of ModelOne: what is taken can be, and its bytes are just those that were read. Conditions: a string that Go can have, an int. -/
import Derived.Test.YtgedofggkfmlnaaNeq
import Derived.Test.YtgedofggkfmlnaaOne
import Derived.Test.YtgedofggkfmlnaaRen
import Derived.Lib.Strings
import Derived.Deep.RegionHeld3
import Derived.Deep.DrawnRows
namespace Go.Proofs.Ytgedofggkfmlnaa.modelOne
open Go.RowKit
set_option linter.unusedSimpArgs false
set_option linter.unusedVariables false

theorem nd_eta (r : Nd × (Int × Int)) : ∃ nm a b c l nx er, r = (⟨nm, a, b, c, l⟩, (nx, er)) := ⟨_, _, _, _, _, _, _, rfl⟩
theorem qu_eta (r : Qu × (Int × Int)) : ∃ nm a b c nx er, r = (⟨nm, a, b, c⟩, (nx, er)) := ⟨_, _, _, _, _, _, rfl⟩
theorem tk_eta (r : Tk × (Int × Int)) : ∃ nm qu pr a b c l ap ga sz nx er, r = (⟨nm, qu, pr, a, b, c, l, ap, ga, sz⟩, (nx, er)) := ⟨_, _, _, _, _, _, _, _, _, _, _, _, rfl⟩

attribute [local go_sem ↓] Go.wp_at_zero Go.wp_at_succ
set_option maxHeartbeats 16000000 in
set_option maxRecDepth 100000 in
theorem walk (s : ByteArray) (at_ : Int) (w : World) (zs : s.size ≤ 140737488351232) (wa : (Lit.int .i64 at_).wf = true) :
    Calls Try.prog 6 #[.string s, .int .i64 at_] w fun e w' => e = .returned (.bool true) ∧ Below w.heap.size w w' := by
  clear wa
  have hsl : Hid (s.size = s.data.toList.length) := (str_len s).symm
  obtain ⟨l, hl⟩ : ∃ l, l = s.data.toList := ⟨_, rfl⟩
  have HL : Hid (l = s.data.toList) := hl
  have hsl' : Hid (s.size = l.length) := by show _ = _; rw [hl]; exact hsl.out
  have k1 := fun A c W (hr : Rd W A l) (hc : s.size ≤ c) (hm : c ≤ 9223372036854775807) => takeNode_any A s.size c at_ l W hsl' (Lib.hid hr) hc hm
  have k2 := fun A c W (hr : Rd W A l) (hc : s.size ≤ c) (hm : c ≤ 9223372036854775807) => takeQueue_any A s.size c at_ l W hsl' (Lib.hid hr) hc hm
  have k3 := fun A c W (hr : Rd W A l) (hc : s.size ≤ c) (hm : c ≤ 9223372036854775807) => takeTask_any A s.size c at_ l W hsl' (Lib.hid hr) hc hm
  have o1 := @one_node l at_
  have o2 := @one_queue l at_
  have o3 := @one_task l at_
  obtain ⟨nm1, a1, b1, c1, l1, nx1, er1, h1⟩ := nd_eta (tNode l at_)
  obtain ⟨nm2, a2, b2, c2, nx2, er2, h2⟩ := qu_eta (tQueue l at_)
  obtain ⟨nm3, qu3, pr3, a3, b3, c3, l3, ap3, ga3, sz3, nx3, er3, h3⟩ := tk_eta (tTask l at_)
  rw [h1] at k1 o1
  rw [h2] at k2 o2
  rw [h3] at k3 o3
  unfold retNode at k1
  unfold retQueue at k2
  unfold retTask at k3
  unfold Nd.ok at o1
  unfold Qu.ok at o2
  unfold Tk.ok at o3
  simp only [] at k1 k2 k3 o1 o2 o3
  rw [← hsl'.out] at o1 o2 o3
  have K1 := Lib.hid k1
  have K2 := Lib.hid k2
  have K3 := Lib.hid k3
  have O1 := Lib.hid o1
  have O2 := Lib.hid o2
  have O3 := Lib.hid o3
  clear k1 k2 k3 o1 o2 o3 h1 h2 h3 hl hsl
  go_enter Try.func6, Try.ntmps6
  go_wp2_with fail
  refine (awake_any _).mono ?_
  rintro e w1 ⟨rfl, hb1⟩
  have T1 : Hid (Below w.heap.size w w1) := hb1
  clear hb1
  go_wp2_with ((with_reducible refine wpList_bytes _ rfl (.tmp 17) 9 36 rfl 5 s Try.underlying9 Try.underlying36 Try.underlying5 (by unfold maxLen; omega) rfl ?_); intro cb1 w2 hrb1 hbb1 hsb1 hcb1 hmb1; unfold maxLen at hmb1; rw [← HL.out] at hrb1)
  have hmb1x : cb1 ≤ 9223372036854775807 := by omega
  (try simp only [World.size_alloc] at hrb1 hsb1)
  clear hmb1
  have T2 : Hid (Below w.heap.size w w2) := T1.out.trans (hbb1.mono T1.out.size)
  clear T1
  refine (K1.out _ _ _ hrb1 hcb1 hmb1x).mono ?_
  rintro e w3 ⟨v1, rfl, ho1, hb3⟩
  have T3 : Hid (Below w.heap.size w w3) := T2.out.trans (hb3.mono T2.out.size)
  clear T2 hrb1 hbb1
  obtain ⟨A1, p1, sl1⟩ := ho1.sl
  obtain ⟨m1, hm1⟩ : ∃ m, m = l1.length := ⟨_, rfl⟩
  have hv1 := sl1.val; rw [← hm1] at hv1; subst hv1
  have ca1 := sl1.cap; rw [← hm1] at ca1
  have cb1x : p1 ≤ 9223372036854775807 := by have := sl1.cap2; unfold maxLen at this; omega
  have HM1 := Lib.hid hm1
  have HRL1 : Hid (RdL w3 A1 l1) := sl1.rd
  clear sl1 ho1 hm1
  have B1 : Hid (Below w.heap.size w (w3.alloc (.cells #[.string nm1, .int .i64 (a1 : Int), .int .i64 (b1 : Int), .int .i64 (c1 : Int), .slice A1 m1 p1] 26)) ∧ Bk (w3.alloc (.cells #[.string nm1, .int .i64 (a1 : Int), .int .i64 (b1 : Int), .int .i64 (c1 : Int), .slice A1 m1 p1] 26)) w3.heap.size 26 #[.string nm1, .int .i64 (a1 : Int), .int .i64 (b1 : Int), .int .i64 (c1 : Int), .slice A1 m1 p1] ∧ RdL (w3.alloc (.cells #[.string nm1, .int .i64 (a1 : Int), .int .i64 (b1 : Int), .int .i64 (c1 : Int), .slice A1 m1 p1] 26)) A1 l1) := ⟨T3.out.alloc T3.out.size _, Bk.fresh _ _ _, HRL1.out.later ((Below.refl _ _).alloc (Nat.le_refl _) _)⟩
  clear T3 hb3 HRL1
  go_wp2_with ((with_reducible refine wpList_bytes _ rfl (.tmp 25) 9 36 rfl 5 s Try.underlying9 Try.underlying36 Try.underlying5 (by unfold maxLen; omega) rfl ?_); intro cb2 w4 hrb2 hbb2 hsb2 hcb2 hmb2; unfold maxLen at hmb2; rw [← HL.out] at hrb2)
  have hmb2x : cb2 ≤ 9223372036854775807 := by omega
  (try simp only [World.size_alloc] at hrb2 hsb2)
  clear hmb2
  have T4 : Hid (Below w.heap.size w w4 ∧ Bk w4 w3.heap.size 26 #[.string nm1, .int .i64 (a1 : Int), .int .i64 (b1 : Int), .int .i64 (c1 : Int), .slice A1 m1 p1] ∧ RdL w4 A1 l1) := ⟨B1.out.1.trans (hbb2.mono B1.out.1.size), B1.out.2.1.later hbb2, B1.out.2.2.later hbb2⟩
  clear B1
  refine (K2.out _ _ _ hrb2 hcb2 hmb2x).mono ?_
  rintro e w5 ⟨rfl, hb5⟩
  have T5 : Hid (Below w.heap.size w w5 ∧ Bk w5 w3.heap.size 26 #[.string nm1, .int .i64 (a1 : Int), .int .i64 (b1 : Int), .int .i64 (c1 : Int), .slice A1 m1 p1] ∧ RdL w5 A1 l1) := ⟨T4.out.1.trans (hb5.mono T4.out.1.size), T4.out.2.1.later hb5, T4.out.2.2.later hb5⟩
  clear T4 hrb2 hbb2
  have B2 : Hid (Below w.heap.size w (w5.alloc (.cells #[.string nm2, .int .i64 (a2 : Int), .int .i64 (b2 : Int), .int .i64 (c2 : Int)] 28)) ∧ Bk (w5.alloc (.cells #[.string nm2, .int .i64 (a2 : Int), .int .i64 (b2 : Int), .int .i64 (c2 : Int)] 28)) w3.heap.size 26 #[.string nm1, .int .i64 (a1 : Int), .int .i64 (b1 : Int), .int .i64 (c1 : Int), .slice A1 m1 p1] ∧ RdL (w5.alloc (.cells #[.string nm2, .int .i64 (a2 : Int), .int .i64 (b2 : Int), .int .i64 (c2 : Int)] 28)) A1 l1 ∧ Bk (w5.alloc (.cells #[.string nm2, .int .i64 (a2 : Int), .int .i64 (b2 : Int), .int .i64 (c2 : Int)] 28)) w5.heap.size 28 #[.string nm2, .int .i64 (a2 : Int), .int .i64 (b2 : Int), .int .i64 (c2 : Int)]) := ⟨T5.out.1.alloc T5.out.1.size _, T5.out.2.1.later ((Below.refl _ _).alloc (Nat.le_refl _) _), T5.out.2.2.later ((Below.refl _ _).alloc (Nat.le_refl _) _), Bk.fresh _ _ _⟩
  clear T5 hb5
  go_wp2_with ((with_reducible refine wpList_bytes _ rfl (.tmp 33) 9 36 rfl 5 s Try.underlying9 Try.underlying36 Try.underlying5 (by unfold maxLen; omega) rfl ?_); intro cb3 w6 hrb3 hbb3 hsb3 hcb3 hmb3; unfold maxLen at hmb3; rw [← HL.out] at hrb3)
  have hmb3x : cb3 ≤ 9223372036854775807 := by omega
  (try simp only [World.size_alloc] at hrb3 hsb3)
  clear hmb3
  have T6 : Hid (Below w.heap.size w w6 ∧ Bk w6 w3.heap.size 26 #[.string nm1, .int .i64 (a1 : Int), .int .i64 (b1 : Int), .int .i64 (c1 : Int), .slice A1 m1 p1] ∧ RdL w6 A1 l1 ∧ Bk w6 w5.heap.size 28 #[.string nm2, .int .i64 (a2 : Int), .int .i64 (b2 : Int), .int .i64 (c2 : Int)]) := ⟨B2.out.1.trans (hbb3.mono B2.out.1.size), B2.out.2.1.later hbb3, B2.out.2.2.1.later hbb3, B2.out.2.2.2.later hbb3⟩
  clear B2
  refine (K3.out _ _ _ hrb3 hcb3 hmb3x).mono ?_
  rintro e w7 ⟨v3, rfl, ho3, hb7⟩
  have T7 : Hid (Below w.heap.size w w7 ∧ Bk w7 w3.heap.size 26 #[.string nm1, .int .i64 (a1 : Int), .int .i64 (b1 : Int), .int .i64 (c1 : Int), .slice A1 m1 p1] ∧ RdL w7 A1 l1 ∧ Bk w7 w5.heap.size 28 #[.string nm2, .int .i64 (a2 : Int), .int .i64 (b2 : Int), .int .i64 (c2 : Int)]) := ⟨T6.out.1.trans (hb7.mono T6.out.1.size), T6.out.2.1.later hb7, T6.out.2.2.1.later hb7, T6.out.2.2.2.later hb7⟩
  clear T6 hrb3 hbb3
  obtain ⟨A3, p3, sl3⟩ := ho3.sl
  obtain ⟨m3, hm3⟩ : ∃ m, m = l3.length := ⟨_, rfl⟩
  have hv3 := sl3.val; rw [← hm3] at hv3; subst hv3
  have ca3 := sl3.cap; rw [← hm3] at ca3
  have cb3x : p3 ≤ 9223372036854775807 := by have := sl3.cap2; unfold maxLen at this; omega
  have HM3 := Lib.hid hm3
  have HRL3 : Hid (RdL w7 A3 l3) := sl3.rd
  clear sl3 ho3 hm3
  have B3 : Hid (Below w.heap.size w (w7.alloc (.cells #[.string nm3, .string qu3, .int .i64 (pr3 : Int), .int .i64 (a3 : Int), .int .i64 (b3 : Int), .int .i64 (c3 : Int), .slice A3 m3 p3, .string ap3, .string ga3, .int .i64 (sz3 : Int)] 30)) ∧ Bk (w7.alloc (.cells #[.string nm3, .string qu3, .int .i64 (pr3 : Int), .int .i64 (a3 : Int), .int .i64 (b3 : Int), .int .i64 (c3 : Int), .slice A3 m3 p3, .string ap3, .string ga3, .int .i64 (sz3 : Int)] 30)) w3.heap.size 26 #[.string nm1, .int .i64 (a1 : Int), .int .i64 (b1 : Int), .int .i64 (c1 : Int), .slice A1 m1 p1] ∧ RdL (w7.alloc (.cells #[.string nm3, .string qu3, .int .i64 (pr3 : Int), .int .i64 (a3 : Int), .int .i64 (b3 : Int), .int .i64 (c3 : Int), .slice A3 m3 p3, .string ap3, .string ga3, .int .i64 (sz3 : Int)] 30)) A1 l1 ∧ Bk (w7.alloc (.cells #[.string nm3, .string qu3, .int .i64 (pr3 : Int), .int .i64 (a3 : Int), .int .i64 (b3 : Int), .int .i64 (c3 : Int), .slice A3 m3 p3, .string ap3, .string ga3, .int .i64 (sz3 : Int)] 30)) w5.heap.size 28 #[.string nm2, .int .i64 (a2 : Int), .int .i64 (b2 : Int), .int .i64 (c2 : Int)] ∧ Bk (w7.alloc (.cells #[.string nm3, .string qu3, .int .i64 (pr3 : Int), .int .i64 (a3 : Int), .int .i64 (b3 : Int), .int .i64 (c3 : Int), .slice A3 m3 p3, .string ap3, .string ga3, .int .i64 (sz3 : Int)] 30)) w7.heap.size 30 #[.string nm3, .string qu3, .int .i64 (pr3 : Int), .int .i64 (a3 : Int), .int .i64 (b3 : Int), .int .i64 (c3 : Int), .slice A3 m3 p3, .string ap3, .string ga3, .int .i64 (sz3 : Int)] ∧ RdL (w7.alloc (.cells #[.string nm3, .string qu3, .int .i64 (pr3 : Int), .int .i64 (a3 : Int), .int .i64 (b3 : Int), .int .i64 (c3 : Int), .slice A3 m3 p3, .string ap3, .string ga3, .int .i64 (sz3 : Int)] 30)) A3 l3) := ⟨T7.out.1.alloc T7.out.1.size _, T7.out.2.1.later ((Below.refl _ _).alloc (Nat.le_refl _) _), T7.out.2.2.1.later ((Below.refl _ _).alloc (Nat.le_refl _) _), T7.out.2.2.2.later ((Below.refl _ _).alloc (Nat.le_refl _) _), Bk.fresh _ _ _, HRL3.out.later ((Below.refl _ _).alloc (Nat.le_refl _) _)⟩
  clear T7 hb7 HRL3
  go_wp2_with fail
  obtain ⟨w8, hw8⟩ : ∃ W, W = (w7.alloc (.cells #[.string nm3, .string qu3, .int .i64 (pr3 : Int), .int .i64 (a3 : Int), .int .i64 (b3 : Int), .int .i64 (c3 : Int), .slice A3 m3 p3, .string ap3, .string ga3, .int .i64 (sz3 : Int)] 30)) := ⟨_, rfl⟩
  rw [← hw8] at B3 ⊢
  clear hw8
  by_cases h0 : er1 = 0
  case pos =>
    subst h0
    obtain ⟨ok, g0, g1, g2, g3⟩ := O1.out rfl
    clear O1
    have hv := ok
    unfold nodeB at hv
    simp only [Bool.and_eq_true] at hv
    have y1 := (nameB_le hv.1.1).2
    have SH := Lib.hid (labelsB_le hv.2).2.sz
    have kn := fun W (h : RdL W A1 l1) => node_any nm1 (a1 : Int) (b1 : Int) (c1 : Int) A1 m1 p1 l1 W (by omega) HM1 (Lib.hid h) SH ca1 cb1x
    rw [ok] at kn
    have hbyt : nodeBytes nm1 (a1 : Int) (b1 : Int) (c1 : Int) l1 = nodeEnc nm1 (a1 : Int) (b1 : Int) (c1 : Int) l1 := if_pos ok
    obtain ⟨N, hN⟩ : ∃ N, N = (nodeEnc nm1 (a1 : Int) (b1 : Int) (c1 : Int) l1).length := ⟨_, rfl⟩
    have pn := fun W (h : RdL W A1 l1) => putNode_any none 0 0 [] nm1 (a1 : Int) (b1 : Int) (c1 : Int) A1 m1 p1 l1 N W rfl (Rd.nil _ _) (by decide) (by omega) HM1 (Lib.hid h) SH ca1 cb1x (by show _ = _; rw [hbyt, List.nil_append]; exact hN)
    rw [hbyt, List.nil_append] at pn
    clear hbyt
    generalize nodeEnc nm1 (a1 : Int) (b1 : Int) (c1 : Int) l1 = L at g3 pn hN
    obtain ⟨E, hE⟩ : ∃ E, E = S L := ⟨_, rfl⟩
    have hex : s.extract at_.toNat nx1.toNat = E := by rw [Lib.extract_eq, ← HL.out, ← g3, hE]; rfl
    have KN := Lib.hid kn
    have PN := Lib.hid pn
    have HN := Lib.hid hN
    have HE := Lib.hid hE
    have x1 : decide ((s.size : Int) < nx1) = false := decide_eq_false (by omega)
    have x2 : ¬ (s.size : Int) < nx1 := by omega
    have x3 : decide (nx1 ≤ (s.size : Int)) = true := decide_eq_true (by omega)
    clear kn pn hN hE g3 hv ok
    have f0 : w8.cell? ⟨w3.heap.size, 0, none⟩ = some (.string nm1) := B3.out.2.1.cellAt 0
    have f1 : w8.cell? ⟨w3.heap.size, 1, none⟩ = some (.int .i64 (a1 : Int)) := B3.out.2.1.cellAt 1
    have f2 : w8.cell? ⟨w3.heap.size, 2, none⟩ = some (.int .i64 (b1 : Int)) := B3.out.2.1.cellAt 2
    have f3 : w8.cell? ⟨w3.heap.size, 3, none⟩ = some (.int .i64 (c1 : Int)) := B3.out.2.1.cellAt 3
    have f4 : w8.cell? ⟨w3.heap.size, 4, none⟩ = some (.slice A1 m1 p1) := B3.out.2.1.cellAt 4
    have zz : w3.heap.size < w8.heap.size := B3.out.2.1.here
    refine wp_region_held_drew (S := fun W => Below w8.heap.size w8 W) (by kernel_rfl) (Below.drew (Below.refl _ _)) (fun hS0 => ?_)
    refine wpAnyH_take (i := 0) (v := ?_) rfl (by kernel_rfl) (by kernel_rfl) (by kernel_rfl) (fun _ _ _ h => h) (Or.inl ⟨by rfl, ?_⟩) hS0 ?_
    rotate_left
    · intro W _; go_simp; try with_reducible rfl
    try simp only [Act.put, List.getElem_toArray, List.getElem_cons_zero, List.setIfInBounds_toArray, List.set_cons_zero, List.set_cons_succ]
    refine wpAnyH_take (i := 1) (v := ?_) rfl (by kernel_rfl) (by kernel_rfl) (by kernel_rfl) (fun _ _ _ h => h) (Or.inl ⟨by rfl, ?_⟩) hS0 ?_
    rotate_left
    · intro W _; go_simp; try with_reducible rfl
    try simp only [Act.put, List.getElem_toArray, List.getElem_cons_zero, List.getElem_cons_succ, List.setIfInBounds_toArray, List.set_cons_zero, List.set_cons_succ]
    refine wpAnyH_take (i := 2) (v := ?_) rfl (by kernel_rfl) (by kernel_rfl) (by kernel_rfl) (fun _ _ _ h => h) (Or.inl ⟨by rfl, ?_⟩) hS0 ?_
    rotate_left
    · intro W _; go_simp; try with_reducible rfl
    try simp only [Act.put, List.getElem_toArray, List.getElem_cons_zero, List.getElem_cons_succ, List.setIfInBounds_toArray, List.set_cons_zero, List.set_cons_succ]
    refine wpAnyH_take (i := 3) (v := ?_) rfl (by kernel_rfl) (by kernel_rfl) (by kernel_rfl) (fun _ _ _ h => h) (Or.inl ⟨by rfl, ?_⟩) hS0 ?_
    rotate_left
    · intro W _; go_simp; try with_reducible rfl
    try simp only [Act.put, List.getElem_toArray, List.getElem_cons_zero, List.getElem_cons_succ, List.setIfInBounds_toArray, List.set_cons_zero, List.set_cons_succ]
    refine wpAnyH_take (i := 4) (v := ?_) rfl (by kernel_rfl) (by kernel_rfl) (by kernel_rfl) (fun _ _ _ h => h) (Or.inl ⟨by rfl, ?_⟩) hS0 ?_
    rotate_left
    · intro W _; go_simp; try with_reducible rfl
    try simp only [Act.put, List.getElem_toArray, List.getElem_cons_zero, List.getElem_cons_succ, List.setIfInBounds_toArray, List.set_cons_zero, List.set_cons_succ]
    refine wpAnyH_take (i := 5) (v := ?_) rfl (by kernel_rfl) (by kernel_rfl) (by kernel_rfl) (fun _ _ _ h => h) (Or.inl ⟨by rfl, ?_⟩) hS0 ?_
    rotate_left
    · intro W _; go_simp; try with_reducible rfl
    try simp only [Act.put, List.getElem_toArray, List.getElem_cons_zero, List.getElem_cons_succ, List.setIfInBounds_toArray, List.set_cons_zero, List.set_cons_succ]
    refine wpAnyH_take (i := 6) (v := ?_) rfl (by kernel_rfl) (by kernel_rfl) (by kernel_rfl) (fun _ _ _ h => h) (Or.inl ⟨by rfl, ?_⟩) hS0 ?_
    rotate_left
    · intro W _; go_simp; try with_reducible rfl
    try simp only [Act.put, List.getElem_toArray, List.getElem_cons_zero, List.getElem_cons_succ, List.setIfInBounds_toArray, List.set_cons_zero, List.set_cons_succ]
    refine wpAnyH_take (i := 7) (v := ?_) rfl (by kernel_rfl) (by kernel_rfl) (by kernel_rfl) (fun _ _ _ h => h) (Or.inl ⟨by rfl, ?_⟩) hS0 ?_
    rotate_left
    · intro W _; go_simp; try with_reducible rfl
    try simp only [Act.put, List.getElem_toArray, List.getElem_cons_zero, List.getElem_cons_succ, List.setIfInBounds_toArray, List.set_cons_zero, List.set_cons_succ]
    refine wpAnyH_take (i := 8) (v := ?_) rfl (by kernel_rfl) (by kernel_rfl) (by kernel_rfl) (fun _ _ _ h => h) (Or.inl ⟨by rfl, ?_⟩) hS0 ?_
    rotate_left
    · intro W hSW; have hx : ∀ b o, b < w8.heap.size → W.cell? ⟨b, o, none⟩ = w8.cell? ⟨b, o, none⟩ := fun b o h => hSW.cell (p := ⟨b, o, none⟩) h; go_simp; try with_reducible rfl
    try simp only [Act.put, List.getElem_toArray, List.getElem_cons_zero, List.getElem_cons_succ, List.setIfInBounds_toArray, List.set_cons_zero, List.set_cons_succ]
    refine wpAnyH_ready (rs := [9]) (by kernel_rfl) (by simp) ?_
    refine AllReadyH.cons rfl (fun K hK => ?_) AllReadyH.nil
    go_simp
    refine (KN.out _ (B3.out.2.2.1.later hS0)).mono ?_
    rintro e u1a ⟨rfl, hbu1a⟩
    go_simp
    refine hK.out _ _ (hS0.trans ((hbu1a).mono hS0.size)) (fun hS1 => ?_)
    clear hK K
    try simp only [Act.put, List.getElem_toArray, List.getElem_cons_zero, List.getElem_cons_succ, List.setIfInBounds_toArray, List.set_cons_zero, List.set_cons_succ]
    refine wpAnyH_take (i := 10) (v := ?_) rfl (by kernel_rfl) (by kernel_rfl) (by kernel_rfl) (fun _ _ _ h => h) (Or.inl ⟨by rfl, ?_⟩) hS1 ?_
    rotate_left
    · intro W _; go_simp; try with_reducible rfl
    try simp only [Act.put, List.getElem_toArray, List.getElem_cons_zero, List.getElem_cons_succ, List.setIfInBounds_toArray, List.set_cons_zero, List.set_cons_succ]
    refine wpAnyH_take (i := 11) (v := ?_) rfl (by kernel_rfl) (by kernel_rfl) (by kernel_rfl) (fun _ _ _ h => h) (Or.inl ⟨by rfl, ?_⟩) hS1 ?_
    rotate_left
    · intro W _; go_simp; try with_reducible rfl
    try simp only [Act.put, List.getElem_toArray, List.getElem_cons_zero, List.getElem_cons_succ, List.setIfInBounds_toArray, List.set_cons_zero, List.set_cons_succ]
    refine wpAnyH_take (i := 12) (v := ?_) rfl (by kernel_rfl) (by kernel_rfl) (by kernel_rfl) (fun _ _ _ h => h) (Or.inl ⟨by rfl, ?_⟩) hS1 ?_
    rotate_left
    · intro W _; go_simp; try with_reducible rfl
    try simp only [Act.put, List.getElem_toArray, List.getElem_cons_zero, List.getElem_cons_succ, List.setIfInBounds_toArray, List.set_cons_zero, List.set_cons_succ]
    refine wpAnyH_take (i := 13) (v := ?_) rfl (by kernel_rfl) (by kernel_rfl) (by kernel_rfl) (fun _ _ _ h => h) (Or.inl ⟨by rfl, ?_⟩) hS1 ?_
    rotate_left
    · intro W hSW; have hx : ∀ b o, b < w8.heap.size → W.cell? ⟨b, o, none⟩ = w8.cell? ⟨b, o, none⟩ := fun b o h => hSW.cell (p := ⟨b, o, none⟩) h; go_simp; try with_reducible rfl
    try simp only [Act.put, List.getElem_toArray, List.getElem_cons_zero, List.getElem_cons_succ, List.setIfInBounds_toArray, List.set_cons_zero, List.set_cons_succ]
    refine wpAnyH_take (i := 16) (v := ?_) rfl (by kernel_rfl) (by kernel_rfl) (by kernel_rfl) (fun _ _ _ h => h) (Or.inl ⟨by rfl, ?_⟩) hS1 ?_
    rotate_left
    · intro W _; go_simp; try with_reducible rfl
    try simp only [Act.put, List.getElem_toArray, List.getElem_cons_zero, List.getElem_cons_succ, List.setIfInBounds_toArray, List.set_cons_zero, List.set_cons_succ]
    refine wpAnyH_take (i := 17) (v := ?_) rfl (by kernel_rfl) (by kernel_rfl) (by kernel_rfl) (fun _ _ _ h => h) (Or.inl ⟨by rfl, ?_⟩) hS1 ?_
    rotate_left
    · intro W _; go_simp; try with_reducible rfl
    try simp only [Act.put, List.getElem_toArray, List.getElem_cons_zero, List.getElem_cons_succ, List.setIfInBounds_toArray, List.set_cons_zero, List.set_cons_succ]
    refine wpAnyH_take (i := 18) (v := ?_) rfl (by kernel_rfl) (by kernel_rfl) (by kernel_rfl) (fun _ _ _ h => h) (Or.inl ⟨by rfl, ?_⟩) hS1 ?_
    rotate_left
    · intro W _; go_simp; try with_reducible rfl
    try simp only [Act.put, List.getElem_toArray, List.getElem_cons_zero, List.getElem_cons_succ, List.setIfInBounds_toArray, List.set_cons_zero, List.set_cons_succ]
    refine wpAnyH_take (i := 19) (v := ?_) rfl (by kernel_rfl) (by kernel_rfl) (by kernel_rfl) (fun _ _ _ h => h) (Or.inl ⟨by rfl, ?_⟩) hS1 ?_
    rotate_left
    · intro W _; go_simp; try with_reducible rfl
    try simp only [Act.put, List.getElem_toArray, List.getElem_cons_zero, List.getElem_cons_succ, List.setIfInBounds_toArray, List.set_cons_zero, List.set_cons_succ]
    refine wpAnyH_ready (rs := [14]) (by kernel_rfl) (by simp) ?_
    refine AllReadyH.cons rfl (fun K hK => ?_) AllReadyH.nil
    go_simp
    refine (PN.out _ (B3.out.2.2.1.later hS1)).mono ?_
    rintro e u1b ⟨G, C, rfl, ro, co, cm, hoo, hbu1b⟩
    have q := run_str_rd (P := Try.prog) u1b (src := 36) (dst := 9) (c := C) Try.underlying36 Try.underlying5 Try.underlying9 HN.out ro
    rw [show (⟨L.toArray⟩ : ByteArray) = E from HE.out.symm] at q
    go_simp
    refine hK.out _ _ (hS1.trans ((hbu1b).mono hS1.size)) (fun hS2 => ?_)
    clear hK K
    try simp only [Act.put, List.getElem_toArray, List.getElem_cons_zero, List.getElem_cons_succ, List.setIfInBounds_toArray, List.set_cons_zero, List.set_cons_succ]
    refine wpAnyH_ready (rs := [15]) (by kernel_rfl) (by simp) ?_
    refine AllReadyH.cons rfl (fun K hK => ?_) AllReadyH.nil
    go_simp
    refine hK.out _ _ hS2 (fun hS3 => ?_)
    clear hK K
    try simp only [Act.put, List.getElem_toArray, List.getElem_cons_zero, List.getElem_cons_succ, List.setIfInBounds_toArray, List.set_cons_zero, List.set_cons_succ]
    refine wpAnyH_take (i := 20) (v := ?_) rfl (by kernel_rfl) (by kernel_rfl) (by kernel_rfl) (fun _ _ _ h => h) (Or.inl ⟨by rfl, ?_⟩) hS3 ?_
    rotate_left
    · intro W _; go_simp; try with_reducible rfl
    try simp only [Act.put, List.getElem_toArray, List.getElem_cons_zero, List.getElem_cons_succ, List.setIfInBounds_toArray, List.set_cons_zero, List.set_cons_succ]
    refine wpAnyH_take (i := 21) (v := ?_) rfl (by kernel_rfl) (by kernel_rfl) (by kernel_rfl) (fun _ _ _ h => h) (Or.inl ⟨by rfl, ?_⟩) hS3 ?_
    rotate_left
    · intro W _; go_simp; try with_reducible rfl
    try simp only [Act.put, List.getElem_toArray, List.getElem_cons_zero, List.getElem_cons_succ, List.setIfInBounds_toArray, List.set_cons_zero, List.set_cons_succ]
    refine wpAnyH_take (i := 22) (v := ?_) rfl (by kernel_rfl) (by kernel_rfl) (by kernel_rfl) (fun _ _ _ h => h) (Or.inl ⟨by rfl, ?_⟩) hS3 ?_
    rotate_left
    · intro W _; go_simp; try with_reducible rfl
    try simp only [Act.put, List.getElem_toArray, List.getElem_cons_zero, List.getElem_cons_succ, List.setIfInBounds_toArray, List.set_cons_zero, List.set_cons_succ]
    refine wpAnyH_done (by kernel_rfl) ?_ _
    have Tp1 : Hid (Below w.heap.size w u1b ∧ Bk u1b w3.heap.size 26 #[.string nm1, .int .i64 (a1 : Int), .int .i64 (b1 : Int), .int .i64 (c1 : Int), .slice A1 m1 p1] ∧ RdL u1b A1 l1 ∧ Bk u1b w5.heap.size 28 #[.string nm2, .int .i64 (a2 : Int), .int .i64 (b2 : Int), .int .i64 (c2 : Int)] ∧ Bk u1b w7.heap.size 30 #[.string nm3, .string qu3, .int .i64 (pr3 : Int), .int .i64 (a3 : Int), .int .i64 (b3 : Int), .int .i64 (c3 : Int), .slice A3 m3 p3, .string ap3, .string ga3, .int .i64 (sz3 : Int)] ∧ RdL u1b A3 l3) := ⟨B3.out.1.trans (hS2.mono B3.out.1.size), B3.out.2.1.later hS2, B3.out.2.2.1.later hS2, B3.out.2.2.2.1.later hS2, B3.out.2.2.2.2.1.later hS2, B3.out.2.2.2.2.2.later hS2⟩
    clear hS0 hS1 hS2 hS3 hbu1a hbu1b KN PN HN HE x1 x2 x3 g0 g1 g2 hex zz q ro co cm hoo y1 B3 SH f0 f1 f2 f3 f4
    go_wp2_with fail
    by_cases h0 : er2 = 0
    case pos =>
      subst h0
      obtain ⟨ok, g0, g1, g2, g3⟩ := O2.out rfl
      clear O2
      have hv := ok
      unfold queueB at hv
      simp only [Bool.and_eq_true] at hv
      have y1 := (nameB_le hv.1).2
      have kn := fun W => queue_any nm2 (a2 : Int) (b2 : Int) (c2 : Int) W (by omega)
      rw [ok] at kn
      have hbyt : queueBytes nm2 (a2 : Int) (b2 : Int) (c2 : Int) = queueEnc nm2 (a2 : Int) (b2 : Int) (c2 : Int) := if_pos ok
      obtain ⟨N, hN⟩ : ∃ N, N = (queueEnc nm2 (a2 : Int) (b2 : Int) (c2 : Int)).length := ⟨_, rfl⟩
      have pn := fun W => putQueue_any none 0 0 [] nm2 (a2 : Int) (b2 : Int) (c2 : Int) N W rfl (Rd.nil _ _) (by decide) (by omega) (by show _ = _; rw [hbyt, List.nil_append]; exact hN)
      rw [hbyt, List.nil_append] at pn
      clear hbyt
      generalize queueEnc nm2 (a2 : Int) (b2 : Int) (c2 : Int) = L at g3 pn hN
      obtain ⟨E, hE⟩ : ∃ E, E = S L := ⟨_, rfl⟩
      have hex : s.extract at_.toNat nx2.toNat = E := by rw [Lib.extract_eq, ← HL.out, ← g3, hE]; rfl
      have KN := Lib.hid kn
      have PN := Lib.hid pn
      have HN := Lib.hid hN
      have HE := Lib.hid hE
      have x1 : decide ((s.size : Int) < nx2) = false := decide_eq_false (by omega)
      have x2 : ¬ (s.size : Int) < nx2 := by omega
      have x3 : decide (nx2 ≤ (s.size : Int)) = true := decide_eq_true (by omega)
      clear kn pn hN hE g3 hv ok
      have f0 : u1b.cell? ⟨w5.heap.size, 0, none⟩ = some (.string nm2) := Tp1.out.2.2.2.1.cellAt 0
      have f1 : u1b.cell? ⟨w5.heap.size, 1, none⟩ = some (.int .i64 (a2 : Int)) := Tp1.out.2.2.2.1.cellAt 1
      have f2 : u1b.cell? ⟨w5.heap.size, 2, none⟩ = some (.int .i64 (b2 : Int)) := Tp1.out.2.2.2.1.cellAt 2
      have f3 : u1b.cell? ⟨w5.heap.size, 3, none⟩ = some (.int .i64 (c2 : Int)) := Tp1.out.2.2.2.1.cellAt 3
      have zz : w5.heap.size < u1b.heap.size := Tp1.out.2.2.2.1.here
      refine wp_region_held_drew (S := fun W => Below u1b.heap.size u1b W) (by kernel_rfl) (Below.drew (Below.refl _ _)) (fun hS0 => ?_)
      refine wpAnyH_take (i := 0) (v := ?_) rfl (by kernel_rfl) (by kernel_rfl) (by kernel_rfl) (fun _ _ _ h => h) (Or.inl ⟨by rfl, ?_⟩) hS0 ?_
      rotate_left
      · intro W _; go_simp; try with_reducible rfl
      try simp only [Act.put, List.getElem_toArray, List.getElem_cons_zero, List.setIfInBounds_toArray, List.set_cons_zero, List.set_cons_succ]
      refine wpAnyH_take (i := 1) (v := ?_) rfl (by kernel_rfl) (by kernel_rfl) (by kernel_rfl) (fun _ _ _ h => h) (Or.inl ⟨by rfl, ?_⟩) hS0 ?_
      rotate_left
      · intro W _; go_simp; try with_reducible rfl
      try simp only [Act.put, List.getElem_toArray, List.getElem_cons_zero, List.getElem_cons_succ, List.setIfInBounds_toArray, List.set_cons_zero, List.set_cons_succ]
      refine wpAnyH_take (i := 2) (v := ?_) rfl (by kernel_rfl) (by kernel_rfl) (by kernel_rfl) (fun _ _ _ h => h) (Or.inl ⟨by rfl, ?_⟩) hS0 ?_
      rotate_left
      · intro W _; go_simp; try with_reducible rfl
      try simp only [Act.put, List.getElem_toArray, List.getElem_cons_zero, List.getElem_cons_succ, List.setIfInBounds_toArray, List.set_cons_zero, List.set_cons_succ]
      refine wpAnyH_take (i := 3) (v := ?_) rfl (by kernel_rfl) (by kernel_rfl) (by kernel_rfl) (fun _ _ _ h => h) (Or.inl ⟨by rfl, ?_⟩) hS0 ?_
      rotate_left
      · intro W _; go_simp; try with_reducible rfl
      try simp only [Act.put, List.getElem_toArray, List.getElem_cons_zero, List.getElem_cons_succ, List.setIfInBounds_toArray, List.set_cons_zero, List.set_cons_succ]
      refine wpAnyH_take (i := 4) (v := ?_) rfl (by kernel_rfl) (by kernel_rfl) (by kernel_rfl) (fun _ _ _ h => h) (Or.inl ⟨by rfl, ?_⟩) hS0 ?_
      rotate_left
      · intro W _; go_simp; try with_reducible rfl
      try simp only [Act.put, List.getElem_toArray, List.getElem_cons_zero, List.getElem_cons_succ, List.setIfInBounds_toArray, List.set_cons_zero, List.set_cons_succ]
      refine wpAnyH_take (i := 5) (v := ?_) rfl (by kernel_rfl) (by kernel_rfl) (by kernel_rfl) (fun _ _ _ h => h) (Or.inl ⟨by rfl, ?_⟩) hS0 ?_
      rotate_left
      · intro W _; go_simp; try with_reducible rfl
      try simp only [Act.put, List.getElem_toArray, List.getElem_cons_zero, List.getElem_cons_succ, List.setIfInBounds_toArray, List.set_cons_zero, List.set_cons_succ]
      refine wpAnyH_take (i := 6) (v := ?_) rfl (by kernel_rfl) (by kernel_rfl) (by kernel_rfl) (fun _ _ _ h => h) (Or.inl ⟨by rfl, ?_⟩) hS0 ?_
      rotate_left
      · intro W _; go_simp; try with_reducible rfl
      try simp only [Act.put, List.getElem_toArray, List.getElem_cons_zero, List.getElem_cons_succ, List.setIfInBounds_toArray, List.set_cons_zero, List.set_cons_succ]
      refine wpAnyH_take (i := 7) (v := ?_) rfl (by kernel_rfl) (by kernel_rfl) (by kernel_rfl) (fun _ _ _ h => h) (Or.inl ⟨by rfl, ?_⟩) hS0 ?_
      rotate_left
      · intro W _; go_simp; try with_reducible rfl
      try simp only [Act.put, List.getElem_toArray, List.getElem_cons_zero, List.getElem_cons_succ, List.setIfInBounds_toArray, List.set_cons_zero, List.set_cons_succ]
      refine wpAnyH_take (i := 8) (v := ?_) rfl (by kernel_rfl) (by kernel_rfl) (by kernel_rfl) (fun _ _ _ h => h) (Or.inl ⟨by rfl, ?_⟩) hS0 ?_
      rotate_left
      · intro W hSW; have hx : ∀ b o, b < u1b.heap.size → W.cell? ⟨b, o, none⟩ = u1b.cell? ⟨b, o, none⟩ := fun b o h => hSW.cell (p := ⟨b, o, none⟩) h; go_simp; try with_reducible rfl
      try simp only [Act.put, List.getElem_toArray, List.getElem_cons_zero, List.getElem_cons_succ, List.setIfInBounds_toArray, List.set_cons_zero, List.set_cons_succ]
      refine wpAnyH_ready (rs := [9]) (by kernel_rfl) (by simp) ?_
      refine AllReadyH.cons rfl (fun K hK => ?_) AllReadyH.nil
      go_simp
      refine (KN.out _).mono ?_
      rintro e u2a ⟨rfl, hbu2a⟩
      go_simp
      refine hK.out _ _ (hS0.trans ((hbu2a).mono hS0.size)) (fun hS1 => ?_)
      clear hK K
      try simp only [Act.put, List.getElem_toArray, List.getElem_cons_zero, List.getElem_cons_succ, List.setIfInBounds_toArray, List.set_cons_zero, List.set_cons_succ]
      refine wpAnyH_take (i := 10) (v := ?_) rfl (by kernel_rfl) (by kernel_rfl) (by kernel_rfl) (fun _ _ _ h => h) (Or.inl ⟨by rfl, ?_⟩) hS1 ?_
      rotate_left
      · intro W _; go_simp; try with_reducible rfl
      try simp only [Act.put, List.getElem_toArray, List.getElem_cons_zero, List.getElem_cons_succ, List.setIfInBounds_toArray, List.set_cons_zero, List.set_cons_succ]
      refine wpAnyH_take (i := 11) (v := ?_) rfl (by kernel_rfl) (by kernel_rfl) (by kernel_rfl) (fun _ _ _ h => h) (Or.inl ⟨by rfl, ?_⟩) hS1 ?_
      rotate_left
      · intro W _; go_simp; try with_reducible rfl
      try simp only [Act.put, List.getElem_toArray, List.getElem_cons_zero, List.getElem_cons_succ, List.setIfInBounds_toArray, List.set_cons_zero, List.set_cons_succ]
      refine wpAnyH_take (i := 12) (v := ?_) rfl (by kernel_rfl) (by kernel_rfl) (by kernel_rfl) (fun _ _ _ h => h) (Or.inl ⟨by rfl, ?_⟩) hS1 ?_
      rotate_left
      · intro W _; go_simp; try with_reducible rfl
      try simp only [Act.put, List.getElem_toArray, List.getElem_cons_zero, List.getElem_cons_succ, List.setIfInBounds_toArray, List.set_cons_zero, List.set_cons_succ]
      refine wpAnyH_take (i := 13) (v := ?_) rfl (by kernel_rfl) (by kernel_rfl) (by kernel_rfl) (fun _ _ _ h => h) (Or.inl ⟨by rfl, ?_⟩) hS1 ?_
      rotate_left
      · intro W hSW; have hx : ∀ b o, b < u1b.heap.size → W.cell? ⟨b, o, none⟩ = u1b.cell? ⟨b, o, none⟩ := fun b o h => hSW.cell (p := ⟨b, o, none⟩) h; go_simp; try with_reducible rfl
      try simp only [Act.put, List.getElem_toArray, List.getElem_cons_zero, List.getElem_cons_succ, List.setIfInBounds_toArray, List.set_cons_zero, List.set_cons_succ]
      refine wpAnyH_take (i := 16) (v := ?_) rfl (by kernel_rfl) (by kernel_rfl) (by kernel_rfl) (fun _ _ _ h => h) (Or.inl ⟨by rfl, ?_⟩) hS1 ?_
      rotate_left
      · intro W _; go_simp; try with_reducible rfl
      try simp only [Act.put, List.getElem_toArray, List.getElem_cons_zero, List.getElem_cons_succ, List.setIfInBounds_toArray, List.set_cons_zero, List.set_cons_succ]
      refine wpAnyH_take (i := 17) (v := ?_) rfl (by kernel_rfl) (by kernel_rfl) (by kernel_rfl) (fun _ _ _ h => h) (Or.inl ⟨by rfl, ?_⟩) hS1 ?_
      rotate_left
      · intro W _; go_simp; try with_reducible rfl
      try simp only [Act.put, List.getElem_toArray, List.getElem_cons_zero, List.getElem_cons_succ, List.setIfInBounds_toArray, List.set_cons_zero, List.set_cons_succ]
      refine wpAnyH_take (i := 18) (v := ?_) rfl (by kernel_rfl) (by kernel_rfl) (by kernel_rfl) (fun _ _ _ h => h) (Or.inl ⟨by rfl, ?_⟩) hS1 ?_
      rotate_left
      · intro W _; go_simp; try with_reducible rfl
      try simp only [Act.put, List.getElem_toArray, List.getElem_cons_zero, List.getElem_cons_succ, List.setIfInBounds_toArray, List.set_cons_zero, List.set_cons_succ]
      refine wpAnyH_take (i := 19) (v := ?_) rfl (by kernel_rfl) (by kernel_rfl) (by kernel_rfl) (fun _ _ _ h => h) (Or.inl ⟨by rfl, ?_⟩) hS1 ?_
      rotate_left
      · intro W _; go_simp; try with_reducible rfl
      try simp only [Act.put, List.getElem_toArray, List.getElem_cons_zero, List.getElem_cons_succ, List.setIfInBounds_toArray, List.set_cons_zero, List.set_cons_succ]
      refine wpAnyH_ready (rs := [14]) (by kernel_rfl) (by simp) ?_
      refine AllReadyH.cons rfl (fun K hK => ?_) AllReadyH.nil
      go_simp
      refine (PN.out _).mono ?_
      rintro e u2b ⟨G, C, rfl, ro, co, cm, hoo, hbu2b⟩
      have q := run_str_rd (P := Try.prog) u2b (src := 36) (dst := 9) (c := C) Try.underlying36 Try.underlying5 Try.underlying9 HN.out ro
      rw [show (⟨L.toArray⟩ : ByteArray) = E from HE.out.symm] at q
      go_simp
      refine hK.out _ _ (hS1.trans ((hbu2b).mono hS1.size)) (fun hS2 => ?_)
      clear hK K
      try simp only [Act.put, List.getElem_toArray, List.getElem_cons_zero, List.getElem_cons_succ, List.setIfInBounds_toArray, List.set_cons_zero, List.set_cons_succ]
      refine wpAnyH_ready (rs := [15]) (by kernel_rfl) (by simp) ?_
      refine AllReadyH.cons rfl (fun K hK => ?_) AllReadyH.nil
      go_simp
      refine hK.out _ _ hS2 (fun hS3 => ?_)
      clear hK K
      try simp only [Act.put, List.getElem_toArray, List.getElem_cons_zero, List.getElem_cons_succ, List.setIfInBounds_toArray, List.set_cons_zero, List.set_cons_succ]
      refine wpAnyH_take (i := 20) (v := ?_) rfl (by kernel_rfl) (by kernel_rfl) (by kernel_rfl) (fun _ _ _ h => h) (Or.inl ⟨by rfl, ?_⟩) hS3 ?_
      rotate_left
      · intro W _; go_simp; try with_reducible rfl
      try simp only [Act.put, List.getElem_toArray, List.getElem_cons_zero, List.getElem_cons_succ, List.setIfInBounds_toArray, List.set_cons_zero, List.set_cons_succ]
      refine wpAnyH_take (i := 21) (v := ?_) rfl (by kernel_rfl) (by kernel_rfl) (by kernel_rfl) (fun _ _ _ h => h) (Or.inl ⟨by rfl, ?_⟩) hS3 ?_
      rotate_left
      · intro W _; go_simp; try with_reducible rfl
      try simp only [Act.put, List.getElem_toArray, List.getElem_cons_zero, List.getElem_cons_succ, List.setIfInBounds_toArray, List.set_cons_zero, List.set_cons_succ]
      refine wpAnyH_take (i := 22) (v := ?_) rfl (by kernel_rfl) (by kernel_rfl) (by kernel_rfl) (fun _ _ _ h => h) (Or.inl ⟨by rfl, ?_⟩) hS3 ?_
      rotate_left
      · intro W _; go_simp; try with_reducible rfl
      try simp only [Act.put, List.getElem_toArray, List.getElem_cons_zero, List.getElem_cons_succ, List.setIfInBounds_toArray, List.set_cons_zero, List.set_cons_succ]
      refine wpAnyH_done (by kernel_rfl) ?_ _
      have Tp2 : Hid (Below w.heap.size w u2b ∧ Bk u2b w3.heap.size 26 #[.string nm1, .int .i64 (a1 : Int), .int .i64 (b1 : Int), .int .i64 (c1 : Int), .slice A1 m1 p1] ∧ RdL u2b A1 l1 ∧ Bk u2b w5.heap.size 28 #[.string nm2, .int .i64 (a2 : Int), .int .i64 (b2 : Int), .int .i64 (c2 : Int)] ∧ Bk u2b w7.heap.size 30 #[.string nm3, .string qu3, .int .i64 (pr3 : Int), .int .i64 (a3 : Int), .int .i64 (b3 : Int), .int .i64 (c3 : Int), .slice A3 m3 p3, .string ap3, .string ga3, .int .i64 (sz3 : Int)] ∧ RdL u2b A3 l3) := ⟨Tp1.out.1.trans (hS2.mono Tp1.out.1.size), Tp1.out.2.1.later hS2, Tp1.out.2.2.1.later hS2, Tp1.out.2.2.2.1.later hS2, Tp1.out.2.2.2.2.1.later hS2, Tp1.out.2.2.2.2.2.later hS2⟩
      clear hS0 hS1 hS2 hS3 hbu2a hbu2b KN PN HN HE x1 x2 x3 g0 g1 g2 hex zz q ro co cm hoo y1 Tp1 f0 f1 f2 f3
      go_wp2_with fail
      by_cases h0 : er3 = 0
      case pos =>
        subst h0
        obtain ⟨ok, g0, g1, g2, g3⟩ := O3.out rfl
        clear O3
        have hv := ok
        unfold taskB at hv
        simp only [Bool.and_eq_true, decide_eq_true_eq] at hv
        obtain ⟨⟨⟨⟨⟨⟨⟨v1, v2⟩, v3⟩, v4⟩, v5⟩, v6⟩, v7⟩, v8⟩ := hv
        have y1 := (nameB_le v1).2
        have y2 := (nameB_le v2).2
        have y3 := apartB_le v7
        have y4 := (gangB_le v8).1
        have SH := Lib.hid (labelsB_le v6).2.sz
        have hv : True := trivial
        clear v1 v2 v3 v4 v5 v6 v7 v8
        have kn := fun W (h : RdL W A3 l3) => task_any nm3 qu3 (pr3 : Int) (a3 : Int) (b3 : Int) (c3 : Int) A3 m3 p3 l3 ap3 ga3 (sz3 : Int) W (by omega) (by omega) HM3 (Lib.hid h) SH ca3 cb3x (by omega) (by omega)
        rw [ok] at kn
        have hbyt : taskBytes nm3 qu3 (pr3 : Int) (a3 : Int) (b3 : Int) (c3 : Int) l3 ap3 ga3 (sz3 : Int) = taskEnc nm3 qu3 (pr3 : Int) (a3 : Int) (b3 : Int) (c3 : Int) l3 ap3 ga3 (sz3 : Int) := if_pos ok
        obtain ⟨N, hN⟩ : ∃ N, N = (taskEnc nm3 qu3 (pr3 : Int) (a3 : Int) (b3 : Int) (c3 : Int) l3 ap3 ga3 (sz3 : Int)).length := ⟨_, rfl⟩
        have pn := fun W (h : RdL W A3 l3) => putTask_any none 0 0 [] nm3 qu3 (pr3 : Int) (a3 : Int) (b3 : Int) (c3 : Int) A3 m3 p3 l3 ap3 ga3 (sz3 : Int) N W rfl (Rd.nil _ _) (by decide) (by omega) (by omega) HM3 (Lib.hid h) SH ca3 cb3x (by omega) (by omega) (by show _ = _; rw [hbyt, List.nil_append]; exact hN)
        rw [hbyt, List.nil_append] at pn
        clear hbyt
        generalize taskEnc nm3 qu3 (pr3 : Int) (a3 : Int) (b3 : Int) (c3 : Int) l3 ap3 ga3 (sz3 : Int) = L at g3 pn hN
        obtain ⟨E, hE⟩ : ∃ E, E = S L := ⟨_, rfl⟩
        have hex : s.extract at_.toNat nx3.toNat = E := by rw [Lib.extract_eq, ← HL.out, ← g3, hE]; rfl
        have KN := Lib.hid kn
        have PN := Lib.hid pn
        have HN := Lib.hid hN
        have HE := Lib.hid hE
        have x1 : decide ((s.size : Int) < nx3) = false := decide_eq_false (by omega)
        have x2 : ¬ (s.size : Int) < nx3 := by omega
        have x3 : decide (nx3 ≤ (s.size : Int)) = true := decide_eq_true (by omega)
        clear kn pn hN hE g3 hv ok
        have f0 : u2b.cell? ⟨w7.heap.size, 0, none⟩ = some (.string nm3) := Tp2.out.2.2.2.2.1.cellAt 0
        have f1 : u2b.cell? ⟨w7.heap.size, 1, none⟩ = some (.string qu3) := Tp2.out.2.2.2.2.1.cellAt 1
        have f2 : u2b.cell? ⟨w7.heap.size, 2, none⟩ = some (.int .i64 (pr3 : Int)) := Tp2.out.2.2.2.2.1.cellAt 2
        have f3 : u2b.cell? ⟨w7.heap.size, 3, none⟩ = some (.int .i64 (a3 : Int)) := Tp2.out.2.2.2.2.1.cellAt 3
        have f4 : u2b.cell? ⟨w7.heap.size, 4, none⟩ = some (.int .i64 (b3 : Int)) := Tp2.out.2.2.2.2.1.cellAt 4
        have f5 : u2b.cell? ⟨w7.heap.size, 5, none⟩ = some (.int .i64 (c3 : Int)) := Tp2.out.2.2.2.2.1.cellAt 5
        have f6 : u2b.cell? ⟨w7.heap.size, 6, none⟩ = some (.slice A3 m3 p3) := Tp2.out.2.2.2.2.1.cellAt 6
        have f7 : u2b.cell? ⟨w7.heap.size, 7, none⟩ = some (.string ap3) := Tp2.out.2.2.2.2.1.cellAt 7
        have f8 : u2b.cell? ⟨w7.heap.size, 8, none⟩ = some (.string ga3) := Tp2.out.2.2.2.2.1.cellAt 8
        have f9 : u2b.cell? ⟨w7.heap.size, 9, none⟩ = some (.int .i64 (sz3 : Int)) := Tp2.out.2.2.2.2.1.cellAt 9
        have zz : w7.heap.size < u2b.heap.size := Tp2.out.2.2.2.2.1.here
        refine wp_region_held_drew (S := fun W => Below u2b.heap.size u2b W) (by kernel_rfl) (Below.drew (Below.refl _ _)) (fun hS0 => ?_)
        refine wpAnyH_take (i := 0) (v := ?_) rfl (by kernel_rfl) (by kernel_rfl) (by kernel_rfl) (fun _ _ _ h => h) (Or.inl ⟨by rfl, ?_⟩) hS0 ?_
        rotate_left
        · intro W _; go_simp; try with_reducible rfl
        try simp only [Act.put, List.getElem_toArray, List.getElem_cons_zero, List.setIfInBounds_toArray, List.set_cons_zero, List.set_cons_succ]
        refine wpAnyH_take (i := 1) (v := ?_) rfl (by kernel_rfl) (by kernel_rfl) (by kernel_rfl) (fun _ _ _ h => h) (Or.inl ⟨by rfl, ?_⟩) hS0 ?_
        rotate_left
        · intro W _; go_simp; try with_reducible rfl
        try simp only [Act.put, List.getElem_toArray, List.getElem_cons_zero, List.getElem_cons_succ, List.setIfInBounds_toArray, List.set_cons_zero, List.set_cons_succ]
        refine wpAnyH_take (i := 2) (v := ?_) rfl (by kernel_rfl) (by kernel_rfl) (by kernel_rfl) (fun _ _ _ h => h) (Or.inl ⟨by rfl, ?_⟩) hS0 ?_
        rotate_left
        · intro W _; go_simp; try with_reducible rfl
        try simp only [Act.put, List.getElem_toArray, List.getElem_cons_zero, List.getElem_cons_succ, List.setIfInBounds_toArray, List.set_cons_zero, List.set_cons_succ]
        refine wpAnyH_take (i := 3) (v := ?_) rfl (by kernel_rfl) (by kernel_rfl) (by kernel_rfl) (fun _ _ _ h => h) (Or.inl ⟨by rfl, ?_⟩) hS0 ?_
        rotate_left
        · intro W _; go_simp; try with_reducible rfl
        try simp only [Act.put, List.getElem_toArray, List.getElem_cons_zero, List.getElem_cons_succ, List.setIfInBounds_toArray, List.set_cons_zero, List.set_cons_succ]
        refine wpAnyH_take (i := 4) (v := ?_) rfl (by kernel_rfl) (by kernel_rfl) (by kernel_rfl) (fun _ _ _ h => h) (Or.inl ⟨by rfl, ?_⟩) hS0 ?_
        rotate_left
        · intro W _; go_simp; try with_reducible rfl
        try simp only [Act.put, List.getElem_toArray, List.getElem_cons_zero, List.getElem_cons_succ, List.setIfInBounds_toArray, List.set_cons_zero, List.set_cons_succ]
        refine wpAnyH_take (i := 5) (v := ?_) rfl (by kernel_rfl) (by kernel_rfl) (by kernel_rfl) (fun _ _ _ h => h) (Or.inl ⟨by rfl, ?_⟩) hS0 ?_
        rotate_left
        · intro W _; go_simp; try with_reducible rfl
        try simp only [Act.put, List.getElem_toArray, List.getElem_cons_zero, List.getElem_cons_succ, List.setIfInBounds_toArray, List.set_cons_zero, List.set_cons_succ]
        refine wpAnyH_take (i := 6) (v := ?_) rfl (by kernel_rfl) (by kernel_rfl) (by kernel_rfl) (fun _ _ _ h => h) (Or.inl ⟨by rfl, ?_⟩) hS0 ?_
        rotate_left
        · intro W _; go_simp; try with_reducible rfl
        try simp only [Act.put, List.getElem_toArray, List.getElem_cons_zero, List.getElem_cons_succ, List.setIfInBounds_toArray, List.set_cons_zero, List.set_cons_succ]
        refine wpAnyH_take (i := 7) (v := ?_) rfl (by kernel_rfl) (by kernel_rfl) (by kernel_rfl) (fun _ _ _ h => h) (Or.inl ⟨by rfl, ?_⟩) hS0 ?_
        rotate_left
        · intro W _; go_simp; try with_reducible rfl
        try simp only [Act.put, List.getElem_toArray, List.getElem_cons_zero, List.getElem_cons_succ, List.setIfInBounds_toArray, List.set_cons_zero, List.set_cons_succ]
        refine wpAnyH_take (i := 8) (v := ?_) rfl (by kernel_rfl) (by kernel_rfl) (by kernel_rfl) (fun _ _ _ h => h) (Or.inl ⟨by rfl, ?_⟩) hS0 ?_
        rotate_left
        · intro W hSW; have hx : ∀ b o, b < u2b.heap.size → W.cell? ⟨b, o, none⟩ = u2b.cell? ⟨b, o, none⟩ := fun b o h => hSW.cell (p := ⟨b, o, none⟩) h; go_simp; try with_reducible rfl
        try simp only [Act.put, List.getElem_toArray, List.getElem_cons_zero, List.getElem_cons_succ, List.setIfInBounds_toArray, List.set_cons_zero, List.set_cons_succ]
        refine wpAnyH_ready (rs := [9]) (by kernel_rfl) (by simp) ?_
        refine AllReadyH.cons rfl (fun K hK => ?_) AllReadyH.nil
        go_simp
        refine (KN.out _ (Tp2.out.2.2.2.2.2.later hS0)).mono ?_
        rintro e u3a ⟨rfl, hbu3a⟩
        go_simp
        refine hK.out _ _ (hS0.trans ((hbu3a).mono hS0.size)) (fun hS1 => ?_)
        clear hK K
        try simp only [Act.put, List.getElem_toArray, List.getElem_cons_zero, List.getElem_cons_succ, List.setIfInBounds_toArray, List.set_cons_zero, List.set_cons_succ]
        refine wpAnyH_take (i := 10) (v := ?_) rfl (by kernel_rfl) (by kernel_rfl) (by kernel_rfl) (fun _ _ _ h => h) (Or.inl ⟨by rfl, ?_⟩) hS1 ?_
        rotate_left
        · intro W _; go_simp; try with_reducible rfl
        try simp only [Act.put, List.getElem_toArray, List.getElem_cons_zero, List.getElem_cons_succ, List.setIfInBounds_toArray, List.set_cons_zero, List.set_cons_succ]
        refine wpAnyH_take (i := 11) (v := ?_) rfl (by kernel_rfl) (by kernel_rfl) (by kernel_rfl) (fun _ _ _ h => h) (Or.inl ⟨by rfl, ?_⟩) hS1 ?_
        rotate_left
        · intro W _; go_simp; try with_reducible rfl
        try simp only [Act.put, List.getElem_toArray, List.getElem_cons_zero, List.getElem_cons_succ, List.setIfInBounds_toArray, List.set_cons_zero, List.set_cons_succ]
        refine wpAnyH_take (i := 12) (v := ?_) rfl (by kernel_rfl) (by kernel_rfl) (by kernel_rfl) (fun _ _ _ h => h) (Or.inl ⟨by rfl, ?_⟩) hS1 ?_
        rotate_left
        · intro W hSW; have hx : ∀ b o, b < u2b.heap.size → W.cell? ⟨b, o, none⟩ = u2b.cell? ⟨b, o, none⟩ := fun b o h => hSW.cell (p := ⟨b, o, none⟩) h; go_simp; try with_reducible rfl
        try simp only [Act.put, List.getElem_toArray, List.getElem_cons_zero, List.getElem_cons_succ, List.setIfInBounds_toArray, List.set_cons_zero, List.set_cons_succ]
        refine wpAnyH_take (i := 15) (v := ?_) rfl (by kernel_rfl) (by kernel_rfl) (by kernel_rfl) (fun _ _ _ h => h) (Or.inl ⟨by rfl, ?_⟩) hS1 ?_
        rotate_left
        · intro W _; go_simp; try with_reducible rfl
        try simp only [Act.put, List.getElem_toArray, List.getElem_cons_zero, List.getElem_cons_succ, List.setIfInBounds_toArray, List.set_cons_zero, List.set_cons_succ]
        refine wpAnyH_take (i := 16) (v := ?_) rfl (by kernel_rfl) (by kernel_rfl) (by kernel_rfl) (fun _ _ _ h => h) (Or.inl ⟨by rfl, ?_⟩) hS1 ?_
        rotate_left
        · intro W _; go_simp; try with_reducible rfl
        try simp only [Act.put, List.getElem_toArray, List.getElem_cons_zero, List.getElem_cons_succ, List.setIfInBounds_toArray, List.set_cons_zero, List.set_cons_succ]
        refine wpAnyH_take (i := 17) (v := ?_) rfl (by kernel_rfl) (by kernel_rfl) (by kernel_rfl) (fun _ _ _ h => h) (Or.inl ⟨by rfl, ?_⟩) hS1 ?_
        rotate_left
        · intro W _; go_simp; try with_reducible rfl
        try simp only [Act.put, List.getElem_toArray, List.getElem_cons_zero, List.getElem_cons_succ, List.setIfInBounds_toArray, List.set_cons_zero, List.set_cons_succ]
        refine wpAnyH_take (i := 18) (v := ?_) rfl (by kernel_rfl) (by kernel_rfl) (by kernel_rfl) (fun _ _ _ h => h) (Or.inl ⟨by rfl, ?_⟩) hS1 ?_
        rotate_left
        · intro W _; go_simp; try with_reducible rfl
        try simp only [Act.put, List.getElem_toArray, List.getElem_cons_zero, List.getElem_cons_succ, List.setIfInBounds_toArray, List.set_cons_zero, List.set_cons_succ]
        refine wpAnyH_ready (rs := [13]) (by kernel_rfl) (by simp) ?_
        refine AllReadyH.cons rfl (fun K hK => ?_) AllReadyH.nil
        go_simp
        refine (PN.out _ (Tp2.out.2.2.2.2.2.later hS1)).mono ?_
        rintro e u3b ⟨G, C, rfl, ro, co, cm, hoo, hbu3b⟩
        have q := run_str_rd (P := Try.prog) u3b (src := 36) (dst := 9) (c := C) Try.underlying36 Try.underlying5 Try.underlying9 HN.out ro
        rw [show (⟨L.toArray⟩ : ByteArray) = E from HE.out.symm] at q
        go_simp
        refine hK.out _ _ (hS1.trans ((hbu3b).mono hS1.size)) (fun hS2 => ?_)
        clear hK K
        try simp only [Act.put, List.getElem_toArray, List.getElem_cons_zero, List.getElem_cons_succ, List.setIfInBounds_toArray, List.set_cons_zero, List.set_cons_succ]
        refine wpAnyH_ready (rs := [14]) (by kernel_rfl) (by simp) ?_
        refine AllReadyH.cons rfl (fun K hK => ?_) AllReadyH.nil
        go_simp
        refine hK.out _ _ hS2 (fun hS3 => ?_)
        clear hK K
        try simp only [Act.put, List.getElem_toArray, List.getElem_cons_zero, List.getElem_cons_succ, List.setIfInBounds_toArray, List.set_cons_zero, List.set_cons_succ]
        refine wpAnyH_take (i := 19) (v := ?_) rfl (by kernel_rfl) (by kernel_rfl) (by kernel_rfl) (fun _ _ _ h => h) (Or.inl ⟨by rfl, ?_⟩) hS3 ?_
        rotate_left
        · intro W _; go_simp; try with_reducible rfl
        try simp only [Act.put, List.getElem_toArray, List.getElem_cons_zero, List.getElem_cons_succ, List.setIfInBounds_toArray, List.set_cons_zero, List.set_cons_succ]
        refine wpAnyH_take (i := 20) (v := ?_) rfl (by kernel_rfl) (by kernel_rfl) (by kernel_rfl) (fun _ _ _ h => h) (Or.inl ⟨by rfl, ?_⟩) hS3 ?_
        rotate_left
        · intro W _; go_simp; try with_reducible rfl
        try simp only [Act.put, List.getElem_toArray, List.getElem_cons_zero, List.getElem_cons_succ, List.setIfInBounds_toArray, List.set_cons_zero, List.set_cons_succ]
        refine wpAnyH_take (i := 21) (v := ?_) rfl (by kernel_rfl) (by kernel_rfl) (by kernel_rfl) (fun _ _ _ h => h) (Or.inl ⟨by rfl, ?_⟩) hS3 ?_
        rotate_left
        · intro W _; go_simp; try with_reducible rfl
        try simp only [Act.put, List.getElem_toArray, List.getElem_cons_zero, List.getElem_cons_succ, List.setIfInBounds_toArray, List.set_cons_zero, List.set_cons_succ]
        refine wpAnyH_take (i := 22) (v := ?_) rfl (by kernel_rfl) (by kernel_rfl) (by kernel_rfl) (fun _ _ _ h => h) (Or.inl ⟨by rfl, ?_⟩) hS3 ?_
        rotate_left
        · intro W _; go_simp; try with_reducible rfl
        try simp only [Act.put, List.getElem_toArray, List.getElem_cons_zero, List.getElem_cons_succ, List.setIfInBounds_toArray, List.set_cons_zero, List.set_cons_succ]
        refine wpAnyH_done (by kernel_rfl) ?_ _
        have Tp3 : Hid (Below w.heap.size w u3b ∧ Bk u3b w3.heap.size 26 #[.string nm1, .int .i64 (a1 : Int), .int .i64 (b1 : Int), .int .i64 (c1 : Int), .slice A1 m1 p1] ∧ RdL u3b A1 l1 ∧ Bk u3b w5.heap.size 28 #[.string nm2, .int .i64 (a2 : Int), .int .i64 (b2 : Int), .int .i64 (c2 : Int)] ∧ Bk u3b w7.heap.size 30 #[.string nm3, .string qu3, .int .i64 (pr3 : Int), .int .i64 (a3 : Int), .int .i64 (b3 : Int), .int .i64 (c3 : Int), .slice A3 m3 p3, .string ap3, .string ga3, .int .i64 (sz3 : Int)] ∧ RdL u3b A3 l3) := ⟨Tp2.out.1.trans (hS2.mono Tp2.out.1.size), Tp2.out.2.1.later hS2, Tp2.out.2.2.1.later hS2, Tp2.out.2.2.2.1.later hS2, Tp2.out.2.2.2.2.1.later hS2, Tp2.out.2.2.2.2.2.later hS2⟩
        clear hS0 hS1 hS2 hS3 hbu3a hbu3b KN PN HN HE x1 x2 x3 g0 g1 g2 hex zz q ro co cm hoo y1 Tp2 SH y2 y3 y4 f0 f1 f2 f3 f4 f5 f6 f7 f8 f9
        go_wp2
        go_ret
        exact ⟨rfl, Tp3.out.1⟩
      case neg =>
        have e1 : (er3 == 0) = false := by simpa using h0
        have e2 : (er3 != 0) = true := by simpa using h0
        clear h0
        go_quiet (fail)
        obtain ⟨u3c, hwn⟩ : ∃ W, W = u2b.drewN nq := ⟨_, rfl⟩
        rw [← hwn]
        have hq : Below u2b.heap.size u2b u3c := by rw [hwn]; exact bdrewN (Below.refl _ _) _
        have Tn3 : Hid (Below w.heap.size w u3c ∧ Bk u3c w3.heap.size 26 #[.string nm1, .int .i64 (a1 : Int), .int .i64 (b1 : Int), .int .i64 (c1 : Int), .slice A1 m1 p1] ∧ RdL u3c A1 l1 ∧ Bk u3c w5.heap.size 28 #[.string nm2, .int .i64 (a2 : Int), .int .i64 (b2 : Int), .int .i64 (c2 : Int)] ∧ Bk u3c w7.heap.size 30 #[.string nm3, .string qu3, .int .i64 (pr3 : Int), .int .i64 (a3 : Int), .int .i64 (b3 : Int), .int .i64 (c3 : Int), .slice A3 m3 p3, .string ap3, .string ga3, .int .i64 (sz3 : Int)] ∧ RdL u3c A3 l3) := ⟨Tp2.out.1.trans (hq.mono Tp2.out.1.size), Tp2.out.2.1.later hq, Tp2.out.2.2.1.later hq, Tp2.out.2.2.2.1.later hq, Tp2.out.2.2.2.2.1.later hq, Tp2.out.2.2.2.2.2.later hq⟩
        clear hq hwn Tp2 O3
        go_wp2
        go_ret
        exact ⟨rfl, Tn3.out.1⟩
    case neg =>
      have e1 : (er2 == 0) = false := by simpa using h0
      have e2 : (er2 != 0) = true := by simpa using h0
      clear h0
      go_quiet (fail)
      obtain ⟨u2c, hwn⟩ : ∃ W, W = u1b.drewN nq := ⟨_, rfl⟩
      rw [← hwn]
      have hq : Below u1b.heap.size u1b u2c := by rw [hwn]; exact bdrewN (Below.refl _ _) _
      have Tn2 : Hid (Below w.heap.size w u2c ∧ Bk u2c w3.heap.size 26 #[.string nm1, .int .i64 (a1 : Int), .int .i64 (b1 : Int), .int .i64 (c1 : Int), .slice A1 m1 p1] ∧ RdL u2c A1 l1 ∧ Bk u2c w5.heap.size 28 #[.string nm2, .int .i64 (a2 : Int), .int .i64 (b2 : Int), .int .i64 (c2 : Int)] ∧ Bk u2c w7.heap.size 30 #[.string nm3, .string qu3, .int .i64 (pr3 : Int), .int .i64 (a3 : Int), .int .i64 (b3 : Int), .int .i64 (c3 : Int), .slice A3 m3 p3, .string ap3, .string ga3, .int .i64 (sz3 : Int)] ∧ RdL u2c A3 l3) := ⟨Tp1.out.1.trans (hq.mono Tp1.out.1.size), Tp1.out.2.1.later hq, Tp1.out.2.2.1.later hq, Tp1.out.2.2.2.1.later hq, Tp1.out.2.2.2.2.1.later hq, Tp1.out.2.2.2.2.2.later hq⟩
      clear hq hwn Tp1 O2
      go_wp2_with fail
      clear e1 e2
      by_cases h0 : er3 = 0
      case pos =>
        subst h0
        obtain ⟨ok, g0, g1, g2, g3⟩ := O3.out rfl
        clear O3
        have hv := ok
        unfold taskB at hv
        simp only [Bool.and_eq_true, decide_eq_true_eq] at hv
        obtain ⟨⟨⟨⟨⟨⟨⟨v1, v2⟩, v3⟩, v4⟩, v5⟩, v6⟩, v7⟩, v8⟩ := hv
        have y1 := (nameB_le v1).2
        have y2 := (nameB_le v2).2
        have y3 := apartB_le v7
        have y4 := (gangB_le v8).1
        have SH := Lib.hid (labelsB_le v6).2.sz
        have hv : True := trivial
        clear v1 v2 v3 v4 v5 v6 v7 v8
        have kn := fun W (h : RdL W A3 l3) => task_any nm3 qu3 (pr3 : Int) (a3 : Int) (b3 : Int) (c3 : Int) A3 m3 p3 l3 ap3 ga3 (sz3 : Int) W (by omega) (by omega) HM3 (Lib.hid h) SH ca3 cb3x (by omega) (by omega)
        rw [ok] at kn
        have hbyt : taskBytes nm3 qu3 (pr3 : Int) (a3 : Int) (b3 : Int) (c3 : Int) l3 ap3 ga3 (sz3 : Int) = taskEnc nm3 qu3 (pr3 : Int) (a3 : Int) (b3 : Int) (c3 : Int) l3 ap3 ga3 (sz3 : Int) := if_pos ok
        obtain ⟨N, hN⟩ : ∃ N, N = (taskEnc nm3 qu3 (pr3 : Int) (a3 : Int) (b3 : Int) (c3 : Int) l3 ap3 ga3 (sz3 : Int)).length := ⟨_, rfl⟩
        have pn := fun W (h : RdL W A3 l3) => putTask_any none 0 0 [] nm3 qu3 (pr3 : Int) (a3 : Int) (b3 : Int) (c3 : Int) A3 m3 p3 l3 ap3 ga3 (sz3 : Int) N W rfl (Rd.nil _ _) (by decide) (by omega) (by omega) HM3 (Lib.hid h) SH ca3 cb3x (by omega) (by omega) (by show _ = _; rw [hbyt, List.nil_append]; exact hN)
        rw [hbyt, List.nil_append] at pn
        clear hbyt
        generalize taskEnc nm3 qu3 (pr3 : Int) (a3 : Int) (b3 : Int) (c3 : Int) l3 ap3 ga3 (sz3 : Int) = L at g3 pn hN
        obtain ⟨E, hE⟩ : ∃ E, E = S L := ⟨_, rfl⟩
        have hex : s.extract at_.toNat nx3.toNat = E := by rw [Lib.extract_eq, ← HL.out, ← g3, hE]; rfl
        have KN := Lib.hid kn
        have PN := Lib.hid pn
        have HN := Lib.hid hN
        have HE := Lib.hid hE
        have x1 : decide ((s.size : Int) < nx3) = false := decide_eq_false (by omega)
        have x2 : ¬ (s.size : Int) < nx3 := by omega
        have x3 : decide (nx3 ≤ (s.size : Int)) = true := decide_eq_true (by omega)
        clear kn pn hN hE g3 hv ok
        have f0 : u2c.cell? ⟨w7.heap.size, 0, none⟩ = some (.string nm3) := Tn2.out.2.2.2.2.1.cellAt 0
        have f1 : u2c.cell? ⟨w7.heap.size, 1, none⟩ = some (.string qu3) := Tn2.out.2.2.2.2.1.cellAt 1
        have f2 : u2c.cell? ⟨w7.heap.size, 2, none⟩ = some (.int .i64 (pr3 : Int)) := Tn2.out.2.2.2.2.1.cellAt 2
        have f3 : u2c.cell? ⟨w7.heap.size, 3, none⟩ = some (.int .i64 (a3 : Int)) := Tn2.out.2.2.2.2.1.cellAt 3
        have f4 : u2c.cell? ⟨w7.heap.size, 4, none⟩ = some (.int .i64 (b3 : Int)) := Tn2.out.2.2.2.2.1.cellAt 4
        have f5 : u2c.cell? ⟨w7.heap.size, 5, none⟩ = some (.int .i64 (c3 : Int)) := Tn2.out.2.2.2.2.1.cellAt 5
        have f6 : u2c.cell? ⟨w7.heap.size, 6, none⟩ = some (.slice A3 m3 p3) := Tn2.out.2.2.2.2.1.cellAt 6
        have f7 : u2c.cell? ⟨w7.heap.size, 7, none⟩ = some (.string ap3) := Tn2.out.2.2.2.2.1.cellAt 7
        have f8 : u2c.cell? ⟨w7.heap.size, 8, none⟩ = some (.string ga3) := Tn2.out.2.2.2.2.1.cellAt 8
        have f9 : u2c.cell? ⟨w7.heap.size, 9, none⟩ = some (.int .i64 (sz3 : Int)) := Tn2.out.2.2.2.2.1.cellAt 9
        have zz : w7.heap.size < u2c.heap.size := Tn2.out.2.2.2.2.1.here
        refine wp_region_held_drew (S := fun W => Below u2c.heap.size u2c W) (by kernel_rfl) (Below.drew (Below.refl _ _)) (fun hS0 => ?_)
        refine wpAnyH_take (i := 0) (v := ?_) rfl (by kernel_rfl) (by kernel_rfl) (by kernel_rfl) (fun _ _ _ h => h) (Or.inl ⟨by rfl, ?_⟩) hS0 ?_
        rotate_left
        · intro W _; go_simp; try with_reducible rfl
        try simp only [Act.put, List.getElem_toArray, List.getElem_cons_zero, List.setIfInBounds_toArray, List.set_cons_zero, List.set_cons_succ]
        refine wpAnyH_take (i := 1) (v := ?_) rfl (by kernel_rfl) (by kernel_rfl) (by kernel_rfl) (fun _ _ _ h => h) (Or.inl ⟨by rfl, ?_⟩) hS0 ?_
        rotate_left
        · intro W _; go_simp; try with_reducible rfl
        try simp only [Act.put, List.getElem_toArray, List.getElem_cons_zero, List.getElem_cons_succ, List.setIfInBounds_toArray, List.set_cons_zero, List.set_cons_succ]
        refine wpAnyH_take (i := 2) (v := ?_) rfl (by kernel_rfl) (by kernel_rfl) (by kernel_rfl) (fun _ _ _ h => h) (Or.inl ⟨by rfl, ?_⟩) hS0 ?_
        rotate_left
        · intro W _; go_simp; try with_reducible rfl
        try simp only [Act.put, List.getElem_toArray, List.getElem_cons_zero, List.getElem_cons_succ, List.setIfInBounds_toArray, List.set_cons_zero, List.set_cons_succ]
        refine wpAnyH_take (i := 3) (v := ?_) rfl (by kernel_rfl) (by kernel_rfl) (by kernel_rfl) (fun _ _ _ h => h) (Or.inl ⟨by rfl, ?_⟩) hS0 ?_
        rotate_left
        · intro W _; go_simp; try with_reducible rfl
        try simp only [Act.put, List.getElem_toArray, List.getElem_cons_zero, List.getElem_cons_succ, List.setIfInBounds_toArray, List.set_cons_zero, List.set_cons_succ]
        refine wpAnyH_take (i := 4) (v := ?_) rfl (by kernel_rfl) (by kernel_rfl) (by kernel_rfl) (fun _ _ _ h => h) (Or.inl ⟨by rfl, ?_⟩) hS0 ?_
        rotate_left
        · intro W _; go_simp; try with_reducible rfl
        try simp only [Act.put, List.getElem_toArray, List.getElem_cons_zero, List.getElem_cons_succ, List.setIfInBounds_toArray, List.set_cons_zero, List.set_cons_succ]
        refine wpAnyH_take (i := 5) (v := ?_) rfl (by kernel_rfl) (by kernel_rfl) (by kernel_rfl) (fun _ _ _ h => h) (Or.inl ⟨by rfl, ?_⟩) hS0 ?_
        rotate_left
        · intro W _; go_simp; try with_reducible rfl
        try simp only [Act.put, List.getElem_toArray, List.getElem_cons_zero, List.getElem_cons_succ, List.setIfInBounds_toArray, List.set_cons_zero, List.set_cons_succ]
        refine wpAnyH_take (i := 6) (v := ?_) rfl (by kernel_rfl) (by kernel_rfl) (by kernel_rfl) (fun _ _ _ h => h) (Or.inl ⟨by rfl, ?_⟩) hS0 ?_
        rotate_left
        · intro W _; go_simp; try with_reducible rfl
        try simp only [Act.put, List.getElem_toArray, List.getElem_cons_zero, List.getElem_cons_succ, List.setIfInBounds_toArray, List.set_cons_zero, List.set_cons_succ]
        refine wpAnyH_take (i := 7) (v := ?_) rfl (by kernel_rfl) (by kernel_rfl) (by kernel_rfl) (fun _ _ _ h => h) (Or.inl ⟨by rfl, ?_⟩) hS0 ?_
        rotate_left
        · intro W _; go_simp; try with_reducible rfl
        try simp only [Act.put, List.getElem_toArray, List.getElem_cons_zero, List.getElem_cons_succ, List.setIfInBounds_toArray, List.set_cons_zero, List.set_cons_succ]
        refine wpAnyH_take (i := 8) (v := ?_) rfl (by kernel_rfl) (by kernel_rfl) (by kernel_rfl) (fun _ _ _ h => h) (Or.inl ⟨by rfl, ?_⟩) hS0 ?_
        rotate_left
        · intro W hSW; have hx : ∀ b o, b < u2c.heap.size → W.cell? ⟨b, o, none⟩ = u2c.cell? ⟨b, o, none⟩ := fun b o h => hSW.cell (p := ⟨b, o, none⟩) h; go_simp; try with_reducible rfl
        try simp only [Act.put, List.getElem_toArray, List.getElem_cons_zero, List.getElem_cons_succ, List.setIfInBounds_toArray, List.set_cons_zero, List.set_cons_succ]
        refine wpAnyH_ready (rs := [9]) (by kernel_rfl) (by simp) ?_
        refine AllReadyH.cons rfl (fun K hK => ?_) AllReadyH.nil
        go_simp
        refine (KN.out _ (Tn2.out.2.2.2.2.2.later hS0)).mono ?_
        rintro e u3a ⟨rfl, hbu3a⟩
        go_simp
        refine hK.out _ _ (hS0.trans ((hbu3a).mono hS0.size)) (fun hS1 => ?_)
        clear hK K
        try simp only [Act.put, List.getElem_toArray, List.getElem_cons_zero, List.getElem_cons_succ, List.setIfInBounds_toArray, List.set_cons_zero, List.set_cons_succ]
        refine wpAnyH_take (i := 10) (v := ?_) rfl (by kernel_rfl) (by kernel_rfl) (by kernel_rfl) (fun _ _ _ h => h) (Or.inl ⟨by rfl, ?_⟩) hS1 ?_
        rotate_left
        · intro W _; go_simp; try with_reducible rfl
        try simp only [Act.put, List.getElem_toArray, List.getElem_cons_zero, List.getElem_cons_succ, List.setIfInBounds_toArray, List.set_cons_zero, List.set_cons_succ]
        refine wpAnyH_take (i := 11) (v := ?_) rfl (by kernel_rfl) (by kernel_rfl) (by kernel_rfl) (fun _ _ _ h => h) (Or.inl ⟨by rfl, ?_⟩) hS1 ?_
        rotate_left
        · intro W _; go_simp; try with_reducible rfl
        try simp only [Act.put, List.getElem_toArray, List.getElem_cons_zero, List.getElem_cons_succ, List.setIfInBounds_toArray, List.set_cons_zero, List.set_cons_succ]
        refine wpAnyH_take (i := 12) (v := ?_) rfl (by kernel_rfl) (by kernel_rfl) (by kernel_rfl) (fun _ _ _ h => h) (Or.inl ⟨by rfl, ?_⟩) hS1 ?_
        rotate_left
        · intro W hSW; have hx : ∀ b o, b < u2c.heap.size → W.cell? ⟨b, o, none⟩ = u2c.cell? ⟨b, o, none⟩ := fun b o h => hSW.cell (p := ⟨b, o, none⟩) h; go_simp; try with_reducible rfl
        try simp only [Act.put, List.getElem_toArray, List.getElem_cons_zero, List.getElem_cons_succ, List.setIfInBounds_toArray, List.set_cons_zero, List.set_cons_succ]
        refine wpAnyH_take (i := 15) (v := ?_) rfl (by kernel_rfl) (by kernel_rfl) (by kernel_rfl) (fun _ _ _ h => h) (Or.inl ⟨by rfl, ?_⟩) hS1 ?_
        rotate_left
        · intro W _; go_simp; try with_reducible rfl
        try simp only [Act.put, List.getElem_toArray, List.getElem_cons_zero, List.getElem_cons_succ, List.setIfInBounds_toArray, List.set_cons_zero, List.set_cons_succ]
        refine wpAnyH_take (i := 16) (v := ?_) rfl (by kernel_rfl) (by kernel_rfl) (by kernel_rfl) (fun _ _ _ h => h) (Or.inl ⟨by rfl, ?_⟩) hS1 ?_
        rotate_left
        · intro W _; go_simp; try with_reducible rfl
        try simp only [Act.put, List.getElem_toArray, List.getElem_cons_zero, List.getElem_cons_succ, List.setIfInBounds_toArray, List.set_cons_zero, List.set_cons_succ]
        refine wpAnyH_take (i := 17) (v := ?_) rfl (by kernel_rfl) (by kernel_rfl) (by kernel_rfl) (fun _ _ _ h => h) (Or.inl ⟨by rfl, ?_⟩) hS1 ?_
        rotate_left
        · intro W _; go_simp; try with_reducible rfl
        try simp only [Act.put, List.getElem_toArray, List.getElem_cons_zero, List.getElem_cons_succ, List.setIfInBounds_toArray, List.set_cons_zero, List.set_cons_succ]
        refine wpAnyH_take (i := 18) (v := ?_) rfl (by kernel_rfl) (by kernel_rfl) (by kernel_rfl) (fun _ _ _ h => h) (Or.inl ⟨by rfl, ?_⟩) hS1 ?_
        rotate_left
        · intro W _; go_simp; try with_reducible rfl
        try simp only [Act.put, List.getElem_toArray, List.getElem_cons_zero, List.getElem_cons_succ, List.setIfInBounds_toArray, List.set_cons_zero, List.set_cons_succ]
        refine wpAnyH_ready (rs := [13]) (by kernel_rfl) (by simp) ?_
        refine AllReadyH.cons rfl (fun K hK => ?_) AllReadyH.nil
        go_simp
        refine (PN.out _ (Tn2.out.2.2.2.2.2.later hS1)).mono ?_
        rintro e u3b ⟨G, C, rfl, ro, co, cm, hoo, hbu3b⟩
        have q := run_str_rd (P := Try.prog) u3b (src := 36) (dst := 9) (c := C) Try.underlying36 Try.underlying5 Try.underlying9 HN.out ro
        rw [show (⟨L.toArray⟩ : ByteArray) = E from HE.out.symm] at q
        go_simp
        refine hK.out _ _ (hS1.trans ((hbu3b).mono hS1.size)) (fun hS2 => ?_)
        clear hK K
        try simp only [Act.put, List.getElem_toArray, List.getElem_cons_zero, List.getElem_cons_succ, List.setIfInBounds_toArray, List.set_cons_zero, List.set_cons_succ]
        refine wpAnyH_ready (rs := [14]) (by kernel_rfl) (by simp) ?_
        refine AllReadyH.cons rfl (fun K hK => ?_) AllReadyH.nil
        go_simp
        refine hK.out _ _ hS2 (fun hS3 => ?_)
        clear hK K
        try simp only [Act.put, List.getElem_toArray, List.getElem_cons_zero, List.getElem_cons_succ, List.setIfInBounds_toArray, List.set_cons_zero, List.set_cons_succ]
        refine wpAnyH_take (i := 19) (v := ?_) rfl (by kernel_rfl) (by kernel_rfl) (by kernel_rfl) (fun _ _ _ h => h) (Or.inl ⟨by rfl, ?_⟩) hS3 ?_
        rotate_left
        · intro W _; go_simp; try with_reducible rfl
        try simp only [Act.put, List.getElem_toArray, List.getElem_cons_zero, List.getElem_cons_succ, List.setIfInBounds_toArray, List.set_cons_zero, List.set_cons_succ]
        refine wpAnyH_take (i := 20) (v := ?_) rfl (by kernel_rfl) (by kernel_rfl) (by kernel_rfl) (fun _ _ _ h => h) (Or.inl ⟨by rfl, ?_⟩) hS3 ?_
        rotate_left
        · intro W _; go_simp; try with_reducible rfl
        try simp only [Act.put, List.getElem_toArray, List.getElem_cons_zero, List.getElem_cons_succ, List.setIfInBounds_toArray, List.set_cons_zero, List.set_cons_succ]
        refine wpAnyH_take (i := 21) (v := ?_) rfl (by kernel_rfl) (by kernel_rfl) (by kernel_rfl) (fun _ _ _ h => h) (Or.inl ⟨by rfl, ?_⟩) hS3 ?_
        rotate_left
        · intro W _; go_simp; try with_reducible rfl
        try simp only [Act.put, List.getElem_toArray, List.getElem_cons_zero, List.getElem_cons_succ, List.setIfInBounds_toArray, List.set_cons_zero, List.set_cons_succ]
        refine wpAnyH_take (i := 22) (v := ?_) rfl (by kernel_rfl) (by kernel_rfl) (by kernel_rfl) (fun _ _ _ h => h) (Or.inl ⟨by rfl, ?_⟩) hS3 ?_
        rotate_left
        · intro W _; go_simp; try with_reducible rfl
        try simp only [Act.put, List.getElem_toArray, List.getElem_cons_zero, List.getElem_cons_succ, List.setIfInBounds_toArray, List.set_cons_zero, List.set_cons_succ]
        refine wpAnyH_done (by kernel_rfl) ?_ _
        have Tp3 : Hid (Below w.heap.size w u3b ∧ Bk u3b w3.heap.size 26 #[.string nm1, .int .i64 (a1 : Int), .int .i64 (b1 : Int), .int .i64 (c1 : Int), .slice A1 m1 p1] ∧ RdL u3b A1 l1 ∧ Bk u3b w5.heap.size 28 #[.string nm2, .int .i64 (a2 : Int), .int .i64 (b2 : Int), .int .i64 (c2 : Int)] ∧ Bk u3b w7.heap.size 30 #[.string nm3, .string qu3, .int .i64 (pr3 : Int), .int .i64 (a3 : Int), .int .i64 (b3 : Int), .int .i64 (c3 : Int), .slice A3 m3 p3, .string ap3, .string ga3, .int .i64 (sz3 : Int)] ∧ RdL u3b A3 l3) := ⟨Tn2.out.1.trans (hS2.mono Tn2.out.1.size), Tn2.out.2.1.later hS2, Tn2.out.2.2.1.later hS2, Tn2.out.2.2.2.1.later hS2, Tn2.out.2.2.2.2.1.later hS2, Tn2.out.2.2.2.2.2.later hS2⟩
        clear hS0 hS1 hS2 hS3 hbu3a hbu3b KN PN HN HE x1 x2 x3 g0 g1 g2 hex zz q ro co cm hoo y1 Tn2 SH y2 y3 y4 f0 f1 f2 f3 f4 f5 f6 f7 f8 f9
        go_wp2
        go_ret
        exact ⟨rfl, Tp3.out.1⟩
      case neg =>
        have e1 : (er3 == 0) = false := by simpa using h0
        have e2 : (er3 != 0) = true := by simpa using h0
        clear h0
        go_quiet (fail)
        obtain ⟨u3c, hwn⟩ : ∃ W, W = u2c.drewN nq := ⟨_, rfl⟩
        rw [← hwn]
        have hq : Below u2c.heap.size u2c u3c := by rw [hwn]; exact bdrewN (Below.refl _ _) _
        have Tn3 : Hid (Below w.heap.size w u3c ∧ Bk u3c w3.heap.size 26 #[.string nm1, .int .i64 (a1 : Int), .int .i64 (b1 : Int), .int .i64 (c1 : Int), .slice A1 m1 p1] ∧ RdL u3c A1 l1 ∧ Bk u3c w5.heap.size 28 #[.string nm2, .int .i64 (a2 : Int), .int .i64 (b2 : Int), .int .i64 (c2 : Int)] ∧ Bk u3c w7.heap.size 30 #[.string nm3, .string qu3, .int .i64 (pr3 : Int), .int .i64 (a3 : Int), .int .i64 (b3 : Int), .int .i64 (c3 : Int), .slice A3 m3 p3, .string ap3, .string ga3, .int .i64 (sz3 : Int)] ∧ RdL u3c A3 l3) := ⟨Tn2.out.1.trans (hq.mono Tn2.out.1.size), Tn2.out.2.1.later hq, Tn2.out.2.2.1.later hq, Tn2.out.2.2.2.1.later hq, Tn2.out.2.2.2.2.1.later hq, Tn2.out.2.2.2.2.2.later hq⟩
        clear hq hwn Tn2 O3
        go_wp2
        go_ret
        exact ⟨rfl, Tn3.out.1⟩
  case neg =>
    have e1 : (er1 == 0) = false := by simpa using h0
    have e2 : (er1 != 0) = true := by simpa using h0
    clear h0
    go_quiet (fail)
    obtain ⟨u1c, hwn⟩ : ∃ W, W = w8.drewN nq := ⟨_, rfl⟩
    rw [← hwn]
    have hq : Below w8.heap.size w8 u1c := by rw [hwn]; exact bdrewN (Below.refl _ _) _
    have Tn1 : Hid (Below w.heap.size w u1c ∧ Bk u1c w3.heap.size 26 #[.string nm1, .int .i64 (a1 : Int), .int .i64 (b1 : Int), .int .i64 (c1 : Int), .slice A1 m1 p1] ∧ RdL u1c A1 l1 ∧ Bk u1c w5.heap.size 28 #[.string nm2, .int .i64 (a2 : Int), .int .i64 (b2 : Int), .int .i64 (c2 : Int)] ∧ Bk u1c w7.heap.size 30 #[.string nm3, .string qu3, .int .i64 (pr3 : Int), .int .i64 (a3 : Int), .int .i64 (b3 : Int), .int .i64 (c3 : Int), .slice A3 m3 p3, .string ap3, .string ga3, .int .i64 (sz3 : Int)] ∧ RdL u1c A3 l3) := ⟨B3.out.1.trans (hq.mono B3.out.1.size), B3.out.2.1.later hq, B3.out.2.2.1.later hq, B3.out.2.2.2.1.later hq, B3.out.2.2.2.2.1.later hq, B3.out.2.2.2.2.2.later hq⟩
    clear hq hwn B3 O1
    go_wp2_with fail
    clear e1 e2
    by_cases h0 : er2 = 0
    case pos =>
      subst h0
      obtain ⟨ok, g0, g1, g2, g3⟩ := O2.out rfl
      clear O2
      have hv := ok
      unfold queueB at hv
      simp only [Bool.and_eq_true] at hv
      have y1 := (nameB_le hv.1).2
      have kn := fun W => queue_any nm2 (a2 : Int) (b2 : Int) (c2 : Int) W (by omega)
      rw [ok] at kn
      have hbyt : queueBytes nm2 (a2 : Int) (b2 : Int) (c2 : Int) = queueEnc nm2 (a2 : Int) (b2 : Int) (c2 : Int) := if_pos ok
      obtain ⟨N, hN⟩ : ∃ N, N = (queueEnc nm2 (a2 : Int) (b2 : Int) (c2 : Int)).length := ⟨_, rfl⟩
      have pn := fun W => putQueue_any none 0 0 [] nm2 (a2 : Int) (b2 : Int) (c2 : Int) N W rfl (Rd.nil _ _) (by decide) (by omega) (by show _ = _; rw [hbyt, List.nil_append]; exact hN)
      rw [hbyt, List.nil_append] at pn
      clear hbyt
      generalize queueEnc nm2 (a2 : Int) (b2 : Int) (c2 : Int) = L at g3 pn hN
      obtain ⟨E, hE⟩ : ∃ E, E = S L := ⟨_, rfl⟩
      have hex : s.extract at_.toNat nx2.toNat = E := by rw [Lib.extract_eq, ← HL.out, ← g3, hE]; rfl
      have KN := Lib.hid kn
      have PN := Lib.hid pn
      have HN := Lib.hid hN
      have HE := Lib.hid hE
      have x1 : decide ((s.size : Int) < nx2) = false := decide_eq_false (by omega)
      have x2 : ¬ (s.size : Int) < nx2 := by omega
      have x3 : decide (nx2 ≤ (s.size : Int)) = true := decide_eq_true (by omega)
      clear kn pn hN hE g3 hv ok
      have f0 : u1c.cell? ⟨w5.heap.size, 0, none⟩ = some (.string nm2) := Tn1.out.2.2.2.1.cellAt 0
      have f1 : u1c.cell? ⟨w5.heap.size, 1, none⟩ = some (.int .i64 (a2 : Int)) := Tn1.out.2.2.2.1.cellAt 1
      have f2 : u1c.cell? ⟨w5.heap.size, 2, none⟩ = some (.int .i64 (b2 : Int)) := Tn1.out.2.2.2.1.cellAt 2
      have f3 : u1c.cell? ⟨w5.heap.size, 3, none⟩ = some (.int .i64 (c2 : Int)) := Tn1.out.2.2.2.1.cellAt 3
      have zz : w5.heap.size < u1c.heap.size := Tn1.out.2.2.2.1.here
      refine wp_region_held_drew (S := fun W => Below u1c.heap.size u1c W) (by kernel_rfl) (Below.drew (Below.refl _ _)) (fun hS0 => ?_)
      refine wpAnyH_take (i := 0) (v := ?_) rfl (by kernel_rfl) (by kernel_rfl) (by kernel_rfl) (fun _ _ _ h => h) (Or.inl ⟨by rfl, ?_⟩) hS0 ?_
      rotate_left
      · intro W _; go_simp; try with_reducible rfl
      try simp only [Act.put, List.getElem_toArray, List.getElem_cons_zero, List.setIfInBounds_toArray, List.set_cons_zero, List.set_cons_succ]
      refine wpAnyH_take (i := 1) (v := ?_) rfl (by kernel_rfl) (by kernel_rfl) (by kernel_rfl) (fun _ _ _ h => h) (Or.inl ⟨by rfl, ?_⟩) hS0 ?_
      rotate_left
      · intro W _; go_simp; try with_reducible rfl
      try simp only [Act.put, List.getElem_toArray, List.getElem_cons_zero, List.getElem_cons_succ, List.setIfInBounds_toArray, List.set_cons_zero, List.set_cons_succ]
      refine wpAnyH_take (i := 2) (v := ?_) rfl (by kernel_rfl) (by kernel_rfl) (by kernel_rfl) (fun _ _ _ h => h) (Or.inl ⟨by rfl, ?_⟩) hS0 ?_
      rotate_left
      · intro W _; go_simp; try with_reducible rfl
      try simp only [Act.put, List.getElem_toArray, List.getElem_cons_zero, List.getElem_cons_succ, List.setIfInBounds_toArray, List.set_cons_zero, List.set_cons_succ]
      refine wpAnyH_take (i := 3) (v := ?_) rfl (by kernel_rfl) (by kernel_rfl) (by kernel_rfl) (fun _ _ _ h => h) (Or.inl ⟨by rfl, ?_⟩) hS0 ?_
      rotate_left
      · intro W _; go_simp; try with_reducible rfl
      try simp only [Act.put, List.getElem_toArray, List.getElem_cons_zero, List.getElem_cons_succ, List.setIfInBounds_toArray, List.set_cons_zero, List.set_cons_succ]
      refine wpAnyH_take (i := 4) (v := ?_) rfl (by kernel_rfl) (by kernel_rfl) (by kernel_rfl) (fun _ _ _ h => h) (Or.inl ⟨by rfl, ?_⟩) hS0 ?_
      rotate_left
      · intro W _; go_simp; try with_reducible rfl
      try simp only [Act.put, List.getElem_toArray, List.getElem_cons_zero, List.getElem_cons_succ, List.setIfInBounds_toArray, List.set_cons_zero, List.set_cons_succ]
      refine wpAnyH_take (i := 5) (v := ?_) rfl (by kernel_rfl) (by kernel_rfl) (by kernel_rfl) (fun _ _ _ h => h) (Or.inl ⟨by rfl, ?_⟩) hS0 ?_
      rotate_left
      · intro W _; go_simp; try with_reducible rfl
      try simp only [Act.put, List.getElem_toArray, List.getElem_cons_zero, List.getElem_cons_succ, List.setIfInBounds_toArray, List.set_cons_zero, List.set_cons_succ]
      refine wpAnyH_take (i := 6) (v := ?_) rfl (by kernel_rfl) (by kernel_rfl) (by kernel_rfl) (fun _ _ _ h => h) (Or.inl ⟨by rfl, ?_⟩) hS0 ?_
      rotate_left
      · intro W _; go_simp; try with_reducible rfl
      try simp only [Act.put, List.getElem_toArray, List.getElem_cons_zero, List.getElem_cons_succ, List.setIfInBounds_toArray, List.set_cons_zero, List.set_cons_succ]
      refine wpAnyH_take (i := 7) (v := ?_) rfl (by kernel_rfl) (by kernel_rfl) (by kernel_rfl) (fun _ _ _ h => h) (Or.inl ⟨by rfl, ?_⟩) hS0 ?_
      rotate_left
      · intro W _; go_simp; try with_reducible rfl
      try simp only [Act.put, List.getElem_toArray, List.getElem_cons_zero, List.getElem_cons_succ, List.setIfInBounds_toArray, List.set_cons_zero, List.set_cons_succ]
      refine wpAnyH_take (i := 8) (v := ?_) rfl (by kernel_rfl) (by kernel_rfl) (by kernel_rfl) (fun _ _ _ h => h) (Or.inl ⟨by rfl, ?_⟩) hS0 ?_
      rotate_left
      · intro W hSW; have hx : ∀ b o, b < u1c.heap.size → W.cell? ⟨b, o, none⟩ = u1c.cell? ⟨b, o, none⟩ := fun b o h => hSW.cell (p := ⟨b, o, none⟩) h; go_simp; try with_reducible rfl
      try simp only [Act.put, List.getElem_toArray, List.getElem_cons_zero, List.getElem_cons_succ, List.setIfInBounds_toArray, List.set_cons_zero, List.set_cons_succ]
      refine wpAnyH_ready (rs := [9]) (by kernel_rfl) (by simp) ?_
      refine AllReadyH.cons rfl (fun K hK => ?_) AllReadyH.nil
      go_simp
      refine (KN.out _).mono ?_
      rintro e u2a ⟨rfl, hbu2a⟩
      go_simp
      refine hK.out _ _ (hS0.trans ((hbu2a).mono hS0.size)) (fun hS1 => ?_)
      clear hK K
      try simp only [Act.put, List.getElem_toArray, List.getElem_cons_zero, List.getElem_cons_succ, List.setIfInBounds_toArray, List.set_cons_zero, List.set_cons_succ]
      refine wpAnyH_take (i := 10) (v := ?_) rfl (by kernel_rfl) (by kernel_rfl) (by kernel_rfl) (fun _ _ _ h => h) (Or.inl ⟨by rfl, ?_⟩) hS1 ?_
      rotate_left
      · intro W _; go_simp; try with_reducible rfl
      try simp only [Act.put, List.getElem_toArray, List.getElem_cons_zero, List.getElem_cons_succ, List.setIfInBounds_toArray, List.set_cons_zero, List.set_cons_succ]
      refine wpAnyH_take (i := 11) (v := ?_) rfl (by kernel_rfl) (by kernel_rfl) (by kernel_rfl) (fun _ _ _ h => h) (Or.inl ⟨by rfl, ?_⟩) hS1 ?_
      rotate_left
      · intro W _; go_simp; try with_reducible rfl
      try simp only [Act.put, List.getElem_toArray, List.getElem_cons_zero, List.getElem_cons_succ, List.setIfInBounds_toArray, List.set_cons_zero, List.set_cons_succ]
      refine wpAnyH_take (i := 12) (v := ?_) rfl (by kernel_rfl) (by kernel_rfl) (by kernel_rfl) (fun _ _ _ h => h) (Or.inl ⟨by rfl, ?_⟩) hS1 ?_
      rotate_left
      · intro W _; go_simp; try with_reducible rfl
      try simp only [Act.put, List.getElem_toArray, List.getElem_cons_zero, List.getElem_cons_succ, List.setIfInBounds_toArray, List.set_cons_zero, List.set_cons_succ]
      refine wpAnyH_take (i := 13) (v := ?_) rfl (by kernel_rfl) (by kernel_rfl) (by kernel_rfl) (fun _ _ _ h => h) (Or.inl ⟨by rfl, ?_⟩) hS1 ?_
      rotate_left
      · intro W hSW; have hx : ∀ b o, b < u1c.heap.size → W.cell? ⟨b, o, none⟩ = u1c.cell? ⟨b, o, none⟩ := fun b o h => hSW.cell (p := ⟨b, o, none⟩) h; go_simp; try with_reducible rfl
      try simp only [Act.put, List.getElem_toArray, List.getElem_cons_zero, List.getElem_cons_succ, List.setIfInBounds_toArray, List.set_cons_zero, List.set_cons_succ]
      refine wpAnyH_take (i := 16) (v := ?_) rfl (by kernel_rfl) (by kernel_rfl) (by kernel_rfl) (fun _ _ _ h => h) (Or.inl ⟨by rfl, ?_⟩) hS1 ?_
      rotate_left
      · intro W _; go_simp; try with_reducible rfl
      try simp only [Act.put, List.getElem_toArray, List.getElem_cons_zero, List.getElem_cons_succ, List.setIfInBounds_toArray, List.set_cons_zero, List.set_cons_succ]
      refine wpAnyH_take (i := 17) (v := ?_) rfl (by kernel_rfl) (by kernel_rfl) (by kernel_rfl) (fun _ _ _ h => h) (Or.inl ⟨by rfl, ?_⟩) hS1 ?_
      rotate_left
      · intro W _; go_simp; try with_reducible rfl
      try simp only [Act.put, List.getElem_toArray, List.getElem_cons_zero, List.getElem_cons_succ, List.setIfInBounds_toArray, List.set_cons_zero, List.set_cons_succ]
      refine wpAnyH_take (i := 18) (v := ?_) rfl (by kernel_rfl) (by kernel_rfl) (by kernel_rfl) (fun _ _ _ h => h) (Or.inl ⟨by rfl, ?_⟩) hS1 ?_
      rotate_left
      · intro W _; go_simp; try with_reducible rfl
      try simp only [Act.put, List.getElem_toArray, List.getElem_cons_zero, List.getElem_cons_succ, List.setIfInBounds_toArray, List.set_cons_zero, List.set_cons_succ]
      refine wpAnyH_take (i := 19) (v := ?_) rfl (by kernel_rfl) (by kernel_rfl) (by kernel_rfl) (fun _ _ _ h => h) (Or.inl ⟨by rfl, ?_⟩) hS1 ?_
      rotate_left
      · intro W _; go_simp; try with_reducible rfl
      try simp only [Act.put, List.getElem_toArray, List.getElem_cons_zero, List.getElem_cons_succ, List.setIfInBounds_toArray, List.set_cons_zero, List.set_cons_succ]
      refine wpAnyH_ready (rs := [14]) (by kernel_rfl) (by simp) ?_
      refine AllReadyH.cons rfl (fun K hK => ?_) AllReadyH.nil
      go_simp
      refine (PN.out _).mono ?_
      rintro e u2b ⟨G, C, rfl, ro, co, cm, hoo, hbu2b⟩
      have q := run_str_rd (P := Try.prog) u2b (src := 36) (dst := 9) (c := C) Try.underlying36 Try.underlying5 Try.underlying9 HN.out ro
      rw [show (⟨L.toArray⟩ : ByteArray) = E from HE.out.symm] at q
      go_simp
      refine hK.out _ _ (hS1.trans ((hbu2b).mono hS1.size)) (fun hS2 => ?_)
      clear hK K
      try simp only [Act.put, List.getElem_toArray, List.getElem_cons_zero, List.getElem_cons_succ, List.setIfInBounds_toArray, List.set_cons_zero, List.set_cons_succ]
      refine wpAnyH_ready (rs := [15]) (by kernel_rfl) (by simp) ?_
      refine AllReadyH.cons rfl (fun K hK => ?_) AllReadyH.nil
      go_simp
      refine hK.out _ _ hS2 (fun hS3 => ?_)
      clear hK K
      try simp only [Act.put, List.getElem_toArray, List.getElem_cons_zero, List.getElem_cons_succ, List.setIfInBounds_toArray, List.set_cons_zero, List.set_cons_succ]
      refine wpAnyH_take (i := 20) (v := ?_) rfl (by kernel_rfl) (by kernel_rfl) (by kernel_rfl) (fun _ _ _ h => h) (Or.inl ⟨by rfl, ?_⟩) hS3 ?_
      rotate_left
      · intro W _; go_simp; try with_reducible rfl
      try simp only [Act.put, List.getElem_toArray, List.getElem_cons_zero, List.getElem_cons_succ, List.setIfInBounds_toArray, List.set_cons_zero, List.set_cons_succ]
      refine wpAnyH_take (i := 21) (v := ?_) rfl (by kernel_rfl) (by kernel_rfl) (by kernel_rfl) (fun _ _ _ h => h) (Or.inl ⟨by rfl, ?_⟩) hS3 ?_
      rotate_left
      · intro W _; go_simp; try with_reducible rfl
      try simp only [Act.put, List.getElem_toArray, List.getElem_cons_zero, List.getElem_cons_succ, List.setIfInBounds_toArray, List.set_cons_zero, List.set_cons_succ]
      refine wpAnyH_take (i := 22) (v := ?_) rfl (by kernel_rfl) (by kernel_rfl) (by kernel_rfl) (fun _ _ _ h => h) (Or.inl ⟨by rfl, ?_⟩) hS3 ?_
      rotate_left
      · intro W _; go_simp; try with_reducible rfl
      try simp only [Act.put, List.getElem_toArray, List.getElem_cons_zero, List.getElem_cons_succ, List.setIfInBounds_toArray, List.set_cons_zero, List.set_cons_succ]
      refine wpAnyH_done (by kernel_rfl) ?_ _
      have Tp2 : Hid (Below w.heap.size w u2b ∧ Bk u2b w3.heap.size 26 #[.string nm1, .int .i64 (a1 : Int), .int .i64 (b1 : Int), .int .i64 (c1 : Int), .slice A1 m1 p1] ∧ RdL u2b A1 l1 ∧ Bk u2b w5.heap.size 28 #[.string nm2, .int .i64 (a2 : Int), .int .i64 (b2 : Int), .int .i64 (c2 : Int)] ∧ Bk u2b w7.heap.size 30 #[.string nm3, .string qu3, .int .i64 (pr3 : Int), .int .i64 (a3 : Int), .int .i64 (b3 : Int), .int .i64 (c3 : Int), .slice A3 m3 p3, .string ap3, .string ga3, .int .i64 (sz3 : Int)] ∧ RdL u2b A3 l3) := ⟨Tn1.out.1.trans (hS2.mono Tn1.out.1.size), Tn1.out.2.1.later hS2, Tn1.out.2.2.1.later hS2, Tn1.out.2.2.2.1.later hS2, Tn1.out.2.2.2.2.1.later hS2, Tn1.out.2.2.2.2.2.later hS2⟩
      clear hS0 hS1 hS2 hS3 hbu2a hbu2b KN PN HN HE x1 x2 x3 g0 g1 g2 hex zz q ro co cm hoo y1 Tn1 f0 f1 f2 f3
      go_wp2_with fail
      by_cases h0 : er3 = 0
      case pos =>
        subst h0
        obtain ⟨ok, g0, g1, g2, g3⟩ := O3.out rfl
        clear O3
        have hv := ok
        unfold taskB at hv
        simp only [Bool.and_eq_true, decide_eq_true_eq] at hv
        obtain ⟨⟨⟨⟨⟨⟨⟨v1, v2⟩, v3⟩, v4⟩, v5⟩, v6⟩, v7⟩, v8⟩ := hv
        have y1 := (nameB_le v1).2
        have y2 := (nameB_le v2).2
        have y3 := apartB_le v7
        have y4 := (gangB_le v8).1
        have SH := Lib.hid (labelsB_le v6).2.sz
        have hv : True := trivial
        clear v1 v2 v3 v4 v5 v6 v7 v8
        have kn := fun W (h : RdL W A3 l3) => task_any nm3 qu3 (pr3 : Int) (a3 : Int) (b3 : Int) (c3 : Int) A3 m3 p3 l3 ap3 ga3 (sz3 : Int) W (by omega) (by omega) HM3 (Lib.hid h) SH ca3 cb3x (by omega) (by omega)
        rw [ok] at kn
        have hbyt : taskBytes nm3 qu3 (pr3 : Int) (a3 : Int) (b3 : Int) (c3 : Int) l3 ap3 ga3 (sz3 : Int) = taskEnc nm3 qu3 (pr3 : Int) (a3 : Int) (b3 : Int) (c3 : Int) l3 ap3 ga3 (sz3 : Int) := if_pos ok
        obtain ⟨N, hN⟩ : ∃ N, N = (taskEnc nm3 qu3 (pr3 : Int) (a3 : Int) (b3 : Int) (c3 : Int) l3 ap3 ga3 (sz3 : Int)).length := ⟨_, rfl⟩
        have pn := fun W (h : RdL W A3 l3) => putTask_any none 0 0 [] nm3 qu3 (pr3 : Int) (a3 : Int) (b3 : Int) (c3 : Int) A3 m3 p3 l3 ap3 ga3 (sz3 : Int) N W rfl (Rd.nil _ _) (by decide) (by omega) (by omega) HM3 (Lib.hid h) SH ca3 cb3x (by omega) (by omega) (by show _ = _; rw [hbyt, List.nil_append]; exact hN)
        rw [hbyt, List.nil_append] at pn
        clear hbyt
        generalize taskEnc nm3 qu3 (pr3 : Int) (a3 : Int) (b3 : Int) (c3 : Int) l3 ap3 ga3 (sz3 : Int) = L at g3 pn hN
        obtain ⟨E, hE⟩ : ∃ E, E = S L := ⟨_, rfl⟩
        have hex : s.extract at_.toNat nx3.toNat = E := by rw [Lib.extract_eq, ← HL.out, ← g3, hE]; rfl
        have KN := Lib.hid kn
        have PN := Lib.hid pn
        have HN := Lib.hid hN
        have HE := Lib.hid hE
        have x1 : decide ((s.size : Int) < nx3) = false := decide_eq_false (by omega)
        have x2 : ¬ (s.size : Int) < nx3 := by omega
        have x3 : decide (nx3 ≤ (s.size : Int)) = true := decide_eq_true (by omega)
        clear kn pn hN hE g3 hv ok
        have f0 : u2b.cell? ⟨w7.heap.size, 0, none⟩ = some (.string nm3) := Tp2.out.2.2.2.2.1.cellAt 0
        have f1 : u2b.cell? ⟨w7.heap.size, 1, none⟩ = some (.string qu3) := Tp2.out.2.2.2.2.1.cellAt 1
        have f2 : u2b.cell? ⟨w7.heap.size, 2, none⟩ = some (.int .i64 (pr3 : Int)) := Tp2.out.2.2.2.2.1.cellAt 2
        have f3 : u2b.cell? ⟨w7.heap.size, 3, none⟩ = some (.int .i64 (a3 : Int)) := Tp2.out.2.2.2.2.1.cellAt 3
        have f4 : u2b.cell? ⟨w7.heap.size, 4, none⟩ = some (.int .i64 (b3 : Int)) := Tp2.out.2.2.2.2.1.cellAt 4
        have f5 : u2b.cell? ⟨w7.heap.size, 5, none⟩ = some (.int .i64 (c3 : Int)) := Tp2.out.2.2.2.2.1.cellAt 5
        have f6 : u2b.cell? ⟨w7.heap.size, 6, none⟩ = some (.slice A3 m3 p3) := Tp2.out.2.2.2.2.1.cellAt 6
        have f7 : u2b.cell? ⟨w7.heap.size, 7, none⟩ = some (.string ap3) := Tp2.out.2.2.2.2.1.cellAt 7
        have f8 : u2b.cell? ⟨w7.heap.size, 8, none⟩ = some (.string ga3) := Tp2.out.2.2.2.2.1.cellAt 8
        have f9 : u2b.cell? ⟨w7.heap.size, 9, none⟩ = some (.int .i64 (sz3 : Int)) := Tp2.out.2.2.2.2.1.cellAt 9
        have zz : w7.heap.size < u2b.heap.size := Tp2.out.2.2.2.2.1.here
        refine wp_region_held_drew (S := fun W => Below u2b.heap.size u2b W) (by kernel_rfl) (Below.drew (Below.refl _ _)) (fun hS0 => ?_)
        refine wpAnyH_take (i := 0) (v := ?_) rfl (by kernel_rfl) (by kernel_rfl) (by kernel_rfl) (fun _ _ _ h => h) (Or.inl ⟨by rfl, ?_⟩) hS0 ?_
        rotate_left
        · intro W _; go_simp; try with_reducible rfl
        try simp only [Act.put, List.getElem_toArray, List.getElem_cons_zero, List.setIfInBounds_toArray, List.set_cons_zero, List.set_cons_succ]
        refine wpAnyH_take (i := 1) (v := ?_) rfl (by kernel_rfl) (by kernel_rfl) (by kernel_rfl) (fun _ _ _ h => h) (Or.inl ⟨by rfl, ?_⟩) hS0 ?_
        rotate_left
        · intro W _; go_simp; try with_reducible rfl
        try simp only [Act.put, List.getElem_toArray, List.getElem_cons_zero, List.getElem_cons_succ, List.setIfInBounds_toArray, List.set_cons_zero, List.set_cons_succ]
        refine wpAnyH_take (i := 2) (v := ?_) rfl (by kernel_rfl) (by kernel_rfl) (by kernel_rfl) (fun _ _ _ h => h) (Or.inl ⟨by rfl, ?_⟩) hS0 ?_
        rotate_left
        · intro W _; go_simp; try with_reducible rfl
        try simp only [Act.put, List.getElem_toArray, List.getElem_cons_zero, List.getElem_cons_succ, List.setIfInBounds_toArray, List.set_cons_zero, List.set_cons_succ]
        refine wpAnyH_take (i := 3) (v := ?_) rfl (by kernel_rfl) (by kernel_rfl) (by kernel_rfl) (fun _ _ _ h => h) (Or.inl ⟨by rfl, ?_⟩) hS0 ?_
        rotate_left
        · intro W _; go_simp; try with_reducible rfl
        try simp only [Act.put, List.getElem_toArray, List.getElem_cons_zero, List.getElem_cons_succ, List.setIfInBounds_toArray, List.set_cons_zero, List.set_cons_succ]
        refine wpAnyH_take (i := 4) (v := ?_) rfl (by kernel_rfl) (by kernel_rfl) (by kernel_rfl) (fun _ _ _ h => h) (Or.inl ⟨by rfl, ?_⟩) hS0 ?_
        rotate_left
        · intro W _; go_simp; try with_reducible rfl
        try simp only [Act.put, List.getElem_toArray, List.getElem_cons_zero, List.getElem_cons_succ, List.setIfInBounds_toArray, List.set_cons_zero, List.set_cons_succ]
        refine wpAnyH_take (i := 5) (v := ?_) rfl (by kernel_rfl) (by kernel_rfl) (by kernel_rfl) (fun _ _ _ h => h) (Or.inl ⟨by rfl, ?_⟩) hS0 ?_
        rotate_left
        · intro W _; go_simp; try with_reducible rfl
        try simp only [Act.put, List.getElem_toArray, List.getElem_cons_zero, List.getElem_cons_succ, List.setIfInBounds_toArray, List.set_cons_zero, List.set_cons_succ]
        refine wpAnyH_take (i := 6) (v := ?_) rfl (by kernel_rfl) (by kernel_rfl) (by kernel_rfl) (fun _ _ _ h => h) (Or.inl ⟨by rfl, ?_⟩) hS0 ?_
        rotate_left
        · intro W _; go_simp; try with_reducible rfl
        try simp only [Act.put, List.getElem_toArray, List.getElem_cons_zero, List.getElem_cons_succ, List.setIfInBounds_toArray, List.set_cons_zero, List.set_cons_succ]
        refine wpAnyH_take (i := 7) (v := ?_) rfl (by kernel_rfl) (by kernel_rfl) (by kernel_rfl) (fun _ _ _ h => h) (Or.inl ⟨by rfl, ?_⟩) hS0 ?_
        rotate_left
        · intro W _; go_simp; try with_reducible rfl
        try simp only [Act.put, List.getElem_toArray, List.getElem_cons_zero, List.getElem_cons_succ, List.setIfInBounds_toArray, List.set_cons_zero, List.set_cons_succ]
        refine wpAnyH_take (i := 8) (v := ?_) rfl (by kernel_rfl) (by kernel_rfl) (by kernel_rfl) (fun _ _ _ h => h) (Or.inl ⟨by rfl, ?_⟩) hS0 ?_
        rotate_left
        · intro W hSW; have hx : ∀ b o, b < u2b.heap.size → W.cell? ⟨b, o, none⟩ = u2b.cell? ⟨b, o, none⟩ := fun b o h => hSW.cell (p := ⟨b, o, none⟩) h; go_simp; try with_reducible rfl
        try simp only [Act.put, List.getElem_toArray, List.getElem_cons_zero, List.getElem_cons_succ, List.setIfInBounds_toArray, List.set_cons_zero, List.set_cons_succ]
        refine wpAnyH_ready (rs := [9]) (by kernel_rfl) (by simp) ?_
        refine AllReadyH.cons rfl (fun K hK => ?_) AllReadyH.nil
        go_simp
        refine (KN.out _ (Tp2.out.2.2.2.2.2.later hS0)).mono ?_
        rintro e u3a ⟨rfl, hbu3a⟩
        go_simp
        refine hK.out _ _ (hS0.trans ((hbu3a).mono hS0.size)) (fun hS1 => ?_)
        clear hK K
        try simp only [Act.put, List.getElem_toArray, List.getElem_cons_zero, List.getElem_cons_succ, List.setIfInBounds_toArray, List.set_cons_zero, List.set_cons_succ]
        refine wpAnyH_take (i := 10) (v := ?_) rfl (by kernel_rfl) (by kernel_rfl) (by kernel_rfl) (fun _ _ _ h => h) (Or.inl ⟨by rfl, ?_⟩) hS1 ?_
        rotate_left
        · intro W _; go_simp; try with_reducible rfl
        try simp only [Act.put, List.getElem_toArray, List.getElem_cons_zero, List.getElem_cons_succ, List.setIfInBounds_toArray, List.set_cons_zero, List.set_cons_succ]
        refine wpAnyH_take (i := 11) (v := ?_) rfl (by kernel_rfl) (by kernel_rfl) (by kernel_rfl) (fun _ _ _ h => h) (Or.inl ⟨by rfl, ?_⟩) hS1 ?_
        rotate_left
        · intro W _; go_simp; try with_reducible rfl
        try simp only [Act.put, List.getElem_toArray, List.getElem_cons_zero, List.getElem_cons_succ, List.setIfInBounds_toArray, List.set_cons_zero, List.set_cons_succ]
        refine wpAnyH_take (i := 12) (v := ?_) rfl (by kernel_rfl) (by kernel_rfl) (by kernel_rfl) (fun _ _ _ h => h) (Or.inl ⟨by rfl, ?_⟩) hS1 ?_
        rotate_left
        · intro W hSW; have hx : ∀ b o, b < u2b.heap.size → W.cell? ⟨b, o, none⟩ = u2b.cell? ⟨b, o, none⟩ := fun b o h => hSW.cell (p := ⟨b, o, none⟩) h; go_simp; try with_reducible rfl
        try simp only [Act.put, List.getElem_toArray, List.getElem_cons_zero, List.getElem_cons_succ, List.setIfInBounds_toArray, List.set_cons_zero, List.set_cons_succ]
        refine wpAnyH_take (i := 15) (v := ?_) rfl (by kernel_rfl) (by kernel_rfl) (by kernel_rfl) (fun _ _ _ h => h) (Or.inl ⟨by rfl, ?_⟩) hS1 ?_
        rotate_left
        · intro W _; go_simp; try with_reducible rfl
        try simp only [Act.put, List.getElem_toArray, List.getElem_cons_zero, List.getElem_cons_succ, List.setIfInBounds_toArray, List.set_cons_zero, List.set_cons_succ]
        refine wpAnyH_take (i := 16) (v := ?_) rfl (by kernel_rfl) (by kernel_rfl) (by kernel_rfl) (fun _ _ _ h => h) (Or.inl ⟨by rfl, ?_⟩) hS1 ?_
        rotate_left
        · intro W _; go_simp; try with_reducible rfl
        try simp only [Act.put, List.getElem_toArray, List.getElem_cons_zero, List.getElem_cons_succ, List.setIfInBounds_toArray, List.set_cons_zero, List.set_cons_succ]
        refine wpAnyH_take (i := 17) (v := ?_) rfl (by kernel_rfl) (by kernel_rfl) (by kernel_rfl) (fun _ _ _ h => h) (Or.inl ⟨by rfl, ?_⟩) hS1 ?_
        rotate_left
        · intro W _; go_simp; try with_reducible rfl
        try simp only [Act.put, List.getElem_toArray, List.getElem_cons_zero, List.getElem_cons_succ, List.setIfInBounds_toArray, List.set_cons_zero, List.set_cons_succ]
        refine wpAnyH_take (i := 18) (v := ?_) rfl (by kernel_rfl) (by kernel_rfl) (by kernel_rfl) (fun _ _ _ h => h) (Or.inl ⟨by rfl, ?_⟩) hS1 ?_
        rotate_left
        · intro W _; go_simp; try with_reducible rfl
        try simp only [Act.put, List.getElem_toArray, List.getElem_cons_zero, List.getElem_cons_succ, List.setIfInBounds_toArray, List.set_cons_zero, List.set_cons_succ]
        refine wpAnyH_ready (rs := [13]) (by kernel_rfl) (by simp) ?_
        refine AllReadyH.cons rfl (fun K hK => ?_) AllReadyH.nil
        go_simp
        refine (PN.out _ (Tp2.out.2.2.2.2.2.later hS1)).mono ?_
        rintro e u3b ⟨G, C, rfl, ro, co, cm, hoo, hbu3b⟩
        have q := run_str_rd (P := Try.prog) u3b (src := 36) (dst := 9) (c := C) Try.underlying36 Try.underlying5 Try.underlying9 HN.out ro
        rw [show (⟨L.toArray⟩ : ByteArray) = E from HE.out.symm] at q
        go_simp
        refine hK.out _ _ (hS1.trans ((hbu3b).mono hS1.size)) (fun hS2 => ?_)
        clear hK K
        try simp only [Act.put, List.getElem_toArray, List.getElem_cons_zero, List.getElem_cons_succ, List.setIfInBounds_toArray, List.set_cons_zero, List.set_cons_succ]
        refine wpAnyH_ready (rs := [14]) (by kernel_rfl) (by simp) ?_
        refine AllReadyH.cons rfl (fun K hK => ?_) AllReadyH.nil
        go_simp
        refine hK.out _ _ hS2 (fun hS3 => ?_)
        clear hK K
        try simp only [Act.put, List.getElem_toArray, List.getElem_cons_zero, List.getElem_cons_succ, List.setIfInBounds_toArray, List.set_cons_zero, List.set_cons_succ]
        refine wpAnyH_take (i := 19) (v := ?_) rfl (by kernel_rfl) (by kernel_rfl) (by kernel_rfl) (fun _ _ _ h => h) (Or.inl ⟨by rfl, ?_⟩) hS3 ?_
        rotate_left
        · intro W _; go_simp; try with_reducible rfl
        try simp only [Act.put, List.getElem_toArray, List.getElem_cons_zero, List.getElem_cons_succ, List.setIfInBounds_toArray, List.set_cons_zero, List.set_cons_succ]
        refine wpAnyH_take (i := 20) (v := ?_) rfl (by kernel_rfl) (by kernel_rfl) (by kernel_rfl) (fun _ _ _ h => h) (Or.inl ⟨by rfl, ?_⟩) hS3 ?_
        rotate_left
        · intro W _; go_simp; try with_reducible rfl
        try simp only [Act.put, List.getElem_toArray, List.getElem_cons_zero, List.getElem_cons_succ, List.setIfInBounds_toArray, List.set_cons_zero, List.set_cons_succ]
        refine wpAnyH_take (i := 21) (v := ?_) rfl (by kernel_rfl) (by kernel_rfl) (by kernel_rfl) (fun _ _ _ h => h) (Or.inl ⟨by rfl, ?_⟩) hS3 ?_
        rotate_left
        · intro W _; go_simp; try with_reducible rfl
        try simp only [Act.put, List.getElem_toArray, List.getElem_cons_zero, List.getElem_cons_succ, List.setIfInBounds_toArray, List.set_cons_zero, List.set_cons_succ]
        refine wpAnyH_take (i := 22) (v := ?_) rfl (by kernel_rfl) (by kernel_rfl) (by kernel_rfl) (fun _ _ _ h => h) (Or.inl ⟨by rfl, ?_⟩) hS3 ?_
        rotate_left
        · intro W _; go_simp; try with_reducible rfl
        try simp only [Act.put, List.getElem_toArray, List.getElem_cons_zero, List.getElem_cons_succ, List.setIfInBounds_toArray, List.set_cons_zero, List.set_cons_succ]
        refine wpAnyH_done (by kernel_rfl) ?_ _
        have Tp3 : Hid (Below w.heap.size w u3b ∧ Bk u3b w3.heap.size 26 #[.string nm1, .int .i64 (a1 : Int), .int .i64 (b1 : Int), .int .i64 (c1 : Int), .slice A1 m1 p1] ∧ RdL u3b A1 l1 ∧ Bk u3b w5.heap.size 28 #[.string nm2, .int .i64 (a2 : Int), .int .i64 (b2 : Int), .int .i64 (c2 : Int)] ∧ Bk u3b w7.heap.size 30 #[.string nm3, .string qu3, .int .i64 (pr3 : Int), .int .i64 (a3 : Int), .int .i64 (b3 : Int), .int .i64 (c3 : Int), .slice A3 m3 p3, .string ap3, .string ga3, .int .i64 (sz3 : Int)] ∧ RdL u3b A3 l3) := ⟨Tp2.out.1.trans (hS2.mono Tp2.out.1.size), Tp2.out.2.1.later hS2, Tp2.out.2.2.1.later hS2, Tp2.out.2.2.2.1.later hS2, Tp2.out.2.2.2.2.1.later hS2, Tp2.out.2.2.2.2.2.later hS2⟩
        clear hS0 hS1 hS2 hS3 hbu3a hbu3b KN PN HN HE x1 x2 x3 g0 g1 g2 hex zz q ro co cm hoo y1 Tp2 SH y2 y3 y4 f0 f1 f2 f3 f4 f5 f6 f7 f8 f9
        go_wp2
        go_ret
        exact ⟨rfl, Tp3.out.1⟩
      case neg =>
        have e1 : (er3 == 0) = false := by simpa using h0
        have e2 : (er3 != 0) = true := by simpa using h0
        clear h0
        go_quiet (fail)
        obtain ⟨u3c, hwn⟩ : ∃ W, W = u2b.drewN nq := ⟨_, rfl⟩
        rw [← hwn]
        have hq : Below u2b.heap.size u2b u3c := by rw [hwn]; exact bdrewN (Below.refl _ _) _
        have Tn3 : Hid (Below w.heap.size w u3c ∧ Bk u3c w3.heap.size 26 #[.string nm1, .int .i64 (a1 : Int), .int .i64 (b1 : Int), .int .i64 (c1 : Int), .slice A1 m1 p1] ∧ RdL u3c A1 l1 ∧ Bk u3c w5.heap.size 28 #[.string nm2, .int .i64 (a2 : Int), .int .i64 (b2 : Int), .int .i64 (c2 : Int)] ∧ Bk u3c w7.heap.size 30 #[.string nm3, .string qu3, .int .i64 (pr3 : Int), .int .i64 (a3 : Int), .int .i64 (b3 : Int), .int .i64 (c3 : Int), .slice A3 m3 p3, .string ap3, .string ga3, .int .i64 (sz3 : Int)] ∧ RdL u3c A3 l3) := ⟨Tp2.out.1.trans (hq.mono Tp2.out.1.size), Tp2.out.2.1.later hq, Tp2.out.2.2.1.later hq, Tp2.out.2.2.2.1.later hq, Tp2.out.2.2.2.2.1.later hq, Tp2.out.2.2.2.2.2.later hq⟩
        clear hq hwn Tp2 O3
        go_wp2
        go_ret
        exact ⟨rfl, Tn3.out.1⟩
    case neg =>
      have e1 : (er2 == 0) = false := by simpa using h0
      have e2 : (er2 != 0) = true := by simpa using h0
      clear h0
      go_quiet (fail)
      obtain ⟨u2c, hwn⟩ : ∃ W, W = u1c.drewN nq := ⟨_, rfl⟩
      rw [← hwn]
      have hq : Below u1c.heap.size u1c u2c := by rw [hwn]; exact bdrewN (Below.refl _ _) _
      have Tn2 : Hid (Below w.heap.size w u2c ∧ Bk u2c w3.heap.size 26 #[.string nm1, .int .i64 (a1 : Int), .int .i64 (b1 : Int), .int .i64 (c1 : Int), .slice A1 m1 p1] ∧ RdL u2c A1 l1 ∧ Bk u2c w5.heap.size 28 #[.string nm2, .int .i64 (a2 : Int), .int .i64 (b2 : Int), .int .i64 (c2 : Int)] ∧ Bk u2c w7.heap.size 30 #[.string nm3, .string qu3, .int .i64 (pr3 : Int), .int .i64 (a3 : Int), .int .i64 (b3 : Int), .int .i64 (c3 : Int), .slice A3 m3 p3, .string ap3, .string ga3, .int .i64 (sz3 : Int)] ∧ RdL u2c A3 l3) := ⟨Tn1.out.1.trans (hq.mono Tn1.out.1.size), Tn1.out.2.1.later hq, Tn1.out.2.2.1.later hq, Tn1.out.2.2.2.1.later hq, Tn1.out.2.2.2.2.1.later hq, Tn1.out.2.2.2.2.2.later hq⟩
      clear hq hwn Tn1 O2
      go_wp2_with fail
      clear e1 e2
      by_cases h0 : er3 = 0
      case pos =>
        subst h0
        obtain ⟨ok, g0, g1, g2, g3⟩ := O3.out rfl
        clear O3
        have hv := ok
        unfold taskB at hv
        simp only [Bool.and_eq_true, decide_eq_true_eq] at hv
        obtain ⟨⟨⟨⟨⟨⟨⟨v1, v2⟩, v3⟩, v4⟩, v5⟩, v6⟩, v7⟩, v8⟩ := hv
        have y1 := (nameB_le v1).2
        have y2 := (nameB_le v2).2
        have y3 := apartB_le v7
        have y4 := (gangB_le v8).1
        have SH := Lib.hid (labelsB_le v6).2.sz
        have hv : True := trivial
        clear v1 v2 v3 v4 v5 v6 v7 v8
        have kn := fun W (h : RdL W A3 l3) => task_any nm3 qu3 (pr3 : Int) (a3 : Int) (b3 : Int) (c3 : Int) A3 m3 p3 l3 ap3 ga3 (sz3 : Int) W (by omega) (by omega) HM3 (Lib.hid h) SH ca3 cb3x (by omega) (by omega)
        rw [ok] at kn
        have hbyt : taskBytes nm3 qu3 (pr3 : Int) (a3 : Int) (b3 : Int) (c3 : Int) l3 ap3 ga3 (sz3 : Int) = taskEnc nm3 qu3 (pr3 : Int) (a3 : Int) (b3 : Int) (c3 : Int) l3 ap3 ga3 (sz3 : Int) := if_pos ok
        obtain ⟨N, hN⟩ : ∃ N, N = (taskEnc nm3 qu3 (pr3 : Int) (a3 : Int) (b3 : Int) (c3 : Int) l3 ap3 ga3 (sz3 : Int)).length := ⟨_, rfl⟩
        have pn := fun W (h : RdL W A3 l3) => putTask_any none 0 0 [] nm3 qu3 (pr3 : Int) (a3 : Int) (b3 : Int) (c3 : Int) A3 m3 p3 l3 ap3 ga3 (sz3 : Int) N W rfl (Rd.nil _ _) (by decide) (by omega) (by omega) HM3 (Lib.hid h) SH ca3 cb3x (by omega) (by omega) (by show _ = _; rw [hbyt, List.nil_append]; exact hN)
        rw [hbyt, List.nil_append] at pn
        clear hbyt
        generalize taskEnc nm3 qu3 (pr3 : Int) (a3 : Int) (b3 : Int) (c3 : Int) l3 ap3 ga3 (sz3 : Int) = L at g3 pn hN
        obtain ⟨E, hE⟩ : ∃ E, E = S L := ⟨_, rfl⟩
        have hex : s.extract at_.toNat nx3.toNat = E := by rw [Lib.extract_eq, ← HL.out, ← g3, hE]; rfl
        have KN := Lib.hid kn
        have PN := Lib.hid pn
        have HN := Lib.hid hN
        have HE := Lib.hid hE
        have x1 : decide ((s.size : Int) < nx3) = false := decide_eq_false (by omega)
        have x2 : ¬ (s.size : Int) < nx3 := by omega
        have x3 : decide (nx3 ≤ (s.size : Int)) = true := decide_eq_true (by omega)
        clear kn pn hN hE g3 hv ok
        have f0 : u2c.cell? ⟨w7.heap.size, 0, none⟩ = some (.string nm3) := Tn2.out.2.2.2.2.1.cellAt 0
        have f1 : u2c.cell? ⟨w7.heap.size, 1, none⟩ = some (.string qu3) := Tn2.out.2.2.2.2.1.cellAt 1
        have f2 : u2c.cell? ⟨w7.heap.size, 2, none⟩ = some (.int .i64 (pr3 : Int)) := Tn2.out.2.2.2.2.1.cellAt 2
        have f3 : u2c.cell? ⟨w7.heap.size, 3, none⟩ = some (.int .i64 (a3 : Int)) := Tn2.out.2.2.2.2.1.cellAt 3
        have f4 : u2c.cell? ⟨w7.heap.size, 4, none⟩ = some (.int .i64 (b3 : Int)) := Tn2.out.2.2.2.2.1.cellAt 4
        have f5 : u2c.cell? ⟨w7.heap.size, 5, none⟩ = some (.int .i64 (c3 : Int)) := Tn2.out.2.2.2.2.1.cellAt 5
        have f6 : u2c.cell? ⟨w7.heap.size, 6, none⟩ = some (.slice A3 m3 p3) := Tn2.out.2.2.2.2.1.cellAt 6
        have f7 : u2c.cell? ⟨w7.heap.size, 7, none⟩ = some (.string ap3) := Tn2.out.2.2.2.2.1.cellAt 7
        have f8 : u2c.cell? ⟨w7.heap.size, 8, none⟩ = some (.string ga3) := Tn2.out.2.2.2.2.1.cellAt 8
        have f9 : u2c.cell? ⟨w7.heap.size, 9, none⟩ = some (.int .i64 (sz3 : Int)) := Tn2.out.2.2.2.2.1.cellAt 9
        have zz : w7.heap.size < u2c.heap.size := Tn2.out.2.2.2.2.1.here
        refine wp_region_held_drew (S := fun W => Below u2c.heap.size u2c W) (by kernel_rfl) (Below.drew (Below.refl _ _)) (fun hS0 => ?_)
        refine wpAnyH_take (i := 0) (v := ?_) rfl (by kernel_rfl) (by kernel_rfl) (by kernel_rfl) (fun _ _ _ h => h) (Or.inl ⟨by rfl, ?_⟩) hS0 ?_
        rotate_left
        · intro W _; go_simp; try with_reducible rfl
        try simp only [Act.put, List.getElem_toArray, List.getElem_cons_zero, List.setIfInBounds_toArray, List.set_cons_zero, List.set_cons_succ]
        refine wpAnyH_take (i := 1) (v := ?_) rfl (by kernel_rfl) (by kernel_rfl) (by kernel_rfl) (fun _ _ _ h => h) (Or.inl ⟨by rfl, ?_⟩) hS0 ?_
        rotate_left
        · intro W _; go_simp; try with_reducible rfl
        try simp only [Act.put, List.getElem_toArray, List.getElem_cons_zero, List.getElem_cons_succ, List.setIfInBounds_toArray, List.set_cons_zero, List.set_cons_succ]
        refine wpAnyH_take (i := 2) (v := ?_) rfl (by kernel_rfl) (by kernel_rfl) (by kernel_rfl) (fun _ _ _ h => h) (Or.inl ⟨by rfl, ?_⟩) hS0 ?_
        rotate_left
        · intro W _; go_simp; try with_reducible rfl
        try simp only [Act.put, List.getElem_toArray, List.getElem_cons_zero, List.getElem_cons_succ, List.setIfInBounds_toArray, List.set_cons_zero, List.set_cons_succ]
        refine wpAnyH_take (i := 3) (v := ?_) rfl (by kernel_rfl) (by kernel_rfl) (by kernel_rfl) (fun _ _ _ h => h) (Or.inl ⟨by rfl, ?_⟩) hS0 ?_
        rotate_left
        · intro W _; go_simp; try with_reducible rfl
        try simp only [Act.put, List.getElem_toArray, List.getElem_cons_zero, List.getElem_cons_succ, List.setIfInBounds_toArray, List.set_cons_zero, List.set_cons_succ]
        refine wpAnyH_take (i := 4) (v := ?_) rfl (by kernel_rfl) (by kernel_rfl) (by kernel_rfl) (fun _ _ _ h => h) (Or.inl ⟨by rfl, ?_⟩) hS0 ?_
        rotate_left
        · intro W _; go_simp; try with_reducible rfl
        try simp only [Act.put, List.getElem_toArray, List.getElem_cons_zero, List.getElem_cons_succ, List.setIfInBounds_toArray, List.set_cons_zero, List.set_cons_succ]
        refine wpAnyH_take (i := 5) (v := ?_) rfl (by kernel_rfl) (by kernel_rfl) (by kernel_rfl) (fun _ _ _ h => h) (Or.inl ⟨by rfl, ?_⟩) hS0 ?_
        rotate_left
        · intro W _; go_simp; try with_reducible rfl
        try simp only [Act.put, List.getElem_toArray, List.getElem_cons_zero, List.getElem_cons_succ, List.setIfInBounds_toArray, List.set_cons_zero, List.set_cons_succ]
        refine wpAnyH_take (i := 6) (v := ?_) rfl (by kernel_rfl) (by kernel_rfl) (by kernel_rfl) (fun _ _ _ h => h) (Or.inl ⟨by rfl, ?_⟩) hS0 ?_
        rotate_left
        · intro W _; go_simp; try with_reducible rfl
        try simp only [Act.put, List.getElem_toArray, List.getElem_cons_zero, List.getElem_cons_succ, List.setIfInBounds_toArray, List.set_cons_zero, List.set_cons_succ]
        refine wpAnyH_take (i := 7) (v := ?_) rfl (by kernel_rfl) (by kernel_rfl) (by kernel_rfl) (fun _ _ _ h => h) (Or.inl ⟨by rfl, ?_⟩) hS0 ?_
        rotate_left
        · intro W _; go_simp; try with_reducible rfl
        try simp only [Act.put, List.getElem_toArray, List.getElem_cons_zero, List.getElem_cons_succ, List.setIfInBounds_toArray, List.set_cons_zero, List.set_cons_succ]
        refine wpAnyH_take (i := 8) (v := ?_) rfl (by kernel_rfl) (by kernel_rfl) (by kernel_rfl) (fun _ _ _ h => h) (Or.inl ⟨by rfl, ?_⟩) hS0 ?_
        rotate_left
        · intro W hSW; have hx : ∀ b o, b < u2c.heap.size → W.cell? ⟨b, o, none⟩ = u2c.cell? ⟨b, o, none⟩ := fun b o h => hSW.cell (p := ⟨b, o, none⟩) h; go_simp; try with_reducible rfl
        try simp only [Act.put, List.getElem_toArray, List.getElem_cons_zero, List.getElem_cons_succ, List.setIfInBounds_toArray, List.set_cons_zero, List.set_cons_succ]
        refine wpAnyH_ready (rs := [9]) (by kernel_rfl) (by simp) ?_
        refine AllReadyH.cons rfl (fun K hK => ?_) AllReadyH.nil
        go_simp
        refine (KN.out _ (Tn2.out.2.2.2.2.2.later hS0)).mono ?_
        rintro e u3a ⟨rfl, hbu3a⟩
        go_simp
        refine hK.out _ _ (hS0.trans ((hbu3a).mono hS0.size)) (fun hS1 => ?_)
        clear hK K
        try simp only [Act.put, List.getElem_toArray, List.getElem_cons_zero, List.getElem_cons_succ, List.setIfInBounds_toArray, List.set_cons_zero, List.set_cons_succ]
        refine wpAnyH_take (i := 10) (v := ?_) rfl (by kernel_rfl) (by kernel_rfl) (by kernel_rfl) (fun _ _ _ h => h) (Or.inl ⟨by rfl, ?_⟩) hS1 ?_
        rotate_left
        · intro W _; go_simp; try with_reducible rfl
        try simp only [Act.put, List.getElem_toArray, List.getElem_cons_zero, List.getElem_cons_succ, List.setIfInBounds_toArray, List.set_cons_zero, List.set_cons_succ]
        refine wpAnyH_take (i := 11) (v := ?_) rfl (by kernel_rfl) (by kernel_rfl) (by kernel_rfl) (fun _ _ _ h => h) (Or.inl ⟨by rfl, ?_⟩) hS1 ?_
        rotate_left
        · intro W _; go_simp; try with_reducible rfl
        try simp only [Act.put, List.getElem_toArray, List.getElem_cons_zero, List.getElem_cons_succ, List.setIfInBounds_toArray, List.set_cons_zero, List.set_cons_succ]
        refine wpAnyH_take (i := 12) (v := ?_) rfl (by kernel_rfl) (by kernel_rfl) (by kernel_rfl) (fun _ _ _ h => h) (Or.inl ⟨by rfl, ?_⟩) hS1 ?_
        rotate_left
        · intro W hSW; have hx : ∀ b o, b < u2c.heap.size → W.cell? ⟨b, o, none⟩ = u2c.cell? ⟨b, o, none⟩ := fun b o h => hSW.cell (p := ⟨b, o, none⟩) h; go_simp; try with_reducible rfl
        try simp only [Act.put, List.getElem_toArray, List.getElem_cons_zero, List.getElem_cons_succ, List.setIfInBounds_toArray, List.set_cons_zero, List.set_cons_succ]
        refine wpAnyH_take (i := 15) (v := ?_) rfl (by kernel_rfl) (by kernel_rfl) (by kernel_rfl) (fun _ _ _ h => h) (Or.inl ⟨by rfl, ?_⟩) hS1 ?_
        rotate_left
        · intro W _; go_simp; try with_reducible rfl
        try simp only [Act.put, List.getElem_toArray, List.getElem_cons_zero, List.getElem_cons_succ, List.setIfInBounds_toArray, List.set_cons_zero, List.set_cons_succ]
        refine wpAnyH_take (i := 16) (v := ?_) rfl (by kernel_rfl) (by kernel_rfl) (by kernel_rfl) (fun _ _ _ h => h) (Or.inl ⟨by rfl, ?_⟩) hS1 ?_
        rotate_left
        · intro W _; go_simp; try with_reducible rfl
        try simp only [Act.put, List.getElem_toArray, List.getElem_cons_zero, List.getElem_cons_succ, List.setIfInBounds_toArray, List.set_cons_zero, List.set_cons_succ]
        refine wpAnyH_take (i := 17) (v := ?_) rfl (by kernel_rfl) (by kernel_rfl) (by kernel_rfl) (fun _ _ _ h => h) (Or.inl ⟨by rfl, ?_⟩) hS1 ?_
        rotate_left
        · intro W _; go_simp; try with_reducible rfl
        try simp only [Act.put, List.getElem_toArray, List.getElem_cons_zero, List.getElem_cons_succ, List.setIfInBounds_toArray, List.set_cons_zero, List.set_cons_succ]
        refine wpAnyH_take (i := 18) (v := ?_) rfl (by kernel_rfl) (by kernel_rfl) (by kernel_rfl) (fun _ _ _ h => h) (Or.inl ⟨by rfl, ?_⟩) hS1 ?_
        rotate_left
        · intro W _; go_simp; try with_reducible rfl
        try simp only [Act.put, List.getElem_toArray, List.getElem_cons_zero, List.getElem_cons_succ, List.setIfInBounds_toArray, List.set_cons_zero, List.set_cons_succ]
        refine wpAnyH_ready (rs := [13]) (by kernel_rfl) (by simp) ?_
        refine AllReadyH.cons rfl (fun K hK => ?_) AllReadyH.nil
        go_simp
        refine (PN.out _ (Tn2.out.2.2.2.2.2.later hS1)).mono ?_
        rintro e u3b ⟨G, C, rfl, ro, co, cm, hoo, hbu3b⟩
        have q := run_str_rd (P := Try.prog) u3b (src := 36) (dst := 9) (c := C) Try.underlying36 Try.underlying5 Try.underlying9 HN.out ro
        rw [show (⟨L.toArray⟩ : ByteArray) = E from HE.out.symm] at q
        go_simp
        refine hK.out _ _ (hS1.trans ((hbu3b).mono hS1.size)) (fun hS2 => ?_)
        clear hK K
        try simp only [Act.put, List.getElem_toArray, List.getElem_cons_zero, List.getElem_cons_succ, List.setIfInBounds_toArray, List.set_cons_zero, List.set_cons_succ]
        refine wpAnyH_ready (rs := [14]) (by kernel_rfl) (by simp) ?_
        refine AllReadyH.cons rfl (fun K hK => ?_) AllReadyH.nil
        go_simp
        refine hK.out _ _ hS2 (fun hS3 => ?_)
        clear hK K
        try simp only [Act.put, List.getElem_toArray, List.getElem_cons_zero, List.getElem_cons_succ, List.setIfInBounds_toArray, List.set_cons_zero, List.set_cons_succ]
        refine wpAnyH_take (i := 19) (v := ?_) rfl (by kernel_rfl) (by kernel_rfl) (by kernel_rfl) (fun _ _ _ h => h) (Or.inl ⟨by rfl, ?_⟩) hS3 ?_
        rotate_left
        · intro W _; go_simp; try with_reducible rfl
        try simp only [Act.put, List.getElem_toArray, List.getElem_cons_zero, List.getElem_cons_succ, List.setIfInBounds_toArray, List.set_cons_zero, List.set_cons_succ]
        refine wpAnyH_take (i := 20) (v := ?_) rfl (by kernel_rfl) (by kernel_rfl) (by kernel_rfl) (fun _ _ _ h => h) (Or.inl ⟨by rfl, ?_⟩) hS3 ?_
        rotate_left
        · intro W _; go_simp; try with_reducible rfl
        try simp only [Act.put, List.getElem_toArray, List.getElem_cons_zero, List.getElem_cons_succ, List.setIfInBounds_toArray, List.set_cons_zero, List.set_cons_succ]
        refine wpAnyH_take (i := 21) (v := ?_) rfl (by kernel_rfl) (by kernel_rfl) (by kernel_rfl) (fun _ _ _ h => h) (Or.inl ⟨by rfl, ?_⟩) hS3 ?_
        rotate_left
        · intro W _; go_simp; try with_reducible rfl
        try simp only [Act.put, List.getElem_toArray, List.getElem_cons_zero, List.getElem_cons_succ, List.setIfInBounds_toArray, List.set_cons_zero, List.set_cons_succ]
        refine wpAnyH_take (i := 22) (v := ?_) rfl (by kernel_rfl) (by kernel_rfl) (by kernel_rfl) (fun _ _ _ h => h) (Or.inl ⟨by rfl, ?_⟩) hS3 ?_
        rotate_left
        · intro W _; go_simp; try with_reducible rfl
        try simp only [Act.put, List.getElem_toArray, List.getElem_cons_zero, List.getElem_cons_succ, List.setIfInBounds_toArray, List.set_cons_zero, List.set_cons_succ]
        refine wpAnyH_done (by kernel_rfl) ?_ _
        have Tp3 : Hid (Below w.heap.size w u3b ∧ Bk u3b w3.heap.size 26 #[.string nm1, .int .i64 (a1 : Int), .int .i64 (b1 : Int), .int .i64 (c1 : Int), .slice A1 m1 p1] ∧ RdL u3b A1 l1 ∧ Bk u3b w5.heap.size 28 #[.string nm2, .int .i64 (a2 : Int), .int .i64 (b2 : Int), .int .i64 (c2 : Int)] ∧ Bk u3b w7.heap.size 30 #[.string nm3, .string qu3, .int .i64 (pr3 : Int), .int .i64 (a3 : Int), .int .i64 (b3 : Int), .int .i64 (c3 : Int), .slice A3 m3 p3, .string ap3, .string ga3, .int .i64 (sz3 : Int)] ∧ RdL u3b A3 l3) := ⟨Tn2.out.1.trans (hS2.mono Tn2.out.1.size), Tn2.out.2.1.later hS2, Tn2.out.2.2.1.later hS2, Tn2.out.2.2.2.1.later hS2, Tn2.out.2.2.2.2.1.later hS2, Tn2.out.2.2.2.2.2.later hS2⟩
        clear hS0 hS1 hS2 hS3 hbu3a hbu3b KN PN HN HE x1 x2 x3 g0 g1 g2 hex zz q ro co cm hoo y1 Tn2 SH y2 y3 y4 f0 f1 f2 f3 f4 f5 f6 f7 f8 f9
        go_wp2
        go_ret
        exact ⟨rfl, Tp3.out.1⟩
      case neg =>
        have e1 : (er3 == 0) = false := by simpa using h0
        have e2 : (er3 != 0) = true := by simpa using h0
        clear h0
        go_quiet (fail)
        obtain ⟨u3c, hwn⟩ : ∃ W, W = u2c.drewN nq := ⟨_, rfl⟩
        rw [← hwn]
        have hq : Below u2c.heap.size u2c u3c := by rw [hwn]; exact bdrewN (Below.refl _ _) _
        have Tn3 : Hid (Below w.heap.size w u3c ∧ Bk u3c w3.heap.size 26 #[.string nm1, .int .i64 (a1 : Int), .int .i64 (b1 : Int), .int .i64 (c1 : Int), .slice A1 m1 p1] ∧ RdL u3c A1 l1 ∧ Bk u3c w5.heap.size 28 #[.string nm2, .int .i64 (a2 : Int), .int .i64 (b2 : Int), .int .i64 (c2 : Int)] ∧ Bk u3c w7.heap.size 30 #[.string nm3, .string qu3, .int .i64 (pr3 : Int), .int .i64 (a3 : Int), .int .i64 (b3 : Int), .int .i64 (c3 : Int), .slice A3 m3 p3, .string ap3, .string ga3, .int .i64 (sz3 : Int)] ∧ RdL u3c A3 l3) := ⟨Tn2.out.1.trans (hq.mono Tn2.out.1.size), Tn2.out.2.1.later hq, Tn2.out.2.2.1.later hq, Tn2.out.2.2.2.1.later hq, Tn2.out.2.2.2.2.1.later hq, Tn2.out.2.2.2.2.2.later hq⟩
        clear hq hwn Tn2 O3
        go_wp2
        go_ret
        exact ⟨rfl, Tn3.out.1⟩
end Go.Proofs.Ytgedofggkfmlnaa.modelOne
