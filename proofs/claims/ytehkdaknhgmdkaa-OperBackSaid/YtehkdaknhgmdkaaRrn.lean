/- The document's own reader: the contracts of its Node, Queue, Task: they read just what the plain functions say. Conditions: the reader lies in a block of its own; its bytes are a string that Go can have. -/
import Derived.Test.YtehkdaknhgmdkaaRrr
import Derived.Test.YtehkdaknhgmdkaaRts
namespace Go.Proofs.Ytehkdaknhgmdkaa
open Go.RowKit
set_option linter.unusedSimpArgs false
set_option linter.unusedVariables false

/-- A node, a queue, a task as a call returns it. -/
def valNode (x : Nd) (v : Value) : Value := .agg #[.string x.nm, .int .i64 (x.a : Int), .int .i64 (x.b : Int), .int .i64 (x.c : Int), v]
def valQueue (x : Qu) : Value := .agg #[.string x.nm, .int .i64 (x.a : Int), .int .i64 (x.b : Int), .int .i64 (x.c : Int)]
def valTask (x : Tk) (v : Value) : Value := .agg #[.string x.nm, .string x.qu, .int .i64 (x.pr : Int), .int .i64 (x.a : Int), .int .i64 (x.b : Int), .int .i64 (x.c : Int), v, .string x.ap, .string x.ga, .int .i64 (x.sz : Int)]
theorem Bk.allocs {w : World} {g : Nat} {t : TypeId} {cs : Array Value} (h : Bk w g t cs) (o : Obj) : Bk (w.alloc o) g t cs := h.later ((Below.refl _ _).alloc (Nat.le_refl _) _)

set_option maxHeartbeats 6400000 in
set_option maxRecDepth 100000 in
theorem rr_node (R : Nat) (s : ByteArray) (at_ : Int) (l : List UInt8) (w : World) (hR : RdR w R s (at_, 0)) (hl : Hid (l = s.data.toList)) (hs : s.size ≤ 9223372036854775807) :
    Calls Try.prog 41 #[.pointer (some ⟨R, 0, none⟩)] w fun e w' => ∃ v, e = .returned (valNode (tNode l at_).1 v) ∧ OwnL w' w.heap.size v (tNode l at_).1.l ∧ RdR w' R s (tNode l at_).2 ∧ w.grownBy w' (some R) := by
  obtain ⟨s1, q1, h1⟩ : ∃ a b, rTx l (at_, (0 : Int)) = (a, b) := ⟨_, _, rfl⟩
  have n1 := fun W (hR : RdR W R s (at_, (0 : Int))) => rr_text R s l (at_, (0 : Int)) W hR hl hs
  rw [h1] at n1
  have t1 : s1.size ≤ 16 := by have := rTx_len l (at_, (0 : Int)); rw [h1] at this; exact this
  obtain ⟨x1, x2, x3, q2, h2⟩ := rVe_eq (l := l) (p := q1)
  have n2 := fun W (hR : RdR W R s q1) => rr_amount R s l q1 W hR hl hs
  rw [h2] at n2
  obtain ⟨labs, q3, h3⟩ : ∃ a b, rLa l q2 = (a, b) := ⟨_, _, rfl⟩
  have n3 := fun W (hR : RdR W R s q2) => rr_labels R s l q2 W hR hl hs
  rw [h3] at n3
  have t3 : Short labs := by have := rLk_short l (rNu l 4 4 q2).1 (rNu l 4 4 q2).2; rw [show rLk l (rNu l 4 4 q2).1 (rNu l 4 4 q2).2 = _ from h3] at this; exact this
  obtain ⟨ok, hok⟩ : ∃ ok, ok = nodeB s1 x1 x2 x3 labs := ⟨_, rfl⟩
  obtain ⟨nx, er, he⟩ : ∃ a b, rEnd ok q3 = (a, b) := ⟨_, _, rfl⟩
  have hT : tNode l at_ = (if er = 0 then ⟨s1, x1, x2, x3, labs⟩ else Nd.zero, (nx, er)) := by
    simp only [tNode, rNode, h1, h2, h3, Nd.ok, ← hok, he]
  rw [hT]
  obtain ⟨X, hX⟩ : ∃ X : Nd, X = if er = 0 then ⟨s1, x1, x2, x3, labs⟩ else Nd.zero := ⟨_, rfl⟩
  rw [← hX]
  have HX := Lib.hid hX
  clear hX
  have ne := fun W (hR : RdR W R s q3) => rr_done R s ok q3 W hR
  rw [he] at ne
  simp only [] at ne
  have N1 := Lib.hid n1
  have N2 := Lib.hid n2
  have N3 := Lib.hid n3
  have NE := Lib.hid ne
  have HOK := Lib.hid hok
  have hRl := hR.here
  have HR := Lib.hid hR
  have S3 := Lib.hid t3; clear t3
  clear hR ne he hT hok n1 h1 n2 h2 n3 h3
  go_enter Try.func41, Try.ntmps41
  go_wp2_with fail
  refine (N1.out _ (HR.out.alloc _)).mono ?_
  rintro e w1 ⟨rfl, hR1, hg1⟩
  have bz : Bk w1 w.heap.size 26 #[.string ⟨#[]⟩, .int .i64 0, .int .i64 0, .int .i64 0, .slice none 0 0] := Bk.stays (Bk.fresh w _ _) hg1 (by simp; omega)
  have hz1 : w.heap.size < w1.heap.size := bz.here
  have T1 : Hid (w.grownBy (w1.alloc (.cells #[.string s1, .int .i64 0, .int .i64 0, .int .i64 0, .slice none 0 0] 26)) (some R) ∧ RdR (w1.alloc (.cells #[.string s1, .int .i64 0, .int .i64 0, .int .i64 0, .slice none 0 0] 26)) R s q1 ∧ Bk (w1.alloc (.cells #[.string s1, .int .i64 0, .int .i64 0, .int .i64 0, .slice none 0 0] 26)) w.heap.size 26 #[.string ⟨#[]⟩, .int .i64 0, .int .i64 0, .int .i64 0, .slice none 0 0] ∧ Bk (w1.alloc (.cells #[.string s1, .int .i64 0, .int .i64 0, .int .i64 0, .slice none 0 0] 26)) w1.heap.size 26 #[.string s1, .int .i64 0, .int .i64 0, .int .i64 0, .slice none 0 0]) := ⟨grown_alloc (grownBy_trans (grown_alloc (World.grownBy.refl _ _) _) hg1) _, hR1.alloc _, bz.allocs _, Bk.fresh _ _ _⟩
  clear hR1 hg1 bz
  go_wp2_with fail
  refine (N2.out _ T1.out.2.1).mono ?_
  rintro e w2 ⟨rfl, hR2, hg2⟩
  have hB2 : w.grownBy w2 (some R) := grownBy_trans T1.out.1 hg2
  have bz : Bk w2 w.heap.size 26 #[.string ⟨#[]⟩, .int .i64 0, .int .i64 0, .int .i64 0, .slice none 0 0] := T1.out.2.2.1.stays hg2 (by simp; omega)
  have bn : Bk w2 w1.heap.size 26 #[.string s1, .int .i64 0, .int .i64 0, .int .i64 0, .slice none 0 0] := (T1.out.2.2.2).stays hg2 (by simp; omega)
  have c2_0 : w2.cell? ⟨w1.heap.size, 1, none⟩ = some (.int .i64 0) := bn.cellAt 1
  have f2_0 : w2.frozen? ⟨w1.heap.size, 1, none⟩ = false := bn.free 1
  have c2_1 : w2.cell? ⟨w1.heap.size, 2, none⟩ = some (.int .i64 0) := bn.cellAt 2
  have f2_1 : w2.frozen? ⟨w1.heap.size, 2, none⟩ = false := bn.free 2
  have c2_2 : w2.cell? ⟨w1.heap.size, 3, none⟩ = some (.int .i64 0) := bn.cellAt 3
  have f2_2 : w2.frozen? ⟨w1.heap.size, 3, none⟩ = false := bn.free 3
  have T2 : Hid (w.grownBy (((w2.setCell ⟨w1.heap.size, 1, none⟩ (.int .i64 (x1 : Int))).setCell ⟨w1.heap.size, 2, none⟩ (.int .i64 (x2 : Int))).setCell ⟨w1.heap.size, 3, none⟩ (.int .i64 (x3 : Int))) (some R) ∧ RdR (((w2.setCell ⟨w1.heap.size, 1, none⟩ (.int .i64 (x1 : Int))).setCell ⟨w1.heap.size, 2, none⟩ (.int .i64 (x2 : Int))).setCell ⟨w1.heap.size, 3, none⟩ (.int .i64 (x3 : Int))) R s q2 ∧ Bk (((w2.setCell ⟨w1.heap.size, 1, none⟩ (.int .i64 (x1 : Int))).setCell ⟨w1.heap.size, 2, none⟩ (.int .i64 (x2 : Int))).setCell ⟨w1.heap.size, 3, none⟩ (.int .i64 (x3 : Int))) w.heap.size 26 #[.string ⟨#[]⟩, .int .i64 0, .int .i64 0, .int .i64 0, .slice none 0 0] ∧ Bk (((w2.setCell ⟨w1.heap.size, 1, none⟩ (.int .i64 (x1 : Int))).setCell ⟨w1.heap.size, 2, none⟩ (.int .i64 (x2 : Int))).setCell ⟨w1.heap.size, 3, none⟩ (.int .i64 (x3 : Int))) w1.heap.size 26 #[.string s1, .int .i64 (x1 : Int), .int .i64 (x2 : Int), .int .i64 (x3 : Int), .slice none 0 0]) := ⟨(grown_above (grown_above (grown_above hB2 (p := ⟨w1.heap.size, 1, none⟩) (Nat.le_of_lt hz1) _) (p := ⟨w1.heap.size, 2, none⟩) (Nat.le_of_lt hz1) _) (p := ⟨w1.heap.size, 3, none⟩) (Nat.le_of_lt hz1) _), (((hR2.other (q := ⟨w1.heap.size, 1, none⟩) (by simp; omega) _).other (q := ⟨w1.heap.size, 2, none⟩) (by simp; omega) _).other (q := ⟨w1.heap.size, 3, none⟩) (by simp; omega) _), (((bz.other (p := ⟨w1.heap.size, 1, none⟩) (by simp; omega) _).other (p := ⟨w1.heap.size, 2, none⟩) (by simp; omega) _).other (p := ⟨w1.heap.size, 3, none⟩) (by simp; omega) _), (((bn.put 1 (.int .i64 (x1 : Int))).put 2 (.int .i64 (x2 : Int))).put 3 (.int .i64 (x3 : Int)))⟩
  clear hB2 hR2 hg2 bz bn T1
  go_wp2_with fail
  refine (N3.out _ T2.out.2.1).mono ?_
  rintro e w3 ⟨vl, rfl, hO, hR3, hg3⟩
  have hB3 : w.grownBy w3 (some R) := grownBy_trans T2.out.1 hg3
  have bz : Bk w3 w.heap.size 26 #[.string ⟨#[]⟩, .int .i64 0, .int .i64 0, .int .i64 0, .slice none 0 0] := T2.out.2.2.1.stays hg3 (by simp; omega)
  have bn : Bk w3 w1.heap.size 26 #[.string s1, .int .i64 (x1 : Int), .int .i64 (x2 : Int), .int .i64 (x3 : Int), .slice none 0 0] := (T2.out.2.2.2).stays hg3 (by simp; omega)
  have hO1 : OwnL w3 (w1.heap.size + 1) vl labs := OwnL.base hO (by have := T2.out.2.2.2.here; omega)
  obtain ⟨Al, cl, sl⟩ := hO1.sl
  obtain ⟨nl, hnl⟩ : ∃ nl, nl = labs.length := ⟨_, rfl⟩
  have hvl := sl.val; rw [← hnl] at hvl; subst hvl
  have ca := sl.cap; rw [← hnl] at ca
  have cb : cl ≤ 9223372036854775807 := by have := sl.cap2; unfold maxLen at this; omega
  have HNL := Lib.hid hnl; clear sl hO hnl
  have c3_0 : w3.cell? ⟨w1.heap.size, 4, none⟩ = some (.slice none 0 0) := bn.cellAt 4
  have f3_0 : w3.frozen? ⟨w1.heap.size, 4, none⟩ = false := bn.free 4
  have T3 : Hid (w.grownBy (w3.setCell ⟨w1.heap.size, 4, none⟩ (.slice Al nl cl)) (some R) ∧ RdR (w3.setCell ⟨w1.heap.size, 4, none⟩ (.slice Al nl cl)) R s q3 ∧ Bk (w3.setCell ⟨w1.heap.size, 4, none⟩ (.slice Al nl cl)) w.heap.size 26 #[.string ⟨#[]⟩, .int .i64 0, .int .i64 0, .int .i64 0, .slice none 0 0] ∧ Bk (w3.setCell ⟨w1.heap.size, 4, none⟩ (.slice Al nl cl)) w1.heap.size 26 #[.string s1, .int .i64 (x1 : Int), .int .i64 (x2 : Int), .int .i64 (x3 : Int), .slice Al nl cl] ∧ OwnL (w3.setCell ⟨w1.heap.size, 4, none⟩ (.slice Al nl cl)) (w1.heap.size + 1) (.slice Al nl cl) labs) := ⟨(grown_above hB3 (p := ⟨w1.heap.size, 4, none⟩) (Nat.le_of_lt hz1) _), (hR3.other (q := ⟨w1.heap.size, 4, none⟩) (by simp; omega) _), (bz.other (p := ⟨w1.heap.size, 4, none⟩) (by simp; omega) _), (bn.put 4 (.slice Al nl cl)), (hO1.other (p := ⟨w1.heap.size, 4, none⟩) (by simp) _)⟩
  clear hB3 hR3 hg3 bz bn T2 hO1
  clear c2_0 f2_0 c2_1 f2_1 c2_2 f2_2
  have d0 : (w3.setCell ⟨w1.heap.size, 4, none⟩ (.slice Al nl cl)).cell? ⟨w1.heap.size, 0, none⟩ = some (.string s1) := T3.out.2.2.2.1.cellAt 0
  have d1 : (w3.setCell ⟨w1.heap.size, 4, none⟩ (.slice Al nl cl)).cell? ⟨w1.heap.size, 1, none⟩ = some (.int .i64 (x1 : Int)) := T3.out.2.2.2.1.cellAt 1
  have d2 : (w3.setCell ⟨w1.heap.size, 4, none⟩ (.slice Al nl cl)).cell? ⟨w1.heap.size, 2, none⟩ = some (.int .i64 (x2 : Int)) := T3.out.2.2.2.1.cellAt 2
  have d3 : (w3.setCell ⟨w1.heap.size, 4, none⟩ (.slice Al nl cl)).cell? ⟨w1.heap.size, 3, none⟩ = some (.int .i64 (x3 : Int)) := T3.out.2.2.2.1.cellAt 3
  have d4 : (w3.setCell ⟨w1.heap.size, 4, none⟩ (.slice Al nl cl)).cell? ⟨w1.heap.size, 4, none⟩ = some (.slice Al nl cl) := T3.out.2.2.2.1.cellAt 4
  go_wp2_with fail
  clear d0 d1 d2 d3 d4 c3_0 f3_0
  have hRL : RdL (w3.setCell ⟨w1.heap.size, 4, none⟩ (.slice Al nl cl)) Al labs := by obtain ⟨A2, c2, s2⟩ := T3.out.2.2.2.2.sl; have h := s2.val; injection h with h1 h2 h3; have h4 := s2.rd; rw [← h1] at h4; exact h4
  refine (rnode_any s1 x1 x2 x3 Al nl cl labs _ (by omega) HNL (Lib.hid hRL) (Lib.hid S3.out.sz) ca cb).mono ?_
  rw [← HOK.out]
  rintro e w4 ⟨rfl, hb4⟩
  have T4 : Hid (w.grownBy w4 (some R) ∧ RdR w4 R s q3 ∧ Bk w4 w.heap.size 26 #[.string ⟨#[]⟩, .int .i64 0, .int .i64 0, .int .i64 0, .slice none 0 0] ∧ Bk w4 w1.heap.size 26 #[.string s1, .int .i64 (x1 : Int), .int .i64 (x2 : Int), .int .i64 (x3 : Int), .slice Al nl cl] ∧ OwnL w4 (w1.heap.size + 1) (.slice Al nl cl) labs) := ⟨grownBy_trans T3.out.1 (below_grownBy hb4), T3.out.2.1.later hb4, T3.out.2.2.1.later hb4, T3.out.2.2.2.1.later hb4, T3.out.2.2.2.2.below hb4⟩
  clear hb4 T3 hRL
  by_cases h0 : er = 0
  case pos =>
    subst h0
    obtain rfl := HX.out.trans (if_pos rfl)
    have ne2 := NE.out w4 T4.out.2.1
    rw [decide_eq_true rfl] at ne2
    have NE2 := Lib.hid ne2
    clear ne2 NE
    go_wp2_with fail
    refine NE2.out.mono ?_
    rintro e w5 ⟨rfl, hRe, hge⟩
    have hB : w.grownBy w5 (some R) := grownBy_trans T4.out.1 hge
    have bz := T4.out.2.2.1.stays hge (by simp; omega)
    have bn := T4.out.2.2.2.1.stays hge (by simp; omega)
    have hO1 := T4.out.2.2.2.2.stays hge (by omega)
    clear hge T4
    have d0 : w5.cell? ⟨w1.heap.size, 0, none⟩ = some (.string s1) := bn.cellAt 0
    have z0 : w5.cell? ⟨w.heap.size, 0, none⟩ = some (.string ⟨#[]⟩) := bz.cellAt 0
    have y0z : w5.frozen? ⟨w.heap.size, 0, none⟩ = false := bz.free 0
    have d1 : w5.cell? ⟨w1.heap.size, 1, none⟩ = some (.int .i64 (x1 : Int)) := bn.cellAt 1
    have z1 : w5.cell? ⟨w.heap.size, 1, none⟩ = some (.int .i64 0) := bz.cellAt 1
    have y1z : w5.frozen? ⟨w.heap.size, 1, none⟩ = false := bz.free 1
    have d2 : w5.cell? ⟨w1.heap.size, 2, none⟩ = some (.int .i64 (x2 : Int)) := bn.cellAt 2
    have z2 : w5.cell? ⟨w.heap.size, 2, none⟩ = some (.int .i64 0) := bz.cellAt 2
    have y2z : w5.frozen? ⟨w.heap.size, 2, none⟩ = false := bz.free 2
    have d3 : w5.cell? ⟨w1.heap.size, 3, none⟩ = some (.int .i64 (x3 : Int)) := bn.cellAt 3
    have z3 : w5.cell? ⟨w.heap.size, 3, none⟩ = some (.int .i64 0) := bz.cellAt 3
    have y3z : w5.frozen? ⟨w.heap.size, 3, none⟩ = false := bz.free 3
    have d4 : w5.cell? ⟨w1.heap.size, 4, none⟩ = some (.slice Al nl cl) := bn.cellAt 4
    have z4 : w5.cell? ⟨w.heap.size, 4, none⟩ = some (.slice none 0 0) := bz.cellAt 4
    have y4z : w5.frozen? ⟨w.heap.size, 4, none⟩ = false := bz.free 4
    have hz := bz.here
    have HB := Lib.hid hB
    have HRe := Lib.hid hRe
    have HO := Lib.hid hO1
    clear bz bn hB hRe hO1
    go_wp2
    exact bodyPost_ret (v := .agg #[.string s1, .int .i64 (x1 : Int), .int .i64 (x2 : Int), .int .i64 (x3 : Int), .slice Al nl cl]) (by simp [results, Try.results41, go_sem, z0, z1, z2, z3, z4]) rfl ⟨_, rfl, (((((HO.out.other (p := ⟨w.heap.size, 0, none⟩) (by simp; omega) _).other (p := ⟨w.heap.size, 1, none⟩) (by simp; omega) _).other (p := ⟨w.heap.size, 2, none⟩) (by simp; omega) _).other (p := ⟨w.heap.size, 3, none⟩) (by simp; omega) _).other (p := ⟨w.heap.size, 4, none⟩) (by simp; omega) _).base (by omega), (((((HRe.out.other (q := ⟨w.heap.size, 0, none⟩) (by simp; omega) _).other (q := ⟨w.heap.size, 1, none⟩) (by simp; omega) _).other (q := ⟨w.heap.size, 2, none⟩) (by simp; omega) _).other (q := ⟨w.heap.size, 3, none⟩) (by simp; omega) _).other (q := ⟨w.heap.size, 4, none⟩) (by simp; omega) _), (grown_above (grown_above (grown_above (grown_above (grown_above HB.out (p := ⟨w.heap.size, 0, none⟩) (Nat.le_refl _) _) (p := ⟨w.heap.size, 1, none⟩) (Nat.le_refl _) _) (p := ⟨w.heap.size, 2, none⟩) (Nat.le_refl _) _) (p := ⟨w.heap.size, 3, none⟩) (Nat.le_refl _) _) (p := ⟨w.heap.size, 4, none⟩) (Nat.le_refl _) _)⟩
  case neg =>
    obtain rfl := HX.out.trans (if_neg h0)
    have ne2 := NE.out w4 T4.out.2.1
    rw [decide_eq_false h0] at ne2
    have NE2 := Lib.hid ne2
    clear ne2 NE h0
    go_wp2_with fail
    refine NE2.out.mono ?_
    rintro e w5 ⟨rfl, hRe, hge⟩
    have hB : w.grownBy w5 (some R) := grownBy_trans T4.out.1 hge
    have bz := T4.out.2.2.1.stays hge (by simp; omega)
    have bn := T4.out.2.2.2.1.stays hge (by simp; omega)
    have hO1 := T4.out.2.2.2.2.stays hge (by omega)
    clear hge T4
    have d0 : w5.cell? ⟨w1.heap.size, 0, none⟩ = some (.string s1) := bn.cellAt 0
    have z0 : w5.cell? ⟨w.heap.size, 0, none⟩ = some (.string ⟨#[]⟩) := bz.cellAt 0
    have y0z : w5.frozen? ⟨w.heap.size, 0, none⟩ = false := bz.free 0
    have d1 : w5.cell? ⟨w1.heap.size, 1, none⟩ = some (.int .i64 (x1 : Int)) := bn.cellAt 1
    have z1 : w5.cell? ⟨w.heap.size, 1, none⟩ = some (.int .i64 0) := bz.cellAt 1
    have y1z : w5.frozen? ⟨w.heap.size, 1, none⟩ = false := bz.free 1
    have d2 : w5.cell? ⟨w1.heap.size, 2, none⟩ = some (.int .i64 (x2 : Int)) := bn.cellAt 2
    have z2 : w5.cell? ⟨w.heap.size, 2, none⟩ = some (.int .i64 0) := bz.cellAt 2
    have y2z : w5.frozen? ⟨w.heap.size, 2, none⟩ = false := bz.free 2
    have d3 : w5.cell? ⟨w1.heap.size, 3, none⟩ = some (.int .i64 (x3 : Int)) := bn.cellAt 3
    have z3 : w5.cell? ⟨w.heap.size, 3, none⟩ = some (.int .i64 0) := bz.cellAt 3
    have y3z : w5.frozen? ⟨w.heap.size, 3, none⟩ = false := bz.free 3
    have d4 : w5.cell? ⟨w1.heap.size, 4, none⟩ = some (.slice Al nl cl) := bn.cellAt 4
    have z4 : w5.cell? ⟨w.heap.size, 4, none⟩ = some (.slice none 0 0) := bz.cellAt 4
    have y4z : w5.frozen? ⟨w.heap.size, 4, none⟩ = false := bz.free 4
    have hz := bz.here
    have HB := Lib.hid hB
    have HRe := Lib.hid hRe
    have HO := Lib.hid hO1
    clear bz bn hB hRe hO1
    go_wp2
    exact bodyPost_ret (v := .agg #[.string ⟨#[]⟩, .int .i64 0, .int .i64 0, .int .i64 0, .slice none 0 0]) (by simp [results, Try.results41, go_sem, z0, z1, z2, z3, z4]) rfl ⟨_, rfl, OwnL.nil _ _, (((((HRe.out.other (q := ⟨w.heap.size, 0, none⟩) (by simp; omega) _).other (q := ⟨w.heap.size, 1, none⟩) (by simp; omega) _).other (q := ⟨w.heap.size, 2, none⟩) (by simp; omega) _).other (q := ⟨w.heap.size, 3, none⟩) (by simp; omega) _).other (q := ⟨w.heap.size, 4, none⟩) (by simp; omega) _), (grown_above (grown_above (grown_above (grown_above (grown_above HB.out (p := ⟨w.heap.size, 0, none⟩) (Nat.le_refl _) _) (p := ⟨w.heap.size, 1, none⟩) (Nat.le_refl _) _) (p := ⟨w.heap.size, 2, none⟩) (Nat.le_refl _) _) (p := ⟨w.heap.size, 3, none⟩) (Nat.le_refl _) _) (p := ⟨w.heap.size, 4, none⟩) (Nat.le_refl _) _)⟩

set_option maxHeartbeats 6400000 in
set_option maxRecDepth 100000 in
theorem rr_queue (R : Nat) (s : ByteArray) (at_ : Int) (l : List UInt8) (w : World) (hR : RdR w R s (at_, 0)) (hl : Hid (l = s.data.toList)) (hs : s.size ≤ 9223372036854775807) :
    Calls Try.prog 42 #[.pointer (some ⟨R, 0, none⟩)] w fun e w' => e = .returned (valQueue (tQueue l at_).1) ∧ RdR w' R s (tQueue l at_).2 ∧ w.grownBy w' (some R) := by
  obtain ⟨s1, q1, h1⟩ : ∃ a b, rTx l (at_, (0 : Int)) = (a, b) := ⟨_, _, rfl⟩
  have n1 := fun W (hR : RdR W R s (at_, (0 : Int))) => rr_text R s l (at_, (0 : Int)) W hR hl hs
  rw [h1] at n1
  have t1 : s1.size ≤ 16 := by have := rTx_len l (at_, (0 : Int)); rw [h1] at this; exact this
  obtain ⟨x1, x2, x3, q2, h2⟩ := rVe_eq (l := l) (p := q1)
  have n2 := fun W (hR : RdR W R s q1) => rr_amount R s l q1 W hR hl hs
  rw [h2] at n2
  obtain ⟨ok, hok⟩ : ∃ ok, ok = queueB s1 x1 x2 x3 := ⟨_, rfl⟩
  obtain ⟨nx, er, he⟩ : ∃ a b, rEnd ok q2 = (a, b) := ⟨_, _, rfl⟩
  have hT : tQueue l at_ = (if er = 0 then ⟨s1, x1, x2, x3⟩ else Qu.zero, (nx, er)) := by
    simp only [tQueue, rQueue, h1, h2, Qu.ok, ← hok, he]
  rw [hT]
  obtain ⟨X, hX⟩ : ∃ X : Qu, X = if er = 0 then ⟨s1, x1, x2, x3⟩ else Qu.zero := ⟨_, rfl⟩
  rw [← hX]
  have HX := Lib.hid hX
  clear hX
  have ne := fun W (hR : RdR W R s q2) => rr_done R s ok q2 W hR
  rw [he] at ne
  simp only [] at ne
  have N1 := Lib.hid n1
  have N2 := Lib.hid n2
  have NE := Lib.hid ne
  have HOK := Lib.hid hok
  have hRl := hR.here
  have HR := Lib.hid hR
  clear hR ne he hT hok n1 h1 n2 h2
  go_enter Try.func42, Try.ntmps42
  go_wp2_with fail
  refine (N1.out _ (HR.out.alloc _)).mono ?_
  rintro e w1 ⟨rfl, hR1, hg1⟩
  have bz : Bk w1 w.heap.size 28 #[.string ⟨#[]⟩, .int .i64 0, .int .i64 0, .int .i64 0] := Bk.stays (Bk.fresh w _ _) hg1 (by simp; omega)
  have hz1 : w.heap.size < w1.heap.size := bz.here
  have T1 : Hid (w.grownBy (w1.alloc (.cells #[.string s1, .int .i64 0, .int .i64 0, .int .i64 0] 28)) (some R) ∧ RdR (w1.alloc (.cells #[.string s1, .int .i64 0, .int .i64 0, .int .i64 0] 28)) R s q1 ∧ Bk (w1.alloc (.cells #[.string s1, .int .i64 0, .int .i64 0, .int .i64 0] 28)) w.heap.size 28 #[.string ⟨#[]⟩, .int .i64 0, .int .i64 0, .int .i64 0] ∧ Bk (w1.alloc (.cells #[.string s1, .int .i64 0, .int .i64 0, .int .i64 0] 28)) w1.heap.size 28 #[.string s1, .int .i64 0, .int .i64 0, .int .i64 0]) := ⟨grown_alloc (grownBy_trans (grown_alloc (World.grownBy.refl _ _) _) hg1) _, hR1.alloc _, bz.allocs _, Bk.fresh _ _ _⟩
  clear hR1 hg1 bz
  go_wp2_with fail
  refine (N2.out _ T1.out.2.1).mono ?_
  rintro e w2 ⟨rfl, hR2, hg2⟩
  have hB2 : w.grownBy w2 (some R) := grownBy_trans T1.out.1 hg2
  have bz : Bk w2 w.heap.size 28 #[.string ⟨#[]⟩, .int .i64 0, .int .i64 0, .int .i64 0] := T1.out.2.2.1.stays hg2 (by simp; omega)
  have bn : Bk w2 w1.heap.size 28 #[.string s1, .int .i64 0, .int .i64 0, .int .i64 0] := (T1.out.2.2.2).stays hg2 (by simp; omega)
  have c2_0 : w2.cell? ⟨w1.heap.size, 1, none⟩ = some (.int .i64 0) := bn.cellAt 1
  have f2_0 : w2.frozen? ⟨w1.heap.size, 1, none⟩ = false := bn.free 1
  have c2_1 : w2.cell? ⟨w1.heap.size, 2, none⟩ = some (.int .i64 0) := bn.cellAt 2
  have f2_1 : w2.frozen? ⟨w1.heap.size, 2, none⟩ = false := bn.free 2
  have c2_2 : w2.cell? ⟨w1.heap.size, 3, none⟩ = some (.int .i64 0) := bn.cellAt 3
  have f2_2 : w2.frozen? ⟨w1.heap.size, 3, none⟩ = false := bn.free 3
  have T2 : Hid (w.grownBy (((w2.setCell ⟨w1.heap.size, 1, none⟩ (.int .i64 (x1 : Int))).setCell ⟨w1.heap.size, 2, none⟩ (.int .i64 (x2 : Int))).setCell ⟨w1.heap.size, 3, none⟩ (.int .i64 (x3 : Int))) (some R) ∧ RdR (((w2.setCell ⟨w1.heap.size, 1, none⟩ (.int .i64 (x1 : Int))).setCell ⟨w1.heap.size, 2, none⟩ (.int .i64 (x2 : Int))).setCell ⟨w1.heap.size, 3, none⟩ (.int .i64 (x3 : Int))) R s q2 ∧ Bk (((w2.setCell ⟨w1.heap.size, 1, none⟩ (.int .i64 (x1 : Int))).setCell ⟨w1.heap.size, 2, none⟩ (.int .i64 (x2 : Int))).setCell ⟨w1.heap.size, 3, none⟩ (.int .i64 (x3 : Int))) w.heap.size 28 #[.string ⟨#[]⟩, .int .i64 0, .int .i64 0, .int .i64 0] ∧ Bk (((w2.setCell ⟨w1.heap.size, 1, none⟩ (.int .i64 (x1 : Int))).setCell ⟨w1.heap.size, 2, none⟩ (.int .i64 (x2 : Int))).setCell ⟨w1.heap.size, 3, none⟩ (.int .i64 (x3 : Int))) w1.heap.size 28 #[.string s1, .int .i64 (x1 : Int), .int .i64 (x2 : Int), .int .i64 (x3 : Int)]) := ⟨(grown_above (grown_above (grown_above hB2 (p := ⟨w1.heap.size, 1, none⟩) (Nat.le_of_lt hz1) _) (p := ⟨w1.heap.size, 2, none⟩) (Nat.le_of_lt hz1) _) (p := ⟨w1.heap.size, 3, none⟩) (Nat.le_of_lt hz1) _), (((hR2.other (q := ⟨w1.heap.size, 1, none⟩) (by simp; omega) _).other (q := ⟨w1.heap.size, 2, none⟩) (by simp; omega) _).other (q := ⟨w1.heap.size, 3, none⟩) (by simp; omega) _), (((bz.other (p := ⟨w1.heap.size, 1, none⟩) (by simp; omega) _).other (p := ⟨w1.heap.size, 2, none⟩) (by simp; omega) _).other (p := ⟨w1.heap.size, 3, none⟩) (by simp; omega) _), (((bn.put 1 (.int .i64 (x1 : Int))).put 2 (.int .i64 (x2 : Int))).put 3 (.int .i64 (x3 : Int)))⟩
  clear hB2 hR2 hg2 bz bn T1
  have d0 : (((w2.setCell ⟨w1.heap.size, 1, none⟩ (.int .i64 (x1 : Int))).setCell ⟨w1.heap.size, 2, none⟩ (.int .i64 (x2 : Int))).setCell ⟨w1.heap.size, 3, none⟩ (.int .i64 (x3 : Int))).cell? ⟨w1.heap.size, 0, none⟩ = some (.string s1) := T2.out.2.2.2.cellAt 0
  have d1 : (((w2.setCell ⟨w1.heap.size, 1, none⟩ (.int .i64 (x1 : Int))).setCell ⟨w1.heap.size, 2, none⟩ (.int .i64 (x2 : Int))).setCell ⟨w1.heap.size, 3, none⟩ (.int .i64 (x3 : Int))).cell? ⟨w1.heap.size, 1, none⟩ = some (.int .i64 (x1 : Int)) := T2.out.2.2.2.cellAt 1
  have d2 : (((w2.setCell ⟨w1.heap.size, 1, none⟩ (.int .i64 (x1 : Int))).setCell ⟨w1.heap.size, 2, none⟩ (.int .i64 (x2 : Int))).setCell ⟨w1.heap.size, 3, none⟩ (.int .i64 (x3 : Int))).cell? ⟨w1.heap.size, 2, none⟩ = some (.int .i64 (x2 : Int)) := T2.out.2.2.2.cellAt 2
  have d3 : (((w2.setCell ⟨w1.heap.size, 1, none⟩ (.int .i64 (x1 : Int))).setCell ⟨w1.heap.size, 2, none⟩ (.int .i64 (x2 : Int))).setCell ⟨w1.heap.size, 3, none⟩ (.int .i64 (x3 : Int))).cell? ⟨w1.heap.size, 3, none⟩ = some (.int .i64 (x3 : Int)) := T2.out.2.2.2.cellAt 3
  go_wp2_with fail
  clear d0 d1 d2 d3 c2_0 f2_0 c2_1 f2_1 c2_2 f2_2
  refine (rqueue_any s1 x1 x2 x3 _ (by omega)).mono ?_
  rw [← HOK.out]
  rintro e w3 ⟨rfl, hb3⟩
  have T3 : Hid (w.grownBy w3 (some R) ∧ RdR w3 R s q2 ∧ Bk w3 w.heap.size 28 #[.string ⟨#[]⟩, .int .i64 0, .int .i64 0, .int .i64 0] ∧ Bk w3 w1.heap.size 28 #[.string s1, .int .i64 (x1 : Int), .int .i64 (x2 : Int), .int .i64 (x3 : Int)]) := ⟨grownBy_trans T2.out.1 (below_grownBy hb3), T2.out.2.1.later hb3, T2.out.2.2.1.later hb3, T2.out.2.2.2.later hb3⟩
  clear hb3 T2
  by_cases h0 : er = 0
  case pos =>
    subst h0
    obtain rfl := HX.out.trans (if_pos rfl)
    have ne2 := NE.out w3 T3.out.2.1
    rw [decide_eq_true rfl] at ne2
    have NE2 := Lib.hid ne2
    clear ne2 NE
    go_wp2_with fail
    refine NE2.out.mono ?_
    rintro e w4 ⟨rfl, hRe, hge⟩
    have hB : w.grownBy w4 (some R) := grownBy_trans T3.out.1 hge
    have bz := T3.out.2.2.1.stays hge (by simp; omega)
    have bn := T3.out.2.2.2.stays hge (by simp; omega)
    clear hge T3
    have d0 : w4.cell? ⟨w1.heap.size, 0, none⟩ = some (.string s1) := bn.cellAt 0
    have z0 : w4.cell? ⟨w.heap.size, 0, none⟩ = some (.string ⟨#[]⟩) := bz.cellAt 0
    have y0z : w4.frozen? ⟨w.heap.size, 0, none⟩ = false := bz.free 0
    have d1 : w4.cell? ⟨w1.heap.size, 1, none⟩ = some (.int .i64 (x1 : Int)) := bn.cellAt 1
    have z1 : w4.cell? ⟨w.heap.size, 1, none⟩ = some (.int .i64 0) := bz.cellAt 1
    have y1z : w4.frozen? ⟨w.heap.size, 1, none⟩ = false := bz.free 1
    have d2 : w4.cell? ⟨w1.heap.size, 2, none⟩ = some (.int .i64 (x2 : Int)) := bn.cellAt 2
    have z2 : w4.cell? ⟨w.heap.size, 2, none⟩ = some (.int .i64 0) := bz.cellAt 2
    have y2z : w4.frozen? ⟨w.heap.size, 2, none⟩ = false := bz.free 2
    have d3 : w4.cell? ⟨w1.heap.size, 3, none⟩ = some (.int .i64 (x3 : Int)) := bn.cellAt 3
    have z3 : w4.cell? ⟨w.heap.size, 3, none⟩ = some (.int .i64 0) := bz.cellAt 3
    have y3z : w4.frozen? ⟨w.heap.size, 3, none⟩ = false := bz.free 3
    have hz := bz.here
    have HB := Lib.hid hB
    have HRe := Lib.hid hRe
    clear bz bn hB hRe
    go_wp2
    exact bodyPost_ret (v := .agg #[.string s1, .int .i64 (x1 : Int), .int .i64 (x2 : Int), .int .i64 (x3 : Int)]) (by simp [results, Try.results42, go_sem, z0, z1, z2, z3]) rfl ⟨rfl, ((((HRe.out.other (q := ⟨w.heap.size, 0, none⟩) (by simp; omega) _).other (q := ⟨w.heap.size, 1, none⟩) (by simp; omega) _).other (q := ⟨w.heap.size, 2, none⟩) (by simp; omega) _).other (q := ⟨w.heap.size, 3, none⟩) (by simp; omega) _), (grown_above (grown_above (grown_above (grown_above HB.out (p := ⟨w.heap.size, 0, none⟩) (Nat.le_refl _) _) (p := ⟨w.heap.size, 1, none⟩) (Nat.le_refl _) _) (p := ⟨w.heap.size, 2, none⟩) (Nat.le_refl _) _) (p := ⟨w.heap.size, 3, none⟩) (Nat.le_refl _) _)⟩
  case neg =>
    obtain rfl := HX.out.trans (if_neg h0)
    have ne2 := NE.out w3 T3.out.2.1
    rw [decide_eq_false h0] at ne2
    have NE2 := Lib.hid ne2
    clear ne2 NE h0
    go_wp2_with fail
    refine NE2.out.mono ?_
    rintro e w4 ⟨rfl, hRe, hge⟩
    have hB : w.grownBy w4 (some R) := grownBy_trans T3.out.1 hge
    have bz := T3.out.2.2.1.stays hge (by simp; omega)
    have bn := T3.out.2.2.2.stays hge (by simp; omega)
    clear hge T3
    have d0 : w4.cell? ⟨w1.heap.size, 0, none⟩ = some (.string s1) := bn.cellAt 0
    have z0 : w4.cell? ⟨w.heap.size, 0, none⟩ = some (.string ⟨#[]⟩) := bz.cellAt 0
    have y0z : w4.frozen? ⟨w.heap.size, 0, none⟩ = false := bz.free 0
    have d1 : w4.cell? ⟨w1.heap.size, 1, none⟩ = some (.int .i64 (x1 : Int)) := bn.cellAt 1
    have z1 : w4.cell? ⟨w.heap.size, 1, none⟩ = some (.int .i64 0) := bz.cellAt 1
    have y1z : w4.frozen? ⟨w.heap.size, 1, none⟩ = false := bz.free 1
    have d2 : w4.cell? ⟨w1.heap.size, 2, none⟩ = some (.int .i64 (x2 : Int)) := bn.cellAt 2
    have z2 : w4.cell? ⟨w.heap.size, 2, none⟩ = some (.int .i64 0) := bz.cellAt 2
    have y2z : w4.frozen? ⟨w.heap.size, 2, none⟩ = false := bz.free 2
    have d3 : w4.cell? ⟨w1.heap.size, 3, none⟩ = some (.int .i64 (x3 : Int)) := bn.cellAt 3
    have z3 : w4.cell? ⟨w.heap.size, 3, none⟩ = some (.int .i64 0) := bz.cellAt 3
    have y3z : w4.frozen? ⟨w.heap.size, 3, none⟩ = false := bz.free 3
    have hz := bz.here
    have HB := Lib.hid hB
    have HRe := Lib.hid hRe
    clear bz bn hB hRe
    go_wp2
    exact bodyPost_ret (v := .agg #[.string ⟨#[]⟩, .int .i64 0, .int .i64 0, .int .i64 0]) (by simp [results, Try.results42, go_sem, z0, z1, z2, z3]) rfl ⟨rfl, ((((HRe.out.other (q := ⟨w.heap.size, 0, none⟩) (by simp; omega) _).other (q := ⟨w.heap.size, 1, none⟩) (by simp; omega) _).other (q := ⟨w.heap.size, 2, none⟩) (by simp; omega) _).other (q := ⟨w.heap.size, 3, none⟩) (by simp; omega) _), (grown_above (grown_above (grown_above (grown_above HB.out (p := ⟨w.heap.size, 0, none⟩) (Nat.le_refl _) _) (p := ⟨w.heap.size, 1, none⟩) (Nat.le_refl _) _) (p := ⟨w.heap.size, 2, none⟩) (Nat.le_refl _) _) (p := ⟨w.heap.size, 3, none⟩) (Nat.le_refl _) _)⟩

set_option maxHeartbeats 6400000 in
set_option maxRecDepth 100000 in
theorem rr_task (R : Nat) (s : ByteArray) (at_ : Int) (l : List UInt8) (w : World) (hR : RdR w R s (at_, 0)) (hl : Hid (l = s.data.toList)) (hs : s.size ≤ 9223372036854775807) :
    Calls Try.prog 43 #[.pointer (some ⟨R, 0, none⟩)] w fun e w' => ∃ v, e = .returned (valTask (tTask l at_).1 v) ∧ OwnL w' w.heap.size v (tTask l at_).1.l ∧ RdR w' R s (tTask l at_).2 ∧ w.grownBy w' (some R) := by
  obtain ⟨s1, q1, h1⟩ : ∃ a b, rTx l (at_, (0 : Int)) = (a, b) := ⟨_, _, rfl⟩
  have n1 := fun W (hR : RdR W R s (at_, (0 : Int))) => rr_text R s l (at_, (0 : Int)) W hR hl hs
  rw [h1] at n1
  have t1 : s1.size ≤ 16 := by have := rTx_len l (at_, (0 : Int)); rw [h1] at this; exact this
  obtain ⟨s2, q2, h2⟩ : ∃ a b, rTx l q1 = (a, b) := ⟨_, _, rfl⟩
  have n2 := fun W (hR : RdR W R s q1) => rr_text R s l q1 W hR hl hs
  rw [h2] at n2
  have t2 : s2.size ≤ 16 := by have := rTx_len l q1; rw [h2] at this; exact this
  obtain ⟨y1, q3, h3⟩ : ∃ a b, rNu l 1048576 3 q2 = (a, b) := ⟨_, _, rfl⟩
  have n3 := fun W (hR : RdR W R s q2) => rr_number R s l 1048576 3 q2 W hR (by omega) (by omega) hl hs
  rw [h3] at n3
  obtain ⟨x1, x2, x3, q4, h4⟩ := rVe_eq (l := l) (p := q3)
  have n4 := fun W (hR : RdR W R s q3) => rr_amount R s l q3 W hR hl hs
  rw [h4] at n4
  obtain ⟨labs, q5, h5⟩ : ∃ a b, rLa l q4 = (a, b) := ⟨_, _, rfl⟩
  have n5 := fun W (hR : RdR W R s q4) => rr_labels R s l q4 W hR hl hs
  rw [h5] at n5
  have t5 : Short labs := by have := rLk_short l (rNu l 4 4 q4).1 (rNu l 4 4 q4).2; rw [show rLk l (rNu l 4 4 q4).1 (rNu l 4 4 q4).2 = _ from h5] at this; exact this
  obtain ⟨s3, q6, h6⟩ : ∃ a b, rTx l q5 = (a, b) := ⟨_, _, rfl⟩
  have n6 := fun W (hR : RdR W R s q5) => rr_text R s l q5 W hR hl hs
  rw [h6] at n6
  have t6 : s3.size ≤ 16 := by have := rTx_len l q5; rw [h6] at this; exact this
  obtain ⟨s4, q7, h7⟩ : ∃ a b, rTx l q6 = (a, b) := ⟨_, _, rfl⟩
  have n7 := fun W (hR : RdR W R s q6) => rr_text R s l q6 W hR hl hs
  rw [h7] at n7
  have t7 : s4.size ≤ 16 := by have := rTx_len l q6; rw [h7] at this; exact this
  obtain ⟨y2, q8, h8⟩ : ∃ a b, rNu l 1048576 3 q7 = (a, b) := ⟨_, _, rfl⟩
  have n8 := fun W (hR : RdR W R s q7) => rr_number R s l 1048576 3 q7 W hR (by omega) (by omega) hl hs
  rw [h8] at n8
  obtain ⟨ok, hok⟩ : ∃ ok, ok = taskB s1 s2 y1 x1 x2 x3 labs s3 s4 y2 := ⟨_, rfl⟩
  obtain ⟨nx, er, he⟩ : ∃ a b, rEnd ok q8 = (a, b) := ⟨_, _, rfl⟩
  have hT : tTask l at_ = (if er = 0 then ⟨s1, s2, y1, x1, x2, x3, labs, s3, s4, y2⟩ else Tk.zero, (nx, er)) := by
    simp only [tTask, rTask, h1, h2, h3, h4, h5, h6, h7, h8, Tk.ok, ← hok, he]
  rw [hT]
  obtain ⟨X, hX⟩ : ∃ X : Tk, X = if er = 0 then ⟨s1, s2, y1, x1, x2, x3, labs, s3, s4, y2⟩ else Tk.zero := ⟨_, rfl⟩
  rw [← hX]
  have HX := Lib.hid hX
  clear hX
  have ne := fun W (hR : RdR W R s q8) => rr_done R s ok q8 W hR
  rw [he] at ne
  simp only [] at ne
  have N1 := Lib.hid n1
  have N2 := Lib.hid n2
  have N3 := Lib.hid n3
  have N4 := Lib.hid n4
  have N5 := Lib.hid n5
  have N6 := Lib.hid n6
  have N7 := Lib.hid n7
  have N8 := Lib.hid n8
  have NE := Lib.hid ne
  have HOK := Lib.hid hok
  have hRl := hR.here
  have HR := Lib.hid hR
  have S5 := Lib.hid t5; clear t5
  clear hR ne he hT hok n1 h1 n2 h2 n3 h3 n4 h4 n5 h5 n6 h6 n7 h7 n8 h8
  go_enter Try.func43, Try.ntmps43
  go_wp2_with fail
  refine (N1.out _ (HR.out.alloc _)).mono ?_
  rintro e w1 ⟨rfl, hR1, hg1⟩
  have bz : Bk w1 w.heap.size 30 #[.string ⟨#[]⟩, .string ⟨#[]⟩, .int .i64 0, .int .i64 0, .int .i64 0, .int .i64 0, .slice none 0 0, .string ⟨#[]⟩, .string ⟨#[]⟩, .int .i64 0] := Bk.stays (Bk.fresh w _ _) hg1 (by simp; omega)
  have hz1 : w.heap.size < w1.heap.size := bz.here
  have T1 : Hid (w.grownBy (w1.alloc (.cells #[.string s1, .string ⟨#[]⟩, .int .i64 0, .int .i64 0, .int .i64 0, .int .i64 0, .slice none 0 0, .string ⟨#[]⟩, .string ⟨#[]⟩, .int .i64 0] 30)) (some R) ∧ RdR (w1.alloc (.cells #[.string s1, .string ⟨#[]⟩, .int .i64 0, .int .i64 0, .int .i64 0, .int .i64 0, .slice none 0 0, .string ⟨#[]⟩, .string ⟨#[]⟩, .int .i64 0] 30)) R s q1 ∧ Bk (w1.alloc (.cells #[.string s1, .string ⟨#[]⟩, .int .i64 0, .int .i64 0, .int .i64 0, .int .i64 0, .slice none 0 0, .string ⟨#[]⟩, .string ⟨#[]⟩, .int .i64 0] 30)) w.heap.size 30 #[.string ⟨#[]⟩, .string ⟨#[]⟩, .int .i64 0, .int .i64 0, .int .i64 0, .int .i64 0, .slice none 0 0, .string ⟨#[]⟩, .string ⟨#[]⟩, .int .i64 0] ∧ Bk (w1.alloc (.cells #[.string s1, .string ⟨#[]⟩, .int .i64 0, .int .i64 0, .int .i64 0, .int .i64 0, .slice none 0 0, .string ⟨#[]⟩, .string ⟨#[]⟩, .int .i64 0] 30)) w1.heap.size 30 #[.string s1, .string ⟨#[]⟩, .int .i64 0, .int .i64 0, .int .i64 0, .int .i64 0, .slice none 0 0, .string ⟨#[]⟩, .string ⟨#[]⟩, .int .i64 0]) := ⟨grown_alloc (grownBy_trans (grown_alloc (World.grownBy.refl _ _) _) hg1) _, hR1.alloc _, bz.allocs _, Bk.fresh _ _ _⟩
  clear hR1 hg1 bz
  go_wp2_with fail
  refine (N2.out _ T1.out.2.1).mono ?_
  rintro e w2 ⟨rfl, hR2, hg2⟩
  have hB2 : w.grownBy w2 (some R) := grownBy_trans T1.out.1 hg2
  have bz : Bk w2 w.heap.size 30 #[.string ⟨#[]⟩, .string ⟨#[]⟩, .int .i64 0, .int .i64 0, .int .i64 0, .int .i64 0, .slice none 0 0, .string ⟨#[]⟩, .string ⟨#[]⟩, .int .i64 0] := T1.out.2.2.1.stays hg2 (by simp; omega)
  have bn : Bk w2 w1.heap.size 30 #[.string s1, .string ⟨#[]⟩, .int .i64 0, .int .i64 0, .int .i64 0, .int .i64 0, .slice none 0 0, .string ⟨#[]⟩, .string ⟨#[]⟩, .int .i64 0] := (T1.out.2.2.2).stays hg2 (by simp; omega)
  have c2_0 : w2.cell? ⟨w1.heap.size, 1, none⟩ = some (.string ⟨#[]⟩) := bn.cellAt 1
  have f2_0 : w2.frozen? ⟨w1.heap.size, 1, none⟩ = false := bn.free 1
  have T2 : Hid (w.grownBy (w2.setCell ⟨w1.heap.size, 1, none⟩ (.string s2)) (some R) ∧ RdR (w2.setCell ⟨w1.heap.size, 1, none⟩ (.string s2)) R s q2 ∧ Bk (w2.setCell ⟨w1.heap.size, 1, none⟩ (.string s2)) w.heap.size 30 #[.string ⟨#[]⟩, .string ⟨#[]⟩, .int .i64 0, .int .i64 0, .int .i64 0, .int .i64 0, .slice none 0 0, .string ⟨#[]⟩, .string ⟨#[]⟩, .int .i64 0] ∧ Bk (w2.setCell ⟨w1.heap.size, 1, none⟩ (.string s2)) w1.heap.size 30 #[.string s1, .string s2, .int .i64 0, .int .i64 0, .int .i64 0, .int .i64 0, .slice none 0 0, .string ⟨#[]⟩, .string ⟨#[]⟩, .int .i64 0]) := ⟨(grown_above hB2 (p := ⟨w1.heap.size, 1, none⟩) (Nat.le_of_lt hz1) _), (hR2.other (q := ⟨w1.heap.size, 1, none⟩) (by simp; omega) _), (bz.other (p := ⟨w1.heap.size, 1, none⟩) (by simp; omega) _), (bn.put 1 (.string s2))⟩
  clear hB2 hR2 hg2 bz bn T1
  go_wp2_with fail
  refine (N3.out _ T2.out.2.1).mono ?_
  rintro e w3 ⟨rfl, hR3, hg3⟩
  have hB3 : w.grownBy w3 (some R) := grownBy_trans T2.out.1 hg3
  have bz : Bk w3 w.heap.size 30 #[.string ⟨#[]⟩, .string ⟨#[]⟩, .int .i64 0, .int .i64 0, .int .i64 0, .int .i64 0, .slice none 0 0, .string ⟨#[]⟩, .string ⟨#[]⟩, .int .i64 0] := T2.out.2.2.1.stays hg3 (by simp; omega)
  have bn : Bk w3 w1.heap.size 30 #[.string s1, .string s2, .int .i64 0, .int .i64 0, .int .i64 0, .int .i64 0, .slice none 0 0, .string ⟨#[]⟩, .string ⟨#[]⟩, .int .i64 0] := (T2.out.2.2.2).stays hg3 (by simp; omega)
  have c3_0 : w3.cell? ⟨w1.heap.size, 2, none⟩ = some (.int .i64 0) := bn.cellAt 2
  have f3_0 : w3.frozen? ⟨w1.heap.size, 2, none⟩ = false := bn.free 2
  have T3 : Hid (w.grownBy (w3.setCell ⟨w1.heap.size, 2, none⟩ (.int .i64 (y1 : Int))) (some R) ∧ RdR (w3.setCell ⟨w1.heap.size, 2, none⟩ (.int .i64 (y1 : Int))) R s q3 ∧ Bk (w3.setCell ⟨w1.heap.size, 2, none⟩ (.int .i64 (y1 : Int))) w.heap.size 30 #[.string ⟨#[]⟩, .string ⟨#[]⟩, .int .i64 0, .int .i64 0, .int .i64 0, .int .i64 0, .slice none 0 0, .string ⟨#[]⟩, .string ⟨#[]⟩, .int .i64 0] ∧ Bk (w3.setCell ⟨w1.heap.size, 2, none⟩ (.int .i64 (y1 : Int))) w1.heap.size 30 #[.string s1, .string s2, .int .i64 (y1 : Int), .int .i64 0, .int .i64 0, .int .i64 0, .slice none 0 0, .string ⟨#[]⟩, .string ⟨#[]⟩, .int .i64 0]) := ⟨(grown_above hB3 (p := ⟨w1.heap.size, 2, none⟩) (Nat.le_of_lt hz1) _), (hR3.other (q := ⟨w1.heap.size, 2, none⟩) (by simp; omega) _), (bz.other (p := ⟨w1.heap.size, 2, none⟩) (by simp; omega) _), (bn.put 2 (.int .i64 (y1 : Int)))⟩
  clear hB3 hR3 hg3 bz bn T2
  clear c2_0 f2_0
  go_wp2_with fail
  refine (N4.out _ T3.out.2.1).mono ?_
  rintro e w4 ⟨rfl, hR4, hg4⟩
  have hB4 : w.grownBy w4 (some R) := grownBy_trans T3.out.1 hg4
  have bz : Bk w4 w.heap.size 30 #[.string ⟨#[]⟩, .string ⟨#[]⟩, .int .i64 0, .int .i64 0, .int .i64 0, .int .i64 0, .slice none 0 0, .string ⟨#[]⟩, .string ⟨#[]⟩, .int .i64 0] := T3.out.2.2.1.stays hg4 (by simp; omega)
  have bn : Bk w4 w1.heap.size 30 #[.string s1, .string s2, .int .i64 (y1 : Int), .int .i64 0, .int .i64 0, .int .i64 0, .slice none 0 0, .string ⟨#[]⟩, .string ⟨#[]⟩, .int .i64 0] := (T3.out.2.2.2).stays hg4 (by simp; omega)
  have c4_0 : w4.cell? ⟨w1.heap.size, 3, none⟩ = some (.int .i64 0) := bn.cellAt 3
  have f4_0 : w4.frozen? ⟨w1.heap.size, 3, none⟩ = false := bn.free 3
  have c4_1 : w4.cell? ⟨w1.heap.size, 4, none⟩ = some (.int .i64 0) := bn.cellAt 4
  have f4_1 : w4.frozen? ⟨w1.heap.size, 4, none⟩ = false := bn.free 4
  have c4_2 : w4.cell? ⟨w1.heap.size, 5, none⟩ = some (.int .i64 0) := bn.cellAt 5
  have f4_2 : w4.frozen? ⟨w1.heap.size, 5, none⟩ = false := bn.free 5
  have T4 : Hid (w.grownBy (((w4.setCell ⟨w1.heap.size, 3, none⟩ (.int .i64 (x1 : Int))).setCell ⟨w1.heap.size, 4, none⟩ (.int .i64 (x2 : Int))).setCell ⟨w1.heap.size, 5, none⟩ (.int .i64 (x3 : Int))) (some R) ∧ RdR (((w4.setCell ⟨w1.heap.size, 3, none⟩ (.int .i64 (x1 : Int))).setCell ⟨w1.heap.size, 4, none⟩ (.int .i64 (x2 : Int))).setCell ⟨w1.heap.size, 5, none⟩ (.int .i64 (x3 : Int))) R s q4 ∧ Bk (((w4.setCell ⟨w1.heap.size, 3, none⟩ (.int .i64 (x1 : Int))).setCell ⟨w1.heap.size, 4, none⟩ (.int .i64 (x2 : Int))).setCell ⟨w1.heap.size, 5, none⟩ (.int .i64 (x3 : Int))) w.heap.size 30 #[.string ⟨#[]⟩, .string ⟨#[]⟩, .int .i64 0, .int .i64 0, .int .i64 0, .int .i64 0, .slice none 0 0, .string ⟨#[]⟩, .string ⟨#[]⟩, .int .i64 0] ∧ Bk (((w4.setCell ⟨w1.heap.size, 3, none⟩ (.int .i64 (x1 : Int))).setCell ⟨w1.heap.size, 4, none⟩ (.int .i64 (x2 : Int))).setCell ⟨w1.heap.size, 5, none⟩ (.int .i64 (x3 : Int))) w1.heap.size 30 #[.string s1, .string s2, .int .i64 (y1 : Int), .int .i64 (x1 : Int), .int .i64 (x2 : Int), .int .i64 (x3 : Int), .slice none 0 0, .string ⟨#[]⟩, .string ⟨#[]⟩, .int .i64 0]) := ⟨(grown_above (grown_above (grown_above hB4 (p := ⟨w1.heap.size, 3, none⟩) (Nat.le_of_lt hz1) _) (p := ⟨w1.heap.size, 4, none⟩) (Nat.le_of_lt hz1) _) (p := ⟨w1.heap.size, 5, none⟩) (Nat.le_of_lt hz1) _), (((hR4.other (q := ⟨w1.heap.size, 3, none⟩) (by simp; omega) _).other (q := ⟨w1.heap.size, 4, none⟩) (by simp; omega) _).other (q := ⟨w1.heap.size, 5, none⟩) (by simp; omega) _), (((bz.other (p := ⟨w1.heap.size, 3, none⟩) (by simp; omega) _).other (p := ⟨w1.heap.size, 4, none⟩) (by simp; omega) _).other (p := ⟨w1.heap.size, 5, none⟩) (by simp; omega) _), (((bn.put 3 (.int .i64 (x1 : Int))).put 4 (.int .i64 (x2 : Int))).put 5 (.int .i64 (x3 : Int)))⟩
  clear hB4 hR4 hg4 bz bn T3
  clear c3_0 f3_0
  go_wp2_with fail
  refine (N5.out _ T4.out.2.1).mono ?_
  rintro e w5 ⟨vl, rfl, hO, hR5, hg5⟩
  have hB5 : w.grownBy w5 (some R) := grownBy_trans T4.out.1 hg5
  have bz : Bk w5 w.heap.size 30 #[.string ⟨#[]⟩, .string ⟨#[]⟩, .int .i64 0, .int .i64 0, .int .i64 0, .int .i64 0, .slice none 0 0, .string ⟨#[]⟩, .string ⟨#[]⟩, .int .i64 0] := T4.out.2.2.1.stays hg5 (by simp; omega)
  have bn : Bk w5 w1.heap.size 30 #[.string s1, .string s2, .int .i64 (y1 : Int), .int .i64 (x1 : Int), .int .i64 (x2 : Int), .int .i64 (x3 : Int), .slice none 0 0, .string ⟨#[]⟩, .string ⟨#[]⟩, .int .i64 0] := (T4.out.2.2.2).stays hg5 (by simp; omega)
  have hO1 : OwnL w5 (w1.heap.size + 1) vl labs := OwnL.base hO (by have := T4.out.2.2.2.here; omega)
  obtain ⟨Al, cl, sl⟩ := hO1.sl
  obtain ⟨nl, hnl⟩ : ∃ nl, nl = labs.length := ⟨_, rfl⟩
  have hvl := sl.val; rw [← hnl] at hvl; subst hvl
  have ca := sl.cap; rw [← hnl] at ca
  have cb : cl ≤ 9223372036854775807 := by have := sl.cap2; unfold maxLen at this; omega
  have HNL := Lib.hid hnl; clear sl hO hnl
  have c5_0 : w5.cell? ⟨w1.heap.size, 6, none⟩ = some (.slice none 0 0) := bn.cellAt 6
  have f5_0 : w5.frozen? ⟨w1.heap.size, 6, none⟩ = false := bn.free 6
  have T5 : Hid (w.grownBy (w5.setCell ⟨w1.heap.size, 6, none⟩ (.slice Al nl cl)) (some R) ∧ RdR (w5.setCell ⟨w1.heap.size, 6, none⟩ (.slice Al nl cl)) R s q5 ∧ Bk (w5.setCell ⟨w1.heap.size, 6, none⟩ (.slice Al nl cl)) w.heap.size 30 #[.string ⟨#[]⟩, .string ⟨#[]⟩, .int .i64 0, .int .i64 0, .int .i64 0, .int .i64 0, .slice none 0 0, .string ⟨#[]⟩, .string ⟨#[]⟩, .int .i64 0] ∧ Bk (w5.setCell ⟨w1.heap.size, 6, none⟩ (.slice Al nl cl)) w1.heap.size 30 #[.string s1, .string s2, .int .i64 (y1 : Int), .int .i64 (x1 : Int), .int .i64 (x2 : Int), .int .i64 (x3 : Int), .slice Al nl cl, .string ⟨#[]⟩, .string ⟨#[]⟩, .int .i64 0] ∧ OwnL (w5.setCell ⟨w1.heap.size, 6, none⟩ (.slice Al nl cl)) (w1.heap.size + 1) (.slice Al nl cl) labs) := ⟨(grown_above hB5 (p := ⟨w1.heap.size, 6, none⟩) (Nat.le_of_lt hz1) _), (hR5.other (q := ⟨w1.heap.size, 6, none⟩) (by simp; omega) _), (bz.other (p := ⟨w1.heap.size, 6, none⟩) (by simp; omega) _), (bn.put 6 (.slice Al nl cl)), (hO1.other (p := ⟨w1.heap.size, 6, none⟩) (by simp) _)⟩
  clear hB5 hR5 hg5 bz bn T4 hO1
  clear c4_0 f4_0 c4_1 f4_1 c4_2 f4_2
  go_wp2_with fail
  refine (N6.out _ T5.out.2.1).mono ?_
  rintro e w6 ⟨rfl, hR6, hg6⟩
  have hB6 : w.grownBy w6 (some R) := grownBy_trans T5.out.1 hg6
  have bz : Bk w6 w.heap.size 30 #[.string ⟨#[]⟩, .string ⟨#[]⟩, .int .i64 0, .int .i64 0, .int .i64 0, .int .i64 0, .slice none 0 0, .string ⟨#[]⟩, .string ⟨#[]⟩, .int .i64 0] := T5.out.2.2.1.stays hg6 (by simp; omega)
  have bn : Bk w6 w1.heap.size 30 #[.string s1, .string s2, .int .i64 (y1 : Int), .int .i64 (x1 : Int), .int .i64 (x2 : Int), .int .i64 (x3 : Int), .slice Al nl cl, .string ⟨#[]⟩, .string ⟨#[]⟩, .int .i64 0] := (T5.out.2.2.2.1).stays hg6 (by simp; omega)
  have hO1 := T5.out.2.2.2.2.stays hg6 (by omega)
  have c6_0 : w6.cell? ⟨w1.heap.size, 7, none⟩ = some (.string ⟨#[]⟩) := bn.cellAt 7
  have f6_0 : w6.frozen? ⟨w1.heap.size, 7, none⟩ = false := bn.free 7
  have T6 : Hid (w.grownBy (w6.setCell ⟨w1.heap.size, 7, none⟩ (.string s3)) (some R) ∧ RdR (w6.setCell ⟨w1.heap.size, 7, none⟩ (.string s3)) R s q6 ∧ Bk (w6.setCell ⟨w1.heap.size, 7, none⟩ (.string s3)) w.heap.size 30 #[.string ⟨#[]⟩, .string ⟨#[]⟩, .int .i64 0, .int .i64 0, .int .i64 0, .int .i64 0, .slice none 0 0, .string ⟨#[]⟩, .string ⟨#[]⟩, .int .i64 0] ∧ Bk (w6.setCell ⟨w1.heap.size, 7, none⟩ (.string s3)) w1.heap.size 30 #[.string s1, .string s2, .int .i64 (y1 : Int), .int .i64 (x1 : Int), .int .i64 (x2 : Int), .int .i64 (x3 : Int), .slice Al nl cl, .string s3, .string ⟨#[]⟩, .int .i64 0] ∧ OwnL (w6.setCell ⟨w1.heap.size, 7, none⟩ (.string s3)) (w1.heap.size + 1) (.slice Al nl cl) labs) := ⟨(grown_above hB6 (p := ⟨w1.heap.size, 7, none⟩) (Nat.le_of_lt hz1) _), (hR6.other (q := ⟨w1.heap.size, 7, none⟩) (by simp; omega) _), (bz.other (p := ⟨w1.heap.size, 7, none⟩) (by simp; omega) _), (bn.put 7 (.string s3)), (hO1.other (p := ⟨w1.heap.size, 7, none⟩) (by simp) _)⟩
  clear hB6 hR6 hg6 bz bn T5 hO1
  clear c5_0 f5_0
  go_wp2_with fail
  refine (N7.out _ T6.out.2.1).mono ?_
  rintro e w7 ⟨rfl, hR7, hg7⟩
  have hB7 : w.grownBy w7 (some R) := grownBy_trans T6.out.1 hg7
  have bz : Bk w7 w.heap.size 30 #[.string ⟨#[]⟩, .string ⟨#[]⟩, .int .i64 0, .int .i64 0, .int .i64 0, .int .i64 0, .slice none 0 0, .string ⟨#[]⟩, .string ⟨#[]⟩, .int .i64 0] := T6.out.2.2.1.stays hg7 (by simp; omega)
  have bn : Bk w7 w1.heap.size 30 #[.string s1, .string s2, .int .i64 (y1 : Int), .int .i64 (x1 : Int), .int .i64 (x2 : Int), .int .i64 (x3 : Int), .slice Al nl cl, .string s3, .string ⟨#[]⟩, .int .i64 0] := (T6.out.2.2.2.1).stays hg7 (by simp; omega)
  have hO1 := T6.out.2.2.2.2.stays hg7 (by omega)
  have c7_0 : w7.cell? ⟨w1.heap.size, 8, none⟩ = some (.string ⟨#[]⟩) := bn.cellAt 8
  have f7_0 : w7.frozen? ⟨w1.heap.size, 8, none⟩ = false := bn.free 8
  have T7 : Hid (w.grownBy (w7.setCell ⟨w1.heap.size, 8, none⟩ (.string s4)) (some R) ∧ RdR (w7.setCell ⟨w1.heap.size, 8, none⟩ (.string s4)) R s q7 ∧ Bk (w7.setCell ⟨w1.heap.size, 8, none⟩ (.string s4)) w.heap.size 30 #[.string ⟨#[]⟩, .string ⟨#[]⟩, .int .i64 0, .int .i64 0, .int .i64 0, .int .i64 0, .slice none 0 0, .string ⟨#[]⟩, .string ⟨#[]⟩, .int .i64 0] ∧ Bk (w7.setCell ⟨w1.heap.size, 8, none⟩ (.string s4)) w1.heap.size 30 #[.string s1, .string s2, .int .i64 (y1 : Int), .int .i64 (x1 : Int), .int .i64 (x2 : Int), .int .i64 (x3 : Int), .slice Al nl cl, .string s3, .string s4, .int .i64 0] ∧ OwnL (w7.setCell ⟨w1.heap.size, 8, none⟩ (.string s4)) (w1.heap.size + 1) (.slice Al nl cl) labs) := ⟨(grown_above hB7 (p := ⟨w1.heap.size, 8, none⟩) (Nat.le_of_lt hz1) _), (hR7.other (q := ⟨w1.heap.size, 8, none⟩) (by simp; omega) _), (bz.other (p := ⟨w1.heap.size, 8, none⟩) (by simp; omega) _), (bn.put 8 (.string s4)), (hO1.other (p := ⟨w1.heap.size, 8, none⟩) (by simp) _)⟩
  clear hB7 hR7 hg7 bz bn T6 hO1
  clear c6_0 f6_0
  go_wp2_with fail
  refine (N8.out _ T7.out.2.1).mono ?_
  rintro e w8 ⟨rfl, hR8, hg8⟩
  have hB8 : w.grownBy w8 (some R) := grownBy_trans T7.out.1 hg8
  have bz : Bk w8 w.heap.size 30 #[.string ⟨#[]⟩, .string ⟨#[]⟩, .int .i64 0, .int .i64 0, .int .i64 0, .int .i64 0, .slice none 0 0, .string ⟨#[]⟩, .string ⟨#[]⟩, .int .i64 0] := T7.out.2.2.1.stays hg8 (by simp; omega)
  have bn : Bk w8 w1.heap.size 30 #[.string s1, .string s2, .int .i64 (y1 : Int), .int .i64 (x1 : Int), .int .i64 (x2 : Int), .int .i64 (x3 : Int), .slice Al nl cl, .string s3, .string s4, .int .i64 0] := (T7.out.2.2.2.1).stays hg8 (by simp; omega)
  have hO1 := T7.out.2.2.2.2.stays hg8 (by omega)
  have c8_0 : w8.cell? ⟨w1.heap.size, 9, none⟩ = some (.int .i64 0) := bn.cellAt 9
  have f8_0 : w8.frozen? ⟨w1.heap.size, 9, none⟩ = false := bn.free 9
  have T8 : Hid (w.grownBy (w8.setCell ⟨w1.heap.size, 9, none⟩ (.int .i64 (y2 : Int))) (some R) ∧ RdR (w8.setCell ⟨w1.heap.size, 9, none⟩ (.int .i64 (y2 : Int))) R s q8 ∧ Bk (w8.setCell ⟨w1.heap.size, 9, none⟩ (.int .i64 (y2 : Int))) w.heap.size 30 #[.string ⟨#[]⟩, .string ⟨#[]⟩, .int .i64 0, .int .i64 0, .int .i64 0, .int .i64 0, .slice none 0 0, .string ⟨#[]⟩, .string ⟨#[]⟩, .int .i64 0] ∧ Bk (w8.setCell ⟨w1.heap.size, 9, none⟩ (.int .i64 (y2 : Int))) w1.heap.size 30 #[.string s1, .string s2, .int .i64 (y1 : Int), .int .i64 (x1 : Int), .int .i64 (x2 : Int), .int .i64 (x3 : Int), .slice Al nl cl, .string s3, .string s4, .int .i64 (y2 : Int)] ∧ OwnL (w8.setCell ⟨w1.heap.size, 9, none⟩ (.int .i64 (y2 : Int))) (w1.heap.size + 1) (.slice Al nl cl) labs) := ⟨(grown_above hB8 (p := ⟨w1.heap.size, 9, none⟩) (Nat.le_of_lt hz1) _), (hR8.other (q := ⟨w1.heap.size, 9, none⟩) (by simp; omega) _), (bz.other (p := ⟨w1.heap.size, 9, none⟩) (by simp; omega) _), (bn.put 9 (.int .i64 (y2 : Int))), (hO1.other (p := ⟨w1.heap.size, 9, none⟩) (by simp) _)⟩
  clear hB8 hR8 hg8 bz bn T7 hO1
  clear c7_0 f7_0
  have d0 : (w8.setCell ⟨w1.heap.size, 9, none⟩ (.int .i64 (y2 : Int))).cell? ⟨w1.heap.size, 0, none⟩ = some (.string s1) := T8.out.2.2.2.1.cellAt 0
  have d1 : (w8.setCell ⟨w1.heap.size, 9, none⟩ (.int .i64 (y2 : Int))).cell? ⟨w1.heap.size, 1, none⟩ = some (.string s2) := T8.out.2.2.2.1.cellAt 1
  have d2 : (w8.setCell ⟨w1.heap.size, 9, none⟩ (.int .i64 (y2 : Int))).cell? ⟨w1.heap.size, 2, none⟩ = some (.int .i64 (y1 : Int)) := T8.out.2.2.2.1.cellAt 2
  have d3 : (w8.setCell ⟨w1.heap.size, 9, none⟩ (.int .i64 (y2 : Int))).cell? ⟨w1.heap.size, 3, none⟩ = some (.int .i64 (x1 : Int)) := T8.out.2.2.2.1.cellAt 3
  have d4 : (w8.setCell ⟨w1.heap.size, 9, none⟩ (.int .i64 (y2 : Int))).cell? ⟨w1.heap.size, 4, none⟩ = some (.int .i64 (x2 : Int)) := T8.out.2.2.2.1.cellAt 4
  have d5 : (w8.setCell ⟨w1.heap.size, 9, none⟩ (.int .i64 (y2 : Int))).cell? ⟨w1.heap.size, 5, none⟩ = some (.int .i64 (x3 : Int)) := T8.out.2.2.2.1.cellAt 5
  have d6 : (w8.setCell ⟨w1.heap.size, 9, none⟩ (.int .i64 (y2 : Int))).cell? ⟨w1.heap.size, 6, none⟩ = some (.slice Al nl cl) := T8.out.2.2.2.1.cellAt 6
  have d7 : (w8.setCell ⟨w1.heap.size, 9, none⟩ (.int .i64 (y2 : Int))).cell? ⟨w1.heap.size, 7, none⟩ = some (.string s3) := T8.out.2.2.2.1.cellAt 7
  have d8 : (w8.setCell ⟨w1.heap.size, 9, none⟩ (.int .i64 (y2 : Int))).cell? ⟨w1.heap.size, 8, none⟩ = some (.string s4) := T8.out.2.2.2.1.cellAt 8
  have d9 : (w8.setCell ⟨w1.heap.size, 9, none⟩ (.int .i64 (y2 : Int))).cell? ⟨w1.heap.size, 9, none⟩ = some (.int .i64 (y2 : Int)) := T8.out.2.2.2.1.cellAt 9
  go_wp2_with fail
  clear d0 d1 d2 d3 d4 d5 d6 d7 d8 d9 c8_0 f8_0
  have hRL : RdL (w8.setCell ⟨w1.heap.size, 9, none⟩ (.int .i64 (y2 : Int))) Al labs := by obtain ⟨A2, c2, s2⟩ := T8.out.2.2.2.2.sl; have h := s2.val; injection h with h1 h2 h3; have h4 := s2.rd; rw [← h1] at h4; exact h4
  refine (rtask_any s1 s2 y1 x1 x2 x3 Al nl cl labs s3 s4 y2 _ (by omega) (by omega) HNL (Lib.hid hRL) (Lib.hid S5.out.sz) ca cb (by omega) (by omega)).mono ?_
  rw [← HOK.out]
  rintro e w9 ⟨rfl, hb9⟩
  have T9 : Hid (w.grownBy w9 (some R) ∧ RdR w9 R s q8 ∧ Bk w9 w.heap.size 30 #[.string ⟨#[]⟩, .string ⟨#[]⟩, .int .i64 0, .int .i64 0, .int .i64 0, .int .i64 0, .slice none 0 0, .string ⟨#[]⟩, .string ⟨#[]⟩, .int .i64 0] ∧ Bk w9 w1.heap.size 30 #[.string s1, .string s2, .int .i64 (y1 : Int), .int .i64 (x1 : Int), .int .i64 (x2 : Int), .int .i64 (x3 : Int), .slice Al nl cl, .string s3, .string s4, .int .i64 (y2 : Int)] ∧ OwnL w9 (w1.heap.size + 1) (.slice Al nl cl) labs) := ⟨grownBy_trans T8.out.1 (below_grownBy hb9), T8.out.2.1.later hb9, T8.out.2.2.1.later hb9, T8.out.2.2.2.1.later hb9, T8.out.2.2.2.2.below hb9⟩
  clear hb9 T8 hRL
  by_cases h0 : er = 0
  case pos =>
    subst h0
    obtain rfl := HX.out.trans (if_pos rfl)
    have ne2 := NE.out w9 T9.out.2.1
    rw [decide_eq_true rfl] at ne2
    have NE2 := Lib.hid ne2
    clear ne2 NE
    go_wp2_with fail
    refine NE2.out.mono ?_
    rintro e w10 ⟨rfl, hRe, hge⟩
    have hB : w.grownBy w10 (some R) := grownBy_trans T9.out.1 hge
    have bz := T9.out.2.2.1.stays hge (by simp; omega)
    have bn := T9.out.2.2.2.1.stays hge (by simp; omega)
    have hO1 := T9.out.2.2.2.2.stays hge (by omega)
    clear hge T9
    have d0 : w10.cell? ⟨w1.heap.size, 0, none⟩ = some (.string s1) := bn.cellAt 0
    have z0 : w10.cell? ⟨w.heap.size, 0, none⟩ = some (.string ⟨#[]⟩) := bz.cellAt 0
    have y0z : w10.frozen? ⟨w.heap.size, 0, none⟩ = false := bz.free 0
    have d1 : w10.cell? ⟨w1.heap.size, 1, none⟩ = some (.string s2) := bn.cellAt 1
    have z1 : w10.cell? ⟨w.heap.size, 1, none⟩ = some (.string ⟨#[]⟩) := bz.cellAt 1
    have y1z : w10.frozen? ⟨w.heap.size, 1, none⟩ = false := bz.free 1
    have d2 : w10.cell? ⟨w1.heap.size, 2, none⟩ = some (.int .i64 (y1 : Int)) := bn.cellAt 2
    have z2 : w10.cell? ⟨w.heap.size, 2, none⟩ = some (.int .i64 0) := bz.cellAt 2
    have y2z : w10.frozen? ⟨w.heap.size, 2, none⟩ = false := bz.free 2
    have d3 : w10.cell? ⟨w1.heap.size, 3, none⟩ = some (.int .i64 (x1 : Int)) := bn.cellAt 3
    have z3 : w10.cell? ⟨w.heap.size, 3, none⟩ = some (.int .i64 0) := bz.cellAt 3
    have y3z : w10.frozen? ⟨w.heap.size, 3, none⟩ = false := bz.free 3
    have d4 : w10.cell? ⟨w1.heap.size, 4, none⟩ = some (.int .i64 (x2 : Int)) := bn.cellAt 4
    have z4 : w10.cell? ⟨w.heap.size, 4, none⟩ = some (.int .i64 0) := bz.cellAt 4
    have y4z : w10.frozen? ⟨w.heap.size, 4, none⟩ = false := bz.free 4
    have d5 : w10.cell? ⟨w1.heap.size, 5, none⟩ = some (.int .i64 (x3 : Int)) := bn.cellAt 5
    have z5 : w10.cell? ⟨w.heap.size, 5, none⟩ = some (.int .i64 0) := bz.cellAt 5
    have y5z : w10.frozen? ⟨w.heap.size, 5, none⟩ = false := bz.free 5
    have d6 : w10.cell? ⟨w1.heap.size, 6, none⟩ = some (.slice Al nl cl) := bn.cellAt 6
    have z6 : w10.cell? ⟨w.heap.size, 6, none⟩ = some (.slice none 0 0) := bz.cellAt 6
    have y6z : w10.frozen? ⟨w.heap.size, 6, none⟩ = false := bz.free 6
    have d7 : w10.cell? ⟨w1.heap.size, 7, none⟩ = some (.string s3) := bn.cellAt 7
    have z7 : w10.cell? ⟨w.heap.size, 7, none⟩ = some (.string ⟨#[]⟩) := bz.cellAt 7
    have y7z : w10.frozen? ⟨w.heap.size, 7, none⟩ = false := bz.free 7
    have d8 : w10.cell? ⟨w1.heap.size, 8, none⟩ = some (.string s4) := bn.cellAt 8
    have z8 : w10.cell? ⟨w.heap.size, 8, none⟩ = some (.string ⟨#[]⟩) := bz.cellAt 8
    have y8z : w10.frozen? ⟨w.heap.size, 8, none⟩ = false := bz.free 8
    have d9 : w10.cell? ⟨w1.heap.size, 9, none⟩ = some (.int .i64 (y2 : Int)) := bn.cellAt 9
    have z9 : w10.cell? ⟨w.heap.size, 9, none⟩ = some (.int .i64 0) := bz.cellAt 9
    have y9z : w10.frozen? ⟨w.heap.size, 9, none⟩ = false := bz.free 9
    have hz := bz.here
    have HB := Lib.hid hB
    have HRe := Lib.hid hRe
    have HO := Lib.hid hO1
    clear bz bn hB hRe hO1
    go_wp2
    exact bodyPost_ret (v := .agg #[.string s1, .string s2, .int .i64 (y1 : Int), .int .i64 (x1 : Int), .int .i64 (x2 : Int), .int .i64 (x3 : Int), .slice Al nl cl, .string s3, .string s4, .int .i64 (y2 : Int)]) (by simp [results, Try.results43, go_sem, z0, z1, z2, z3, z4, z5, z6, z7, z8, z9]) rfl ⟨_, rfl, ((((((((((HO.out.other (p := ⟨w.heap.size, 0, none⟩) (by simp; omega) _).other (p := ⟨w.heap.size, 1, none⟩) (by simp; omega) _).other (p := ⟨w.heap.size, 2, none⟩) (by simp; omega) _).other (p := ⟨w.heap.size, 3, none⟩) (by simp; omega) _).other (p := ⟨w.heap.size, 4, none⟩) (by simp; omega) _).other (p := ⟨w.heap.size, 5, none⟩) (by simp; omega) _).other (p := ⟨w.heap.size, 6, none⟩) (by simp; omega) _).other (p := ⟨w.heap.size, 7, none⟩) (by simp; omega) _).other (p := ⟨w.heap.size, 8, none⟩) (by simp; omega) _).other (p := ⟨w.heap.size, 9, none⟩) (by simp; omega) _).base (by omega), ((((((((((HRe.out.other (q := ⟨w.heap.size, 0, none⟩) (by simp; omega) _).other (q := ⟨w.heap.size, 1, none⟩) (by simp; omega) _).other (q := ⟨w.heap.size, 2, none⟩) (by simp; omega) _).other (q := ⟨w.heap.size, 3, none⟩) (by simp; omega) _).other (q := ⟨w.heap.size, 4, none⟩) (by simp; omega) _).other (q := ⟨w.heap.size, 5, none⟩) (by simp; omega) _).other (q := ⟨w.heap.size, 6, none⟩) (by simp; omega) _).other (q := ⟨w.heap.size, 7, none⟩) (by simp; omega) _).other (q := ⟨w.heap.size, 8, none⟩) (by simp; omega) _).other (q := ⟨w.heap.size, 9, none⟩) (by simp; omega) _), (grown_above (grown_above (grown_above (grown_above (grown_above (grown_above (grown_above (grown_above (grown_above (grown_above HB.out (p := ⟨w.heap.size, 0, none⟩) (Nat.le_refl _) _) (p := ⟨w.heap.size, 1, none⟩) (Nat.le_refl _) _) (p := ⟨w.heap.size, 2, none⟩) (Nat.le_refl _) _) (p := ⟨w.heap.size, 3, none⟩) (Nat.le_refl _) _) (p := ⟨w.heap.size, 4, none⟩) (Nat.le_refl _) _) (p := ⟨w.heap.size, 5, none⟩) (Nat.le_refl _) _) (p := ⟨w.heap.size, 6, none⟩) (Nat.le_refl _) _) (p := ⟨w.heap.size, 7, none⟩) (Nat.le_refl _) _) (p := ⟨w.heap.size, 8, none⟩) (Nat.le_refl _) _) (p := ⟨w.heap.size, 9, none⟩) (Nat.le_refl _) _)⟩
  case neg =>
    obtain rfl := HX.out.trans (if_neg h0)
    have ne2 := NE.out w9 T9.out.2.1
    rw [decide_eq_false h0] at ne2
    have NE2 := Lib.hid ne2
    clear ne2 NE h0
    go_wp2_with fail
    refine NE2.out.mono ?_
    rintro e w10 ⟨rfl, hRe, hge⟩
    have hB : w.grownBy w10 (some R) := grownBy_trans T9.out.1 hge
    have bz := T9.out.2.2.1.stays hge (by simp; omega)
    have bn := T9.out.2.2.2.1.stays hge (by simp; omega)
    have hO1 := T9.out.2.2.2.2.stays hge (by omega)
    clear hge T9
    have d0 : w10.cell? ⟨w1.heap.size, 0, none⟩ = some (.string s1) := bn.cellAt 0
    have z0 : w10.cell? ⟨w.heap.size, 0, none⟩ = some (.string ⟨#[]⟩) := bz.cellAt 0
    have y0z : w10.frozen? ⟨w.heap.size, 0, none⟩ = false := bz.free 0
    have d1 : w10.cell? ⟨w1.heap.size, 1, none⟩ = some (.string s2) := bn.cellAt 1
    have z1 : w10.cell? ⟨w.heap.size, 1, none⟩ = some (.string ⟨#[]⟩) := bz.cellAt 1
    have y1z : w10.frozen? ⟨w.heap.size, 1, none⟩ = false := bz.free 1
    have d2 : w10.cell? ⟨w1.heap.size, 2, none⟩ = some (.int .i64 (y1 : Int)) := bn.cellAt 2
    have z2 : w10.cell? ⟨w.heap.size, 2, none⟩ = some (.int .i64 0) := bz.cellAt 2
    have y2z : w10.frozen? ⟨w.heap.size, 2, none⟩ = false := bz.free 2
    have d3 : w10.cell? ⟨w1.heap.size, 3, none⟩ = some (.int .i64 (x1 : Int)) := bn.cellAt 3
    have z3 : w10.cell? ⟨w.heap.size, 3, none⟩ = some (.int .i64 0) := bz.cellAt 3
    have y3z : w10.frozen? ⟨w.heap.size, 3, none⟩ = false := bz.free 3
    have d4 : w10.cell? ⟨w1.heap.size, 4, none⟩ = some (.int .i64 (x2 : Int)) := bn.cellAt 4
    have z4 : w10.cell? ⟨w.heap.size, 4, none⟩ = some (.int .i64 0) := bz.cellAt 4
    have y4z : w10.frozen? ⟨w.heap.size, 4, none⟩ = false := bz.free 4
    have d5 : w10.cell? ⟨w1.heap.size, 5, none⟩ = some (.int .i64 (x3 : Int)) := bn.cellAt 5
    have z5 : w10.cell? ⟨w.heap.size, 5, none⟩ = some (.int .i64 0) := bz.cellAt 5
    have y5z : w10.frozen? ⟨w.heap.size, 5, none⟩ = false := bz.free 5
    have d6 : w10.cell? ⟨w1.heap.size, 6, none⟩ = some (.slice Al nl cl) := bn.cellAt 6
    have z6 : w10.cell? ⟨w.heap.size, 6, none⟩ = some (.slice none 0 0) := bz.cellAt 6
    have y6z : w10.frozen? ⟨w.heap.size, 6, none⟩ = false := bz.free 6
    have d7 : w10.cell? ⟨w1.heap.size, 7, none⟩ = some (.string s3) := bn.cellAt 7
    have z7 : w10.cell? ⟨w.heap.size, 7, none⟩ = some (.string ⟨#[]⟩) := bz.cellAt 7
    have y7z : w10.frozen? ⟨w.heap.size, 7, none⟩ = false := bz.free 7
    have d8 : w10.cell? ⟨w1.heap.size, 8, none⟩ = some (.string s4) := bn.cellAt 8
    have z8 : w10.cell? ⟨w.heap.size, 8, none⟩ = some (.string ⟨#[]⟩) := bz.cellAt 8
    have y8z : w10.frozen? ⟨w.heap.size, 8, none⟩ = false := bz.free 8
    have d9 : w10.cell? ⟨w1.heap.size, 9, none⟩ = some (.int .i64 (y2 : Int)) := bn.cellAt 9
    have z9 : w10.cell? ⟨w.heap.size, 9, none⟩ = some (.int .i64 0) := bz.cellAt 9
    have y9z : w10.frozen? ⟨w.heap.size, 9, none⟩ = false := bz.free 9
    have hz := bz.here
    have HB := Lib.hid hB
    have HRe := Lib.hid hRe
    have HO := Lib.hid hO1
    clear bz bn hB hRe hO1
    go_wp2
    exact bodyPost_ret (v := .agg #[.string ⟨#[]⟩, .string ⟨#[]⟩, .int .i64 0, .int .i64 0, .int .i64 0, .int .i64 0, .slice none 0 0, .string ⟨#[]⟩, .string ⟨#[]⟩, .int .i64 0]) (by simp [results, Try.results43, go_sem, z0, z1, z2, z3, z4, z5, z6, z7, z8, z9]) rfl ⟨_, rfl, OwnL.nil _ _, ((((((((((HRe.out.other (q := ⟨w.heap.size, 0, none⟩) (by simp; omega) _).other (q := ⟨w.heap.size, 1, none⟩) (by simp; omega) _).other (q := ⟨w.heap.size, 2, none⟩) (by simp; omega) _).other (q := ⟨w.heap.size, 3, none⟩) (by simp; omega) _).other (q := ⟨w.heap.size, 4, none⟩) (by simp; omega) _).other (q := ⟨w.heap.size, 5, none⟩) (by simp; omega) _).other (q := ⟨w.heap.size, 6, none⟩) (by simp; omega) _).other (q := ⟨w.heap.size, 7, none⟩) (by simp; omega) _).other (q := ⟨w.heap.size, 8, none⟩) (by simp; omega) _).other (q := ⟨w.heap.size, 9, none⟩) (by simp; omega) _), (grown_above (grown_above (grown_above (grown_above (grown_above (grown_above (grown_above (grown_above (grown_above (grown_above HB.out (p := ⟨w.heap.size, 0, none⟩) (Nat.le_refl _) _) (p := ⟨w.heap.size, 1, none⟩) (Nat.le_refl _) _) (p := ⟨w.heap.size, 2, none⟩) (Nat.le_refl _) _) (p := ⟨w.heap.size, 3, none⟩) (Nat.le_refl _) _) (p := ⟨w.heap.size, 4, none⟩) (Nat.le_refl _) _) (p := ⟨w.heap.size, 5, none⟩) (Nat.le_refl _) _) (p := ⟨w.heap.size, 6, none⟩) (Nat.le_refl _) _) (p := ⟨w.heap.size, 7, none⟩) (Nat.le_refl _) _) (p := ⟨w.heap.size, 8, none⟩) (Nat.le_refl _) _) (p := ⟨w.heap.size, 9, none⟩) (Nat.le_refl _) _)⟩

end Go.Proofs.Ytehkdaknhgmdkaa
