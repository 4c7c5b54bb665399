/- The contracts of TakeNode, TakeQueue, TakeTask: what they return of any bytes at any offset, said as plain functions. Condition: the slice is one that Go can have. -/
import Derived.Test.YtehkdaknhgmdkaaRvl
namespace Go.Proofs.Ytehkdaknhgmdkaa
open Go.RowKit
set_option linter.unusedSimpArgs false
set_option linter.unusedVariables false

/-- A node, a queue, a task as they were read. -/
structure Nd where
  nm : ByteArray
  a : Nat
  b : Nat
  c : Nat
  l : List Lb
structure Qu where
  nm : ByteArray
  a : Nat
  b : Nat
  c : Nat
structure Tk where
  nm : ByteArray
  qu : ByteArray
  pr : Nat
  a : Nat
  b : Nat
  c : Nat
  l : List Lb
  ap : ByteArray
  ga : ByteArray
  sz : Nat
def Nd.zero : Nd := ⟨⟨#[]⟩, 0, 0, 0, []⟩
def Qu.zero : Qu := ⟨⟨#[]⟩, 0, 0, 0⟩
def Tk.zero : Tk := ⟨⟨#[]⟩, ⟨#[]⟩, 0, 0, 0, 0, [], ⟨#[]⟩, ⟨#[]⟩, 0⟩
def Nd.ok (x : Nd) : Bool := nodeB x.nm x.a x.b x.c x.l
def Qu.ok (x : Qu) : Bool := queueB x.nm x.a x.b x.c
def Tk.ok (x : Tk) : Bool := taskB x.nm x.qu x.pr x.a x.b x.c x.l x.ap x.ga x.sz
/-- What is read of bytes, and the state behind it. -/
def rNode (l : List UInt8) (p : Int × Int) : Nd × (Int × Int) :=
  let t := rTx l p
  let v := rVe l t.2
  let b := rLa l v.2
  (⟨t.1, v.1.1, v.1.2.1, v.1.2.2, b.1⟩, b.2)
def rQueue (l : List UInt8) (p : Int × Int) : Qu × (Int × Int) :=
  let t := rTx l p
  let v := rVe l t.2
  (⟨t.1, v.1.1, v.1.2.1, v.1.2.2⟩, v.2)
def rTask (l : List UInt8) (p : Int × Int) : Tk × (Int × Int) :=
  let t := rTx l p
  let q := rTx l t.2
  let r := rNu l 1048576 3 q.2
  let v := rVe l r.2
  let b := rLa l v.2
  let a := rTx l b.2
  let g := rTx l a.2
  let z := rNu l 1048576 3 g.2
  (⟨t.1, q.1, r.1, v.1.1, v.1.2.1, v.1.2.2, b.1, a.1, g.1, z.1⟩, z.2)
/-- What is taken: the thing, or the zero one; the offset behind it, or 0; the error. -/
def tNode (l : List UInt8) (at_ : Int) : Nd × (Int × Int) :=
  let r := rNode l (at_, 0)
  let e := rEnd r.1.ok r.2
  (if e.2 = 0 then r.1 else Nd.zero, e)
def tQueue (l : List UInt8) (at_ : Int) : Qu × (Int × Int) :=
  let r := rQueue l (at_, 0)
  let e := rEnd r.1.ok r.2
  (if e.2 = 0 then r.1 else Qu.zero, e)
def tTask (l : List UInt8) (at_ : Int) : Tk × (Int × Int) :=
  let r := rTask l (at_, 0)
  let e := rEnd r.1.ok r.2
  (if e.2 = 0 then r.1 else Tk.zero, e)
/-- Three results of a call. -/
def retNode (x : Nd) (v : Value) (e : Int × Int) : Ending := .returned (.tuple #[.agg #[.string x.nm, .int .i64 (x.a : Int), .int .i64 (x.b : Int), .int .i64 (x.c : Int), v], .int .i64 e.1, .int .i64 e.2])
def retQueue (x : Qu) (e : Int × Int) : Ending := .returned (.tuple #[.agg #[.string x.nm, .int .i64 (x.a : Int), .int .i64 (x.b : Int), .int .i64 (x.c : Int)], .int .i64 e.1, .int .i64 e.2])
def retTask (x : Tk) (v : Value) (e : Int × Int) : Ending := .returned (.tuple #[.agg #[.string x.nm, .string x.qu, .int .i64 (x.pr : Int), .int .i64 (x.a : Int), .int .i64 (x.b : Int), .int .i64 (x.c : Int), v, .string x.ap, .string x.ga, .int .i64 (x.sz : Int)], .int .i64 e.1, .int .i64 e.2])

theorem rEnd_no {ok : Bool} {p : Int × Int} (h : ¬ (rEnd ok p).2 = 0) : (rEnd ok p).1 = 0 := by
  unfold rEnd at h ⊢
  split at h
  · split at h
    · exact absurd rfl h
    · rw [if_pos (by assumption), if_neg (by assumption)]
  · rw [if_neg (by assumption)]
theorem OwnL.other {w : World} {base : Nat} {v : Value} {l : List Lb} (h : OwnL w base v l) {p : Addr} (hp : p.block < base) (u : Value) : OwnL (w.setCell p u) base v l :=
  World.ownsRow.kept (row := some p.block) h ⟨rfl, rfl, rfl, by simp, fun k _ hne => Below.heap_setCell w p u k (fun e => hne (by rw [e]))⟩ (.inr (fun e => by have := h.block _ e; omega))
theorem OwnL.stays {w w' : World} {base R : Nat} {v : Value} {l : List Lb} (h : OwnL w base v l) (hg : w.grownBy w' (some R)) (hR : R < base) : OwnL w' base v l :=
  World.ownsRow.kept h hg (.inr (fun e => own_ne h hR e.symm))
theorem rVe_eq {l : List UInt8} {p : Int × Int} : ∃ x y z q, rVe l p = ((x, y, z), q) := ⟨_, _, _, _, rfl⟩

set_option maxHeartbeats 6400000 in
set_option maxRecDepth 100000 in
theorem takeNode_any (A : Option Addr) (n c : Nat) (at_ : Int) (l : List UInt8) (w : World) (hn : Hid (n = l.length)) (hr : Hid (Rd w A l)) (hc : n ≤ c) (hc2 : c ≤ 9223372036854775807) :
    Calls Try.prog 72 #[.slice A n c, .int .i64 at_] w fun e w' => ∃ v, e = retNode (tNode l at_).1 v (tNode l at_).2 ∧ OwnL w' w.heap.size v (tNode l at_).1.l ∧ Below w.heap.size w w' := by
  obtain ⟨s1, q1, h1⟩ : ∃ a b, rTx l (at_, (0 : Int)) = (a, b) := ⟨_, _, rfl⟩
  have n1 := fun W (hR : RdP W (w.heap.size + 1) A n c (at_, (0 : Int))) (hr : Rd W A l) => rd_text (w.heap.size + 1) A n c l (at_, (0 : Int)) W hR hn (Lib.hid hr) hc hc2
  rw [h1] at n1
  have t1 : s1.size ≤ 16 := by have := rTx_len l (at_, (0 : Int)); rw [h1] at this; exact this
  obtain ⟨x1, x2, x3, q2, h2⟩ := rVe_eq (l := l) (p := q1)
  have n2 := fun W (hR : RdP W (w.heap.size + 1) A n c q1) (hr : Rd W A l) => rd_vector (w.heap.size + 1) A n c l q1 W hR hn (Lib.hid hr) hc hc2
  rw [h2] at n2
  obtain ⟨labs, q3, h3⟩ : ∃ a b, rLa l q2 = (a, b) := ⟨_, _, rfl⟩
  have n3 := fun W (hR : RdP W (w.heap.size + 1) A n c q2) (hr : Rd W A l) => rd_labels (w.heap.size + 1) A n c l q2 W hR hn (Lib.hid hr) hc hc2
  rw [h3] at n3
  have t3 : Short labs := by have := rLk_short l (rNu l 4 4 q2).1 (rNu l 4 4 q2).2; rw [show rLk l (rNu l 4 4 q2).1 (rNu l 4 4 q2).2 = _ from h3] at this; exact this
  obtain ⟨ok, hok⟩ : ∃ ok, ok = nodeB s1 x1 x2 x3 labs := ⟨_, rfl⟩
  obtain ⟨nx, er, he⟩ : ∃ a b, rEnd ok q3 = (a, b) := ⟨_, _, rfl⟩
  have hT : tNode l at_ = (if er = 0 then ⟨s1, x1, x2, x3, labs⟩ else Nd.zero, (nx, er)) := by
    simp only [tNode, rNode, h1, h2, h3, Nd.ok, ← hok, he]
  have hno : ¬ er = 0 → nx = 0 := by have := @rEnd_no ok q3; rw [he] at this; exact this
  rw [hT]
  obtain ⟨X, hX⟩ : ∃ X : Nd, X = if er = 0 then ⟨s1, x1, x2, x3, labs⟩ else Nd.zero := ⟨_, rfl⟩
  rw [← hX]
  have HX := Lib.hid hX
  clear hX
  have ne := fun W (hR : RdP W (w.heap.size + 1) A n c q3) => rd_end (w.heap.size + 1) A n c ok q3 W hR
  rw [he] at ne
  unfold ret2 at ne
  simp only [] at ne
  have N1 := Lib.hid n1
  have N2 := Lib.hid n2
  have N3 := Lib.hid n3
  have NE := Lib.hid ne
  have HOK := Lib.hid hok
  have S3 := Lib.hid t3; clear t3
  clear ne he hT hok n1 h1 n2 h2 n3 h3
  go_enter Try.func72, Try.ntmps72
  go_wp2_with fail
  have T0 : Hid (Below w.heap.size w (((w.alloc (.cells #[.string ⟨#[]⟩, .int .i64 0, .int .i64 0, .int .i64 0, .slice none 0 0] 26)).alloc (.cells #[.slice A n c, .int .i64 at_, .int .i64 0] 122)).alloc (.cells #[.string ⟨#[]⟩, .int .i64 0, .int .i64 0, .int .i64 0, .slice none 0 0] 26)) ∧ RdP (((w.alloc (.cells #[.string ⟨#[]⟩, .int .i64 0, .int .i64 0, .int .i64 0, .slice none 0 0] 26)).alloc (.cells #[.slice A n c, .int .i64 at_, .int .i64 0] 122)).alloc (.cells #[.string ⟨#[]⟩, .int .i64 0, .int .i64 0, .int .i64 0, .slice none 0 0] 26)) (w.heap.size + 1) A n c (at_, 0) ∧ Bk (((w.alloc (.cells #[.string ⟨#[]⟩, .int .i64 0, .int .i64 0, .int .i64 0, .slice none 0 0] 26)).alloc (.cells #[.slice A n c, .int .i64 at_, .int .i64 0] 122)).alloc (.cells #[.string ⟨#[]⟩, .int .i64 0, .int .i64 0, .int .i64 0, .slice none 0 0] 26)) w.heap.size 26 #[.string ⟨#[]⟩, .int .i64 0, .int .i64 0, .int .i64 0, .slice none 0 0] ∧ Bk (((w.alloc (.cells #[.string ⟨#[]⟩, .int .i64 0, .int .i64 0, .int .i64 0, .slice none 0 0] 26)).alloc (.cells #[.slice A n c, .int .i64 at_, .int .i64 0] 122)).alloc (.cells #[.string ⟨#[]⟩, .int .i64 0, .int .i64 0, .int .i64 0, .slice none 0 0] 26)) (w.heap.size + 2) 26 #[.string ⟨#[]⟩, .int .i64 0, .int .i64 0, .int .i64 0, .slice none 0 0]) := by
    refine ⟨(((Below.refl _ _).alloc (Nat.le_refl _) _).alloc (by simp) _).alloc (by simp; omega) _, ⟨at_, ?_, fun _ => rfl⟩, ?_, ?_⟩
    · exact (Bk.freshAt _ _ _ (by simp)).later ((Below.refl _ _).alloc (Nat.le_refl _) _)
    · exact ((Bk.fresh _ _ _).later ((Below.refl _ _).alloc (Nat.le_refl _) _)).later ((Below.refl _ _).alloc (Nat.le_refl _) _)
    · exact Bk.freshAt _ _ _ (by simp)
  refine (N1.out _ T0.out.2.1 (hr.out.below T0.out.1)).mono ?_
  rintro e w1 ⟨rfl, hR1, hg1⟩
  have hB1 : Below w.heap.size w w1 := T0.out.1.trans (grownBy_below hg1 T0.out.1.size (by intro k e; cases e; omega))
  have bz : Bk w1 w.heap.size 26 #[.string ⟨#[]⟩, .int .i64 0, .int .i64 0, .int .i64 0, .slice none 0 0] := T0.out.2.2.1.stays hg1 (by simp)
  have bn : Bk w1 (w.heap.size + 2) 26 #[.string ⟨#[]⟩, .int .i64 0, .int .i64 0, .int .i64 0, .slice none 0 0] := (T0.out.2.2.2).stays hg1 (by simp)
  have c1_0 : w1.cell? ⟨(w.heap.size + 2), 0, none⟩ = some (.string ⟨#[]⟩) := bn.cellAt 0
  have f1_0 : w1.frozen? ⟨(w.heap.size + 2), 0, none⟩ = false := bn.free 0
  have T1 : Hid (Below w.heap.size w (w1.setCell ⟨(w.heap.size + 2), 0, none⟩ (.string s1)) ∧ RdP (w1.setCell ⟨(w.heap.size + 2), 0, none⟩ (.string s1)) (w.heap.size + 1) A n c q1 ∧ Bk (w1.setCell ⟨(w.heap.size + 2), 0, none⟩ (.string s1)) w.heap.size 26 #[.string ⟨#[]⟩, .int .i64 0, .int .i64 0, .int .i64 0, .slice none 0 0] ∧ Bk (w1.setCell ⟨(w.heap.size + 2), 0, none⟩ (.string s1)) (w.heap.size + 2) 26 #[.string s1, .int .i64 0, .int .i64 0, .int .i64 0, .slice none 0 0]) := ⟨(hB1.setCell (p := ⟨(w.heap.size + 2), 0, none⟩) (by simp) _), (hR1.other (q := ⟨(w.heap.size + 2), 0, none⟩) (by simp) _), (bz.other (p := ⟨(w.heap.size + 2), 0, none⟩) (by simp) _), (bn.put 0 (.string s1))⟩
  clear hB1 hR1 hg1 bz bn T0
  go_wp2_with fail
  refine (N2.out _ T1.out.2.1 (hr.out.below T1.out.1)).mono ?_
  rintro e w2 ⟨rfl, hR2, hg2⟩
  have hB2 : Below w.heap.size w w2 := T1.out.1.trans (grownBy_below hg2 T1.out.1.size (by intro k e; cases e; omega))
  have bz : Bk w2 w.heap.size 26 #[.string ⟨#[]⟩, .int .i64 0, .int .i64 0, .int .i64 0, .slice none 0 0] := T1.out.2.2.1.stays hg2 (by simp)
  have bn : Bk w2 (w.heap.size + 2) 26 #[.string s1, .int .i64 0, .int .i64 0, .int .i64 0, .slice none 0 0] := (T1.out.2.2.2).stays hg2 (by simp)
  have c2_0 : w2.cell? ⟨(w.heap.size + 2), 1, none⟩ = some (.int .i64 0) := bn.cellAt 1
  have f2_0 : w2.frozen? ⟨(w.heap.size + 2), 1, none⟩ = false := bn.free 1
  have c2_1 : w2.cell? ⟨(w.heap.size + 2), 2, none⟩ = some (.int .i64 0) := bn.cellAt 2
  have f2_1 : w2.frozen? ⟨(w.heap.size + 2), 2, none⟩ = false := bn.free 2
  have c2_2 : w2.cell? ⟨(w.heap.size + 2), 3, none⟩ = some (.int .i64 0) := bn.cellAt 3
  have f2_2 : w2.frozen? ⟨(w.heap.size + 2), 3, none⟩ = false := bn.free 3
  have T2 : Hid (Below w.heap.size w (((w2.setCell ⟨(w.heap.size + 2), 1, none⟩ (.int .i64 (x1 : Int))).setCell ⟨(w.heap.size + 2), 2, none⟩ (.int .i64 (x2 : Int))).setCell ⟨(w.heap.size + 2), 3, none⟩ (.int .i64 (x3 : Int))) ∧ RdP (((w2.setCell ⟨(w.heap.size + 2), 1, none⟩ (.int .i64 (x1 : Int))).setCell ⟨(w.heap.size + 2), 2, none⟩ (.int .i64 (x2 : Int))).setCell ⟨(w.heap.size + 2), 3, none⟩ (.int .i64 (x3 : Int))) (w.heap.size + 1) A n c q2 ∧ Bk (((w2.setCell ⟨(w.heap.size + 2), 1, none⟩ (.int .i64 (x1 : Int))).setCell ⟨(w.heap.size + 2), 2, none⟩ (.int .i64 (x2 : Int))).setCell ⟨(w.heap.size + 2), 3, none⟩ (.int .i64 (x3 : Int))) w.heap.size 26 #[.string ⟨#[]⟩, .int .i64 0, .int .i64 0, .int .i64 0, .slice none 0 0] ∧ Bk (((w2.setCell ⟨(w.heap.size + 2), 1, none⟩ (.int .i64 (x1 : Int))).setCell ⟨(w.heap.size + 2), 2, none⟩ (.int .i64 (x2 : Int))).setCell ⟨(w.heap.size + 2), 3, none⟩ (.int .i64 (x3 : Int))) (w.heap.size + 2) 26 #[.string s1, .int .i64 (x1 : Int), .int .i64 (x2 : Int), .int .i64 (x3 : Int), .slice none 0 0]) := ⟨(((hB2.setCell (p := ⟨(w.heap.size + 2), 1, none⟩) (by simp) _).setCell (p := ⟨(w.heap.size + 2), 2, none⟩) (by simp) _).setCell (p := ⟨(w.heap.size + 2), 3, none⟩) (by simp) _), (((hR2.other (q := ⟨(w.heap.size + 2), 1, none⟩) (by simp) _).other (q := ⟨(w.heap.size + 2), 2, none⟩) (by simp) _).other (q := ⟨(w.heap.size + 2), 3, none⟩) (by simp) _), (((bz.other (p := ⟨(w.heap.size + 2), 1, none⟩) (by simp) _).other (p := ⟨(w.heap.size + 2), 2, none⟩) (by simp) _).other (p := ⟨(w.heap.size + 2), 3, none⟩) (by simp) _), (((bn.put 1 (.int .i64 (x1 : Int))).put 2 (.int .i64 (x2 : Int))).put 3 (.int .i64 (x3 : Int)))⟩
  clear hB2 hR2 hg2 bz bn T1
  clear c1_0 f1_0
  go_wp2_with fail
  refine (N3.out _ T2.out.2.1 (hr.out.below T2.out.1)).mono ?_
  rintro e w3 ⟨vl, rfl, hO, hR3, hg3⟩
  have hB3 : Below w.heap.size w w3 := T2.out.1.trans (grownBy_below hg3 T2.out.1.size (by intro k e; cases e; omega))
  have bz : Bk w3 w.heap.size 26 #[.string ⟨#[]⟩, .int .i64 0, .int .i64 0, .int .i64 0, .slice none 0 0] := T2.out.2.2.1.stays hg3 (by simp)
  have bn : Bk w3 (w.heap.size + 2) 26 #[.string s1, .int .i64 (x1 : Int), .int .i64 (x2 : Int), .int .i64 (x3 : Int), .slice none 0 0] := (T2.out.2.2.2).stays hg3 (by simp)
  have hO1 : OwnL w3 (w.heap.size + 3) vl labs := OwnL.base hO (by have := T2.out.2.2.2.here; omega)
  obtain ⟨Al, cl, sl⟩ := hO1.sl
  obtain ⟨nl, hnl⟩ : ∃ nl, nl = labs.length := ⟨_, rfl⟩
  have hvl := sl.val; rw [← hnl] at hvl; subst hvl
  have ca := sl.cap; rw [← hnl] at ca
  have cb : cl ≤ 9223372036854775807 := by have := sl.cap2; unfold maxLen at this; omega
  have HNL := Lib.hid hnl; clear sl hO hnl
  have c3_0 : w3.cell? ⟨(w.heap.size + 2), 4, none⟩ = some (.slice none 0 0) := bn.cellAt 4
  have f3_0 : w3.frozen? ⟨(w.heap.size + 2), 4, none⟩ = false := bn.free 4
  have T3 : Hid (Below w.heap.size w (w3.setCell ⟨(w.heap.size + 2), 4, none⟩ (.slice Al nl cl)) ∧ RdP (w3.setCell ⟨(w.heap.size + 2), 4, none⟩ (.slice Al nl cl)) (w.heap.size + 1) A n c q3 ∧ Bk (w3.setCell ⟨(w.heap.size + 2), 4, none⟩ (.slice Al nl cl)) w.heap.size 26 #[.string ⟨#[]⟩, .int .i64 0, .int .i64 0, .int .i64 0, .slice none 0 0] ∧ Bk (w3.setCell ⟨(w.heap.size + 2), 4, none⟩ (.slice Al nl cl)) (w.heap.size + 2) 26 #[.string s1, .int .i64 (x1 : Int), .int .i64 (x2 : Int), .int .i64 (x3 : Int), .slice Al nl cl] ∧ OwnL (w3.setCell ⟨(w.heap.size + 2), 4, none⟩ (.slice Al nl cl)) (w.heap.size + 3) (.slice Al nl cl) labs) := ⟨(hB3.setCell (p := ⟨(w.heap.size + 2), 4, none⟩) (by simp) _), (hR3.other (q := ⟨(w.heap.size + 2), 4, none⟩) (by simp) _), (bz.other (p := ⟨(w.heap.size + 2), 4, none⟩) (by simp) _), (bn.put 4 (.slice Al nl cl)), (hO1.other (p := ⟨(w.heap.size + 2), 4, none⟩) (by simp) _)⟩
  clear hB3 hR3 hg3 bz bn T2 hO1
  clear c2_0 f2_0 c2_1 f2_1 c2_2 f2_2
  have hsz := T3.out.1.size
  have d0 : (w3.setCell ⟨(w.heap.size + 2), 4, none⟩ (.slice Al nl cl)).cell? ⟨(w.heap.size + 2), 0, none⟩ = some (.string s1) := T3.out.2.2.2.1.cellAt 0
  have d1 : (w3.setCell ⟨(w.heap.size + 2), 4, none⟩ (.slice Al nl cl)).cell? ⟨(w.heap.size + 2), 1, none⟩ = some (.int .i64 (x1 : Int)) := T3.out.2.2.2.1.cellAt 1
  have d2 : (w3.setCell ⟨(w.heap.size + 2), 4, none⟩ (.slice Al nl cl)).cell? ⟨(w.heap.size + 2), 2, none⟩ = some (.int .i64 (x2 : Int)) := T3.out.2.2.2.1.cellAt 2
  have d3 : (w3.setCell ⟨(w.heap.size + 2), 4, none⟩ (.slice Al nl cl)).cell? ⟨(w.heap.size + 2), 3, none⟩ = some (.int .i64 (x3 : Int)) := T3.out.2.2.2.1.cellAt 3
  have d4 : (w3.setCell ⟨(w.heap.size + 2), 4, none⟩ (.slice Al nl cl)).cell? ⟨(w.heap.size + 2), 4, none⟩ = some (.slice Al nl cl) := T3.out.2.2.2.1.cellAt 4
  go_wp2_with fail
  clear d0 d1 d2 d3 d4 c3_0 f3_0
  have hRL : RdL (w3.setCell ⟨(w.heap.size + 2), 4, none⟩ (.slice Al nl cl)) Al labs := by obtain ⟨A2, c2, s2⟩ := T3.out.2.2.2.2.sl; have h := s2.val; injection h with h1 h2 h3; have h4 := s2.rd; rw [← h1] at h4; exact h4
  refine (node_any s1 x1 x2 x3 Al nl cl labs _ (by omega) HNL (Lib.hid hRL) (Lib.hid S3.out.sz) ca cb).mono ?_
  rw [← HOK.out]
  rintro e w4 ⟨rfl, hb4⟩
  have T4 : Hid (Below w.heap.size w w4 ∧ RdP w4 (w.heap.size + 1) A n c q3 ∧ Bk w4 w.heap.size 26 #[.string ⟨#[]⟩, .int .i64 0, .int .i64 0, .int .i64 0, .slice none 0 0] ∧ Bk w4 (w.heap.size + 2) 26 #[.string s1, .int .i64 (x1 : Int), .int .i64 (x2 : Int), .int .i64 (x3 : Int), .slice Al nl cl] ∧ OwnL w4 (w.heap.size + 3) (.slice Al nl cl) labs) := ⟨T3.out.1.trans (hb4.mono T3.out.1.size), T3.out.2.1.later hb4, T3.out.2.2.1.later hb4, T3.out.2.2.2.1.later hb4, T3.out.2.2.2.2.below hb4⟩
  clear hb4 T3 hRL
  go_wp2_with fail
  refine (NE.out _ T4.out.2.1).mono ?_
  rintro e w5 ⟨rfl, hb5⟩
  have hB : Below w.heap.size w w5 := T4.out.1.trans (hb5.mono T4.out.1.size)
  have bz := T4.out.2.2.1.later hb5
  have bn := T4.out.2.2.2.1.later hb5
  have hO1 := T4.out.2.2.2.2.below hb5
  clear hb5 T4 hsz
  have d0 : w5.cell? ⟨(w.heap.size + 2), 0, none⟩ = some (.string s1) := bn.cellAt 0
  have z0 : w5.cell? ⟨w.heap.size, 0, none⟩ = some (.string ⟨#[]⟩) := bz.cellAt 0
  have y0z : w5.frozen? ⟨w.heap.size, 0, none⟩ = false := bz.free 0
  have d1 : w5.cell? ⟨(w.heap.size + 2), 1, none⟩ = some (.int .i64 (x1 : Int)) := bn.cellAt 1
  have z1 : w5.cell? ⟨w.heap.size, 1, none⟩ = some (.int .i64 0) := bz.cellAt 1
  have y1z : w5.frozen? ⟨w.heap.size, 1, none⟩ = false := bz.free 1
  have d2 : w5.cell? ⟨(w.heap.size + 2), 2, none⟩ = some (.int .i64 (x2 : Int)) := bn.cellAt 2
  have z2 : w5.cell? ⟨w.heap.size, 2, none⟩ = some (.int .i64 0) := bz.cellAt 2
  have y2z : w5.frozen? ⟨w.heap.size, 2, none⟩ = false := bz.free 2
  have d3 : w5.cell? ⟨(w.heap.size + 2), 3, none⟩ = some (.int .i64 (x3 : Int)) := bn.cellAt 3
  have z3 : w5.cell? ⟨w.heap.size, 3, none⟩ = some (.int .i64 0) := bz.cellAt 3
  have y3z : w5.frozen? ⟨w.heap.size, 3, none⟩ = false := bz.free 3
  have d4 : w5.cell? ⟨(w.heap.size + 2), 4, none⟩ = some (.slice Al nl cl) := bn.cellAt 4
  have z4 : w5.cell? ⟨w.heap.size, 4, none⟩ = some (.slice none 0 0) := bz.cellAt 4
  have y4z : w5.frozen? ⟨w.heap.size, 4, none⟩ = false := bz.free 4
  have hz := bz.here
  have BZ := Lib.hid bz
  have HB := Lib.hid hB
  have HO := Lib.hid hO1
  clear bz bn hB hO1
  by_cases h0 : er = 0
  case pos =>
    subst h0
    obtain rfl := HX.out.trans (if_pos rfl)
    go_wp2
    refine bodyPost_ret (v := .tuple #[.agg #[.string s1, .int .i64 (x1 : Int), .int .i64 (x2 : Int), .int .i64 (x3 : Int), .slice Al nl cl], .int .i64 nx, .int .i64 0]) (by simp [results, Try.results72, go_sem, z0, z1, z2, z3, z4]) rfl ⟨_, rfl, (((((HO.out.other (p := ⟨w.heap.size, 0, none⟩) (by simp) _).other (p := ⟨w.heap.size, 1, none⟩) (by simp) _).other (p := ⟨w.heap.size, 2, none⟩) (by simp) _).other (p := ⟨w.heap.size, 3, none⟩) (by simp) _).other (p := ⟨w.heap.size, 4, none⟩) (by simp) _).base (by omega), (((((HB.out.setCell (p := ⟨w.heap.size, 0, none⟩) (by simp) _).setCell (p := ⟨w.heap.size, 1, none⟩) (by simp) _).setCell (p := ⟨w.heap.size, 2, none⟩) (by simp) _).setCell (p := ⟨w.heap.size, 3, none⟩) (by simp) _).setCell (p := ⟨w.heap.size, 4, none⟩) (by simp) _)⟩
  case neg =>
    obtain rfl := hno h0
    obtain rfl := HX.out.trans (if_neg h0)
    have h1 : (er == 0) = false := by simpa using h0
    have h2 : (er != 0) = true := by simpa using h0
    clear h0
    go_wp2
    refine bodyPost_ret (v := .tuple #[.agg #[.string ⟨#[]⟩, .int .i64 0, .int .i64 0, .int .i64 0, .slice none 0 0], .int .i64 0, .int .i64 er]) (by simp [results, Try.results72, go_sem, z0, z1, z2, z3, z4]) rfl ⟨_, rfl, OwnL.nil _ _, (((((HB.out.setCell (p := ⟨w.heap.size, 0, none⟩) (by simp) _).setCell (p := ⟨w.heap.size, 1, none⟩) (by simp) _).setCell (p := ⟨w.heap.size, 2, none⟩) (by simp) _).setCell (p := ⟨w.heap.size, 3, none⟩) (by simp) _).setCell (p := ⟨w.heap.size, 4, none⟩) (by simp) _)⟩

set_option maxHeartbeats 6400000 in
set_option maxRecDepth 100000 in
theorem takeQueue_any (A : Option Addr) (n c : Nat) (at_ : Int) (l : List UInt8) (w : World) (hn : Hid (n = l.length)) (hr : Hid (Rd w A l)) (hc : n ≤ c) (hc2 : c ≤ 9223372036854775807) :
    Calls Try.prog 73 #[.slice A n c, .int .i64 at_] w fun e w' => e = retQueue (tQueue l at_).1 (tQueue l at_).2 ∧ Below w.heap.size w w' := by
  obtain ⟨s1, q1, h1⟩ : ∃ a b, rTx l (at_, (0 : Int)) = (a, b) := ⟨_, _, rfl⟩
  have n1 := fun W (hR : RdP W (w.heap.size + 1) A n c (at_, (0 : Int))) (hr : Rd W A l) => rd_text (w.heap.size + 1) A n c l (at_, (0 : Int)) W hR hn (Lib.hid hr) hc hc2
  rw [h1] at n1
  have t1 : s1.size ≤ 16 := by have := rTx_len l (at_, (0 : Int)); rw [h1] at this; exact this
  obtain ⟨x1, x2, x3, q2, h2⟩ := rVe_eq (l := l) (p := q1)
  have n2 := fun W (hR : RdP W (w.heap.size + 1) A n c q1) (hr : Rd W A l) => rd_vector (w.heap.size + 1) A n c l q1 W hR hn (Lib.hid hr) hc hc2
  rw [h2] at n2
  obtain ⟨ok, hok⟩ : ∃ ok, ok = queueB s1 x1 x2 x3 := ⟨_, rfl⟩
  obtain ⟨nx, er, he⟩ : ∃ a b, rEnd ok q2 = (a, b) := ⟨_, _, rfl⟩
  have hT : tQueue l at_ = (if er = 0 then ⟨s1, x1, x2, x3⟩ else Qu.zero, (nx, er)) := by
    simp only [tQueue, rQueue, h1, h2, Qu.ok, ← hok, he]
  have hno : ¬ er = 0 → nx = 0 := by have := @rEnd_no ok q2; rw [he] at this; exact this
  rw [hT]
  obtain ⟨X, hX⟩ : ∃ X : Qu, X = if er = 0 then ⟨s1, x1, x2, x3⟩ else Qu.zero := ⟨_, rfl⟩
  rw [← hX]
  have HX := Lib.hid hX
  clear hX
  have ne := fun W (hR : RdP W (w.heap.size + 1) A n c q2) => rd_end (w.heap.size + 1) A n c ok q2 W hR
  rw [he] at ne
  unfold ret2 at ne
  simp only [] at ne
  have N1 := Lib.hid n1
  have N2 := Lib.hid n2
  have NE := Lib.hid ne
  have HOK := Lib.hid hok
  clear ne he hT hok n1 h1 n2 h2
  go_enter Try.func73, Try.ntmps73
  go_wp2_with fail
  have T0 : Hid (Below w.heap.size w (((w.alloc (.cells #[.string ⟨#[]⟩, .int .i64 0, .int .i64 0, .int .i64 0] 28)).alloc (.cells #[.slice A n c, .int .i64 at_, .int .i64 0] 122)).alloc (.cells #[.string ⟨#[]⟩, .int .i64 0, .int .i64 0, .int .i64 0] 28)) ∧ RdP (((w.alloc (.cells #[.string ⟨#[]⟩, .int .i64 0, .int .i64 0, .int .i64 0] 28)).alloc (.cells #[.slice A n c, .int .i64 at_, .int .i64 0] 122)).alloc (.cells #[.string ⟨#[]⟩, .int .i64 0, .int .i64 0, .int .i64 0] 28)) (w.heap.size + 1) A n c (at_, 0) ∧ Bk (((w.alloc (.cells #[.string ⟨#[]⟩, .int .i64 0, .int .i64 0, .int .i64 0] 28)).alloc (.cells #[.slice A n c, .int .i64 at_, .int .i64 0] 122)).alloc (.cells #[.string ⟨#[]⟩, .int .i64 0, .int .i64 0, .int .i64 0] 28)) w.heap.size 28 #[.string ⟨#[]⟩, .int .i64 0, .int .i64 0, .int .i64 0] ∧ Bk (((w.alloc (.cells #[.string ⟨#[]⟩, .int .i64 0, .int .i64 0, .int .i64 0] 28)).alloc (.cells #[.slice A n c, .int .i64 at_, .int .i64 0] 122)).alloc (.cells #[.string ⟨#[]⟩, .int .i64 0, .int .i64 0, .int .i64 0] 28)) (w.heap.size + 2) 28 #[.string ⟨#[]⟩, .int .i64 0, .int .i64 0, .int .i64 0]) := by
    refine ⟨(((Below.refl _ _).alloc (Nat.le_refl _) _).alloc (by simp) _).alloc (by simp; omega) _, ⟨at_, ?_, fun _ => rfl⟩, ?_, ?_⟩
    · exact (Bk.freshAt _ _ _ (by simp)).later ((Below.refl _ _).alloc (Nat.le_refl _) _)
    · exact ((Bk.fresh _ _ _).later ((Below.refl _ _).alloc (Nat.le_refl _) _)).later ((Below.refl _ _).alloc (Nat.le_refl _) _)
    · exact Bk.freshAt _ _ _ (by simp)
  refine (N1.out _ T0.out.2.1 (hr.out.below T0.out.1)).mono ?_
  rintro e w1 ⟨rfl, hR1, hg1⟩
  have hB1 : Below w.heap.size w w1 := T0.out.1.trans (grownBy_below hg1 T0.out.1.size (by intro k e; cases e; omega))
  have bz : Bk w1 w.heap.size 28 #[.string ⟨#[]⟩, .int .i64 0, .int .i64 0, .int .i64 0] := T0.out.2.2.1.stays hg1 (by simp)
  have bn : Bk w1 (w.heap.size + 2) 28 #[.string ⟨#[]⟩, .int .i64 0, .int .i64 0, .int .i64 0] := (T0.out.2.2.2).stays hg1 (by simp)
  have c1_0 : w1.cell? ⟨(w.heap.size + 2), 0, none⟩ = some (.string ⟨#[]⟩) := bn.cellAt 0
  have f1_0 : w1.frozen? ⟨(w.heap.size + 2), 0, none⟩ = false := bn.free 0
  have T1 : Hid (Below w.heap.size w (w1.setCell ⟨(w.heap.size + 2), 0, none⟩ (.string s1)) ∧ RdP (w1.setCell ⟨(w.heap.size + 2), 0, none⟩ (.string s1)) (w.heap.size + 1) A n c q1 ∧ Bk (w1.setCell ⟨(w.heap.size + 2), 0, none⟩ (.string s1)) w.heap.size 28 #[.string ⟨#[]⟩, .int .i64 0, .int .i64 0, .int .i64 0] ∧ Bk (w1.setCell ⟨(w.heap.size + 2), 0, none⟩ (.string s1)) (w.heap.size + 2) 28 #[.string s1, .int .i64 0, .int .i64 0, .int .i64 0]) := ⟨(hB1.setCell (p := ⟨(w.heap.size + 2), 0, none⟩) (by simp) _), (hR1.other (q := ⟨(w.heap.size + 2), 0, none⟩) (by simp) _), (bz.other (p := ⟨(w.heap.size + 2), 0, none⟩) (by simp) _), (bn.put 0 (.string s1))⟩
  clear hB1 hR1 hg1 bz bn T0
  go_wp2_with fail
  refine (N2.out _ T1.out.2.1 (hr.out.below T1.out.1)).mono ?_
  rintro e w2 ⟨rfl, hR2, hg2⟩
  have hB2 : Below w.heap.size w w2 := T1.out.1.trans (grownBy_below hg2 T1.out.1.size (by intro k e; cases e; omega))
  have bz : Bk w2 w.heap.size 28 #[.string ⟨#[]⟩, .int .i64 0, .int .i64 0, .int .i64 0] := T1.out.2.2.1.stays hg2 (by simp)
  have bn : Bk w2 (w.heap.size + 2) 28 #[.string s1, .int .i64 0, .int .i64 0, .int .i64 0] := (T1.out.2.2.2).stays hg2 (by simp)
  have c2_0 : w2.cell? ⟨(w.heap.size + 2), 1, none⟩ = some (.int .i64 0) := bn.cellAt 1
  have f2_0 : w2.frozen? ⟨(w.heap.size + 2), 1, none⟩ = false := bn.free 1
  have c2_1 : w2.cell? ⟨(w.heap.size + 2), 2, none⟩ = some (.int .i64 0) := bn.cellAt 2
  have f2_1 : w2.frozen? ⟨(w.heap.size + 2), 2, none⟩ = false := bn.free 2
  have c2_2 : w2.cell? ⟨(w.heap.size + 2), 3, none⟩ = some (.int .i64 0) := bn.cellAt 3
  have f2_2 : w2.frozen? ⟨(w.heap.size + 2), 3, none⟩ = false := bn.free 3
  have T2 : Hid (Below w.heap.size w (((w2.setCell ⟨(w.heap.size + 2), 1, none⟩ (.int .i64 (x1 : Int))).setCell ⟨(w.heap.size + 2), 2, none⟩ (.int .i64 (x2 : Int))).setCell ⟨(w.heap.size + 2), 3, none⟩ (.int .i64 (x3 : Int))) ∧ RdP (((w2.setCell ⟨(w.heap.size + 2), 1, none⟩ (.int .i64 (x1 : Int))).setCell ⟨(w.heap.size + 2), 2, none⟩ (.int .i64 (x2 : Int))).setCell ⟨(w.heap.size + 2), 3, none⟩ (.int .i64 (x3 : Int))) (w.heap.size + 1) A n c q2 ∧ Bk (((w2.setCell ⟨(w.heap.size + 2), 1, none⟩ (.int .i64 (x1 : Int))).setCell ⟨(w.heap.size + 2), 2, none⟩ (.int .i64 (x2 : Int))).setCell ⟨(w.heap.size + 2), 3, none⟩ (.int .i64 (x3 : Int))) w.heap.size 28 #[.string ⟨#[]⟩, .int .i64 0, .int .i64 0, .int .i64 0] ∧ Bk (((w2.setCell ⟨(w.heap.size + 2), 1, none⟩ (.int .i64 (x1 : Int))).setCell ⟨(w.heap.size + 2), 2, none⟩ (.int .i64 (x2 : Int))).setCell ⟨(w.heap.size + 2), 3, none⟩ (.int .i64 (x3 : Int))) (w.heap.size + 2) 28 #[.string s1, .int .i64 (x1 : Int), .int .i64 (x2 : Int), .int .i64 (x3 : Int)]) := ⟨(((hB2.setCell (p := ⟨(w.heap.size + 2), 1, none⟩) (by simp) _).setCell (p := ⟨(w.heap.size + 2), 2, none⟩) (by simp) _).setCell (p := ⟨(w.heap.size + 2), 3, none⟩) (by simp) _), (((hR2.other (q := ⟨(w.heap.size + 2), 1, none⟩) (by simp) _).other (q := ⟨(w.heap.size + 2), 2, none⟩) (by simp) _).other (q := ⟨(w.heap.size + 2), 3, none⟩) (by simp) _), (((bz.other (p := ⟨(w.heap.size + 2), 1, none⟩) (by simp) _).other (p := ⟨(w.heap.size + 2), 2, none⟩) (by simp) _).other (p := ⟨(w.heap.size + 2), 3, none⟩) (by simp) _), (((bn.put 1 (.int .i64 (x1 : Int))).put 2 (.int .i64 (x2 : Int))).put 3 (.int .i64 (x3 : Int)))⟩
  clear hB2 hR2 hg2 bz bn T1
  clear c1_0 f1_0
  have hsz := T2.out.1.size
  have d0 : (((w2.setCell ⟨(w.heap.size + 2), 1, none⟩ (.int .i64 (x1 : Int))).setCell ⟨(w.heap.size + 2), 2, none⟩ (.int .i64 (x2 : Int))).setCell ⟨(w.heap.size + 2), 3, none⟩ (.int .i64 (x3 : Int))).cell? ⟨(w.heap.size + 2), 0, none⟩ = some (.string s1) := T2.out.2.2.2.cellAt 0
  have d1 : (((w2.setCell ⟨(w.heap.size + 2), 1, none⟩ (.int .i64 (x1 : Int))).setCell ⟨(w.heap.size + 2), 2, none⟩ (.int .i64 (x2 : Int))).setCell ⟨(w.heap.size + 2), 3, none⟩ (.int .i64 (x3 : Int))).cell? ⟨(w.heap.size + 2), 1, none⟩ = some (.int .i64 (x1 : Int)) := T2.out.2.2.2.cellAt 1
  have d2 : (((w2.setCell ⟨(w.heap.size + 2), 1, none⟩ (.int .i64 (x1 : Int))).setCell ⟨(w.heap.size + 2), 2, none⟩ (.int .i64 (x2 : Int))).setCell ⟨(w.heap.size + 2), 3, none⟩ (.int .i64 (x3 : Int))).cell? ⟨(w.heap.size + 2), 2, none⟩ = some (.int .i64 (x2 : Int)) := T2.out.2.2.2.cellAt 2
  have d3 : (((w2.setCell ⟨(w.heap.size + 2), 1, none⟩ (.int .i64 (x1 : Int))).setCell ⟨(w.heap.size + 2), 2, none⟩ (.int .i64 (x2 : Int))).setCell ⟨(w.heap.size + 2), 3, none⟩ (.int .i64 (x3 : Int))).cell? ⟨(w.heap.size + 2), 3, none⟩ = some (.int .i64 (x3 : Int)) := T2.out.2.2.2.cellAt 3
  go_wp2_with fail
  clear d0 d1 d2 d3 c2_0 f2_0 c2_1 f2_1 c2_2 f2_2
  refine (queue_any s1 x1 x2 x3 _ (by omega)).mono ?_
  rw [← HOK.out]
  rintro e w3 ⟨rfl, hb3⟩
  have T3 : Hid (Below w.heap.size w w3 ∧ RdP w3 (w.heap.size + 1) A n c q2 ∧ Bk w3 w.heap.size 28 #[.string ⟨#[]⟩, .int .i64 0, .int .i64 0, .int .i64 0] ∧ Bk w3 (w.heap.size + 2) 28 #[.string s1, .int .i64 (x1 : Int), .int .i64 (x2 : Int), .int .i64 (x3 : Int)]) := ⟨T2.out.1.trans (hb3.mono T2.out.1.size), T2.out.2.1.later hb3, T2.out.2.2.1.later hb3, T2.out.2.2.2.later hb3⟩
  clear hb3 T2
  go_wp2_with fail
  refine (NE.out _ T3.out.2.1).mono ?_
  rintro e w4 ⟨rfl, hb4⟩
  have hB : Below w.heap.size w w4 := T3.out.1.trans (hb4.mono T3.out.1.size)
  have bz := T3.out.2.2.1.later hb4
  have bn := T3.out.2.2.2.later hb4
  clear hb4 T3 hsz
  have d0 : w4.cell? ⟨(w.heap.size + 2), 0, none⟩ = some (.string s1) := bn.cellAt 0
  have z0 : w4.cell? ⟨w.heap.size, 0, none⟩ = some (.string ⟨#[]⟩) := bz.cellAt 0
  have y0z : w4.frozen? ⟨w.heap.size, 0, none⟩ = false := bz.free 0
  have d1 : w4.cell? ⟨(w.heap.size + 2), 1, none⟩ = some (.int .i64 (x1 : Int)) := bn.cellAt 1
  have z1 : w4.cell? ⟨w.heap.size, 1, none⟩ = some (.int .i64 0) := bz.cellAt 1
  have y1z : w4.frozen? ⟨w.heap.size, 1, none⟩ = false := bz.free 1
  have d2 : w4.cell? ⟨(w.heap.size + 2), 2, none⟩ = some (.int .i64 (x2 : Int)) := bn.cellAt 2
  have z2 : w4.cell? ⟨w.heap.size, 2, none⟩ = some (.int .i64 0) := bz.cellAt 2
  have y2z : w4.frozen? ⟨w.heap.size, 2, none⟩ = false := bz.free 2
  have d3 : w4.cell? ⟨(w.heap.size + 2), 3, none⟩ = some (.int .i64 (x3 : Int)) := bn.cellAt 3
  have z3 : w4.cell? ⟨w.heap.size, 3, none⟩ = some (.int .i64 0) := bz.cellAt 3
  have y3z : w4.frozen? ⟨w.heap.size, 3, none⟩ = false := bz.free 3
  have hz := bz.here
  have BZ := Lib.hid bz
  have HB := Lib.hid hB
  clear bz bn hB
  by_cases h0 : er = 0
  case pos =>
    subst h0
    obtain rfl := HX.out.trans (if_pos rfl)
    go_wp2
    refine bodyPost_ret (v := .tuple #[.agg #[.string s1, .int .i64 (x1 : Int), .int .i64 (x2 : Int), .int .i64 (x3 : Int)], .int .i64 nx, .int .i64 0]) (by simp [results, Try.results73, go_sem, z0, z1, z2, z3]) rfl ⟨rfl, ((((HB.out.setCell (p := ⟨w.heap.size, 0, none⟩) (by simp) _).setCell (p := ⟨w.heap.size, 1, none⟩) (by simp) _).setCell (p := ⟨w.heap.size, 2, none⟩) (by simp) _).setCell (p := ⟨w.heap.size, 3, none⟩) (by simp) _)⟩
  case neg =>
    obtain rfl := hno h0
    obtain rfl := HX.out.trans (if_neg h0)
    have h1 : (er == 0) = false := by simpa using h0
    have h2 : (er != 0) = true := by simpa using h0
    clear h0
    go_wp2
    refine bodyPost_ret (v := .tuple #[.agg #[.string ⟨#[]⟩, .int .i64 0, .int .i64 0, .int .i64 0], .int .i64 0, .int .i64 er]) (by simp [results, Try.results73, go_sem, z0, z1, z2, z3]) rfl ⟨rfl, ((((HB.out.setCell (p := ⟨w.heap.size, 0, none⟩) (by simp) _).setCell (p := ⟨w.heap.size, 1, none⟩) (by simp) _).setCell (p := ⟨w.heap.size, 2, none⟩) (by simp) _).setCell (p := ⟨w.heap.size, 3, none⟩) (by simp) _)⟩

set_option maxHeartbeats 6400000 in
set_option maxRecDepth 100000 in
theorem takeTask_any (A : Option Addr) (n c : Nat) (at_ : Int) (l : List UInt8) (w : World) (hn : Hid (n = l.length)) (hr : Hid (Rd w A l)) (hc : n ≤ c) (hc2 : c ≤ 9223372036854775807) :
    Calls Try.prog 74 #[.slice A n c, .int .i64 at_] w fun e w' => ∃ v, e = retTask (tTask l at_).1 v (tTask l at_).2 ∧ OwnL w' w.heap.size v (tTask l at_).1.l ∧ Below w.heap.size w w' := by
  obtain ⟨s1, q1, h1⟩ : ∃ a b, rTx l (at_, (0 : Int)) = (a, b) := ⟨_, _, rfl⟩
  have n1 := fun W (hR : RdP W (w.heap.size + 1) A n c (at_, (0 : Int))) (hr : Rd W A l) => rd_text (w.heap.size + 1) A n c l (at_, (0 : Int)) W hR hn (Lib.hid hr) hc hc2
  rw [h1] at n1
  have t1 : s1.size ≤ 16 := by have := rTx_len l (at_, (0 : Int)); rw [h1] at this; exact this
  obtain ⟨s2, q2, h2⟩ : ∃ a b, rTx l q1 = (a, b) := ⟨_, _, rfl⟩
  have n2 := fun W (hR : RdP W (w.heap.size + 1) A n c q1) (hr : Rd W A l) => rd_text (w.heap.size + 1) A n c l q1 W hR hn (Lib.hid hr) hc hc2
  rw [h2] at n2
  have t2 : s2.size ≤ 16 := by have := rTx_len l q1; rw [h2] at this; exact this
  obtain ⟨y1, q3, h3⟩ : ∃ a b, rNu l 1048576 3 q2 = (a, b) := ⟨_, _, rfl⟩
  have n3 := fun W (hR : RdP W (w.heap.size + 1) A n c q2) (hr : Rd W A l) => rd_number (w.heap.size + 1) A n c l q2 W hR hn (Lib.hid hr) hc hc2
  rw [h3] at n3
  obtain ⟨x1, x2, x3, q4, h4⟩ := rVe_eq (l := l) (p := q3)
  have n4 := fun W (hR : RdP W (w.heap.size + 1) A n c q3) (hr : Rd W A l) => rd_vector (w.heap.size + 1) A n c l q3 W hR hn (Lib.hid hr) hc hc2
  rw [h4] at n4
  obtain ⟨labs, q5, h5⟩ : ∃ a b, rLa l q4 = (a, b) := ⟨_, _, rfl⟩
  have n5 := fun W (hR : RdP W (w.heap.size + 1) A n c q4) (hr : Rd W A l) => rd_labels (w.heap.size + 1) A n c l q4 W hR hn (Lib.hid hr) hc hc2
  rw [h5] at n5
  have t5 : Short labs := by have := rLk_short l (rNu l 4 4 q4).1 (rNu l 4 4 q4).2; rw [show rLk l (rNu l 4 4 q4).1 (rNu l 4 4 q4).2 = _ from h5] at this; exact this
  obtain ⟨s3, q6, h6⟩ : ∃ a b, rTx l q5 = (a, b) := ⟨_, _, rfl⟩
  have n6 := fun W (hR : RdP W (w.heap.size + 1) A n c q5) (hr : Rd W A l) => rd_text (w.heap.size + 1) A n c l q5 W hR hn (Lib.hid hr) hc hc2
  rw [h6] at n6
  have t6 : s3.size ≤ 16 := by have := rTx_len l q5; rw [h6] at this; exact this
  obtain ⟨s4, q7, h7⟩ : ∃ a b, rTx l q6 = (a, b) := ⟨_, _, rfl⟩
  have n7 := fun W (hR : RdP W (w.heap.size + 1) A n c q6) (hr : Rd W A l) => rd_text (w.heap.size + 1) A n c l q6 W hR hn (Lib.hid hr) hc hc2
  rw [h7] at n7
  have t7 : s4.size ≤ 16 := by have := rTx_len l q6; rw [h7] at this; exact this
  obtain ⟨y2, q8, h8⟩ : ∃ a b, rNu l 1048576 3 q7 = (a, b) := ⟨_, _, rfl⟩
  have n8 := fun W (hR : RdP W (w.heap.size + 1) A n c q7) (hr : Rd W A l) => rd_number (w.heap.size + 1) A n c l q7 W hR hn (Lib.hid hr) hc hc2
  rw [h8] at n8
  obtain ⟨ok, hok⟩ : ∃ ok, ok = taskB s1 s2 y1 x1 x2 x3 labs s3 s4 y2 := ⟨_, rfl⟩
  obtain ⟨nx, er, he⟩ : ∃ a b, rEnd ok q8 = (a, b) := ⟨_, _, rfl⟩
  have hT : tTask l at_ = (if er = 0 then ⟨s1, s2, y1, x1, x2, x3, labs, s3, s4, y2⟩ else Tk.zero, (nx, er)) := by
    simp only [tTask, rTask, h1, h2, h3, h4, h5, h6, h7, h8, Tk.ok, ← hok, he]
  have hno : ¬ er = 0 → nx = 0 := by have := @rEnd_no ok q8; rw [he] at this; exact this
  rw [hT]
  obtain ⟨X, hX⟩ : ∃ X : Tk, X = if er = 0 then ⟨s1, s2, y1, x1, x2, x3, labs, s3, s4, y2⟩ else Tk.zero := ⟨_, rfl⟩
  rw [← hX]
  have HX := Lib.hid hX
  clear hX
  have ne := fun W (hR : RdP W (w.heap.size + 1) A n c q8) => rd_end (w.heap.size + 1) A n c ok q8 W hR
  rw [he] at ne
  unfold ret2 at ne
  simp only [] at ne
  have N1 := Lib.hid n1
  have N2 := Lib.hid n2
  have N3 := Lib.hid n3
  have N4 := Lib.hid n4
  have N5 := Lib.hid n5
  have N6 := Lib.hid n6
  have N7 := Lib.hid n7
  have N8 := Lib.hid n8
  have NE := Lib.hid ne
  have HOK := Lib.hid hok
  have S5 := Lib.hid t5; clear t5
  clear ne he hT hok n1 h1 n2 h2 n3 h3 n4 h4 n5 h5 n6 h6 n7 h7 n8 h8
  go_enter Try.func74, Try.ntmps74
  go_wp2_with fail
  have T0 : Hid (Below w.heap.size w (((w.alloc (.cells #[.string ⟨#[]⟩, .string ⟨#[]⟩, .int .i64 0, .int .i64 0, .int .i64 0, .int .i64 0, .slice none 0 0, .string ⟨#[]⟩, .string ⟨#[]⟩, .int .i64 0] 30)).alloc (.cells #[.slice A n c, .int .i64 at_, .int .i64 0] 122)).alloc (.cells #[.string ⟨#[]⟩, .string ⟨#[]⟩, .int .i64 0, .int .i64 0, .int .i64 0, .int .i64 0, .slice none 0 0, .string ⟨#[]⟩, .string ⟨#[]⟩, .int .i64 0] 30)) ∧ RdP (((w.alloc (.cells #[.string ⟨#[]⟩, .string ⟨#[]⟩, .int .i64 0, .int .i64 0, .int .i64 0, .int .i64 0, .slice none 0 0, .string ⟨#[]⟩, .string ⟨#[]⟩, .int .i64 0] 30)).alloc (.cells #[.slice A n c, .int .i64 at_, .int .i64 0] 122)).alloc (.cells #[.string ⟨#[]⟩, .string ⟨#[]⟩, .int .i64 0, .int .i64 0, .int .i64 0, .int .i64 0, .slice none 0 0, .string ⟨#[]⟩, .string ⟨#[]⟩, .int .i64 0] 30)) (w.heap.size + 1) A n c (at_, 0) ∧ Bk (((w.alloc (.cells #[.string ⟨#[]⟩, .string ⟨#[]⟩, .int .i64 0, .int .i64 0, .int .i64 0, .int .i64 0, .slice none 0 0, .string ⟨#[]⟩, .string ⟨#[]⟩, .int .i64 0] 30)).alloc (.cells #[.slice A n c, .int .i64 at_, .int .i64 0] 122)).alloc (.cells #[.string ⟨#[]⟩, .string ⟨#[]⟩, .int .i64 0, .int .i64 0, .int .i64 0, .int .i64 0, .slice none 0 0, .string ⟨#[]⟩, .string ⟨#[]⟩, .int .i64 0] 30)) w.heap.size 30 #[.string ⟨#[]⟩, .string ⟨#[]⟩, .int .i64 0, .int .i64 0, .int .i64 0, .int .i64 0, .slice none 0 0, .string ⟨#[]⟩, .string ⟨#[]⟩, .int .i64 0] ∧ Bk (((w.alloc (.cells #[.string ⟨#[]⟩, .string ⟨#[]⟩, .int .i64 0, .int .i64 0, .int .i64 0, .int .i64 0, .slice none 0 0, .string ⟨#[]⟩, .string ⟨#[]⟩, .int .i64 0] 30)).alloc (.cells #[.slice A n c, .int .i64 at_, .int .i64 0] 122)).alloc (.cells #[.string ⟨#[]⟩, .string ⟨#[]⟩, .int .i64 0, .int .i64 0, .int .i64 0, .int .i64 0, .slice none 0 0, .string ⟨#[]⟩, .string ⟨#[]⟩, .int .i64 0] 30)) (w.heap.size + 2) 30 #[.string ⟨#[]⟩, .string ⟨#[]⟩, .int .i64 0, .int .i64 0, .int .i64 0, .int .i64 0, .slice none 0 0, .string ⟨#[]⟩, .string ⟨#[]⟩, .int .i64 0]) := by
    refine ⟨(((Below.refl _ _).alloc (Nat.le_refl _) _).alloc (by simp) _).alloc (by simp; omega) _, ⟨at_, ?_, fun _ => rfl⟩, ?_, ?_⟩
    · exact (Bk.freshAt _ _ _ (by simp)).later ((Below.refl _ _).alloc (Nat.le_refl _) _)
    · exact ((Bk.fresh _ _ _).later ((Below.refl _ _).alloc (Nat.le_refl _) _)).later ((Below.refl _ _).alloc (Nat.le_refl _) _)
    · exact Bk.freshAt _ _ _ (by simp)
  refine (N1.out _ T0.out.2.1 (hr.out.below T0.out.1)).mono ?_
  rintro e w1 ⟨rfl, hR1, hg1⟩
  have hB1 : Below w.heap.size w w1 := T0.out.1.trans (grownBy_below hg1 T0.out.1.size (by intro k e; cases e; omega))
  have bz : Bk w1 w.heap.size 30 #[.string ⟨#[]⟩, .string ⟨#[]⟩, .int .i64 0, .int .i64 0, .int .i64 0, .int .i64 0, .slice none 0 0, .string ⟨#[]⟩, .string ⟨#[]⟩, .int .i64 0] := T0.out.2.2.1.stays hg1 (by simp)
  have bn : Bk w1 (w.heap.size + 2) 30 #[.string ⟨#[]⟩, .string ⟨#[]⟩, .int .i64 0, .int .i64 0, .int .i64 0, .int .i64 0, .slice none 0 0, .string ⟨#[]⟩, .string ⟨#[]⟩, .int .i64 0] := (T0.out.2.2.2).stays hg1 (by simp)
  have c1_0 : w1.cell? ⟨(w.heap.size + 2), 0, none⟩ = some (.string ⟨#[]⟩) := bn.cellAt 0
  have f1_0 : w1.frozen? ⟨(w.heap.size + 2), 0, none⟩ = false := bn.free 0
  have T1 : Hid (Below w.heap.size w (w1.setCell ⟨(w.heap.size + 2), 0, none⟩ (.string s1)) ∧ RdP (w1.setCell ⟨(w.heap.size + 2), 0, none⟩ (.string s1)) (w.heap.size + 1) A n c q1 ∧ Bk (w1.setCell ⟨(w.heap.size + 2), 0, none⟩ (.string s1)) w.heap.size 30 #[.string ⟨#[]⟩, .string ⟨#[]⟩, .int .i64 0, .int .i64 0, .int .i64 0, .int .i64 0, .slice none 0 0, .string ⟨#[]⟩, .string ⟨#[]⟩, .int .i64 0] ∧ Bk (w1.setCell ⟨(w.heap.size + 2), 0, none⟩ (.string s1)) (w.heap.size + 2) 30 #[.string s1, .string ⟨#[]⟩, .int .i64 0, .int .i64 0, .int .i64 0, .int .i64 0, .slice none 0 0, .string ⟨#[]⟩, .string ⟨#[]⟩, .int .i64 0]) := ⟨(hB1.setCell (p := ⟨(w.heap.size + 2), 0, none⟩) (by simp) _), (hR1.other (q := ⟨(w.heap.size + 2), 0, none⟩) (by simp) _), (bz.other (p := ⟨(w.heap.size + 2), 0, none⟩) (by simp) _), (bn.put 0 (.string s1))⟩
  clear hB1 hR1 hg1 bz bn T0
  go_wp2_with fail
  refine (N2.out _ T1.out.2.1 (hr.out.below T1.out.1)).mono ?_
  rintro e w2 ⟨rfl, hR2, hg2⟩
  have hB2 : Below w.heap.size w w2 := T1.out.1.trans (grownBy_below hg2 T1.out.1.size (by intro k e; cases e; omega))
  have bz : Bk w2 w.heap.size 30 #[.string ⟨#[]⟩, .string ⟨#[]⟩, .int .i64 0, .int .i64 0, .int .i64 0, .int .i64 0, .slice none 0 0, .string ⟨#[]⟩, .string ⟨#[]⟩, .int .i64 0] := T1.out.2.2.1.stays hg2 (by simp)
  have bn : Bk w2 (w.heap.size + 2) 30 #[.string s1, .string ⟨#[]⟩, .int .i64 0, .int .i64 0, .int .i64 0, .int .i64 0, .slice none 0 0, .string ⟨#[]⟩, .string ⟨#[]⟩, .int .i64 0] := (T1.out.2.2.2).stays hg2 (by simp)
  have c2_0 : w2.cell? ⟨(w.heap.size + 2), 1, none⟩ = some (.string ⟨#[]⟩) := bn.cellAt 1
  have f2_0 : w2.frozen? ⟨(w.heap.size + 2), 1, none⟩ = false := bn.free 1
  have T2 : Hid (Below w.heap.size w (w2.setCell ⟨(w.heap.size + 2), 1, none⟩ (.string s2)) ∧ RdP (w2.setCell ⟨(w.heap.size + 2), 1, none⟩ (.string s2)) (w.heap.size + 1) A n c q2 ∧ Bk (w2.setCell ⟨(w.heap.size + 2), 1, none⟩ (.string s2)) w.heap.size 30 #[.string ⟨#[]⟩, .string ⟨#[]⟩, .int .i64 0, .int .i64 0, .int .i64 0, .int .i64 0, .slice none 0 0, .string ⟨#[]⟩, .string ⟨#[]⟩, .int .i64 0] ∧ Bk (w2.setCell ⟨(w.heap.size + 2), 1, none⟩ (.string s2)) (w.heap.size + 2) 30 #[.string s1, .string s2, .int .i64 0, .int .i64 0, .int .i64 0, .int .i64 0, .slice none 0 0, .string ⟨#[]⟩, .string ⟨#[]⟩, .int .i64 0]) := ⟨(hB2.setCell (p := ⟨(w.heap.size + 2), 1, none⟩) (by simp) _), (hR2.other (q := ⟨(w.heap.size + 2), 1, none⟩) (by simp) _), (bz.other (p := ⟨(w.heap.size + 2), 1, none⟩) (by simp) _), (bn.put 1 (.string s2))⟩
  clear hB2 hR2 hg2 bz bn T1
  clear c1_0 f1_0
  go_wp2_with fail
  refine (N3.out _ T2.out.2.1 (hr.out.below T2.out.1)).mono ?_
  rintro e w3 ⟨rfl, hR3, hg3⟩
  have hB3 : Below w.heap.size w w3 := T2.out.1.trans (grownBy_below hg3 T2.out.1.size (by intro k e; cases e; omega))
  have bz : Bk w3 w.heap.size 30 #[.string ⟨#[]⟩, .string ⟨#[]⟩, .int .i64 0, .int .i64 0, .int .i64 0, .int .i64 0, .slice none 0 0, .string ⟨#[]⟩, .string ⟨#[]⟩, .int .i64 0] := T2.out.2.2.1.stays hg3 (by simp)
  have bn : Bk w3 (w.heap.size + 2) 30 #[.string s1, .string s2, .int .i64 0, .int .i64 0, .int .i64 0, .int .i64 0, .slice none 0 0, .string ⟨#[]⟩, .string ⟨#[]⟩, .int .i64 0] := (T2.out.2.2.2).stays hg3 (by simp)
  have c3_0 : w3.cell? ⟨(w.heap.size + 2), 2, none⟩ = some (.int .i64 0) := bn.cellAt 2
  have f3_0 : w3.frozen? ⟨(w.heap.size + 2), 2, none⟩ = false := bn.free 2
  have T3 : Hid (Below w.heap.size w (w3.setCell ⟨(w.heap.size + 2), 2, none⟩ (.int .i64 (y1 : Int))) ∧ RdP (w3.setCell ⟨(w.heap.size + 2), 2, none⟩ (.int .i64 (y1 : Int))) (w.heap.size + 1) A n c q3 ∧ Bk (w3.setCell ⟨(w.heap.size + 2), 2, none⟩ (.int .i64 (y1 : Int))) w.heap.size 30 #[.string ⟨#[]⟩, .string ⟨#[]⟩, .int .i64 0, .int .i64 0, .int .i64 0, .int .i64 0, .slice none 0 0, .string ⟨#[]⟩, .string ⟨#[]⟩, .int .i64 0] ∧ Bk (w3.setCell ⟨(w.heap.size + 2), 2, none⟩ (.int .i64 (y1 : Int))) (w.heap.size + 2) 30 #[.string s1, .string s2, .int .i64 (y1 : Int), .int .i64 0, .int .i64 0, .int .i64 0, .slice none 0 0, .string ⟨#[]⟩, .string ⟨#[]⟩, .int .i64 0]) := ⟨(hB3.setCell (p := ⟨(w.heap.size + 2), 2, none⟩) (by simp) _), (hR3.other (q := ⟨(w.heap.size + 2), 2, none⟩) (by simp) _), (bz.other (p := ⟨(w.heap.size + 2), 2, none⟩) (by simp) _), (bn.put 2 (.int .i64 (y1 : Int)))⟩
  clear hB3 hR3 hg3 bz bn T2
  clear c2_0 f2_0
  go_wp2_with fail
  refine (N4.out _ T3.out.2.1 (hr.out.below T3.out.1)).mono ?_
  rintro e w4 ⟨rfl, hR4, hg4⟩
  have hB4 : Below w.heap.size w w4 := T3.out.1.trans (grownBy_below hg4 T3.out.1.size (by intro k e; cases e; omega))
  have bz : Bk w4 w.heap.size 30 #[.string ⟨#[]⟩, .string ⟨#[]⟩, .int .i64 0, .int .i64 0, .int .i64 0, .int .i64 0, .slice none 0 0, .string ⟨#[]⟩, .string ⟨#[]⟩, .int .i64 0] := T3.out.2.2.1.stays hg4 (by simp)
  have bn : Bk w4 (w.heap.size + 2) 30 #[.string s1, .string s2, .int .i64 (y1 : Int), .int .i64 0, .int .i64 0, .int .i64 0, .slice none 0 0, .string ⟨#[]⟩, .string ⟨#[]⟩, .int .i64 0] := (T3.out.2.2.2).stays hg4 (by simp)
  have c4_0 : w4.cell? ⟨(w.heap.size + 2), 3, none⟩ = some (.int .i64 0) := bn.cellAt 3
  have f4_0 : w4.frozen? ⟨(w.heap.size + 2), 3, none⟩ = false := bn.free 3
  have c4_1 : w4.cell? ⟨(w.heap.size + 2), 4, none⟩ = some (.int .i64 0) := bn.cellAt 4
  have f4_1 : w4.frozen? ⟨(w.heap.size + 2), 4, none⟩ = false := bn.free 4
  have c4_2 : w4.cell? ⟨(w.heap.size + 2), 5, none⟩ = some (.int .i64 0) := bn.cellAt 5
  have f4_2 : w4.frozen? ⟨(w.heap.size + 2), 5, none⟩ = false := bn.free 5
  have T4 : Hid (Below w.heap.size w (((w4.setCell ⟨(w.heap.size + 2), 3, none⟩ (.int .i64 (x1 : Int))).setCell ⟨(w.heap.size + 2), 4, none⟩ (.int .i64 (x2 : Int))).setCell ⟨(w.heap.size + 2), 5, none⟩ (.int .i64 (x3 : Int))) ∧ RdP (((w4.setCell ⟨(w.heap.size + 2), 3, none⟩ (.int .i64 (x1 : Int))).setCell ⟨(w.heap.size + 2), 4, none⟩ (.int .i64 (x2 : Int))).setCell ⟨(w.heap.size + 2), 5, none⟩ (.int .i64 (x3 : Int))) (w.heap.size + 1) A n c q4 ∧ Bk (((w4.setCell ⟨(w.heap.size + 2), 3, none⟩ (.int .i64 (x1 : Int))).setCell ⟨(w.heap.size + 2), 4, none⟩ (.int .i64 (x2 : Int))).setCell ⟨(w.heap.size + 2), 5, none⟩ (.int .i64 (x3 : Int))) w.heap.size 30 #[.string ⟨#[]⟩, .string ⟨#[]⟩, .int .i64 0, .int .i64 0, .int .i64 0, .int .i64 0, .slice none 0 0, .string ⟨#[]⟩, .string ⟨#[]⟩, .int .i64 0] ∧ Bk (((w4.setCell ⟨(w.heap.size + 2), 3, none⟩ (.int .i64 (x1 : Int))).setCell ⟨(w.heap.size + 2), 4, none⟩ (.int .i64 (x2 : Int))).setCell ⟨(w.heap.size + 2), 5, none⟩ (.int .i64 (x3 : Int))) (w.heap.size + 2) 30 #[.string s1, .string s2, .int .i64 (y1 : Int), .int .i64 (x1 : Int), .int .i64 (x2 : Int), .int .i64 (x3 : Int), .slice none 0 0, .string ⟨#[]⟩, .string ⟨#[]⟩, .int .i64 0]) := ⟨(((hB4.setCell (p := ⟨(w.heap.size + 2), 3, none⟩) (by simp) _).setCell (p := ⟨(w.heap.size + 2), 4, none⟩) (by simp) _).setCell (p := ⟨(w.heap.size + 2), 5, none⟩) (by simp) _), (((hR4.other (q := ⟨(w.heap.size + 2), 3, none⟩) (by simp) _).other (q := ⟨(w.heap.size + 2), 4, none⟩) (by simp) _).other (q := ⟨(w.heap.size + 2), 5, none⟩) (by simp) _), (((bz.other (p := ⟨(w.heap.size + 2), 3, none⟩) (by simp) _).other (p := ⟨(w.heap.size + 2), 4, none⟩) (by simp) _).other (p := ⟨(w.heap.size + 2), 5, none⟩) (by simp) _), (((bn.put 3 (.int .i64 (x1 : Int))).put 4 (.int .i64 (x2 : Int))).put 5 (.int .i64 (x3 : Int)))⟩
  clear hB4 hR4 hg4 bz bn T3
  clear c3_0 f3_0
  go_wp2_with fail
  refine (N5.out _ T4.out.2.1 (hr.out.below T4.out.1)).mono ?_
  rintro e w5 ⟨vl, rfl, hO, hR5, hg5⟩
  have hB5 : Below w.heap.size w w5 := T4.out.1.trans (grownBy_below hg5 T4.out.1.size (by intro k e; cases e; omega))
  have bz : Bk w5 w.heap.size 30 #[.string ⟨#[]⟩, .string ⟨#[]⟩, .int .i64 0, .int .i64 0, .int .i64 0, .int .i64 0, .slice none 0 0, .string ⟨#[]⟩, .string ⟨#[]⟩, .int .i64 0] := T4.out.2.2.1.stays hg5 (by simp)
  have bn : Bk w5 (w.heap.size + 2) 30 #[.string s1, .string s2, .int .i64 (y1 : Int), .int .i64 (x1 : Int), .int .i64 (x2 : Int), .int .i64 (x3 : Int), .slice none 0 0, .string ⟨#[]⟩, .string ⟨#[]⟩, .int .i64 0] := (T4.out.2.2.2).stays hg5 (by simp)
  have hO1 : OwnL w5 (w.heap.size + 3) vl labs := OwnL.base hO (by have := T4.out.2.2.2.here; omega)
  obtain ⟨Al, cl, sl⟩ := hO1.sl
  obtain ⟨nl, hnl⟩ : ∃ nl, nl = labs.length := ⟨_, rfl⟩
  have hvl := sl.val; rw [← hnl] at hvl; subst hvl
  have ca := sl.cap; rw [← hnl] at ca
  have cb : cl ≤ 9223372036854775807 := by have := sl.cap2; unfold maxLen at this; omega
  have HNL := Lib.hid hnl; clear sl hO hnl
  have c5_0 : w5.cell? ⟨(w.heap.size + 2), 6, none⟩ = some (.slice none 0 0) := bn.cellAt 6
  have f5_0 : w5.frozen? ⟨(w.heap.size + 2), 6, none⟩ = false := bn.free 6
  have T5 : Hid (Below w.heap.size w (w5.setCell ⟨(w.heap.size + 2), 6, none⟩ (.slice Al nl cl)) ∧ RdP (w5.setCell ⟨(w.heap.size + 2), 6, none⟩ (.slice Al nl cl)) (w.heap.size + 1) A n c q5 ∧ Bk (w5.setCell ⟨(w.heap.size + 2), 6, none⟩ (.slice Al nl cl)) w.heap.size 30 #[.string ⟨#[]⟩, .string ⟨#[]⟩, .int .i64 0, .int .i64 0, .int .i64 0, .int .i64 0, .slice none 0 0, .string ⟨#[]⟩, .string ⟨#[]⟩, .int .i64 0] ∧ Bk (w5.setCell ⟨(w.heap.size + 2), 6, none⟩ (.slice Al nl cl)) (w.heap.size + 2) 30 #[.string s1, .string s2, .int .i64 (y1 : Int), .int .i64 (x1 : Int), .int .i64 (x2 : Int), .int .i64 (x3 : Int), .slice Al nl cl, .string ⟨#[]⟩, .string ⟨#[]⟩, .int .i64 0] ∧ OwnL (w5.setCell ⟨(w.heap.size + 2), 6, none⟩ (.slice Al nl cl)) (w.heap.size + 3) (.slice Al nl cl) labs) := ⟨(hB5.setCell (p := ⟨(w.heap.size + 2), 6, none⟩) (by simp) _), (hR5.other (q := ⟨(w.heap.size + 2), 6, none⟩) (by simp) _), (bz.other (p := ⟨(w.heap.size + 2), 6, none⟩) (by simp) _), (bn.put 6 (.slice Al nl cl)), (hO1.other (p := ⟨(w.heap.size + 2), 6, none⟩) (by simp) _)⟩
  clear hB5 hR5 hg5 bz bn T4 hO1
  clear c4_0 f4_0 c4_1 f4_1 c4_2 f4_2
  go_wp2_with fail
  refine (N6.out _ T5.out.2.1 (hr.out.below T5.out.1)).mono ?_
  rintro e w6 ⟨rfl, hR6, hg6⟩
  have hB6 : Below w.heap.size w w6 := T5.out.1.trans (grownBy_below hg6 T5.out.1.size (by intro k e; cases e; omega))
  have bz : Bk w6 w.heap.size 30 #[.string ⟨#[]⟩, .string ⟨#[]⟩, .int .i64 0, .int .i64 0, .int .i64 0, .int .i64 0, .slice none 0 0, .string ⟨#[]⟩, .string ⟨#[]⟩, .int .i64 0] := T5.out.2.2.1.stays hg6 (by simp)
  have bn : Bk w6 (w.heap.size + 2) 30 #[.string s1, .string s2, .int .i64 (y1 : Int), .int .i64 (x1 : Int), .int .i64 (x2 : Int), .int .i64 (x3 : Int), .slice Al nl cl, .string ⟨#[]⟩, .string ⟨#[]⟩, .int .i64 0] := (T5.out.2.2.2.1).stays hg6 (by simp)
  have hO1 := T5.out.2.2.2.2.stays hg6 (by omega)
  have c6_0 : w6.cell? ⟨(w.heap.size + 2), 7, none⟩ = some (.string ⟨#[]⟩) := bn.cellAt 7
  have f6_0 : w6.frozen? ⟨(w.heap.size + 2), 7, none⟩ = false := bn.free 7
  have T6 : Hid (Below w.heap.size w (w6.setCell ⟨(w.heap.size + 2), 7, none⟩ (.string s3)) ∧ RdP (w6.setCell ⟨(w.heap.size + 2), 7, none⟩ (.string s3)) (w.heap.size + 1) A n c q6 ∧ Bk (w6.setCell ⟨(w.heap.size + 2), 7, none⟩ (.string s3)) w.heap.size 30 #[.string ⟨#[]⟩, .string ⟨#[]⟩, .int .i64 0, .int .i64 0, .int .i64 0, .int .i64 0, .slice none 0 0, .string ⟨#[]⟩, .string ⟨#[]⟩, .int .i64 0] ∧ Bk (w6.setCell ⟨(w.heap.size + 2), 7, none⟩ (.string s3)) (w.heap.size + 2) 30 #[.string s1, .string s2, .int .i64 (y1 : Int), .int .i64 (x1 : Int), .int .i64 (x2 : Int), .int .i64 (x3 : Int), .slice Al nl cl, .string s3, .string ⟨#[]⟩, .int .i64 0] ∧ OwnL (w6.setCell ⟨(w.heap.size + 2), 7, none⟩ (.string s3)) (w.heap.size + 3) (.slice Al nl cl) labs) := ⟨(hB6.setCell (p := ⟨(w.heap.size + 2), 7, none⟩) (by simp) _), (hR6.other (q := ⟨(w.heap.size + 2), 7, none⟩) (by simp) _), (bz.other (p := ⟨(w.heap.size + 2), 7, none⟩) (by simp) _), (bn.put 7 (.string s3)), (hO1.other (p := ⟨(w.heap.size + 2), 7, none⟩) (by simp) _)⟩
  clear hB6 hR6 hg6 bz bn T5 hO1
  clear c5_0 f5_0
  go_wp2_with fail
  refine (N7.out _ T6.out.2.1 (hr.out.below T6.out.1)).mono ?_
  rintro e w7 ⟨rfl, hR7, hg7⟩
  have hB7 : Below w.heap.size w w7 := T6.out.1.trans (grownBy_below hg7 T6.out.1.size (by intro k e; cases e; omega))
  have bz : Bk w7 w.heap.size 30 #[.string ⟨#[]⟩, .string ⟨#[]⟩, .int .i64 0, .int .i64 0, .int .i64 0, .int .i64 0, .slice none 0 0, .string ⟨#[]⟩, .string ⟨#[]⟩, .int .i64 0] := T6.out.2.2.1.stays hg7 (by simp)
  have bn : Bk w7 (w.heap.size + 2) 30 #[.string s1, .string s2, .int .i64 (y1 : Int), .int .i64 (x1 : Int), .int .i64 (x2 : Int), .int .i64 (x3 : Int), .slice Al nl cl, .string s3, .string ⟨#[]⟩, .int .i64 0] := (T6.out.2.2.2.1).stays hg7 (by simp)
  have hO1 := T6.out.2.2.2.2.stays hg7 (by omega)
  have c7_0 : w7.cell? ⟨(w.heap.size + 2), 8, none⟩ = some (.string ⟨#[]⟩) := bn.cellAt 8
  have f7_0 : w7.frozen? ⟨(w.heap.size + 2), 8, none⟩ = false := bn.free 8
  have T7 : Hid (Below w.heap.size w (w7.setCell ⟨(w.heap.size + 2), 8, none⟩ (.string s4)) ∧ RdP (w7.setCell ⟨(w.heap.size + 2), 8, none⟩ (.string s4)) (w.heap.size + 1) A n c q7 ∧ Bk (w7.setCell ⟨(w.heap.size + 2), 8, none⟩ (.string s4)) w.heap.size 30 #[.string ⟨#[]⟩, .string ⟨#[]⟩, .int .i64 0, .int .i64 0, .int .i64 0, .int .i64 0, .slice none 0 0, .string ⟨#[]⟩, .string ⟨#[]⟩, .int .i64 0] ∧ Bk (w7.setCell ⟨(w.heap.size + 2), 8, none⟩ (.string s4)) (w.heap.size + 2) 30 #[.string s1, .string s2, .int .i64 (y1 : Int), .int .i64 (x1 : Int), .int .i64 (x2 : Int), .int .i64 (x3 : Int), .slice Al nl cl, .string s3, .string s4, .int .i64 0] ∧ OwnL (w7.setCell ⟨(w.heap.size + 2), 8, none⟩ (.string s4)) (w.heap.size + 3) (.slice Al nl cl) labs) := ⟨(hB7.setCell (p := ⟨(w.heap.size + 2), 8, none⟩) (by simp) _), (hR7.other (q := ⟨(w.heap.size + 2), 8, none⟩) (by simp) _), (bz.other (p := ⟨(w.heap.size + 2), 8, none⟩) (by simp) _), (bn.put 8 (.string s4)), (hO1.other (p := ⟨(w.heap.size + 2), 8, none⟩) (by simp) _)⟩
  clear hB7 hR7 hg7 bz bn T6 hO1
  clear c6_0 f6_0
  go_wp2_with fail
  refine (N8.out _ T7.out.2.1 (hr.out.below T7.out.1)).mono ?_
  rintro e w8 ⟨rfl, hR8, hg8⟩
  have hB8 : Below w.heap.size w w8 := T7.out.1.trans (grownBy_below hg8 T7.out.1.size (by intro k e; cases e; omega))
  have bz : Bk w8 w.heap.size 30 #[.string ⟨#[]⟩, .string ⟨#[]⟩, .int .i64 0, .int .i64 0, .int .i64 0, .int .i64 0, .slice none 0 0, .string ⟨#[]⟩, .string ⟨#[]⟩, .int .i64 0] := T7.out.2.2.1.stays hg8 (by simp)
  have bn : Bk w8 (w.heap.size + 2) 30 #[.string s1, .string s2, .int .i64 (y1 : Int), .int .i64 (x1 : Int), .int .i64 (x2 : Int), .int .i64 (x3 : Int), .slice Al nl cl, .string s3, .string s4, .int .i64 0] := (T7.out.2.2.2.1).stays hg8 (by simp)
  have hO1 := T7.out.2.2.2.2.stays hg8 (by omega)
  have c8_0 : w8.cell? ⟨(w.heap.size + 2), 9, none⟩ = some (.int .i64 0) := bn.cellAt 9
  have f8_0 : w8.frozen? ⟨(w.heap.size + 2), 9, none⟩ = false := bn.free 9
  have T8 : Hid (Below w.heap.size w (w8.setCell ⟨(w.heap.size + 2), 9, none⟩ (.int .i64 (y2 : Int))) ∧ RdP (w8.setCell ⟨(w.heap.size + 2), 9, none⟩ (.int .i64 (y2 : Int))) (w.heap.size + 1) A n c q8 ∧ Bk (w8.setCell ⟨(w.heap.size + 2), 9, none⟩ (.int .i64 (y2 : Int))) w.heap.size 30 #[.string ⟨#[]⟩, .string ⟨#[]⟩, .int .i64 0, .int .i64 0, .int .i64 0, .int .i64 0, .slice none 0 0, .string ⟨#[]⟩, .string ⟨#[]⟩, .int .i64 0] ∧ Bk (w8.setCell ⟨(w.heap.size + 2), 9, none⟩ (.int .i64 (y2 : Int))) (w.heap.size + 2) 30 #[.string s1, .string s2, .int .i64 (y1 : Int), .int .i64 (x1 : Int), .int .i64 (x2 : Int), .int .i64 (x3 : Int), .slice Al nl cl, .string s3, .string s4, .int .i64 (y2 : Int)] ∧ OwnL (w8.setCell ⟨(w.heap.size + 2), 9, none⟩ (.int .i64 (y2 : Int))) (w.heap.size + 3) (.slice Al nl cl) labs) := ⟨(hB8.setCell (p := ⟨(w.heap.size + 2), 9, none⟩) (by simp) _), (hR8.other (q := ⟨(w.heap.size + 2), 9, none⟩) (by simp) _), (bz.other (p := ⟨(w.heap.size + 2), 9, none⟩) (by simp) _), (bn.put 9 (.int .i64 (y2 : Int))), (hO1.other (p := ⟨(w.heap.size + 2), 9, none⟩) (by simp) _)⟩
  clear hB8 hR8 hg8 bz bn T7 hO1
  clear c7_0 f7_0
  have hsz := T8.out.1.size
  have d0 : (w8.setCell ⟨(w.heap.size + 2), 9, none⟩ (.int .i64 (y2 : Int))).cell? ⟨(w.heap.size + 2), 0, none⟩ = some (.string s1) := T8.out.2.2.2.1.cellAt 0
  have d1 : (w8.setCell ⟨(w.heap.size + 2), 9, none⟩ (.int .i64 (y2 : Int))).cell? ⟨(w.heap.size + 2), 1, none⟩ = some (.string s2) := T8.out.2.2.2.1.cellAt 1
  have d2 : (w8.setCell ⟨(w.heap.size + 2), 9, none⟩ (.int .i64 (y2 : Int))).cell? ⟨(w.heap.size + 2), 2, none⟩ = some (.int .i64 (y1 : Int)) := T8.out.2.2.2.1.cellAt 2
  have d3 : (w8.setCell ⟨(w.heap.size + 2), 9, none⟩ (.int .i64 (y2 : Int))).cell? ⟨(w.heap.size + 2), 3, none⟩ = some (.int .i64 (x1 : Int)) := T8.out.2.2.2.1.cellAt 3
  have d4 : (w8.setCell ⟨(w.heap.size + 2), 9, none⟩ (.int .i64 (y2 : Int))).cell? ⟨(w.heap.size + 2), 4, none⟩ = some (.int .i64 (x2 : Int)) := T8.out.2.2.2.1.cellAt 4
  have d5 : (w8.setCell ⟨(w.heap.size + 2), 9, none⟩ (.int .i64 (y2 : Int))).cell? ⟨(w.heap.size + 2), 5, none⟩ = some (.int .i64 (x3 : Int)) := T8.out.2.2.2.1.cellAt 5
  have d6 : (w8.setCell ⟨(w.heap.size + 2), 9, none⟩ (.int .i64 (y2 : Int))).cell? ⟨(w.heap.size + 2), 6, none⟩ = some (.slice Al nl cl) := T8.out.2.2.2.1.cellAt 6
  have d7 : (w8.setCell ⟨(w.heap.size + 2), 9, none⟩ (.int .i64 (y2 : Int))).cell? ⟨(w.heap.size + 2), 7, none⟩ = some (.string s3) := T8.out.2.2.2.1.cellAt 7
  have d8 : (w8.setCell ⟨(w.heap.size + 2), 9, none⟩ (.int .i64 (y2 : Int))).cell? ⟨(w.heap.size + 2), 8, none⟩ = some (.string s4) := T8.out.2.2.2.1.cellAt 8
  have d9 : (w8.setCell ⟨(w.heap.size + 2), 9, none⟩ (.int .i64 (y2 : Int))).cell? ⟨(w.heap.size + 2), 9, none⟩ = some (.int .i64 (y2 : Int)) := T8.out.2.2.2.1.cellAt 9
  go_wp2_with fail
  clear d0 d1 d2 d3 d4 d5 d6 d7 d8 d9 c8_0 f8_0
  have hRL : RdL (w8.setCell ⟨(w.heap.size + 2), 9, none⟩ (.int .i64 (y2 : Int))) Al labs := by obtain ⟨A2, c2, s2⟩ := T8.out.2.2.2.2.sl; have h := s2.val; injection h with h1 h2 h3; have h4 := s2.rd; rw [← h1] at h4; exact h4
  refine (task_any s1 s2 y1 x1 x2 x3 Al nl cl labs s3 s4 y2 _ (by omega) (by omega) HNL (Lib.hid hRL) (Lib.hid S5.out.sz) ca cb (by omega) (by omega)).mono ?_
  rw [← HOK.out]
  rintro e w9 ⟨rfl, hb9⟩
  have T9 : Hid (Below w.heap.size w w9 ∧ RdP w9 (w.heap.size + 1) A n c q8 ∧ Bk w9 w.heap.size 30 #[.string ⟨#[]⟩, .string ⟨#[]⟩, .int .i64 0, .int .i64 0, .int .i64 0, .int .i64 0, .slice none 0 0, .string ⟨#[]⟩, .string ⟨#[]⟩, .int .i64 0] ∧ Bk w9 (w.heap.size + 2) 30 #[.string s1, .string s2, .int .i64 (y1 : Int), .int .i64 (x1 : Int), .int .i64 (x2 : Int), .int .i64 (x3 : Int), .slice Al nl cl, .string s3, .string s4, .int .i64 (y2 : Int)] ∧ OwnL w9 (w.heap.size + 3) (.slice Al nl cl) labs) := ⟨T8.out.1.trans (hb9.mono T8.out.1.size), T8.out.2.1.later hb9, T8.out.2.2.1.later hb9, T8.out.2.2.2.1.later hb9, T8.out.2.2.2.2.below hb9⟩
  clear hb9 T8 hRL
  go_wp2_with fail
  refine (NE.out _ T9.out.2.1).mono ?_
  rintro e w10 ⟨rfl, hb10⟩
  have hB : Below w.heap.size w w10 := T9.out.1.trans (hb10.mono T9.out.1.size)
  have bz := T9.out.2.2.1.later hb10
  have bn := T9.out.2.2.2.1.later hb10
  have hO1 := T9.out.2.2.2.2.below hb10
  clear hb10 T9 hsz
  have d0 : w10.cell? ⟨(w.heap.size + 2), 0, none⟩ = some (.string s1) := bn.cellAt 0
  have z0 : w10.cell? ⟨w.heap.size, 0, none⟩ = some (.string ⟨#[]⟩) := bz.cellAt 0
  have y0z : w10.frozen? ⟨w.heap.size, 0, none⟩ = false := bz.free 0
  have d1 : w10.cell? ⟨(w.heap.size + 2), 1, none⟩ = some (.string s2) := bn.cellAt 1
  have z1 : w10.cell? ⟨w.heap.size, 1, none⟩ = some (.string ⟨#[]⟩) := bz.cellAt 1
  have y1z : w10.frozen? ⟨w.heap.size, 1, none⟩ = false := bz.free 1
  have d2 : w10.cell? ⟨(w.heap.size + 2), 2, none⟩ = some (.int .i64 (y1 : Int)) := bn.cellAt 2
  have z2 : w10.cell? ⟨w.heap.size, 2, none⟩ = some (.int .i64 0) := bz.cellAt 2
  have y2z : w10.frozen? ⟨w.heap.size, 2, none⟩ = false := bz.free 2
  have d3 : w10.cell? ⟨(w.heap.size + 2), 3, none⟩ = some (.int .i64 (x1 : Int)) := bn.cellAt 3
  have z3 : w10.cell? ⟨w.heap.size, 3, none⟩ = some (.int .i64 0) := bz.cellAt 3
  have y3z : w10.frozen? ⟨w.heap.size, 3, none⟩ = false := bz.free 3
  have d4 : w10.cell? ⟨(w.heap.size + 2), 4, none⟩ = some (.int .i64 (x2 : Int)) := bn.cellAt 4
  have z4 : w10.cell? ⟨w.heap.size, 4, none⟩ = some (.int .i64 0) := bz.cellAt 4
  have y4z : w10.frozen? ⟨w.heap.size, 4, none⟩ = false := bz.free 4
  have d5 : w10.cell? ⟨(w.heap.size + 2), 5, none⟩ = some (.int .i64 (x3 : Int)) := bn.cellAt 5
  have z5 : w10.cell? ⟨w.heap.size, 5, none⟩ = some (.int .i64 0) := bz.cellAt 5
  have y5z : w10.frozen? ⟨w.heap.size, 5, none⟩ = false := bz.free 5
  have d6 : w10.cell? ⟨(w.heap.size + 2), 6, none⟩ = some (.slice Al nl cl) := bn.cellAt 6
  have z6 : w10.cell? ⟨w.heap.size, 6, none⟩ = some (.slice none 0 0) := bz.cellAt 6
  have y6z : w10.frozen? ⟨w.heap.size, 6, none⟩ = false := bz.free 6
  have d7 : w10.cell? ⟨(w.heap.size + 2), 7, none⟩ = some (.string s3) := bn.cellAt 7
  have z7 : w10.cell? ⟨w.heap.size, 7, none⟩ = some (.string ⟨#[]⟩) := bz.cellAt 7
  have y7z : w10.frozen? ⟨w.heap.size, 7, none⟩ = false := bz.free 7
  have d8 : w10.cell? ⟨(w.heap.size + 2), 8, none⟩ = some (.string s4) := bn.cellAt 8
  have z8 : w10.cell? ⟨w.heap.size, 8, none⟩ = some (.string ⟨#[]⟩) := bz.cellAt 8
  have y8z : w10.frozen? ⟨w.heap.size, 8, none⟩ = false := bz.free 8
  have d9 : w10.cell? ⟨(w.heap.size + 2), 9, none⟩ = some (.int .i64 (y2 : Int)) := bn.cellAt 9
  have z9 : w10.cell? ⟨w.heap.size, 9, none⟩ = some (.int .i64 0) := bz.cellAt 9
  have y9z : w10.frozen? ⟨w.heap.size, 9, none⟩ = false := bz.free 9
  have hz := bz.here
  have BZ := Lib.hid bz
  have HB := Lib.hid hB
  have HO := Lib.hid hO1
  clear bz bn hB hO1
  by_cases h0 : er = 0
  case pos =>
    subst h0
    obtain rfl := HX.out.trans (if_pos rfl)
    go_wp2
    refine bodyPost_ret (v := .tuple #[.agg #[.string s1, .string s2, .int .i64 (y1 : Int), .int .i64 (x1 : Int), .int .i64 (x2 : Int), .int .i64 (x3 : Int), .slice Al nl cl, .string s3, .string s4, .int .i64 (y2 : Int)], .int .i64 nx, .int .i64 0]) (by simp [results, Try.results74, go_sem, z0, z1, z2, z3, z4, z5, z6, z7, z8, z9]) rfl ⟨_, rfl, ((((((((((HO.out.other (p := ⟨w.heap.size, 0, none⟩) (by simp) _).other (p := ⟨w.heap.size, 1, none⟩) (by simp) _).other (p := ⟨w.heap.size, 2, none⟩) (by simp) _).other (p := ⟨w.heap.size, 3, none⟩) (by simp) _).other (p := ⟨w.heap.size, 4, none⟩) (by simp) _).other (p := ⟨w.heap.size, 5, none⟩) (by simp) _).other (p := ⟨w.heap.size, 6, none⟩) (by simp) _).other (p := ⟨w.heap.size, 7, none⟩) (by simp) _).other (p := ⟨w.heap.size, 8, none⟩) (by simp) _).other (p := ⟨w.heap.size, 9, none⟩) (by simp) _).base (by omega), ((((((((((HB.out.setCell (p := ⟨w.heap.size, 0, none⟩) (by simp) _).setCell (p := ⟨w.heap.size, 1, none⟩) (by simp) _).setCell (p := ⟨w.heap.size, 2, none⟩) (by simp) _).setCell (p := ⟨w.heap.size, 3, none⟩) (by simp) _).setCell (p := ⟨w.heap.size, 4, none⟩) (by simp) _).setCell (p := ⟨w.heap.size, 5, none⟩) (by simp) _).setCell (p := ⟨w.heap.size, 6, none⟩) (by simp) _).setCell (p := ⟨w.heap.size, 7, none⟩) (by simp) _).setCell (p := ⟨w.heap.size, 8, none⟩) (by simp) _).setCell (p := ⟨w.heap.size, 9, none⟩) (by simp) _)⟩
  case neg =>
    obtain rfl := hno h0
    obtain rfl := HX.out.trans (if_neg h0)
    have h1 : (er == 0) = false := by simpa using h0
    have h2 : (er != 0) = true := by simpa using h0
    clear h0
    go_wp2
    refine bodyPost_ret (v := .tuple #[.agg #[.string ⟨#[]⟩, .string ⟨#[]⟩, .int .i64 0, .int .i64 0, .int .i64 0, .int .i64 0, .slice none 0 0, .string ⟨#[]⟩, .string ⟨#[]⟩, .int .i64 0], .int .i64 0, .int .i64 er]) (by simp [results, Try.results74, go_sem, z0, z1, z2, z3, z4, z5, z6, z7, z8, z9]) rfl ⟨_, rfl, OwnL.nil _ _, ((((((((((HB.out.setCell (p := ⟨w.heap.size, 0, none⟩) (by simp) _).setCell (p := ⟨w.heap.size, 1, none⟩) (by simp) _).setCell (p := ⟨w.heap.size, 2, none⟩) (by simp) _).setCell (p := ⟨w.heap.size, 3, none⟩) (by simp) _).setCell (p := ⟨w.heap.size, 4, none⟩) (by simp) _).setCell (p := ⟨w.heap.size, 5, none⟩) (by simp) _).setCell (p := ⟨w.heap.size, 6, none⟩) (by simp) _).setCell (p := ⟨w.heap.size, 7, none⟩) (by simp) _).setCell (p := ⟨w.heap.size, 8, none⟩) (by simp) _).setCell (p := ⟨w.heap.size, 9, none⟩) (by simp) _)⟩

end Go.Proofs.Ytehkdaknhgmdkaa
