/- The reader's amounts and labels: the contracts of the reader's vector and labels. Conditions: the reader lies in a block of its own; the bytes are ones that Go can have. -/
import Derived.Test.YtehkdaknhgmdkaaRdr
import Derived.Test.YtehkdaknhgmdkaaOwl
namespace Go.Proofs.Ytehkdaknhgmdkaa
open Go.RowKit
set_option linter.unusedSimpArgs false
set_option linter.unusedVariables false

theorem grown_alloc {a w : World} {row : Option Nat} (h : a.grownBy w row) (o : Obj) : a.grownBy (w.alloc o) row :=
  ⟨h.os, h.tape, h.output, Nat.le_trans h.size (by simp), fun k hk hne => (Below.heap_alloc w o k (Nat.lt_of_lt_of_le hk h.size)).trans (h.block k hk hne)⟩
theorem grown_above {a w : World} {row : Option Nat} (h : a.grownBy w row) {p : Addr} (hp : a.heap.size ≤ p.block) (u : Value) : a.grownBy (w.setCell p u) row :=
  ⟨h.os, h.tape, h.output, by simpa using h.size, fun k hk hne => (Below.heap_setCell w p u k (by omega)).trans (h.block k hk hne)⟩
theorem grown_row {a w w' : World} {R : Option Nat} {row : Option Nat} (h : a.grownBy w R) (hg : w.grownBy w' row) (hrow : ∀ k, row = some k → a.heap.size ≤ k) : a.grownBy w' R :=
  ⟨hg.os.trans h.os, hg.tape.trans h.tape, hg.output.trans h.output, Nat.le_trans h.size hg.size, fun k hk hne =>
    (hg.block k (Nat.lt_of_lt_of_le hk h.size) (fun e => by have := hrow k e.symm; omega)).trans (h.block k hk hne)⟩
theorem Bk.freshAt (w : World) {g : Nat} (t : TypeId) (cs : Array Value) (h : g = w.heap.size) : Bk (w.alloc (.cells cs t)) g t cs := h ▸ Bk.fresh w t cs
section
variable {w w' : World} {R n c : Nat} {A : Option Addr} {p : Int × Int}
theorem RdP.here (h : RdP w R A n c p) : R < w.heap.size := by obtain ⟨_, h, _⟩ := h; exact h.here
theorem RdP.later (h : RdP w R A n c p) (hb : Below w.heap.size w w') : RdP w' R A n c p := by obtain ⟨a, h, e⟩ := h; exact ⟨a, h.later hb, e⟩
theorem RdP.stays (h : RdP w R A n c p) {row : Option Nat} (hg : w.grownBy w' row) (hne : some R ≠ row) : RdP w' R A n c p := by obtain ⟨a, h, e⟩ := h; exact ⟨a, h.stays hg hne, e⟩
theorem RdP.other (h : RdP w R A n c p) {q : Addr} (hp : R ≠ q.block) (u : Value) : RdP (w.setCell q u) R A n c p := by obtain ⟨a, h, e⟩ := h; exact ⟨a, h.other hp u, e⟩
theorem RdP.alloc (h : RdP w R A n c p) (o : Obj) : RdP (w.alloc o) R A n c p := h.later ((Below.refl _ _).alloc (Nat.le_refl _) _)
end
theorem own_ne {w : World} {base : Nat} {v : Value} {l : List Lb} (h : OwnL w base v l) {R : Nat} (hR : R < base) : some R ≠ v.ownBlock := fun e => by have := h.block R e.symm; omega

set_option maxHeartbeats 3200000 in
set_option maxRecDepth 100000 in
theorem rd_vector (R : Nat) (A : Option Addr) (n c : Nat) (l : List UInt8) (p : Int × Int) (w : World) (hR : RdP w R A n c p) (hn : Hid (n = l.length)) (hr : Hid (Rd w A l)) (hc : n ≤ c) (hc2 : c ≤ 9223372036854775807) :
    Calls Try.prog 90 #[.pointer (some ⟨R, 0, none⟩)] w fun e w' => e = .returned (.agg #[.int .i64 ((rVe l p).1.1 : Nat), .int .i64 ((rVe l p).1.2.1 : Nat), .int .i64 ((rVe l p).1.2.2 : Nat)]) ∧ RdP w' R A n c (rVe l p).2 ∧ w.grownBy w' (some R) := by
  obtain ⟨x1, p1, h1⟩ : ∃ x q, rNu l 1048576 3 p = (x, q) := ⟨_, _, rfl⟩
  obtain ⟨x2, p2, h2⟩ : ∃ x q, rNu l 1048576 3 p1 = (x, q) := ⟨_, _, rfl⟩
  obtain ⟨x3, p3, h3⟩ : ∃ x q, rNu l 1048576 3 p2 = (x, q) := ⟨_, _, rfl⟩
  have hv : rVe l p = ((x1, x2, x3), p3) := by simp only [rVe, h1, h2, h3]
  rw [hv]
  have n1 := fun W (hR : RdP W R A n c p) (hr : Rd W A l) => rd_number R A n c l p W hR hn (Lib.hid hr) hc hc2
  have n2 := fun W (hR : RdP W R A n c p1) (hr : Rd W A l) => rd_number R A n c l p1 W hR hn (Lib.hid hr) hc hc2
  have n3 := fun W (hR : RdP W R A n c p2) (hr : Rd W A l) => rd_number R A n c l p2 W hR hn (Lib.hid hr) hc hc2
  rw [h1] at n1
  rw [h2] at n2
  rw [h3] at n3
  have N1 := Lib.hid n1
  have N2 := Lib.hid n2
  have N3 := Lib.hid n3
  have hRl := hR.here
  have HR := Lib.hid hR
  clear n1 n2 n3 h1 h2 h3 hv hR
  have g0 : w.grownBy ((w.alloc (.cells #[.int .i64 0, .int .i64 0, .int .i64 0] 23)).alloc (.cells #[.int .i64 0, .int .i64 0, .int .i64 0] 23)) (some R) := grown_alloc (grown_alloc (World.grownBy.refl _ _) _) _
  have G0 := Lib.hid g0
  clear g0
  go_enter Try.func90, Try.ntmps90
  go_wp2_with fail
  refine wp_loop_rounds 4 ?_
  rw [rounds_succ]
  go_wp2_with fail
  refine (N1.out _ ((HR.out.alloc _).alloc _) (hr.out.stays HR.out G0.out)).mono ?_
  rintro e w1 ⟨rfl, hR1, hg1⟩
  have vz1 : Bk w1 w.heap.size 23 #[.int .i64 0, .int .i64 0, .int .i64 0] := Bk.stays (Bk.later (Bk.fresh w _ _) ((Below.refl _ _).alloc (by simp) _)) hg1 (by simp; omega)
  have vv1 : Bk w1 (w.heap.size + 1) 23 #[.int .i64 0, .int .i64 0, .int .i64 0] := Bk.stays (Bk.freshAt _ _ _ (by simp)) hg1 (by simp; omega)
  have c1 : w1.cell? ⟨w.heap.size + 1, 0, none⟩ = some (.int .i64 0) := vv1.cellAt 0
  have f1 : w1.frozen? ⟨w.heap.size + 1, 0, none⟩ = false := vv1.free 0
  have g1 : w.grownBy (w1.setCell ⟨w.heap.size + 1, 0, none⟩ (.int .i64 (x1 : Nat))) (some R) := grown_above (grownBy_trans G0.out hg1) (by simp) _
  have r1 := hR1.other (q := ⟨w.heap.size + 1, 0, none⟩) (by simp; omega) (.int .i64 (x1 : Nat))
  have u1 := vv1.put 0 (.int .i64 (x1 : Nat))
  have t1 := vz1.other (p := ⟨w.heap.size + 1, 0, none⟩) (by simp) (.int .i64 (x1 : Nat))
  have T1 := Lib.hid (And.intro g1 (And.intro r1 (And.intro u1 t1)))
  clear g1 r1 u1 t1 vz1 vv1 hR1 hg1
  go_wp2_with fail
  rw [rounds_succ]
  go_wp2_with fail
  refine (N2.out _ T1.out.2.1 (hr.out.stays HR.out T1.out.1)).mono ?_
  rintro e w2 ⟨rfl, hR2, hg2⟩
  have vz2 := T1.out.2.2.2.stays hg2 (by simp; omega)
  have vv2 := T1.out.2.2.1.stays hg2 (by simp; omega)
  have c2 : w2.cell? ⟨w.heap.size + 1, 1, none⟩ = some (.int .i64 0) := vv2.cellAt 1
  have f2 : w2.frozen? ⟨w.heap.size + 1, 1, none⟩ = false := vv2.free 1
  have g2 : w.grownBy (w2.setCell ⟨w.heap.size + 1, 1, none⟩ (.int .i64 (x2 : Nat))) (some R) := grown_above (grownBy_trans T1.out.1 hg2) (by simp) _
  have r2 := hR2.other (q := ⟨w.heap.size + 1, 1, none⟩) (by simp; omega) (.int .i64 (x2 : Nat))
  have u2 := vv2.put 1 (.int .i64 (x2 : Nat))
  have t2 := vz2.other (p := ⟨w.heap.size + 1, 1, none⟩) (by simp) (.int .i64 (x2 : Nat))
  have T2 := Lib.hid (And.intro g2 (And.intro r2 (And.intro u2 t2)))
  clear g2 r2 u2 t2 vz2 vv2 hR2 hg2 c1 f1 T1
  go_wp2_with fail
  rw [rounds_succ]
  go_wp2_with fail
  refine (N3.out _ T2.out.2.1 (hr.out.stays HR.out T2.out.1)).mono ?_
  rintro e w3 ⟨rfl, hR3, hg3⟩
  have vz3 := T2.out.2.2.2.stays hg3 (by simp; omega)
  have vv3 := T2.out.2.2.1.stays hg3 (by simp; omega)
  have g3 : w.grownBy w3 (some R) := grownBy_trans T2.out.1 hg3
  have c31 : w3.cell? ⟨w.heap.size + 1, 0, none⟩ = some (.int .i64 (x1 : Nat)) := vv3.cellAt 0
  have c32 : w3.cell? ⟨w.heap.size + 1, 1, none⟩ = some (.int .i64 (x2 : Nat)) := vv3.cellAt 1
  have c33 : w3.cell? ⟨w.heap.size + 1, 2, none⟩ = some (.int .i64 0) := vv3.cellAt 2
  have f33 : w3.frozen? ⟨w.heap.size + 1, 2, none⟩ = false := vv3.free 2
  have z31 : w3.cell? ⟨w.heap.size, 0, none⟩ = some (.int .i64 0) := vz3.cellAt 0
  have z32 : w3.cell? ⟨w.heap.size, 1, none⟩ = some (.int .i64 0) := vz3.cellAt 1
  have z33 : w3.cell? ⟨w.heap.size, 2, none⟩ = some (.int .i64 0) := vz3.cellAt 2
  have y31 : w3.frozen? ⟨w.heap.size, 0, none⟩ = false := vz3.free 0
  have y32 : w3.frozen? ⟨w.heap.size, 1, none⟩ = false := vz3.free 1
  have y33 : w3.frozen? ⟨w.heap.size, 2, none⟩ = false := vz3.free 2
  have T3 := Lib.hid (And.intro g3 hR3)
  clear g3 hR3 hg3 vz3 vv3 c2 f2 T2
  go_wp2_with fail
  rw [rounds_succ]
  go_wp2
  refine bodyPost_ret (v := .agg #[.int .i64 (x1 : Nat), .int .i64 (x2 : Nat), .int .i64 (x3 : Nat)]) (by simp [results, Try.results90, go_sem, c31, c32, c33, z31, z32, z33]) rfl ⟨rfl, ?_, ?_⟩
  · exact (((T3.out.2.other (by simp; omega) _).other (by simp; omega) _).other (by simp; omega) _).other (by simp; omega) _
  · exact grown_above (grown_above (grown_above (grown_above T3.out.1 (by simp) _) (by simp) _) (by simp) _) (by simp) _

/-- A call has returned a slice of labels, in memory of its own. -/
def GotL (w : World) (l : List Lb) (v : Value) (w' : World) : Prop := OwnL w' w.heap.size v l

set_option maxHeartbeats 3200000 in
set_option maxRecDepth 100000 in
theorem rd_labels (R : Nat) (A : Option Addr) (n c : Nat) (l : List UInt8) (p : Int × Int) (w : World) (hR : RdP w R A n c p) (hn : Hid (n = l.length)) (hr : Hid (Rd w A l)) (hc : n ≤ c) (hc2 : c ≤ 9223372036854775807) :
    Calls Try.prog 91 #[.pointer (some ⟨R, 0, none⟩)] w fun e w' => ∃ v, e = .returned v ∧ GotL w (rLa l p).1 v w' ∧ RdP w' R A n c (rLa l p).2 ∧ w.grownBy w' (some R) := by
  have hle := rNu_le l 4 4 p
  obtain ⟨m, p0, h0⟩ : ∃ m q, rNu l 4 4 p = (m, q) := ⟨_, _, rfl⟩
  have hv : rLa l p = rLk l m p0 := by simp only [rLa, h0]
  have n0 := rd_upTo R A n c l 4 4 p w hR (by omega) (by omega) hn hr hc hc2
  rw [h0] at n0 hle
  rw [hv]
  have N0 := Lib.hid n0
  have hRl := hR.here
  have HR := Lib.hid hR
  simp only [] at hle
  clear n0 h0 hv hR
  obtain ⟨i0, hi, hz0, hz1, hz2⟩ := info_partsL info33
  go_enter Try.func91, Try.ntmps91
  go_wp2_with fail
  refine N0.out.mono ?_
  rintro e w1 ⟨rfl, hR1, hg1⟩
  have HR1 := Lib.hid hR1
  have HG1 := Lib.hid hg1
  clear hR1 hg1
  go_wp2_with fail
  go_loopw [4, 5, 9] (fun v _ i wr => ∃ k : Nat, k ≤ m ∧ i = .int .i64 k ∧ Hid (OwnL wr w.heap.size v (rLk l k p0).1) ∧ Hid (RdP wr R A n c (rLk l k p0).2) ∧ Hid (w.grownBy wr (some R))) (fun _ _ i wr => m - (intOf i).toNat)
  case atStart => exact ⟨0, Nat.zero_le _, rfl, OwnL.nil _ _, HR1.out, HG1.out⟩
  case round =>
    obtain ⟨k, hk, rfl, hO, hP, hG⟩ := hrel
    by_cases hlt : k < m
    · obtain ⟨ls, q, hq⟩ : ∃ a b, rLk l k p0 = (a, b) := ⟨_, _, rfl⟩
      obtain ⟨s1, q1, hs1⟩ : ∃ a b, rTx l q = (a, b) := ⟨_, _, rfl⟩
      obtain ⟨s2, q2, hs2⟩ : ∃ a b, rTx l q1 = (a, b) := ⟨_, _, rfl⟩
      have hS : rLk l (k + 1) p0 = (ls ++ [(s1, s2)], q2) := by rw [rLk_succ, hq]; simp only [hs1, hs2]
      have hlen : ls.length = k := by have := rLk_len l k p0; rw [hq] at this; exact this
      have n1 := fun W (hR : RdP W R A n c q) (hr : Rd W A l) => rd_text R A n c l q W hR hn (Lib.hid hr) hc hc2
      have n2 := fun W (hR : RdP W R A n c q1) (hr : Rd W A l) => rd_text R A n c l q1 W hR hn (Lib.hid hr) hc hc2
      rw [hs1] at n1
      rw [hs2] at n2
      rw [hq] at hO hP
      have N1 := Lib.hid n1
      have N2 := Lib.hid n2
      have HS := Lib.hid hS
      have HL := Lib.hid hlen
      clear n1 n2 hq hs1 hs2 hS hlen
      have hsz := hG.out.size
      have hRr : R < wr.heap.size := by omega
      go_wp2_with fail
      refine (N1.out _ (hP.out.alloc _) (hr.out.stays HR.out (grown_alloc hG.out _))).mono ?_
      rintro e w2 ⟨rfl, hR2, hg2⟩
      have b2 : Bk w2 wr.heap.size 58 #[.string ⟨#[]⟩, .string ⟨#[]⟩] := Bk.stays (Bk.fresh wr _ _) hg2 (by simp; omega)
      have c2 : w2.cell? ⟨wr.heap.size, 0, none⟩ = some (.string ⟨#[]⟩) := b2.cellAt 0
      have f2 : w2.frozen? ⟨wr.heap.size, 0, none⟩ = false := b2.free 0
      have z2 : wr.heap.size < w2.heap.size := b2.here
      have g2 : w.grownBy (w2.setCell ⟨wr.heap.size, 0, none⟩ (.string s1)) (some R) := grown_above (grownBy_trans (grown_alloc hG.out _) hg2) hsz _
      have r2 := hR2.other (q := ⟨wr.heap.size, 0, none⟩) (by simp; omega) (.string s1)
      have u2 := b2.put 0 (.string s1)
      have o2 : OwnL w2 w.heap.size _ ls := World.ownsRow.kept (World.ownsRow.alloc hO.out _) hg2 (.inr (fun e => own_ne hO.out hRl e.symm))
      have o2' : OwnL (w2.setCell ⟨wr.heap.size, 0, none⟩ (.string s1)) w.heap.size _ ls := World.ownsRow.kept (row := some wr.heap.size) o2 (grown_set (World.grownBy.refl _ _) _) (.inr (fun e => by have := (World.ownsRow.lt hO.out _ e).2; omega))
      have T2 := Lib.hid (And.intro g2 (And.intro r2 (And.intro u2 o2')))
      clear g2 r2 u2 o2 o2' b2 hR2 hg2
      go_wp2_with fail
      refine (N2.out _ T2.out.2.1 (hr.out.stays HR.out T2.out.1)).mono ?_
      rintro e w3 ⟨rfl, hR3, hg3⟩
      have b3 := T2.out.2.2.1.stays hg3 (by simp; omega)
      have c31 : w3.cell? ⟨wr.heap.size, 0, none⟩ = some (.string s1) := b3.cellAt 0
      have c32 : w3.cell? ⟨wr.heap.size, 1, none⟩ = some (.string ⟨#[]⟩) := b3.cellAt 1
      have f3 : w3.frozen? ⟨wr.heap.size, 1, none⟩ = false := b3.free 1
      have z3 : wr.heap.size < w3.heap.size := b3.here
      have g3 : w.grownBy (w3.setCell ⟨wr.heap.size, 1, none⟩ (.string s2)) (some R) := grown_above (grownBy_trans T2.out.1 hg3) hsz _
      have r3 := hR3.other (q := ⟨wr.heap.size, 1, none⟩) (by simp; omega) (.string s2)
      have o3 : OwnL w3 w.heap.size _ ls := World.ownsRow.kept T2.out.2.2.2 hg3 (.inr (fun e => own_ne T2.out.2.2.2 hRl e.symm))
      have o3' : OwnL (w3.setCell ⟨wr.heap.size, 1, none⟩ (.string s2)) w.heap.size _ ls := World.ownsRow.kept (row := some wr.heap.size) o3 (grown_set (World.grownBy.refl _ _) _) (.inr (fun e => by have := (World.ownsRow.lt hO.out _ e).2; omega))
      have T3 := Lib.hid (And.intro g3 (And.intro r3 o3'))
      clear g3 r3 o3 o3' b3 hR3 hg3 c2 f2
      have z3' : w.heap.size ≤ w3.heap.size := by omega
      go_wp2_with (at_builtin; refine wpList_append_l _ rfl _ _ 24 rfl w.heap.size i0 Try.underlying24 hi hz0 hz1 hz2 _ ls rfl (T3.out.2.2.alloc _) ⟨w3.heap.size, 0, none⟩ 1 1 [(s1, s2)] rfl (RdL.freshAt (w3.setCell ⟨wr.heap.size, 1, none⟩ (.string s2)) s1 s2 _ (by simp)) rfl (by have := HL.out; simp; omega) (by simp; omega) ?_)
      intro v' w5 ho5 hg5
      have g4 : w.grownBy ((w3.setCell ⟨wr.heap.size, 1, none⟩ (.string s2)).alloc (.cells #[.string s1, .string s2] 58)) (some R) := grown_alloc T3.out.1 _
      have g5 : w.grownBy w5 (some R) := grown_row g4 hg5 hO.out.block
      have r5 : RdP w5 R A n c q2 := (T3.out.2.1.alloc _).stays hg5 (own_ne hO.out hRl)
      have T5 := Lib.hid (And.intro g5 (And.intro r5 ho5))
      clear g4 g5 r5 ho5 hg5 c31 c32 f3
      go_wp2
      go_round
      case rel => exact ⟨k + 1, by omega, by go_num, (by show OwnL _ _ _ _; rw [HS.out]; exact T5.out.2.2), (by show RdP _ _ _ _ _ _; rw [HS.out]; exact T5.out.2.1), T5.out.1⟩
      case measure => simp [intOf]; omega
    · have hkm : k = m := by omega
      subst hkm
      go_wp2
      go_ret
      exact ⟨_, rfl, hO.out, hP.out, hG.out⟩
end Go.Proofs.Ytehkdaknhgmdkaa
