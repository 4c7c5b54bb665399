/- The document's own reader: the contracts of its Text, Number, amount, labels and done. Conditions: the reader lies in a block of its own; its bytes are a string that Go can have. -/
import Derived.Test.YtehkdaknhgmdkaaTks
import Derived.Test.YtehkdaknhgmdkaaRtk
namespace Go.Proofs.Ytehkdaknhgmdkaa
open Go.RowKit
set_option linter.unusedSimpArgs false
set_option linter.unusedVariables false

/-- The document's reader lies in block R: its bytes, its offset, its error. -/
def RdR (w : World) (R : Nat) (s : ByteArray) (p : Int × Int) : Prop :=
  ∃ at_ : Int, Bk w R 74 #[.string s, .int .i64 at_, .int .i64 p.2] ∧ (p.2 = 0 → at_ = p.1)
section
variable {w w' : World} {R : Nat} {s : ByteArray} {p : Int × Int}
theorem RdR.here (h : RdR w R s p) : R < w.heap.size := by obtain ⟨_, h, _⟩ := h; exact h.here
theorem RdR.later (h : RdR w R s p) (hb : Below w.heap.size w w') : RdR w' R s p := by obtain ⟨a, h, e⟩ := h; exact ⟨a, h.later hb, e⟩
theorem RdR.stays (h : RdR w R s p) {row : Option Nat} (hg : w.grownBy w' row) (hne : some R ≠ row) : RdR w' R s p := by obtain ⟨a, h, e⟩ := h; exact ⟨a, h.stays hg hne, e⟩
theorem RdR.other (h : RdR w R s p) {q : Addr} (hp : R ≠ q.block) (u : Value) : RdR (w.setCell q u) R s p := by obtain ⟨a, h, e⟩ := h; exact ⟨a, h.other hp u, e⟩
theorem RdR.alloc (h : RdR w R s p) (o : Obj) : RdR (w.alloc o) R s p := h.later ((Below.refl _ _).alloc (Nat.le_refl _) _)
end
theorem rtake_later (s : ByteArray) (at_ : Int) (w : World) (hs : s.size ≤ 9223372036854775807) :
    Calls Try.prog 76 #[.string s, .int .i64 at_] w fun e w' => e = ret3 .i64 (takeP s.data.toList at_) ∧ Below w.heap.size w w' :=
  (refTake_any s at_ w hs).mono fun _ _ ⟨he, hw⟩ => ⟨he, hw ▸ Below.refl _ _⟩
theorem rtakeText_later (s : ByteArray) (at_ m : Int) (w : World) (hs : s.size ≤ 9223372036854775807) (hm : m ≤ 9223372036854775807) :
    Calls Try.prog 80 #[.string s, .int .i64 at_, .int .i64 m] w fun e w' => e = retT .i64 (textP s.data.toList at_ m) ∧ Below w.heap.size w w' :=
  (refTakeText_any s at_ m w hs hm).mono fun _ _ ⟨he, hw⟩ => ⟨he, hw ▸ Below.refl _ _⟩

set_option maxHeartbeats 1600000 in
theorem rr_text (R : Nat) (s : ByteArray) (l : List UInt8) (p : Int × Int) (w : World) (hR : RdR w R s p) (hl : Hid (l = s.data.toList)) (hs : s.size ≤ 9223372036854775807) :
    Calls Try.prog 44 #[.pointer (some ⟨R, 0, none⟩), .int .i64 16] w fun e w' => e = .returned (.string (rTx l p).1) ∧ RdR w' R s (rTx l p).2 ∧ w.grownBy w' (some R) := by
  obtain ⟨at_, hB, hat⟩ := hR
  have k0 : w.cell? ⟨R, 0, none⟩ = some (.string s) := hB.cellAt 0
  have k1 : w.cell? ⟨R, 1, none⟩ = some (.int .i64 at_) := hB.cellAt 1
  have k2 : w.cell? ⟨R, 2, none⟩ = some (.int .i64 p.2) := hB.cellAt 2
  have hlt := hB.here
  by_cases h0 : p.2 = 0
  · have e := hat h0
    subst e
    rw [rTx_yes h0]
    rw [h0] at k2 hB
    have hcall := fun W => rtakeText_later s p.1 16 W hs (by omega)
    rw [← hl.out] at hcall
    unfold retT at hcall
    generalize textP l p.1 16 = r at hcall ⊢
    obtain ⟨t, nx, er⟩ := r
    simp only [] at hcall ⊢
    generalize (⟨t.toArray⟩ : ByteArray) = E at hcall ⊢
    obtain ⟨q, hq⟩ : ∃ q, q = p.1 := ⟨_, rfl⟩
    rw [← hq] at hcall k1 hB
    have HC := Lib.hid hcall
    have HB := Lib.hid hB
    clear hcall hB hat h0 hq
    by_cases he : er = 0
    case pos =>
      subst he
      go_enter Try.func44, Try.ntmps44
      go_wp2_with fail
      refine wp_region_later (by kernel_rfl) (by kernel_rfl) ?_; have hL : ∀ (w : World) (x : Later w) (b o : Nat), b < w.heap.size → x.to.cell? ⟨b, o, none⟩ = w.cell? ⟨b, o, none⟩ := fun w x b o hb => x.cell hb; have hN := Later.some; (repeat (go_big_quiet_step (((go_at_call 80; (with_reducible exact Later.call (HC.out _))))))); refine wpQuiet_nil ?_; intro w1 hw1; have hb1 := Later.out hw1; clear hw1 hL hN
      have HB1 := Lib.hid (HB.out.later hb1)
      have j1 : w1.cell? ⟨R, 1, none⟩ = some (.int .i64 q) := HB1.out.cellAt 1
      have j2 : w1.cell? ⟨R, 2, none⟩ = some (.int .i64 0) := HB1.out.cellAt 2
      have f1 : w1.frozen? ⟨R, 1, none⟩ = false := HB1.out.free 1
      have f2 : w1.frozen? ⟨R, 2, none⟩ = false := HB1.out.free 2
      clear k0 k1 k2
      go_wp2
      go_ret
      refine ⟨rfl, ⟨nx, by have := (HB1.out.put 2 (.int .i64 0)).put 1 (.int .i64 nx); simpa using this, fun _ => rfl⟩, grown_set (grown_set (below_grownBy hb1) _) _⟩
    case neg =>
      have he1 : (er == 0) = false := by simpa using he
      have he2 : (er != 0) = true := by simpa using he
      have HE := Lib.hid he
      clear he
      go_enter Try.func44, Try.ntmps44
      go_wp2_with fail
      refine wp_region_later (by kernel_rfl) (by kernel_rfl) ?_; have hL : ∀ (w : World) (x : Later w) (b o : Nat), b < w.heap.size → x.to.cell? ⟨b, o, none⟩ = w.cell? ⟨b, o, none⟩ := fun w x b o hb => x.cell hb; have hN := Later.some; (repeat (go_big_quiet_step (((go_at_call 80; (with_reducible exact Later.call (HC.out _))))))); refine wpQuiet_nil ?_; intro w1 hw1; have hb1 := Later.out hw1; clear hw1 hL hN
      have HB1 := Lib.hid (HB.out.later hb1)
      have j1 : w1.cell? ⟨R, 1, none⟩ = some (.int .i64 q) := HB1.out.cellAt 1
      have j2 : w1.cell? ⟨R, 2, none⟩ = some (.int .i64 0) := HB1.out.cellAt 2
      have f1 : w1.frozen? ⟨R, 1, none⟩ = false := HB1.out.free 1
      have f2 : w1.frozen? ⟨R, 2, none⟩ = false := HB1.out.free 2
      clear k0 k1 k2
      go_wp2
      go_ret
      refine ⟨rfl, ⟨q, by have := HB1.out.put 2 (.int .i64 er); simpa using this, fun h => absurd h HE.out⟩, grown_set (below_grownBy hb1) _⟩
  · rw [rTx_no h0]
    have h1 : (p.2 == 0) = false := by simpa using h0
    have h2 : (p.2 != 0) = true := by simpa using h0
    have HB := Lib.hid hB
    have HA := Lib.hid hat
    clear h0 hat hB
    go_enter Try.func44, Try.ntmps44
    go_wp2
    go_ret
    exact ⟨rfl, ⟨at_, HB.out, HA.out⟩, World.grownBy.refl _ _⟩

set_option maxHeartbeats 1600000 in
theorem rr_number (R : Nat) (s : ByteArray) (l : List UInt8) (m : Nat) (b : Int) (p : Int × Int) (w : World) (hR : RdR w R s p) (hm : m ≤ 1048576) (hb0 : ¬ b = 0) (hl : Hid (l = s.data.toList)) (hs : s.size ≤ 9223372036854775807) :
    Calls Try.prog 40 #[.pointer (some ⟨R, 0, none⟩), .int .i64 (m : Int), .int .i64 b] w fun e w' => e = .returned (.int .i64 ((rNu l m b p).1 : Nat)) ∧ RdR w' R s (rNu l m b p).2 ∧ w.grownBy w' (some R) := by
  obtain ⟨at_, hB, hat⟩ := hR
  have k0 : w.cell? ⟨R, 0, none⟩ = some (.string s) := hB.cellAt 0
  have k1 : w.cell? ⟨R, 1, none⟩ = some (.int .i64 at_) := hB.cellAt 1
  have k2 : w.cell? ⟨R, 2, none⟩ = some (.int .i64 p.2) := hB.cellAt 2
  have hlt := hB.here
  by_cases h0 : p.2 = 0
  · have e := hat h0
    subst e
    rw [rNu_yes h0]
    rw [h0] at k2 hB
    have hcall := fun W => rtake_later s p.1 W hs
    rw [← hl.out] at hcall
    have hno := @takeP_no l p.1
    unfold ret3 at hcall
    generalize takeP l p.1 = r at hcall hno ⊢
    obtain ⟨v, nx, er⟩ := r
    simp only [] at hcall hno ⊢
    obtain ⟨q, hq⟩ : ∃ q, q = p.1 := ⟨_, rfl⟩
    rw [← hq] at hcall k1 hB
    have HC := Lib.hid hcall
    have HB := Lib.hid hB
    have B0 := Lib.hid hb0
    have hb1 : (b == 0) = false := by simpa using hb0
    have hb2 : (b != 0) = true := by simpa using hb0
    clear hcall hB hat h0 hq hb0
    by_cases he : er = 0
    · subst he
      clear hno
      rw [if_pos rfl]
      by_cases hv : m < v
      · rw [if_pos hv]
        go_enter Try.func40, Try.ntmps40
        go_wp2_with fail
        refine wp_region_later (by kernel_rfl) (by kernel_rfl) ?_; have hL : ∀ (w : World) (x : Later w) (b o : Nat), b < w.heap.size → x.to.cell? ⟨b, o, none⟩ = w.cell? ⟨b, o, none⟩ := fun w x b o hb => x.cell hb; have hN := Later.some; (repeat (go_big_quiet_step (((go_at_call 76; (with_reducible exact Later.call (HC.out _))))))); refine wpQuiet_nil ?_; intro w1 hw1; have hb1 := Later.out hw1; clear hw1 hL hN
        have HB1 := Lib.hid (HB.out.later hb1)
        have j1 : w1.cell? ⟨R, 1, none⟩ = some (.int .i64 q) := HB1.out.cellAt 1
        have j2 : w1.cell? ⟨R, 2, none⟩ = some (.int .i64 0) := HB1.out.cellAt 2
        have f1 : w1.frozen? ⟨R, 1, none⟩ = false := HB1.out.free 1
        have f2 : w1.frozen? ⟨R, 2, none⟩ = false := HB1.out.free 2
        clear k0 k1 k2
        go_wp2
        go_ret
        refine ⟨rfl, ⟨q, by have := (HB1.out.put 2 (.int .i64 0)).put 2 (.int .i64 b); simpa using this, fun h => absurd h B0.out⟩, grown_set (grown_set (below_grownBy hb1) _) _⟩
      · rw [if_neg hv]
        have hv2 : v ≤ m := by omega
        clear hv
        go_enter Try.func40, Try.ntmps40
        go_wp2_with fail
        refine wp_region_later (by kernel_rfl) (by kernel_rfl) ?_; have hL : ∀ (w : World) (x : Later w) (b o : Nat), b < w.heap.size → x.to.cell? ⟨b, o, none⟩ = w.cell? ⟨b, o, none⟩ := fun w x b o hb => x.cell hb; have hN := Later.some; (repeat (go_big_quiet_step (((go_at_call 76; (with_reducible exact Later.call (HC.out _))))))); refine wpQuiet_nil ?_; intro w1 hw1; have hb1 := Later.out hw1; clear hw1 hL hN
        have HB1 := Lib.hid (HB.out.later hb1)
        have j1 : w1.cell? ⟨R, 1, none⟩ = some (.int .i64 q) := HB1.out.cellAt 1
        have j2 : w1.cell? ⟨R, 2, none⟩ = some (.int .i64 0) := HB1.out.cellAt 2
        have f1 : w1.frozen? ⟨R, 1, none⟩ = false := HB1.out.free 1
        have f2 : w1.frozen? ⟨R, 2, none⟩ = false := HB1.out.free 2
        clear k0 k1 k2
        go_wp2
        go_ret
        refine ⟨rfl, ⟨nx, by have := (HB1.out.put 2 (.int .i64 0)).put 1 (.int .i64 nx); simpa using this, fun _ => rfl⟩, grown_set (grown_set (below_grownBy hb1) _) _⟩
    · rw [if_neg he]
      obtain ⟨rfl, rfl⟩ := hno he
      have he1 : (er == 0) = false := by simpa using he
      have he2 : (er != 0) = true := by simpa using he
      have HE := Lib.hid he
      clear he hno
      go_enter Try.func40, Try.ntmps40
      go_wp2_with fail
      refine wp_region_later (by kernel_rfl) (by kernel_rfl) ?_; have hL : ∀ (w : World) (x : Later w) (b o : Nat), b < w.heap.size → x.to.cell? ⟨b, o, none⟩ = w.cell? ⟨b, o, none⟩ := fun w x b o hb => x.cell hb; have hN := Later.some; (repeat (go_big_quiet_step (((go_at_call 76; (with_reducible exact Later.call (HC.out _))))))); refine wpQuiet_nil ?_; intro w1 hw1; have hb1 := Later.out hw1; clear hw1 hL hN
      have HB1 := Lib.hid (HB.out.later hb1)
      have j1 : w1.cell? ⟨R, 1, none⟩ = some (.int .i64 q) := HB1.out.cellAt 1
      have j2 : w1.cell? ⟨R, 2, none⟩ = some (.int .i64 0) := HB1.out.cellAt 2
      have f1 : w1.frozen? ⟨R, 1, none⟩ = false := HB1.out.free 1
      have f2 : w1.frozen? ⟨R, 2, none⟩ = false := HB1.out.free 2
      clear k0 k1 k2
      go_wp2
      go_ret
      refine ⟨rfl, ⟨q, by have := HB1.out.put 2 (.int .i64 er); simpa using this, fun h => absurd h HE.out⟩, grown_set (below_grownBy hb1) _⟩
  · rw [rNu_no h0]
    have h1 : (p.2 == 0) = false := by simpa using h0
    have h2 : (p.2 != 0) = true := by simpa using h0
    have HB := Lib.hid hB
    have HA := Lib.hid hat
    clear h0 hat hB
    go_enter Try.func40, Try.ntmps40
    go_wp2
    go_ret
    exact ⟨rfl, ⟨at_, HB.out, HA.out⟩, World.grownBy.refl _ _⟩

set_option maxHeartbeats 1600000 in
theorem rr_done (R : Nat) (s : ByteArray) (ok : Bool) (p : Int × Int) (w : World) (hR : RdR w R s p) :
    Calls Try.prog 79 #[.pointer (some ⟨R, 0, none⟩), .bool ok] w fun e w' => e = .returned (.bool (decide ((rEnd ok p).2 = 0))) ∧ RdR w' R s (rEnd ok p) ∧ w.grownBy w' (some R) := by
  obtain ⟨at_, hB, hat⟩ := hR
  have k2 : w.cell? ⟨R, 2, none⟩ = some (.int .i64 p.2) := hB.cellAt 2
  have f2 : w.frozen? ⟨R, 2, none⟩ = false := hB.free 2
  have hlt := hB.here
  unfold rEnd
  by_cases h0 : p.2 = 0
  · have e := hat h0
    rw [if_pos h0]
    rw [h0] at k2 hB
    rw [e] at hB
    have HB := Lib.hid hB
    clear h0 hB hat e
    cases ok
    · rw [if_neg (by decide)]
      go_enter Try.func79, Try.ntmps79
      go_wp2
      go_ret
      exact ⟨rfl, ⟨p.1, by have := HB.out.put 2 (.int .i64 3); simpa using this, fun h => absurd h (by decide)⟩, grown_set (World.grownBy.refl _ _) _⟩
    · rw [if_pos rfl]
      go_enter Try.func79, Try.ntmps79
      go_wp2
      go_ret
      exact ⟨rfl, ⟨p.1, HB.out, fun _ => rfl⟩, World.grownBy.refl _ _⟩
  · rw [if_neg h0]
    have h1 : (p.2 == 0) = false := by simpa using h0
    have h2 : (p.2 != 0) = true := by simpa using h0
    have hd : decide (p.2 = 0) = false := decide_eq_false h0
    have HB := Lib.hid hB
    have H0 := Lib.hid h0
    simp only []
    rw [hd]
    clear h0 hB hat hd
    go_enter Try.func79, Try.ntmps79
    go_wp2
    go_ret
    exact ⟨rfl, ⟨at_, HB.out, fun h => absurd h H0.out⟩, World.grownBy.refl _ _⟩

set_option maxHeartbeats 3200000 in
set_option maxRecDepth 100000 in
theorem rr_amount (R : Nat) (s : ByteArray) (l : List UInt8) (p : Int × Int) (w : World) (hR : RdR w R s p) (hl : Hid (l = s.data.toList)) (hs : s.size ≤ 9223372036854775807) :
    Calls Try.prog 77 #[.pointer (some ⟨R, 0, none⟩)] w fun e w' => e = .returned (.agg #[.int .i64 ((rVe l p).1.1 : Nat), .int .i64 ((rVe l p).1.2.1 : Nat), .int .i64 ((rVe l p).1.2.2 : Nat)]) ∧ RdR w' R s (rVe l p).2 ∧ w.grownBy w' (some R) := by
  obtain ⟨x1, p1, h1⟩ : ∃ x q, rNu l 1048576 3 p = (x, q) := ⟨_, _, rfl⟩
  obtain ⟨x2, p2, h2⟩ : ∃ x q, rNu l 1048576 3 p1 = (x, q) := ⟨_, _, rfl⟩
  obtain ⟨x3, p3, h3⟩ : ∃ x q, rNu l 1048576 3 p2 = (x, q) := ⟨_, _, rfl⟩
  have hv : rVe l p = ((x1, x2, x3), p3) := by simp only [rVe, h1, h2, h3]
  rw [hv]
  have n1 := fun W (hR : RdR W R s p) => rr_number R s l 1048576 3 p W hR (by omega) (by omega) hl hs
  have n2 := fun W (hR : RdR W R s p1) => rr_number R s l 1048576 3 p1 W hR (by omega) (by omega) hl hs
  have n3 := fun W (hR : RdR W R s p2) => rr_number R s l 1048576 3 p2 W hR (by omega) (by omega) hl hs
  rw [h1] at n1
  rw [h2] at n2
  rw [h3] at n3
  have N1 := Lib.hid n1
  have N2 := Lib.hid n2
  have N3 := Lib.hid n3
  have hRl := hR.here
  have HR := Lib.hid hR
  clear n1 n2 n3 h1 h2 h3 hv hR
  have g0 : w.grownBy ((w.alloc (.cells #[.int .i64 0, .int .i64 0, .int .i64 0] 23)).alloc (.cells #[.int .i64 0, .int .i64 0, .int .i64 0] 23)) (some R) := grown_alloc (grown_alloc (World.grownBy.refl _ _) _) _
  have G0 := Lib.hid g0
  clear g0
  go_enter Try.func77, Try.ntmps77
  go_wp2_with fail
  refine wp_loop_rounds 4 ?_
  rw [rounds_succ]
  go_wp2_with fail
  refine (N1.out _ ((HR.out.alloc _).alloc _)).mono ?_
  rintro e w1 ⟨rfl, hR1, hg1⟩
  have vz1 : Bk w1 w.heap.size 23 #[.int .i64 0, .int .i64 0, .int .i64 0] := Bk.stays (Bk.later (Bk.fresh w _ _) ((Below.refl _ _).alloc (by simp) _)) hg1 (by simp; omega)
  have vv1 : Bk w1 (w.heap.size + 1) 23 #[.int .i64 0, .int .i64 0, .int .i64 0] := Bk.stays (Bk.freshAt _ _ _ (by simp)) hg1 (by simp; omega)
  have c1 : w1.cell? ⟨w.heap.size + 1, 0, none⟩ = some (.int .i64 0) := vv1.cellAt 0
  have f1 : w1.frozen? ⟨w.heap.size + 1, 0, none⟩ = false := vv1.free 0
  have g1 : w.grownBy (w1.setCell ⟨w.heap.size + 1, 0, none⟩ (.int .i64 (x1 : Nat))) (some R) := grown_above (grownBy_trans G0.out hg1) (by simp) _
  have r1 := hR1.other (q := ⟨w.heap.size + 1, 0, none⟩) (by simp; omega) (.int .i64 (x1 : Nat))
  have u1 := vv1.put 0 (.int .i64 (x1 : Nat))
  have t1 := vz1.other (p := ⟨w.heap.size + 1, 0, none⟩) (by simp) (.int .i64 (x1 : Nat))
  have T1 := Lib.hid (And.intro g1 (And.intro r1 (And.intro u1 t1)))
  clear g1 r1 u1 t1 vz1 vv1 hR1 hg1
  go_wp2_with fail
  rw [rounds_succ]
  go_wp2_with fail
  refine (N2.out _ T1.out.2.1).mono ?_
  rintro e w2 ⟨rfl, hR2, hg2⟩
  have vz2 := T1.out.2.2.2.stays hg2 (by simp; omega)
  have vv2 := T1.out.2.2.1.stays hg2 (by simp; omega)
  have c2 : w2.cell? ⟨w.heap.size + 1, 1, none⟩ = some (.int .i64 0) := vv2.cellAt 1
  have f2 : w2.frozen? ⟨w.heap.size + 1, 1, none⟩ = false := vv2.free 1
  have g2 : w.grownBy (w2.setCell ⟨w.heap.size + 1, 1, none⟩ (.int .i64 (x2 : Nat))) (some R) := grown_above (grownBy_trans T1.out.1 hg2) (by simp) _
  have r2 := hR2.other (q := ⟨w.heap.size + 1, 1, none⟩) (by simp; omega) (.int .i64 (x2 : Nat))
  have u2 := vv2.put 1 (.int .i64 (x2 : Nat))
  have t2 := vz2.other (p := ⟨w.heap.size + 1, 1, none⟩) (by simp) (.int .i64 (x2 : Nat))
  have T2 := Lib.hid (And.intro g2 (And.intro r2 (And.intro u2 t2)))
  clear g2 r2 u2 t2 vz2 vv2 hR2 hg2 c1 f1 T1
  go_wp2_with fail
  rw [rounds_succ]
  go_wp2_with fail
  refine (N3.out _ T2.out.2.1).mono ?_
  rintro e w3 ⟨rfl, hR3, hg3⟩
  have vz3 := T2.out.2.2.2.stays hg3 (by simp; omega)
  have vv3 := T2.out.2.2.1.stays hg3 (by simp; omega)
  have g3 : w.grownBy w3 (some R) := grownBy_trans T2.out.1 hg3
  have c31 : w3.cell? ⟨w.heap.size + 1, 0, none⟩ = some (.int .i64 (x1 : Nat)) := vv3.cellAt 0
  have c32 : w3.cell? ⟨w.heap.size + 1, 1, none⟩ = some (.int .i64 (x2 : Nat)) := vv3.cellAt 1
  have c33 : w3.cell? ⟨w.heap.size + 1, 2, none⟩ = some (.int .i64 0) := vv3.cellAt 2
  have f33 : w3.frozen? ⟨w.heap.size + 1, 2, none⟩ = false := vv3.free 2
  have z31 : w3.cell? ⟨w.heap.size, 0, none⟩ = some (.int .i64 0) := vz3.cellAt 0
  have z32 : w3.cell? ⟨w.heap.size, 1, none⟩ = some (.int .i64 0) := vz3.cellAt 1
  have z33 : w3.cell? ⟨w.heap.size, 2, none⟩ = some (.int .i64 0) := vz3.cellAt 2
  have y31 : w3.frozen? ⟨w.heap.size, 0, none⟩ = false := vz3.free 0
  have y32 : w3.frozen? ⟨w.heap.size, 1, none⟩ = false := vz3.free 1
  have y33 : w3.frozen? ⟨w.heap.size, 2, none⟩ = false := vz3.free 2
  have T3 := Lib.hid (And.intro g3 hR3)
  clear g3 hR3 hg3 vz3 vv3 c2 f2 T2
  go_wp2_with fail
  rw [rounds_succ]
  go_wp2
  refine bodyPost_ret (v := .agg #[.int .i64 (x1 : Nat), .int .i64 (x2 : Nat), .int .i64 (x3 : Nat)]) (by simp [results, Try.results77, go_sem, c31, c32, c33, z31, z32, z33]) rfl ⟨rfl, ?_, ?_⟩
  · exact (((T3.out.2.other (by simp; omega) _).other (by simp; omega) _).other (by simp; omega) _).other (by simp; omega) _
  · exact grown_above (grown_above (grown_above (grown_above T3.out.1 (by simp) _) (by simp) _) (by simp) _) (by simp) _

set_option maxHeartbeats 3200000 in
set_option maxRecDepth 100000 in
theorem rr_labels (R : Nat) (s : ByteArray) (l : List UInt8) (p : Int × Int) (w : World) (hR : RdR w R s p) (hl : Hid (l = s.data.toList)) (hs : s.size ≤ 9223372036854775807) :
    Calls Try.prog 78 #[.pointer (some ⟨R, 0, none⟩)] w fun e w' => ∃ v, e = .returned v ∧ GotL w (rLa l p).1 v w' ∧ RdR w' R s (rLa l p).2 ∧ w.grownBy w' (some R) := by
  have hle := rNu_le l 4 4 p
  obtain ⟨m, p0, h0⟩ : ∃ m q, rNu l 4 4 p = (m, q) := ⟨_, _, rfl⟩
  have hv : rLa l p = rLk l m p0 := by simp only [rLa, h0]
  have n0 := rr_number R s l 4 4 p w hR (by omega) (by omega) hl hs
  rw [h0] at n0 hle
  rw [hv]
  have N0 := Lib.hid n0
  have hRl := hR.here
  have HR := Lib.hid hR
  simp only [] at hle
  clear n0 h0 hv hR
  obtain ⟨i0, hi, hz0, hz1, hz2⟩ := info_partsL info33
  go_enter Try.func78, Try.ntmps78
  go_wp2_with fail
  refine N0.out.mono ?_
  rintro e w1 ⟨rfl, hR1, hg1⟩
  have HR1 := Lib.hid hR1
  have HG1 := Lib.hid hg1
  clear hR1 hg1
  go_wp2_with fail
  go_loopw [3, 5] (fun v i wr => ∃ k : Nat, k ≤ m ∧ i = .int .i64 k ∧ Hid (OwnL wr w.heap.size v (rLk l k p0).1) ∧ Hid (RdR wr R s (rLk l k p0).2) ∧ Hid (w.grownBy wr (some R))) (fun _ i wr => m - (intOf i).toNat)
  case atStart => exact ⟨0, Nat.zero_le _, rfl, OwnL.nil _ _, HR1.out, HG1.out⟩
  case round =>
    obtain ⟨k, hk, rfl, hO, hP, hG⟩ := hrel
    by_cases hlt : k < m
    · obtain ⟨ls, q, hq⟩ : ∃ a b, rLk l k p0 = (a, b) := ⟨_, _, rfl⟩
      obtain ⟨s1, q1, hs1⟩ : ∃ a b, rTx l q = (a, b) := ⟨_, _, rfl⟩
      obtain ⟨s2, q2, hs2⟩ : ∃ a b, rTx l q1 = (a, b) := ⟨_, _, rfl⟩
      have hS : rLk l (k + 1) p0 = (ls ++ [(s1, s2)], q2) := by rw [rLk_succ, hq]; simp only [hs1, hs2]
      have hlen : ls.length = k := by have := rLk_len l k p0; rw [hq] at this; exact this
      have n1 := fun W (hR : RdR W R s q) => rr_text R s l q W hR hl hs
      have n2 := fun W (hR : RdR W R s q1) => rr_text R s l q1 W hR hl hs
      rw [hs1] at n1
      rw [hs2] at n2
      rw [hq] at hO hP
      have N1 := Lib.hid n1
      have N2 := Lib.hid n2
      have HS := Lib.hid hS
      have HL := Lib.hid hlen
      clear n1 n2 hq hs1 hs2 hS hlen
      have hsz := hG.out.size
      have hRr : R < wr.heap.size := by omega
      go_wp2_with fail
      refine (N1.out _ hP.out).mono ?_
      rintro e w2 ⟨rfl, hR2, hg2⟩
      have o2 : OwnL w2 w.heap.size _ ls := hO.out.stays hg2 hRl
      have T2 := Lib.hid (And.intro (grownBy_trans hG.out hg2) (And.intro hR2 o2))
      clear o2 hR2 hg2
      go_wp2_with fail
      refine (N2.out _ T2.out.2.1).mono ?_
      rintro e w3 ⟨rfl, hR3, hg3⟩
      have o3 : OwnL w3 w.heap.size _ ls := T2.out.2.2.stays hg3 hRl
      have T3 := Lib.hid (And.intro (grownBy_trans T2.out.1 hg3) (And.intro hR3 o3))
      have z3' : w.heap.size ≤ w3.heap.size := T3.out.1.size
      clear o3 hR3 hg3
      go_wp2_with (at_builtin; refine wpList_append_l _ rfl _ _ 24 rfl w.heap.size i0 Try.underlying24 hi hz0 hz1 hz2 _ ls rfl (T3.out.2.2.alloc _) ⟨w3.heap.size, 0, none⟩ 1 1 [(s1, s2)] rfl (RdL.freshAt w3 s1 s2 _ rfl) rfl (by have := HL.out; simp; omega) (by simp; omega) ?_)
      intro v' w5 ho5 hg5
      have g5 : w.grownBy w5 (some R) := grown_row (grown_alloc T3.out.1 _) hg5 hO.out.block
      have r5 : RdR w5 R s q2 := (T3.out.2.1.alloc _).stays hg5 (own_ne hO.out hRl)
      have T5 := Lib.hid (And.intro g5 (And.intro r5 ho5))
      clear g5 r5 ho5 hg5
      go_wp2
      go_round
      case rel => exact ⟨k + 1, by omega, by go_num, (by show OwnL _ _ _ _; rw [HS.out]; exact T5.out.2.2), (by show RdR _ _ _ _; rw [HS.out]; exact T5.out.2.1), T5.out.1⟩
      case measure => simp [intOf]; omega
    · have hkm : k = m := by omega
      subst hkm
      go_wp2
      go_ret
      exact ⟨_, rfl, hO.out, hP.out, hG.out⟩
end Go.Proofs.Ytehkdaknhgmdkaa
