/- The reader's parts: the contracts of the reader's text, upTo, number and end. Conditions: the reader lies in a block of its own; the bytes are ones that Go can have. -/
import Derived.Test.YtehkdaknhgmdkaaPrd
import Derived.Test.YtehkdaknhgmdkaaLat
namespace Go.Proofs.Ytehkdaknhgmdkaa
open Go.RowKit
set_option linter.unusedSimpArgs false
set_option linter.unusedVariables false

/-- The block g is just these cells. -/
def Bk (w : World) (g : Nat) (t : TypeId) (cs : Array Value) : Prop := w.heap[g]? = some (.cells cs t (0, 0))
section
variable {w w' : World} {g : Nat} {t : TypeId} {cs : Array Value}
theorem Bk.here (h : Bk w g t cs) : g < w.heap.size := by
  by_cases hg : g < w.heap.size
  · exact hg
  · have e : w.heap[g]? = none := by rw [Array.getElem?_eq_none_iff]; omega
    unfold Bk at h; rw [e] at h; cases h
theorem Bk.cellAt (h : Bk w g t cs) (i : Nat) : w.cell? ⟨g, i, none⟩ = cs[i]? := cell_of_row w g i cs t (0, 0) h
theorem Bk.free (h : Bk w g t cs) (i : Nat) : w.frozen? ⟨g, i, none⟩ = false := by
  unfold Bk at h; simp [World.frozen?, h]
theorem Bk.put (h : Bk w g t cs) (i : Nat) (u : Value) : Bk (w.setCell ⟨g, i, none⟩ u) g t (cs.setIfInBounds i u) := heap_setCell_same w g i cs t u h
theorem Bk.later (h : Bk w g t cs) (hb : Below w.heap.size w w') : Bk w' g t cs := (hb.block g h.here).trans h
theorem Bk.stays (h : Bk w g t cs) {row : Option Nat} (hb : w.grownBy w' row) (hg : some g ≠ row) : Bk w' g t cs := (hb.block g h.here hg).trans h
theorem Bk.fresh (w : World) (t : TypeId) (cs : Array Value) : Bk (w.alloc (.cells cs t)) w.heap.size t cs := heap_alloc_new w _
theorem Bk.other (h : Bk w g t cs) {p : Addr} (hp : g ≠ p.block) (u : Value) : Bk (w.setCell p u) g t cs := (Below.heap_setCell w p u g hp).trans h
end
theorem grown_set {a w : World} {g i : Nat} (h : a.grownBy w (some g)) (u : Value) : a.grownBy (w.setCell ⟨g, i, none⟩ u) (some g) :=
  ⟨h.os, h.tape, h.output, by simpa using h.size, fun k hk hne => (Below.heap_setCell w ⟨g, i, none⟩ u k (fun e => hne (by rw [e]))).trans (h.block k hk hne)⟩

/-- The program's reader lies in block R: its bytes, its offset, its error. -/
def RdP (w : World) (R : Nat) (A : Option Addr) (n c : Nat) (p : Int × Int) : Prop :=
  ∃ at_ : Int, Bk w R 122 #[.slice A n c, .int .i64 at_, .int .i64 p.2] ∧ (p.2 = 0 → at_ = p.1)

theorem Rd.stays {w w' : World} {R : Nat} {A : Option Addr} {n c : Nat} {p : Int × Int} {B : Option Addr} {l : List UInt8} (h : Rd w B l) (hR : RdP w R A n c p) (hg : w.grownBy w' (some R)) : Rd w' B l := by
  intro i b hb
  obtain ⟨g, o, ha, hc⟩ := h i b hb
  refine ⟨g, o, ha, hg.cell hc ?_⟩
  intro e
  injection e with e
  simp only [] at e
  subst e
  obtain ⟨a, hB, _⟩ := hR
  rw [hB.cellAt] at hc
  match hk : o + i, hc with
  | 0, hc => simp at hc
  | 1, hc => simp at hc
  | 2, hc => simp at hc
  | k + 3, hc => simp at hc

set_option maxHeartbeats 1600000 in
theorem rd_text (R : Nat) (A : Option Addr) (n c : Nat) (l : List UInt8) (p : Int × Int) (w : World) (hR : RdP w R A n c p) (hn : Hid (n = l.length)) (hr : Hid (Rd w A l)) (hc : n ≤ c) (hc2 : c ≤ 9223372036854775807) :
    Calls Try.prog 89 #[.pointer (some ⟨R, 0, none⟩)] w fun e w' => e = .returned (.string (rTx l p).1) ∧ RdP w' R A n c (rTx l p).2 ∧ w.grownBy w' (some R) := by
  obtain ⟨at_, hB, hat⟩ := hR
  have k0 : w.cell? ⟨R, 0, none⟩ = some (.slice A n c) := hB.cellAt 0
  have k1 : w.cell? ⟨R, 1, none⟩ = some (.int .i64 at_) := hB.cellAt 1
  have k2 : w.cell? ⟨R, 2, none⟩ = some (.int .i64 p.2) := hB.cellAt 2
  have hlt := hB.here
  by_cases h0 : p.2 = 0
  · have e := hat h0
    subst e
    rw [rTx_yes h0]
    rw [h0] at k2 hB
    have hcall := fun W (h : Rd W A l) => takeText_any A c n p.1 16 l W hn (Lib.hid h) hc hc2 (by omega)
    unfold retT at hcall
    generalize textP l p.1 16 = r at hcall ⊢
    obtain ⟨s, nx, er⟩ := r
    simp only [] at hcall ⊢
    generalize (⟨s.toArray⟩ : ByteArray) = E at hcall ⊢
    obtain ⟨q, hq⟩ : ∃ q, q = p.1 := ⟨_, rfl⟩
    rw [← hq] at hcall k1 hB
    have HC := Lib.hid hcall
    have HB := Lib.hid hB
    clear hcall hB hat h0 hq
    go_enter Try.func89, Try.ntmps89
    go_wp2_with fail
    refine wp_region_later (by kernel_rfl) (by kernel_rfl) ?_; have hL : ∀ (w : World) (x : Later w) (b o : Nat), b < w.heap.size → x.to.cell? ⟨b, o, none⟩ = w.cell? ⟨b, o, none⟩ := fun w x b o hb => x.cell hb; have hN := Later.some; (repeat (go_big_quiet_step (((go_at_call 94; (with_reducible exact Later.call (HC.out _ (Rd.below hr.out (Later.below _))))))))); refine wpQuiet_nil ?_; intro w1 hw1; have hb1 := Later.out hw1; clear hw1 hL hN
    have HB1 := Lib.hid (HB.out.later hb1)
    have j1 : w1.cell? ⟨R, 1, none⟩ = some (.int .i64 q) := HB1.out.cellAt 1
    have j2 : w1.cell? ⟨R, 2, none⟩ = some (.int .i64 0) := HB1.out.cellAt 2
    have f1 : w1.frozen? ⟨R, 1, none⟩ = false := HB1.out.free 1
    have f2 : w1.frozen? ⟨R, 2, none⟩ = false := HB1.out.free 2
    clear k0 k1 k2
    go_wp2
    go_ret
    refine ⟨rfl, ⟨nx, by have := (HB1.out.put 1 (.int .i64 nx)).put 2 (.int .i64 er); simpa using this, fun _ => rfl⟩, grown_set (grown_set (below_grownBy hb1) _) _⟩
  · rw [rTx_no h0]
    have h1 : (p.2 == 0) = false := by simpa using h0
    have h2 : (p.2 != 0) = true := by simpa using h0
    have HB := Lib.hid hB
    have HA := Lib.hid hat
    clear h0 hat hB
    go_enter Try.func89, Try.ntmps89
    go_wp2
    go_ret
    exact ⟨rfl, ⟨at_, HB.out, HA.out⟩, World.grownBy.refl _ _⟩

set_option maxHeartbeats 1600000 in
theorem rd_upTo (R : Nat) (A : Option Addr) (n c : Nat) (l : List UInt8) (m : Nat) (b : Int) (p : Int × Int) (w : World) (hR : RdP w R A n c p) (hm : m ≤ 1048576) (hb0 : ¬ b = 0) (hn : Hid (n = l.length)) (hr : Hid (Rd w A l)) (hc : n ≤ c) (hc2 : c ≤ 9223372036854775807) :
    Calls Try.prog 95 #[.pointer (some ⟨R, 0, none⟩), .int .u64 (m : Int), .int .i64 b] w fun e w' => e = .returned (.int .i64 ((rNu l m b p).1 : Nat)) ∧ RdP w' R A n c (rNu l m b p).2 ∧ w.grownBy w' (some R) := by
  obtain ⟨at_, hB, hat⟩ := hR
  have k0 : w.cell? ⟨R, 0, none⟩ = some (.slice A n c) := hB.cellAt 0
  have k1 : w.cell? ⟨R, 1, none⟩ = some (.int .i64 at_) := hB.cellAt 1
  have k2 : w.cell? ⟨R, 2, none⟩ = some (.int .i64 p.2) := hB.cellAt 2
  have hlt := hB.here
  by_cases h0 : p.2 = 0
  · have e := hat h0
    subst e
    rw [rNu_yes h0]
    rw [h0] at k2 hB
    have hcall := fun W (h : Rd W A l) => take_any A c n p.1 l W hn (Lib.hid h) hc hc2
    have hno := @takeP_no l p.1
    unfold ret3 at hcall
    generalize takeP l p.1 = r at hcall hno ⊢
    obtain ⟨v, nx, er⟩ := r
    simp only [] at hcall hno ⊢
    obtain ⟨q, hq⟩ : ∃ q, q = p.1 := ⟨_, rfl⟩
    rw [← hq] at hcall k1 hB
    have HC := Lib.hid hcall
    have HB := Lib.hid hB
    have B0 := Lib.hid hb0
    clear hcall hB hat h0 hq hb0
    by_cases he : er = 0
    · subst he
      clear hno
      rw [if_pos rfl]
      by_cases hv : m < v
      · rw [if_pos hv]
        go_enter Try.func95, Try.ntmps95
        go_wp2_with fail
        refine wp_region_later (by kernel_rfl) (by kernel_rfl) ?_; have hL : ∀ (w : World) (x : Later w) (b o : Nat), b < w.heap.size → x.to.cell? ⟨b, o, none⟩ = w.cell? ⟨b, o, none⟩ := fun w x b o hb => x.cell hb; have hN := Later.some; (repeat (go_big_quiet_step (((go_at_call 71; (with_reducible exact Later.call (HC.out _ (Rd.below hr.out (Later.below _))))))))); refine wpQuiet_nil ?_; intro w1 hw1; have hb1 := Later.out hw1; clear hw1 hL hN
        have HB1 := Lib.hid (HB.out.later hb1)
        have j1 : w1.cell? ⟨R, 1, none⟩ = some (.int .i64 q) := HB1.out.cellAt 1
        have j2 : w1.cell? ⟨R, 2, none⟩ = some (.int .i64 0) := HB1.out.cellAt 2
        have f1 : w1.frozen? ⟨R, 1, none⟩ = false := HB1.out.free 1
        have f2 : w1.frozen? ⟨R, 2, none⟩ = false := HB1.out.free 2
        clear k0 k1 k2
        go_wp2
        go_ret
        refine ⟨rfl, ⟨nx, by have := (HB1.out.put 1 (.int .i64 nx)).put 2 (.int .i64 b); simpa using this, fun h => absurd h B0.out⟩, grown_set (grown_set (below_grownBy hb1) _) _⟩
      · rw [if_neg hv]
        have hv2 : v ≤ m := by omega
        clear hv
        go_enter Try.func95, Try.ntmps95
        go_wp2_with fail
        refine wp_region_later (by kernel_rfl) (by kernel_rfl) ?_; have hL : ∀ (w : World) (x : Later w) (b o : Nat), b < w.heap.size → x.to.cell? ⟨b, o, none⟩ = w.cell? ⟨b, o, none⟩ := fun w x b o hb => x.cell hb; have hN := Later.some; (repeat (go_big_quiet_step (((go_at_call 71; (with_reducible exact Later.call (HC.out _ (Rd.below hr.out (Later.below _))))))))); refine wpQuiet_nil ?_; intro w1 hw1; have hb1 := Later.out hw1; clear hw1 hL hN
        have HB1 := Lib.hid (HB.out.later hb1)
        have j1 : w1.cell? ⟨R, 1, none⟩ = some (.int .i64 q) := HB1.out.cellAt 1
        have j2 : w1.cell? ⟨R, 2, none⟩ = some (.int .i64 0) := HB1.out.cellAt 2
        have f1 : w1.frozen? ⟨R, 1, none⟩ = false := HB1.out.free 1
        have f2 : w1.frozen? ⟨R, 2, none⟩ = false := HB1.out.free 2
        clear k0 k1 k2
        go_wp2
        go_ret
        refine ⟨rfl, ⟨nx, by have := (HB1.out.put 1 (.int .i64 nx)).put 2 (.int .i64 0); simpa using this, fun _ => rfl⟩, grown_set (grown_set (below_grownBy hb1) _) _⟩
    · rw [if_neg he]
      obtain ⟨rfl, rfl⟩ := hno he
      have he1 : (er == 0) = false := by simpa using he
      have he2 : (er != 0) = true := by simpa using he
      have HE := Lib.hid he
      clear he hno
      go_enter Try.func95, Try.ntmps95
      go_wp2_with fail
      refine wp_region_later (by kernel_rfl) (by kernel_rfl) ?_; have hL : ∀ (w : World) (x : Later w) (b o : Nat), b < w.heap.size → x.to.cell? ⟨b, o, none⟩ = w.cell? ⟨b, o, none⟩ := fun w x b o hb => x.cell hb; have hN := Later.some; (repeat (go_big_quiet_step (((go_at_call 71; (with_reducible exact Later.call (HC.out _ (Rd.below hr.out (Later.below _))))))))); refine wpQuiet_nil ?_; intro w1 hw1; have hb1 := Later.out hw1; clear hw1 hL hN
      have HB1 := Lib.hid (HB.out.later hb1)
      have j1 : w1.cell? ⟨R, 1, none⟩ = some (.int .i64 q) := HB1.out.cellAt 1
      have j2 : w1.cell? ⟨R, 2, none⟩ = some (.int .i64 0) := HB1.out.cellAt 2
      have f1 : w1.frozen? ⟨R, 1, none⟩ = false := HB1.out.free 1
      have f2 : w1.frozen? ⟨R, 2, none⟩ = false := HB1.out.free 2
      clear k0 k1 k2
      go_wp2
      go_ret
      refine ⟨rfl, ⟨0, by have := (HB1.out.put 1 (.int .i64 0)).put 2 (.int .i64 er); simpa using this, fun h => absurd h HE.out⟩, grown_set (grown_set (below_grownBy hb1) _) _⟩
  · rw [rNu_no h0]
    have h1 : (p.2 == 0) = false := by simpa using h0
    have h2 : (p.2 != 0) = true := by simpa using h0
    have HB := Lib.hid hB
    have HA := Lib.hid hat
    clear h0 hat hB
    go_enter Try.func95, Try.ntmps95
    go_wp2
    go_ret
    exact ⟨rfl, ⟨at_, HB.out, HA.out⟩, World.grownBy.refl _ _⟩

set_option maxHeartbeats 800000 in
theorem rd_number (R : Nat) (A : Option Addr) (n c : Nat) (l : List UInt8) (p : Int × Int) (w : World) (hR : RdP w R A n c p) (hn : Hid (n = l.length)) (hr : Hid (Rd w A l)) (hc : n ≤ c) (hc2 : c ≤ 9223372036854775807) :
    Calls Try.prog 93 #[.pointer (some ⟨R, 0, none⟩)] w fun e w' => e = .returned (.int .i64 ((rNu l 1048576 3 p).1 : Nat)) ∧ RdP w' R A n c (rNu l 1048576 3 p).2 ∧ w.grownBy w' (some R) := by
  have h := rd_upTo R A n c l 1048576 3 p w hR (by omega) (by omega) hn hr hc hc2
  have H := Lib.hid h
  clear h
  go_enter Try.func93, Try.ntmps93
  go_wp2_with fail
  refine H.out.mono ?_
  rintro e w1 ⟨rfl, hR1, hg1⟩
  go_wp2
  go_ret
  exact ⟨rfl, hR1, hg1⟩

/-- Two numbers as a call returns them. -/
def ret2 (r : Int × Int) : Ending := .returned (.tuple #[.int .i64 r.1, .int .i64 r.2])
set_option maxHeartbeats 1600000 in
theorem rd_end (R : Nat) (A : Option Addr) (n c : Nat) (ok : Bool) (p : Int × Int) (w : World) (hR : RdP w R A n c p) :
    Calls Try.prog 92 #[.pointer (some ⟨R, 0, none⟩), .bool ok] w fun e w' => e = ret2 (rEnd ok p) ∧ Below w.heap.size w w' := by
  obtain ⟨at_, hB, hat⟩ := hR
  have k1 : w.cell? ⟨R, 1, none⟩ = some (.int .i64 at_) := hB.cellAt 1
  have k2 : w.cell? ⟨R, 2, none⟩ = some (.int .i64 p.2) := hB.cellAt 2
  have hlt := hB.here
  unfold rEnd
  by_cases h0 : p.2 = 0
  · have e := hat h0
    rw [if_pos h0]
    rw [h0] at k2
    rw [e] at k1
    clear h0 hB hat e
    cases ok
    · rw [if_neg (by decide)]
      go_enter Try.func92, Try.ntmps92
      go_wp2
      go_ret2
      exact ⟨rfl, Below.refl _ _⟩
    · rw [if_pos rfl]
      go_enter Try.func92, Try.ntmps92
      go_wp2
      go_ret2
      exact ⟨rfl, Below.refl _ _⟩
  · rw [if_neg h0]
    have h1 : (p.2 == 0) = false := by simpa using h0
    have h2 : (p.2 != 0) = true := by simpa using h0
    clear h0 hB hat
    go_enter Try.func92, Try.ntmps92
    go_wp2_with fail
    go_quiet (fail)
    go_wp2
    go_ret2
    exact ⟨rfl, bdrewN (Below.refl _ _) _⟩
end Go.Proofs.Ytehkdaknhgmdkaa
