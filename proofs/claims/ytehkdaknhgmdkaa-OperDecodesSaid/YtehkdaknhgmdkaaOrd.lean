/- The contract of the document's own Decode: what bytes are decoded as. Condition: the string is one that Go can have. -/
import Derived.Test.YtehkdaknhgmdkaaOdd
import Derived.Test.YtehkdaknhgmdkaaRrn
namespace Go.Proofs.Ytehkdaknhgmdkaa
open Go.RowKit
set_option linter.unusedSimpArgs false
set_option linter.unusedVariables false

theorem rNu_bad {l : List UInt8} {k : Nat} {p e : Int} (h : takeP l 0 = (k, p, e)) (hk : ¬ e = 0 ∨ (e = 0 ∧ 9 < k)) : ∃ q E, rNu l 9 3 (0, 0) = (0, (q, E)) ∧ ¬ E = 0 ∧ dOp l = (Ov.zero, E) := by
  by_cases h0 : e = 0
  · have hk2 : 9 < k := by rcases hk with hk | hk; exact absurd h0 hk; exact hk.2
    subst h0
    refine ⟨0, 3, ?_, by decide, ?_⟩
    · unfold rNu; rw [if_pos rfl, h]; simp only []; rw [if_pos trivial, if_pos hk2]
    · unfold dOp; rw [pTake_other h (by omega)]; exact opFin_no (by decide)
  · refine ⟨p, e, ?_, h0, ?_⟩
    · unfold rNu; rw [if_pos rfl, h]; simp only []; rw [if_neg h0]
    · unfold dOp; rw [pTake_no h h0]; exact opFin_no h0
theorem rNu_good {l : List UInt8} {k : Nat} {p : Int} (h : takeP l 0 = (k, p, 0)) (hk : k ≤ 9) : rNu l 9 3 (0, 0) = (k, (p, 0)) := by
  unfold rNu; rw [if_pos rfl, h]; simp only []; rw [if_pos trivial, if_neg (by omega)]
theorem tName_rTx {l : List UInt8} {p : Int} : tName l p = ((rTx l (p, 0)).1, ((rTx l (p, 0)).2.1, if (rTx l (p, 0)).2.2 = 0 then (if nameB (rTx l (p, 0)).1 then 0 else 3) else (rTx l (p, 0)).2.2)) := by
  rw [rTx_yes (l := l) (p := (p, (0 : Int))) rfl]; rfl

set_option maxHeartbeats 12800000 in
set_option maxRecDepth 100000 in
theorem rDecode_any (s : ByteArray) (l : List UInt8) (w : World) (hl : Hid (l = s.data.toList)) (hs : s.size ≤ 9223372036854775807) : Calls Try.prog 15 #[.string s] w (GotO w (dOp l)) := by
  have hsl : Hid (s.size = l.length) := by show _ = _; rw [hl.out]; exact (str_len s).symm
  have kn := fun W (hR : RdR W (w.heap.size + 1) s (0, 0)) => rr_number (w.heap.size + 1) s l 9 3 (0, 0) W hR (by decide) (by decide) hl hs
  obtain ⟨D, hD⟩ : ∃ D, D = dOp l := ⟨_, rfl⟩
  rw [← hD]
  obtain ⟨k, p, e, ht⟩ : ∃ a b c, takeP l 0 = (a, b, c) := ⟨_, _, _, rfl⟩
  have hE0 : Hid ((0 : Int) = 0) := rfl
  by_cases hbad : ¬ e = 0 ∨ (e = 0 ∧ 9 < k)
  case pos =>
    obtain ⟨q, E, h1, h2, h3⟩ := rNu_bad ht hbad
    rw [h1] at kn
    simp only [] at kn
    have HE := Lib.hid (hD.trans h3)
    have e1 : (E == 0) = false := by simpa using h2
    have e2 : (E != 0) = true := by simpa using h2
    have KN := Lib.hid kn
    clear kn ht hbad h1 h2 h3 hD
    go_enter Try.func15, Try.ntmps15
    go_wp2_with fail
    have hR0 : RdR ((w.alloc (.cells #[.int .i64 0, .string ⟨#[]⟩, .int .i64 0, .int .i64 0, .int .i64 0, .slice none 0 0, .string ⟨#[]⟩, .int .i64 0, .int .i64 0, .int .i64 0, .string ⟨#[]⟩, .string ⟨#[]⟩, .int .i64 0, .int .i64 0, .int .i64 0, .int .i64 0, .slice none 0 0, .string ⟨#[]⟩, .string ⟨#[]⟩, .int .i64 0, .string ⟨#[]⟩] 32)).alloc (.cells #[.string s, .int .i64 0, .int .i64 0] 74)) (w.heap.size + 1) s (0, 0) := ⟨0, Bk.freshAt _ _ _ (by simp), fun _ => rfl⟩
    have hN0 : Bk ((w.alloc (.cells #[.int .i64 0, .string ⟨#[]⟩, .int .i64 0, .int .i64 0, .int .i64 0, .slice none 0 0, .string ⟨#[]⟩, .int .i64 0, .int .i64 0, .int .i64 0, .string ⟨#[]⟩, .string ⟨#[]⟩, .int .i64 0, .int .i64 0, .int .i64 0, .int .i64 0, .slice none 0 0, .string ⟨#[]⟩, .string ⟨#[]⟩, .int .i64 0, .string ⟨#[]⟩] 32)).alloc (.cells #[.string s, .int .i64 0, .int .i64 0] 74)) w.heap.size 32 #[.int .i64 0, .string ⟨#[]⟩, .int .i64 0, .int .i64 0, .int .i64 0, .slice none 0 0, .string ⟨#[]⟩, .int .i64 0, .int .i64 0, .int .i64 0, .string ⟨#[]⟩, .string ⟨#[]⟩, .int .i64 0, .int .i64 0, .int .i64 0, .int .i64 0, .slice none 0 0, .string ⟨#[]⟩, .string ⟨#[]⟩, .int .i64 0, .string ⟨#[]⟩] := (Bk.fresh _ _ _).later ((Below.refl _ _).alloc (Nat.le_refl _) _)
    refine (KN.out _ hR0).mono ?_
    rintro e w1 ⟨rfl, hR1, hg1⟩
    obtain ⟨at_, hbR, hat⟩ := hR1
    have T1 : Hid (Below w.heap.size w w1 ∧ Bk w1 w.heap.size 32 #[.int .i64 0, .string ⟨#[]⟩, .int .i64 0, .int .i64 0, .int .i64 0, .slice none 0 0, .string ⟨#[]⟩, .int .i64 0, .int .i64 0, .int .i64 0, .string ⟨#[]⟩, .string ⟨#[]⟩, .int .i64 0, .int .i64 0, .int .i64 0, .int .i64 0, .slice none 0 0, .string ⟨#[]⟩, .string ⟨#[]⟩, .int .i64 0, .string ⟨#[]⟩] ∧ Bk w1 (w.heap.size + 1) 74 #[.string s, .int .i64 at_, .int .i64 E]) := ⟨grown_below (by (repeat' (first | (with_reducible exact Below.refl _ _) | (with_reducible refine bdrewN ?_ _) | (with_reducible refine Below.drew ?_) | (with_reducible refine Below.setCell ?_ ?_ _) | (with_reducible refine Below.alloc ?_ ?_ _) | (with_reducible exact Nat.le_refl _) | (with_reducible assumption) | omega | (simp only [World.size_alloc, World.size_setCell, World.size_drew, sz_drewN]; omega)))) hg1 (by omega), hN0.stays hg1 (by simp), hbR⟩
    have hz1 : w.heap.size + 1 < w1.heap.size := T1.out.2.2.here
    clear hR0 hN0 hbR hat hg1
    go_wp2_with ((with_reducible refine store_bk rfl 32 (.tmp 5) (.tmp 11) rfl w1.heap.size 0 #[.int .i64 ((0 : Nat) : Int), .string ⟨#[]⟩, .int .i64 0, .int .i64 0, .int .i64 0, .slice none 0 0, .string ⟨#[]⟩, .int .i64 0, .int .i64 0, .int .i64 0, .string ⟨#[]⟩, .string ⟨#[]⟩, .int .i64 0, .int .i64 0, .int .i64 0, .int .i64 0, .slice none 0 0, .string ⟨#[]⟩, .string ⟨#[]⟩, .int .i64 0, .string ⟨#[]⟩] rfl rfl 32 #[.int .i64 0, .string ⟨#[]⟩, .int .i64 0, .int .i64 0, .int .i64 0, .slice none 0 0, .string ⟨#[]⟩, .int .i64 0, .int .i64 0, .int .i64 0, .string ⟨#[]⟩, .string ⟨#[]⟩, .int .i64 0, .int .i64 0, .int .i64 0, .int .i64 0, .slice none 0 0, .string ⟨#[]⟩, .string ⟨#[]⟩, .int .i64 0, .string ⟨#[]⟩] #[.int .i64 ((0 : Nat) : Int), .string ⟨#[]⟩, .int .i64 0, .int .i64 0, .int .i64 0, .slice none 0 0, .string ⟨#[]⟩, .int .i64 0, .int .i64 0, .int .i64 0, .string ⟨#[]⟩, .string ⟨#[]⟩, .int .i64 0, .int .i64 0, .int .i64 0, .int .i64 0, .slice none 0 0, .string ⟨#[]⟩, .string ⟨#[]⟩, .int .i64 0, .string ⟨#[]⟩] (Bk.fresh _ _ _) (by kernel_rfl) (by simp) (by kernel_rfl) rfl ?_); intro w2 hB2 hg2 hs2; have T2 : Hid (Below w.heap.size w w2 ∧ Bk w2 w.heap.size 32 #[.int .i64 0, .string ⟨#[]⟩, .int .i64 0, .int .i64 0, .int .i64 0, .slice none 0 0, .string ⟨#[]⟩, .int .i64 0, .int .i64 0, .int .i64 0, .string ⟨#[]⟩, .string ⟨#[]⟩, .int .i64 0, .int .i64 0, .int .i64 0, .int .i64 0, .slice none 0 0, .string ⟨#[]⟩, .string ⟨#[]⟩, .int .i64 0, .string ⟨#[]⟩] ∧ Bk w2 (w.heap.size + 1) 74 #[.string s, .int .i64 at_, .int .i64 E] ∧ Bk w2 w1.heap.size 32 #[.int .i64 ((0 : Nat) : Int), .string ⟨#[]⟩, .int .i64 0, .int .i64 0, .int .i64 0, .slice none 0 0, .string ⟨#[]⟩, .int .i64 0, .int .i64 0, .int .i64 0, .string ⟨#[]⟩, .string ⟨#[]⟩, .int .i64 0, .int .i64 0, .int .i64 0, .int .i64 0, .slice none 0 0, .string ⟨#[]⟩, .string ⟨#[]⟩, .int .i64 0, .string ⟨#[]⟩]) := ⟨T1.out.1.trans ((grown_below ((Below.refl _ _).alloc (Nat.le_refl _) _) hg2 (Nat.le_refl _)).mono T1.out.1.size), (T1.out.2.1.later ((Below.refl _ _).alloc (Nat.le_refl _) _)).stays hg2 (by simp; omega), (T1.out.2.2.later ((Below.refl _ _).alloc (Nat.le_refl _) _)).stays hg2 (by simp; omega), hB2⟩; have cA_w2 : w2.cell? ⟨w.heap.size + 1, 1, none⟩ = some (.int .i64 at_) := Bk.cellAt T2.out.2.2.1 1; have cE_w2 : w2.cell? ⟨w.heap.size + 1, 2, none⟩ = some (.int .i64 E) := Bk.cellAt T2.out.2.2.1 2; have fE_w2 : w2.frozen? ⟨w.heap.size + 1, 2, none⟩ = false := Bk.free T2.out.2.2.1 2; have c0_w2 : w2.cell? ⟨w1.heap.size, 0, none⟩ = some (.int .i64 ((0 : Nat) : Int)) := Bk.cellAt T2.out.2.2.2 0; have c20_w2 : w2.cell? ⟨w1.heap.size, 20, none⟩ = some (.string ⟨#[]⟩) := Bk.cellAt T2.out.2.2.2 20; have f20_w2 : w2.frozen? ⟨w1.heap.size, 20, none⟩ = false := Bk.free T2.out.2.2.2 20; have z2 : w1.heap.size < w2.heap.size := Bk.here T2.out.2.2.2)
    have cE0 := cE_w2
    have bN0 := T2.out.2.1
    have bL0 := T2.out.1
    refine wp_region_held_drew (S := fun W => W.cell? ⟨w.heap.size + 1, 2, none⟩ = some (.int .i64 E)) (by kernel_rfl) cE0 (fun hS0 => ?_)
    refine wpAnyH_take (i := 0) (v := .agg #[.int .i64 0, .string ⟨#[]⟩, .int .i64 0, .int .i64 0, .int .i64 0, .slice none 0 0, .string ⟨#[]⟩, .int .i64 0, .int .i64 0, .int .i64 0, .string ⟨#[]⟩, .string ⟨#[]⟩, .int .i64 0, .int .i64 0, .int .i64 0, .int .i64 0, .slice none 0 0, .string ⟨#[]⟩, .string ⟨#[]⟩, .int .i64 0, .string ⟨#[]⟩]) rfl (by kernel_rfl) (by kernel_rfl) (by kernel_rfl) (fun _ _ _ h => h) (Or.inl ⟨by rfl, ?_⟩) hS0 ?_
    · intro W _; go_simp
    try simp only [Act.put, List.getElem_toArray, List.getElem_cons_zero, List.getElem_cons_succ, List.setIfInBounds_toArray, List.set_cons_zero, List.set_cons_succ]
    refine wpAnyH_take (i := 1) (v := ?_) rfl (by kernel_rfl) (by kernel_rfl) (by kernel_rfl) (fun _ _ _ h => h) (Or.inl ⟨by rfl, ?_⟩) hS0 ?_
    rotate_left
    · intro W _; go_simp; try with_reducible rfl
    try simp only [Act.put, List.getElem_toArray, List.getElem_cons_zero, List.getElem_cons_succ, List.setIfInBounds_toArray, List.set_cons_zero, List.set_cons_succ]
    refine wpAnyH_take (i := 2) (v := ?_) rfl (by kernel_rfl) (by kernel_rfl) (by kernel_rfl) (fun _ _ _ h => h) (Or.inl ⟨by rfl, ?_⟩) hS0 ?_
    rotate_left
    · intro W _; go_simp; try with_reducible rfl
    try simp only [Act.put, List.getElem_toArray, List.getElem_cons_zero, List.getElem_cons_succ, List.setIfInBounds_toArray, List.set_cons_zero, List.set_cons_succ]
    refine wpAnyH_take (i := 3) (v := ?_) rfl (by kernel_rfl) (by kernel_rfl) (by kernel_rfl) (fun _ _ _ h => h) (Or.inl ⟨by rfl, ?_⟩) hS0 ?_
    rotate_left
    · intro W _; go_simp; try with_reducible rfl
    try simp only [Act.put, List.getElem_toArray, List.getElem_cons_zero, List.getElem_cons_succ, List.setIfInBounds_toArray, List.set_cons_zero, List.set_cons_succ]
    refine wpAnyH_take (i := 4) (v := ?_) rfl (by kernel_rfl) (by kernel_rfl) (by kernel_rfl) (fun _ _ _ h => h) (Or.inl ⟨by rfl, ?_⟩) hS0 ?_
    rotate_left
    · intro W hSW; have hSW2 : W.cell? ⟨w.heap.size + 1, 2, none⟩ = some (.int .i64 E) := hSW; go_simp; try with_reducible rfl
    try simp only [Act.put, List.getElem_toArray, List.getElem_cons_zero, List.getElem_cons_succ, List.setIfInBounds_toArray, List.set_cons_zero, List.set_cons_succ]
    refine wpAnyH_ready (rs := [5]) (by kernel_rfl) (by simp) ?_
    refine AllReadyH.cons rfl (fun K hK => ?_) AllReadyH.nil
    rw [if_pos (by rfl)]
    refine store_bk_op 32 (.tmp 2) (.tmp 84) rfl w.heap.size 0 #[.int .i64 0, .string ⟨#[]⟩, .int .i64 0, .int .i64 0, .int .i64 0, .slice none 0 0, .string ⟨#[]⟩, .int .i64 0, .int .i64 0, .int .i64 0, .string ⟨#[]⟩, .string ⟨#[]⟩, .int .i64 0, .int .i64 0, .int .i64 0, .int .i64 0, .slice none 0 0, .string ⟨#[]⟩, .string ⟨#[]⟩, .int .i64 0, .string ⟨#[]⟩] rfl rfl 32 #[.int .i64 0, .string ⟨#[]⟩, .int .i64 0, .int .i64 0, .int .i64 0, .slice none 0 0, .string ⟨#[]⟩, .int .i64 0, .int .i64 0, .int .i64 0, .string ⟨#[]⟩, .string ⟨#[]⟩, .int .i64 0, .int .i64 0, .int .i64 0, .int .i64 0, .slice none 0 0, .string ⟨#[]⟩, .string ⟨#[]⟩, .int .i64 0, .string ⟨#[]⟩] #[.int .i64 0, .string ⟨#[]⟩, .int .i64 0, .int .i64 0, .int .i64 0, .slice none 0 0, .string ⟨#[]⟩, .int .i64 0, .int .i64 0, .int .i64 0, .string ⟨#[]⟩, .string ⟨#[]⟩, .int .i64 0, .int .i64 0, .int .i64 0, .int .i64 0, .slice none 0 0, .string ⟨#[]⟩, .string ⟨#[]⟩, .int .i64 0, .string ⟨#[]⟩] bN0.drewB (by kernel_rfl) (by simp) (by kernel_rfl) rfl ?_
    intro wz hBz hgz hsz
    refine hK.out _ _ (hgz.cell hS0 (by simp)) (fun hS1 => ?_)
    clear hK K
    try simp only [Act.put, List.getElem_toArray, List.getElem_cons_zero, List.getElem_cons_succ, List.setIfInBounds_toArray, List.set_cons_zero, List.set_cons_succ]
    refine wpAnyH_take (i := 6) (v := ?_) rfl (by kernel_rfl) (by kernel_rfl) (by kernel_rfl) (fun _ _ _ h => h) (Or.inl ⟨by rfl, ?_⟩) hS1 ?_
    rotate_left
    · intro W _; go_simp; try with_reducible rfl
    try simp only [Act.put, List.getElem_toArray, List.getElem_cons_zero, List.getElem_cons_succ, List.setIfInBounds_toArray, List.set_cons_zero, List.set_cons_succ]
    refine wpAnyH_done (by kernel_rfl) ?_ _
    go_wp2_with fail
    exact bodyPost_ret (v := .tuple #[.agg #[.int .i64 0, .string ⟨#[]⟩, .int .i64 0, .int .i64 0, .int .i64 0, .slice none 0 0, .string ⟨#[]⟩, .int .i64 0, .int .i64 0, .int .i64 0, .string ⟨#[]⟩, .string ⟨#[]⟩, .int .i64 0, .int .i64 0, .int .i64 0, .int .i64 0, .slice none 0 0, .string ⟨#[]⟩, .string ⟨#[]⟩, .int .i64 0, .string ⟨#[]⟩], .int .i64 E]) (results_bk2 Try.results15 _ _ w.heap.size 32 #[.int .i64 0, .string ⟨#[]⟩, .int .i64 0, .int .i64 0, .int .i64 0, .slice none 0 0, .string ⟨#[]⟩, .int .i64 0, .int .i64 0, .int .i64 0, .string ⟨#[]⟩, .string ⟨#[]⟩, .int .i64 0, .int .i64 0, .int .i64 0, .int .i64 0, .slice none 0 0, .string ⟨#[]⟩, .string ⟨#[]⟩, .int .i64 0, .string ⟨#[]⟩] _ _ rfl rfl hBz Try.underlying32 rfl (by kernel_rfl)) rfl (GotO.of HE.out ⟨.slice none 0 0, .slice none 0 0, rfl, OwnL.nil _ _, OwnL.nil _ _, grown_below (Below.drew bL0) hgz (Nat.le_refl _)⟩)
  case neg =>
  have hk : e = 0 ∧ k ≤ 9 := by omega
  obtain ⟨he, hk⟩ := hk
  subst he
  rw [rNu_good ht hk] at kn
  simp only [] at kn
  unfold dOp at hD
  by_cases h0 : k = 0
  case pos =>
    subst h0
    rw [pTake_other ht (by omega), opFin_no (by decide)] at hD
    have HE := Lib.hid hD
    have KN := Lib.hid kn
    clear kn ht hbad hk hD
    go_enter Try.func15, Try.ntmps15
    go_wp2_with fail
    have hR0 : RdR ((w.alloc (.cells #[.int .i64 0, .string ⟨#[]⟩, .int .i64 0, .int .i64 0, .int .i64 0, .slice none 0 0, .string ⟨#[]⟩, .int .i64 0, .int .i64 0, .int .i64 0, .string ⟨#[]⟩, .string ⟨#[]⟩, .int .i64 0, .int .i64 0, .int .i64 0, .int .i64 0, .slice none 0 0, .string ⟨#[]⟩, .string ⟨#[]⟩, .int .i64 0, .string ⟨#[]⟩] 32)).alloc (.cells #[.string s, .int .i64 0, .int .i64 0] 74)) (w.heap.size + 1) s (0, 0) := ⟨0, Bk.freshAt _ _ _ (by simp), fun _ => rfl⟩
    have hN0 : Bk ((w.alloc (.cells #[.int .i64 0, .string ⟨#[]⟩, .int .i64 0, .int .i64 0, .int .i64 0, .slice none 0 0, .string ⟨#[]⟩, .int .i64 0, .int .i64 0, .int .i64 0, .string ⟨#[]⟩, .string ⟨#[]⟩, .int .i64 0, .int .i64 0, .int .i64 0, .int .i64 0, .slice none 0 0, .string ⟨#[]⟩, .string ⟨#[]⟩, .int .i64 0, .string ⟨#[]⟩] 32)).alloc (.cells #[.string s, .int .i64 0, .int .i64 0] 74)) w.heap.size 32 #[.int .i64 0, .string ⟨#[]⟩, .int .i64 0, .int .i64 0, .int .i64 0, .slice none 0 0, .string ⟨#[]⟩, .int .i64 0, .int .i64 0, .int .i64 0, .string ⟨#[]⟩, .string ⟨#[]⟩, .int .i64 0, .int .i64 0, .int .i64 0, .int .i64 0, .slice none 0 0, .string ⟨#[]⟩, .string ⟨#[]⟩, .int .i64 0, .string ⟨#[]⟩] := (Bk.fresh _ _ _).later ((Below.refl _ _).alloc (Nat.le_refl _) _)
    refine (KN.out _ hR0).mono ?_
    rintro e w1 ⟨rfl, hR1, hg1⟩
    obtain ⟨at_, hbR, hat⟩ := hR1
    have T1 : Hid (Below w.heap.size w w1 ∧ Bk w1 w.heap.size 32 #[.int .i64 0, .string ⟨#[]⟩, .int .i64 0, .int .i64 0, .int .i64 0, .slice none 0 0, .string ⟨#[]⟩, .int .i64 0, .int .i64 0, .int .i64 0, .string ⟨#[]⟩, .string ⟨#[]⟩, .int .i64 0, .int .i64 0, .int .i64 0, .int .i64 0, .slice none 0 0, .string ⟨#[]⟩, .string ⟨#[]⟩, .int .i64 0, .string ⟨#[]⟩] ∧ Bk w1 (w.heap.size + 1) 74 #[.string s, .int .i64 at_, .int .i64 0]) := ⟨grown_below (by (repeat' (first | (with_reducible exact Below.refl _ _) | (with_reducible refine bdrewN ?_ _) | (with_reducible refine Below.drew ?_) | (with_reducible refine Below.setCell ?_ ?_ _) | (with_reducible refine Below.alloc ?_ ?_ _) | (with_reducible exact Nat.le_refl _) | (with_reducible assumption) | omega | (simp only [World.size_alloc, World.size_setCell, World.size_drew, sz_drewN]; omega)))) hg1 (by omega), hN0.stays hg1 (by simp), hbR⟩
    have hz1 : w.heap.size + 1 < w1.heap.size := T1.out.2.2.here
    have hat2 : p = at_ := (hat rfl).symm
    subst hat2
    clear hR0 hN0 hbR hat hg1
    go_wp2_with ((with_reducible refine store_bk rfl 32 (.tmp 5) (.tmp 11) rfl w1.heap.size 0 #[.int .i64 ((0 : Nat) : Int), .string ⟨#[]⟩, .int .i64 0, .int .i64 0, .int .i64 0, .slice none 0 0, .string ⟨#[]⟩, .int .i64 0, .int .i64 0, .int .i64 0, .string ⟨#[]⟩, .string ⟨#[]⟩, .int .i64 0, .int .i64 0, .int .i64 0, .int .i64 0, .slice none 0 0, .string ⟨#[]⟩, .string ⟨#[]⟩, .int .i64 0, .string ⟨#[]⟩] rfl rfl 32 #[.int .i64 0, .string ⟨#[]⟩, .int .i64 0, .int .i64 0, .int .i64 0, .slice none 0 0, .string ⟨#[]⟩, .int .i64 0, .int .i64 0, .int .i64 0, .string ⟨#[]⟩, .string ⟨#[]⟩, .int .i64 0, .int .i64 0, .int .i64 0, .int .i64 0, .slice none 0 0, .string ⟨#[]⟩, .string ⟨#[]⟩, .int .i64 0, .string ⟨#[]⟩] #[.int .i64 ((0 : Nat) : Int), .string ⟨#[]⟩, .int .i64 0, .int .i64 0, .int .i64 0, .slice none 0 0, .string ⟨#[]⟩, .int .i64 0, .int .i64 0, .int .i64 0, .string ⟨#[]⟩, .string ⟨#[]⟩, .int .i64 0, .int .i64 0, .int .i64 0, .int .i64 0, .slice none 0 0, .string ⟨#[]⟩, .string ⟨#[]⟩, .int .i64 0, .string ⟨#[]⟩] (Bk.fresh _ _ _) (by kernel_rfl) (by simp) (by kernel_rfl) rfl ?_); intro w2 hB2 hg2 hs2; have T2 : Hid (Below w.heap.size w w2 ∧ Bk w2 w.heap.size 32 #[.int .i64 0, .string ⟨#[]⟩, .int .i64 0, .int .i64 0, .int .i64 0, .slice none 0 0, .string ⟨#[]⟩, .int .i64 0, .int .i64 0, .int .i64 0, .string ⟨#[]⟩, .string ⟨#[]⟩, .int .i64 0, .int .i64 0, .int .i64 0, .int .i64 0, .slice none 0 0, .string ⟨#[]⟩, .string ⟨#[]⟩, .int .i64 0, .string ⟨#[]⟩] ∧ Bk w2 (w.heap.size + 1) 74 #[.string s, .int .i64 p, .int .i64 0] ∧ Bk w2 w1.heap.size 32 #[.int .i64 ((0 : Nat) : Int), .string ⟨#[]⟩, .int .i64 0, .int .i64 0, .int .i64 0, .slice none 0 0, .string ⟨#[]⟩, .int .i64 0, .int .i64 0, .int .i64 0, .string ⟨#[]⟩, .string ⟨#[]⟩, .int .i64 0, .int .i64 0, .int .i64 0, .int .i64 0, .slice none 0 0, .string ⟨#[]⟩, .string ⟨#[]⟩, .int .i64 0, .string ⟨#[]⟩]) := ⟨T1.out.1.trans ((grown_below ((Below.refl _ _).alloc (Nat.le_refl _) _) hg2 (Nat.le_refl _)).mono T1.out.1.size), (T1.out.2.1.later ((Below.refl _ _).alloc (Nat.le_refl _) _)).stays hg2 (by simp; omega), (T1.out.2.2.later ((Below.refl _ _).alloc (Nat.le_refl _) _)).stays hg2 (by simp; omega), hB2⟩; have cA_w2 : w2.cell? ⟨w.heap.size + 1, 1, none⟩ = some (.int .i64 p) := Bk.cellAt T2.out.2.2.1 1; have cE_w2 : w2.cell? ⟨w.heap.size + 1, 2, none⟩ = some (.int .i64 0) := Bk.cellAt T2.out.2.2.1 2; have fE_w2 : w2.frozen? ⟨w.heap.size + 1, 2, none⟩ = false := Bk.free T2.out.2.2.1 2; have c0_w2 : w2.cell? ⟨w1.heap.size, 0, none⟩ = some (.int .i64 ((0 : Nat) : Int)) := Bk.cellAt T2.out.2.2.2 0; have c20_w2 : w2.cell? ⟨w1.heap.size, 20, none⟩ = some (.string ⟨#[]⟩) := Bk.cellAt T2.out.2.2.2 20; have f20_w2 : w2.frozen? ⟨w1.heap.size, 20, none⟩ = false := Bk.free T2.out.2.2.2 20; have z2 : w1.heap.size < w2.heap.size := Bk.here T2.out.2.2.2)
    have hR3 : Bk (w2.setCell ⟨w.heap.size + 1, 2, none⟩ (.int .i64 3)) (w.heap.size + 1) 74 #[.string s, .int .i64 p, .int .i64 3] := T2.out.2.2.1.put 2 (.int .i64 3)
    have cE0 := hR3.cellAt 2
    have bN0 := Bk.other T2.out.2.1 (p := ⟨w.heap.size + 1, 2, none⟩) (by simp) (.int .i64 3)
    have bL0 := Below.setCell T2.out.1 (p := ⟨w.heap.size + 1, 2, none⟩) (by simp) (.int .i64 3)
    refine wp_region_held_drew (S := fun W => W.cell? ⟨w.heap.size + 1, 2, none⟩ = some (.int .i64 3)) (by kernel_rfl) cE0 (fun hS0 => ?_)
    refine wpAnyH_take (i := 0) (v := .agg #[.int .i64 0, .string ⟨#[]⟩, .int .i64 0, .int .i64 0, .int .i64 0, .slice none 0 0, .string ⟨#[]⟩, .int .i64 0, .int .i64 0, .int .i64 0, .string ⟨#[]⟩, .string ⟨#[]⟩, .int .i64 0, .int .i64 0, .int .i64 0, .int .i64 0, .slice none 0 0, .string ⟨#[]⟩, .string ⟨#[]⟩, .int .i64 0, .string ⟨#[]⟩]) rfl (by kernel_rfl) (by kernel_rfl) (by kernel_rfl) (fun _ _ _ h => h) (Or.inl ⟨by rfl, ?_⟩) hS0 ?_
    · intro W _; go_simp
    try simp only [Act.put, List.getElem_toArray, List.getElem_cons_zero, List.getElem_cons_succ, List.setIfInBounds_toArray, List.set_cons_zero, List.set_cons_succ]
    refine wpAnyH_take (i := 1) (v := ?_) rfl (by kernel_rfl) (by kernel_rfl) (by kernel_rfl) (fun _ _ _ h => h) (Or.inl ⟨by rfl, ?_⟩) hS0 ?_
    rotate_left
    · intro W _; go_simp; try with_reducible rfl
    try simp only [Act.put, List.getElem_toArray, List.getElem_cons_zero, List.getElem_cons_succ, List.setIfInBounds_toArray, List.set_cons_zero, List.set_cons_succ]
    refine wpAnyH_take (i := 2) (v := ?_) rfl (by kernel_rfl) (by kernel_rfl) (by kernel_rfl) (fun _ _ _ h => h) (Or.inl ⟨by rfl, ?_⟩) hS0 ?_
    rotate_left
    · intro W _; go_simp; try with_reducible rfl
    try simp only [Act.put, List.getElem_toArray, List.getElem_cons_zero, List.getElem_cons_succ, List.setIfInBounds_toArray, List.set_cons_zero, List.set_cons_succ]
    refine wpAnyH_take (i := 3) (v := ?_) rfl (by kernel_rfl) (by kernel_rfl) (by kernel_rfl) (fun _ _ _ h => h) (Or.inl ⟨by rfl, ?_⟩) hS0 ?_
    rotate_left
    · intro W _; go_simp; try with_reducible rfl
    try simp only [Act.put, List.getElem_toArray, List.getElem_cons_zero, List.getElem_cons_succ, List.setIfInBounds_toArray, List.set_cons_zero, List.set_cons_succ]
    refine wpAnyH_take (i := 4) (v := ?_) rfl (by kernel_rfl) (by kernel_rfl) (by kernel_rfl) (fun _ _ _ h => h) (Or.inl ⟨by rfl, ?_⟩) hS0 ?_
    rotate_left
    · intro W hSW; have hSW2 : W.cell? ⟨w.heap.size + 1, 2, none⟩ = some (.int .i64 3) := hSW; go_simp; try with_reducible rfl
    try simp only [Act.put, List.getElem_toArray, List.getElem_cons_zero, List.getElem_cons_succ, List.setIfInBounds_toArray, List.set_cons_zero, List.set_cons_succ]
    refine wpAnyH_ready (rs := [5]) (by kernel_rfl) (by simp) ?_
    refine AllReadyH.cons rfl (fun K hK => ?_) AllReadyH.nil
    rw [if_pos (by rfl)]
    refine store_bk_op 32 (.tmp 2) (.tmp 84) rfl w.heap.size 0 #[.int .i64 0, .string ⟨#[]⟩, .int .i64 0, .int .i64 0, .int .i64 0, .slice none 0 0, .string ⟨#[]⟩, .int .i64 0, .int .i64 0, .int .i64 0, .string ⟨#[]⟩, .string ⟨#[]⟩, .int .i64 0, .int .i64 0, .int .i64 0, .int .i64 0, .slice none 0 0, .string ⟨#[]⟩, .string ⟨#[]⟩, .int .i64 0, .string ⟨#[]⟩] rfl rfl 32 #[.int .i64 0, .string ⟨#[]⟩, .int .i64 0, .int .i64 0, .int .i64 0, .slice none 0 0, .string ⟨#[]⟩, .int .i64 0, .int .i64 0, .int .i64 0, .string ⟨#[]⟩, .string ⟨#[]⟩, .int .i64 0, .int .i64 0, .int .i64 0, .int .i64 0, .slice none 0 0, .string ⟨#[]⟩, .string ⟨#[]⟩, .int .i64 0, .string ⟨#[]⟩] #[.int .i64 0, .string ⟨#[]⟩, .int .i64 0, .int .i64 0, .int .i64 0, .slice none 0 0, .string ⟨#[]⟩, .int .i64 0, .int .i64 0, .int .i64 0, .string ⟨#[]⟩, .string ⟨#[]⟩, .int .i64 0, .int .i64 0, .int .i64 0, .int .i64 0, .slice none 0 0, .string ⟨#[]⟩, .string ⟨#[]⟩, .int .i64 0, .string ⟨#[]⟩] bN0.drewB (by kernel_rfl) (by simp) (by kernel_rfl) rfl ?_
    intro wz hBz hgz hsz
    refine hK.out _ _ (hgz.cell hS0 (by simp)) (fun hS1 => ?_)
    clear hK K
    try simp only [Act.put, List.getElem_toArray, List.getElem_cons_zero, List.getElem_cons_succ, List.setIfInBounds_toArray, List.set_cons_zero, List.set_cons_succ]
    refine wpAnyH_take (i := 6) (v := ?_) rfl (by kernel_rfl) (by kernel_rfl) (by kernel_rfl) (fun _ _ _ h => h) (Or.inl ⟨by rfl, ?_⟩) hS1 ?_
    rotate_left
    · intro W _; go_simp; try with_reducible rfl
    try simp only [Act.put, List.getElem_toArray, List.getElem_cons_zero, List.getElem_cons_succ, List.setIfInBounds_toArray, List.set_cons_zero, List.set_cons_succ]
    refine wpAnyH_done (by kernel_rfl) ?_ _
    go_wp2_with fail
    exact bodyPost_ret (v := .tuple #[.agg #[.int .i64 0, .string ⟨#[]⟩, .int .i64 0, .int .i64 0, .int .i64 0, .slice none 0 0, .string ⟨#[]⟩, .int .i64 0, .int .i64 0, .int .i64 0, .string ⟨#[]⟩, .string ⟨#[]⟩, .int .i64 0, .int .i64 0, .int .i64 0, .int .i64 0, .slice none 0 0, .string ⟨#[]⟩, .string ⟨#[]⟩, .int .i64 0, .string ⟨#[]⟩], .int .i64 3]) (results_bk2 Try.results15 _ _ w.heap.size 32 #[.int .i64 0, .string ⟨#[]⟩, .int .i64 0, .int .i64 0, .int .i64 0, .slice none 0 0, .string ⟨#[]⟩, .int .i64 0, .int .i64 0, .int .i64 0, .string ⟨#[]⟩, .string ⟨#[]⟩, .int .i64 0, .int .i64 0, .int .i64 0, .int .i64 0, .slice none 0 0, .string ⟨#[]⟩, .string ⟨#[]⟩, .int .i64 0, .string ⟨#[]⟩] _ _ rfl rfl hBz Try.underlying32 rfl (by kernel_rfl)) rfl (GotO.of HE.out ⟨.slice none 0 0, .slice none 0 0, rfl, OwnL.nil _ _, OwnL.nil _ _, grown_below (Below.drew bL0) hgz (Nat.le_refl _)⟩)
  case neg =>
  by_cases h1 : k = 1
  case pos =>
    subst h1
    rw [pTake_1 ht] at hD
    have kk := fun W (hR : RdR W (w.heap.size + 1) s (p, 0)) => rr_node (w.heap.size + 1) s p l W hR hl hs
    obtain ⟨⟨nm, a, b, d, ls⟩, nx, er, hx⟩ : ∃ x nx er, tNode l p = (x, nx, er) := ⟨_, _, _, rfl⟩
    unfold valNode at kk
    rw [hx] at kk hD
    simp only [] at kk hD
    have KK := Lib.hid kk
    clear kk hx
    have HD := Lib.hid hD
    have KN := Lib.hid kn
    clear kn ht hbad hk hD h0
    go_enter Try.func15, Try.ntmps15
    go_wp2_with fail
    have hR0 : RdR ((w.alloc (.cells #[.int .i64 0, .string ⟨#[]⟩, .int .i64 0, .int .i64 0, .int .i64 0, .slice none 0 0, .string ⟨#[]⟩, .int .i64 0, .int .i64 0, .int .i64 0, .string ⟨#[]⟩, .string ⟨#[]⟩, .int .i64 0, .int .i64 0, .int .i64 0, .int .i64 0, .slice none 0 0, .string ⟨#[]⟩, .string ⟨#[]⟩, .int .i64 0, .string ⟨#[]⟩] 32)).alloc (.cells #[.string s, .int .i64 0, .int .i64 0] 74)) (w.heap.size + 1) s (0, 0) := ⟨0, Bk.freshAt _ _ _ (by simp), fun _ => rfl⟩
    have hN0 : Bk ((w.alloc (.cells #[.int .i64 0, .string ⟨#[]⟩, .int .i64 0, .int .i64 0, .int .i64 0, .slice none 0 0, .string ⟨#[]⟩, .int .i64 0, .int .i64 0, .int .i64 0, .string ⟨#[]⟩, .string ⟨#[]⟩, .int .i64 0, .int .i64 0, .int .i64 0, .int .i64 0, .slice none 0 0, .string ⟨#[]⟩, .string ⟨#[]⟩, .int .i64 0, .string ⟨#[]⟩] 32)).alloc (.cells #[.string s, .int .i64 0, .int .i64 0] 74)) w.heap.size 32 #[.int .i64 0, .string ⟨#[]⟩, .int .i64 0, .int .i64 0, .int .i64 0, .slice none 0 0, .string ⟨#[]⟩, .int .i64 0, .int .i64 0, .int .i64 0, .string ⟨#[]⟩, .string ⟨#[]⟩, .int .i64 0, .int .i64 0, .int .i64 0, .int .i64 0, .slice none 0 0, .string ⟨#[]⟩, .string ⟨#[]⟩, .int .i64 0, .string ⟨#[]⟩] := (Bk.fresh _ _ _).later ((Below.refl _ _).alloc (Nat.le_refl _) _)
    refine (KN.out _ hR0).mono ?_
    rintro e w1 ⟨rfl, hR1, hg1⟩
    obtain ⟨at_, hbR, hat⟩ := hR1
    have T1 : Hid (Below w.heap.size w w1 ∧ Bk w1 w.heap.size 32 #[.int .i64 0, .string ⟨#[]⟩, .int .i64 0, .int .i64 0, .int .i64 0, .slice none 0 0, .string ⟨#[]⟩, .int .i64 0, .int .i64 0, .int .i64 0, .string ⟨#[]⟩, .string ⟨#[]⟩, .int .i64 0, .int .i64 0, .int .i64 0, .int .i64 0, .slice none 0 0, .string ⟨#[]⟩, .string ⟨#[]⟩, .int .i64 0, .string ⟨#[]⟩] ∧ Bk w1 (w.heap.size + 1) 74 #[.string s, .int .i64 at_, .int .i64 0]) := ⟨grown_below (by (repeat' (first | (with_reducible exact Below.refl _ _) | (with_reducible refine bdrewN ?_ _) | (with_reducible refine Below.drew ?_) | (with_reducible refine Below.setCell ?_ ?_ _) | (with_reducible refine Below.alloc ?_ ?_ _) | (with_reducible exact Nat.le_refl _) | (with_reducible assumption) | omega | (simp only [World.size_alloc, World.size_setCell, World.size_drew, sz_drewN]; omega)))) hg1 (by omega), hN0.stays hg1 (by simp), hbR⟩
    have hz1 : w.heap.size + 1 < w1.heap.size := T1.out.2.2.here
    have hat2 : p = at_ := (hat rfl).symm
    subst hat2
    clear hR0 hN0 hbR hat hg1
    go_wp2_with ((with_reducible refine store_bk rfl 32 (.tmp 5) (.tmp 11) rfl w1.heap.size 0 #[.int .i64 ((1 : Nat) : Int), .string ⟨#[]⟩, .int .i64 0, .int .i64 0, .int .i64 0, .slice none 0 0, .string ⟨#[]⟩, .int .i64 0, .int .i64 0, .int .i64 0, .string ⟨#[]⟩, .string ⟨#[]⟩, .int .i64 0, .int .i64 0, .int .i64 0, .int .i64 0, .slice none 0 0, .string ⟨#[]⟩, .string ⟨#[]⟩, .int .i64 0, .string ⟨#[]⟩] rfl rfl 32 #[.int .i64 0, .string ⟨#[]⟩, .int .i64 0, .int .i64 0, .int .i64 0, .slice none 0 0, .string ⟨#[]⟩, .int .i64 0, .int .i64 0, .int .i64 0, .string ⟨#[]⟩, .string ⟨#[]⟩, .int .i64 0, .int .i64 0, .int .i64 0, .int .i64 0, .slice none 0 0, .string ⟨#[]⟩, .string ⟨#[]⟩, .int .i64 0, .string ⟨#[]⟩] #[.int .i64 ((1 : Nat) : Int), .string ⟨#[]⟩, .int .i64 0, .int .i64 0, .int .i64 0, .slice none 0 0, .string ⟨#[]⟩, .int .i64 0, .int .i64 0, .int .i64 0, .string ⟨#[]⟩, .string ⟨#[]⟩, .int .i64 0, .int .i64 0, .int .i64 0, .int .i64 0, .slice none 0 0, .string ⟨#[]⟩, .string ⟨#[]⟩, .int .i64 0, .string ⟨#[]⟩] (Bk.fresh _ _ _) (by kernel_rfl) (by simp) (by kernel_rfl) rfl ?_); intro w2 hB2 hg2 hs2; have T2 : Hid (Below w.heap.size w w2 ∧ Bk w2 w.heap.size 32 #[.int .i64 0, .string ⟨#[]⟩, .int .i64 0, .int .i64 0, .int .i64 0, .slice none 0 0, .string ⟨#[]⟩, .int .i64 0, .int .i64 0, .int .i64 0, .string ⟨#[]⟩, .string ⟨#[]⟩, .int .i64 0, .int .i64 0, .int .i64 0, .int .i64 0, .slice none 0 0, .string ⟨#[]⟩, .string ⟨#[]⟩, .int .i64 0, .string ⟨#[]⟩] ∧ Bk w2 (w.heap.size + 1) 74 #[.string s, .int .i64 p, .int .i64 0] ∧ Bk w2 w1.heap.size 32 #[.int .i64 ((1 : Nat) : Int), .string ⟨#[]⟩, .int .i64 0, .int .i64 0, .int .i64 0, .slice none 0 0, .string ⟨#[]⟩, .int .i64 0, .int .i64 0, .int .i64 0, .string ⟨#[]⟩, .string ⟨#[]⟩, .int .i64 0, .int .i64 0, .int .i64 0, .int .i64 0, .slice none 0 0, .string ⟨#[]⟩, .string ⟨#[]⟩, .int .i64 0, .string ⟨#[]⟩]) := ⟨T1.out.1.trans ((grown_below ((Below.refl _ _).alloc (Nat.le_refl _) _) hg2 (Nat.le_refl _)).mono T1.out.1.size), (T1.out.2.1.later ((Below.refl _ _).alloc (Nat.le_refl _) _)).stays hg2 (by simp; omega), (T1.out.2.2.later ((Below.refl _ _).alloc (Nat.le_refl _) _)).stays hg2 (by simp; omega), hB2⟩; have cA_w2 : w2.cell? ⟨w.heap.size + 1, 1, none⟩ = some (.int .i64 p) := Bk.cellAt T2.out.2.2.1 1; have cE_w2 : w2.cell? ⟨w.heap.size + 1, 2, none⟩ = some (.int .i64 0) := Bk.cellAt T2.out.2.2.1 2; have fE_w2 : w2.frozen? ⟨w.heap.size + 1, 2, none⟩ = false := Bk.free T2.out.2.2.1 2; have c0_w2 : w2.cell? ⟨w1.heap.size, 0, none⟩ = some (.int .i64 ((1 : Nat) : Int)) := Bk.cellAt T2.out.2.2.2 0; have c20_w2 : w2.cell? ⟨w1.heap.size, 20, none⟩ = some (.string ⟨#[]⟩) := Bk.cellAt T2.out.2.2.2 20; have f20_w2 : w2.frozen? ⟨w1.heap.size, 20, none⟩ = false := Bk.free T2.out.2.2.2 20; have z2 : w1.heap.size < w2.heap.size := Bk.here T2.out.2.2.2)
    refine (KK.out _ ⟨p, T2.out.2.2.1, fun _ => rfl⟩).mono ?_
    rintro e w3 ⟨v, rfl, ho, hR3, hg3⟩
    obtain ⟨Av, cv, sv⟩ := ho.sl
    have hv := sv.val
    subst hv
    clear sv
    obtain ⟨at3, hb3, hat3⟩ := hR3
    have T3 : Hid (Below w.heap.size w w3 ∧ Bk w3 w.heap.size 32 #[.int .i64 0, .string ⟨#[]⟩, .int .i64 0, .int .i64 0, .int .i64 0, .slice none 0 0, .string ⟨#[]⟩, .int .i64 0, .int .i64 0, .int .i64 0, .string ⟨#[]⟩, .string ⟨#[]⟩, .int .i64 0, .int .i64 0, .int .i64 0, .int .i64 0, .slice none 0 0, .string ⟨#[]⟩, .string ⟨#[]⟩, .int .i64 0, .string ⟨#[]⟩] ∧ Bk w3 (w.heap.size + 1) 74 #[.string s, .int .i64 at3, .int .i64 er] ∧ Bk w3 w1.heap.size 32 #[.int .i64 ((1 : Nat) : Int), .string ⟨#[]⟩, .int .i64 0, .int .i64 0, .int .i64 0, .slice none 0 0, .string ⟨#[]⟩, .int .i64 0, .int .i64 0, .int .i64 0, .string ⟨#[]⟩, .string ⟨#[]⟩, .int .i64 0, .int .i64 0, .int .i64 0, .int .i64 0, .slice none 0 0, .string ⟨#[]⟩, .string ⟨#[]⟩, .int .i64 0, .string ⟨#[]⟩] ∧ OwnL w3 w2.heap.size (.slice Av ls.length cv) ls) := ⟨grown_below T2.out.1 hg3 (by omega), T2.out.2.1.stays hg3 (by simp), hb3, T2.out.2.2.2.stays hg3 (by simp; omega), ho⟩
    have z3 : w1.heap.size < w2.heap.size := T2.out.2.2.2.here
    clear hB2 hg2 hs2 cA_w2 cE_w2 fE_w2 c0_w2 c20_w2 f20_w2 z2 hb3 hg3 T1 ho
    by_cases h0 : er = 0
    case pos =>
      subst h0
      have hat4 : at3 = nx := hat3 rfl
      subst hat4
      clear hat3
      by_cases h1 : at3 = (s.size : Int)
      case pos =>
        have HE : Hid (D = (_, 0)) := HD.out.trans (opFin_ok (by rw [h1, hsl.out]))
        have h1x : (at3 != (s.size : Int)) = false := by simp [h1]
        clear h1
        go_wp2_with (first | ((with_reducible refine store_bk rfl 26 (.tmp 48) (.tmp 47) rfl w1.heap.size 1 #[.string nm, .int .i64 (a : Int), .int .i64 (b : Int), .int .i64 (d : Int), .slice Av ls.length cv] rfl rfl 32 #[.int .i64 ((1 : Nat) : Int), .string ⟨#[]⟩, .int .i64 0, .int .i64 0, .int .i64 0, .slice none 0 0, .string ⟨#[]⟩, .int .i64 0, .int .i64 0, .int .i64 0, .string ⟨#[]⟩, .string ⟨#[]⟩, .int .i64 0, .int .i64 0, .int .i64 0, .int .i64 0, .slice none 0 0, .string ⟨#[]⟩, .string ⟨#[]⟩, .int .i64 0, .string ⟨#[]⟩] #[.int .i64 ((1 : Nat) : Int), .string nm, .int .i64 (a : Int), .int .i64 (b : Int), .int .i64 (d : Int), .slice Av ls.length cv, .string ⟨#[]⟩, .int .i64 0, .int .i64 0, .int .i64 0, .string ⟨#[]⟩, .string ⟨#[]⟩, .int .i64 0, .int .i64 0, .int .i64 0, .int .i64 0, .slice none 0 0, .string ⟨#[]⟩, .string ⟨#[]⟩, .int .i64 0, .string ⟨#[]⟩] T3.out.2.2.2.1 (by kernel_rfl) (by simp) (by kernel_rfl) rfl ?_); intro w4 hB4 hg4 hs4; have T4 : Hid (Below w.heap.size w w4 ∧ Bk w4 w.heap.size 32 #[.int .i64 0, .string ⟨#[]⟩, .int .i64 0, .int .i64 0, .int .i64 0, .slice none 0 0, .string ⟨#[]⟩, .int .i64 0, .int .i64 0, .int .i64 0, .string ⟨#[]⟩, .string ⟨#[]⟩, .int .i64 0, .int .i64 0, .int .i64 0, .int .i64 0, .slice none 0 0, .string ⟨#[]⟩, .string ⟨#[]⟩, .int .i64 0, .string ⟨#[]⟩] ∧ Bk w4 (w.heap.size + 1) 74 #[.string s, .int .i64 at3, .int .i64 0] ∧ Bk w4 w1.heap.size 32 #[.int .i64 ((1 : Nat) : Int), .string nm, .int .i64 (a : Int), .int .i64 (b : Int), .int .i64 (d : Int), .slice Av ls.length cv, .string ⟨#[]⟩, .int .i64 0, .int .i64 0, .int .i64 0, .string ⟨#[]⟩, .string ⟨#[]⟩, .int .i64 0, .int .i64 0, .int .i64 0, .int .i64 0, .slice none 0 0, .string ⟨#[]⟩, .string ⟨#[]⟩, .int .i64 0, .string ⟨#[]⟩] ∧ OwnL w4 w2.heap.size (.slice Av ls.length cv) ls) := ⟨grown_below T3.out.1 hg4 (by omega), T3.out.2.1.stays hg4 (by simp; omega), T3.out.2.2.1.stays hg4 (by simp; omega), hB4, T3.out.2.2.2.2.stays hg4 (by omega)⟩; have cA_w4 : w4.cell? ⟨w.heap.size + 1, 1, none⟩ = some (.int .i64 at3) := Bk.cellAt T4.out.2.2.1 1; have cE_w4 : w4.cell? ⟨w.heap.size + 1, 2, none⟩ = some (.int .i64 0) := Bk.cellAt T4.out.2.2.1 2; have fE_w4 : w4.frozen? ⟨w.heap.size + 1, 2, none⟩ = false := Bk.free T4.out.2.2.1 2; have c0_w4 : w4.cell? ⟨w1.heap.size, 0, none⟩ = some (.int .i64 ((1 : Nat) : Int)) := Bk.cellAt T4.out.2.2.2.1 0; have c20_w4 : w4.cell? ⟨w1.heap.size, 20, none⟩ = some (.string ⟨#[]⟩) := Bk.cellAt T4.out.2.2.2.1 20; have f20_w4 : w4.frozen? ⟨w1.heap.size, 20, none⟩ = false := Bk.free T4.out.2.2.2.1 20) | (with_reducible refine load_bk rfl 32 _ rfl w1.heap.size 0 rfl 32 #[.int .i64 ((1 : Nat) : Int), .string nm, .int .i64 (a : Int), .int .i64 (b : Int), .int .i64 (d : Int), .slice Av ls.length cv, .string ⟨#[]⟩, .int .i64 0, .int .i64 0, .int .i64 0, .string ⟨#[]⟩, .string ⟨#[]⟩, .int .i64 0, .int .i64 0, .int .i64 0, .int .i64 0, .slice none 0 0, .string ⟨#[]⟩, .string ⟨#[]⟩, .int .i64 0, .string ⟨#[]⟩] #[.int .i64 ((1 : Nat) : Int), .string nm, .int .i64 (a : Int), .int .i64 (b : Int), .int .i64 (d : Int), .slice Av ls.length cv, .string ⟨#[]⟩, .int .i64 0, .int .i64 0, .int .i64 0, .string ⟨#[]⟩, .string ⟨#[]⟩, .int .i64 0, .int .i64 0, .int .i64 0, .int .i64 0, .slice none 0 0, .string ⟨#[]⟩, .string ⟨#[]⟩, .int .i64 0, .string ⟨#[]⟩] _ T4.out.2.2.2.1 (Part.whole _) Try.underlying32 rfl (by kernel_rfl) ?_) | ((with_reducible refine store_bk rfl 32 (.tmp 2) (.tmp 89) rfl w.heap.size 0 #[.int .i64 ((1 : Nat) : Int), .string nm, .int .i64 (a : Int), .int .i64 (b : Int), .int .i64 (d : Int), .slice Av ls.length cv, .string ⟨#[]⟩, .int .i64 0, .int .i64 0, .int .i64 0, .string ⟨#[]⟩, .string ⟨#[]⟩, .int .i64 0, .int .i64 0, .int .i64 0, .int .i64 0, .slice none 0 0, .string ⟨#[]⟩, .string ⟨#[]⟩, .int .i64 0, .string ⟨#[]⟩] rfl rfl 32 #[.int .i64 0, .string ⟨#[]⟩, .int .i64 0, .int .i64 0, .int .i64 0, .slice none 0 0, .string ⟨#[]⟩, .int .i64 0, .int .i64 0, .int .i64 0, .string ⟨#[]⟩, .string ⟨#[]⟩, .int .i64 0, .int .i64 0, .int .i64 0, .int .i64 0, .slice none 0 0, .string ⟨#[]⟩, .string ⟨#[]⟩, .int .i64 0, .string ⟨#[]⟩] #[.int .i64 ((1 : Nat) : Int), .string nm, .int .i64 (a : Int), .int .i64 (b : Int), .int .i64 (d : Int), .slice Av ls.length cv, .string ⟨#[]⟩, .int .i64 0, .int .i64 0, .int .i64 0, .string ⟨#[]⟩, .string ⟨#[]⟩, .int .i64 0, .int .i64 0, .int .i64 0, .int .i64 0, .slice none 0 0, .string ⟨#[]⟩, .string ⟨#[]⟩, .int .i64 0, .string ⟨#[]⟩] T4.out.2.1 (by kernel_rfl) (by simp) (by kernel_rfl) rfl ?_); intro wz hBz hgz hsz))
        exact bodyPost_ret (v := .tuple #[.agg #[.int .i64 ((1 : Nat) : Int), .string nm, .int .i64 (a : Int), .int .i64 (b : Int), .int .i64 (d : Int), .slice Av ls.length cv, .string ⟨#[]⟩, .int .i64 0, .int .i64 0, .int .i64 0, .string ⟨#[]⟩, .string ⟨#[]⟩, .int .i64 0, .int .i64 0, .int .i64 0, .int .i64 0, .slice none 0 0, .string ⟨#[]⟩, .string ⟨#[]⟩, .int .i64 0, .string ⟨#[]⟩], .int .i64 0]) (results_bk2 Try.results15 _ _ w.heap.size 32 #[.int .i64 ((1 : Nat) : Int), .string nm, .int .i64 (a : Int), .int .i64 (b : Int), .int .i64 (d : Int), .slice Av ls.length cv, .string ⟨#[]⟩, .int .i64 0, .int .i64 0, .int .i64 0, .string ⟨#[]⟩, .string ⟨#[]⟩, .int .i64 0, .int .i64 0, .int .i64 0, .int .i64 0, .slice none 0 0, .string ⟨#[]⟩, .string ⟨#[]⟩, .int .i64 0, .string ⟨#[]⟩] _ _ rfl rfl hBz Try.underlying32 rfl (by kernel_rfl)) rfl (GotO.of HE.out ⟨.slice Av ls.length cv, .slice none 0 0, rfl, (T4.out.2.2.2.2.stays hgz (by omega)).base (by omega), OwnL.nil _ _, grown_below T4.out.1 hgz (Nat.le_refl _)⟩)
      case neg =>
        have HE : Hid (D = (Ov.zero, 3)) := HD.out.trans (opFin_long (by rw [← hsl.out]; exact h1))
        have h1x : (at3 != (s.size : Int)) = true := by simpa using h1
        clear h1
        go_wp2_with ((with_reducible refine store_bk rfl 26 (.tmp 48) (.tmp 47) rfl w1.heap.size 1 #[.string nm, .int .i64 (a : Int), .int .i64 (b : Int), .int .i64 (d : Int), .slice Av ls.length cv] rfl rfl 32 #[.int .i64 ((1 : Nat) : Int), .string ⟨#[]⟩, .int .i64 0, .int .i64 0, .int .i64 0, .slice none 0 0, .string ⟨#[]⟩, .int .i64 0, .int .i64 0, .int .i64 0, .string ⟨#[]⟩, .string ⟨#[]⟩, .int .i64 0, .int .i64 0, .int .i64 0, .int .i64 0, .slice none 0 0, .string ⟨#[]⟩, .string ⟨#[]⟩, .int .i64 0, .string ⟨#[]⟩] #[.int .i64 ((1 : Nat) : Int), .string nm, .int .i64 (a : Int), .int .i64 (b : Int), .int .i64 (d : Int), .slice Av ls.length cv, .string ⟨#[]⟩, .int .i64 0, .int .i64 0, .int .i64 0, .string ⟨#[]⟩, .string ⟨#[]⟩, .int .i64 0, .int .i64 0, .int .i64 0, .int .i64 0, .slice none 0 0, .string ⟨#[]⟩, .string ⟨#[]⟩, .int .i64 0, .string ⟨#[]⟩] T3.out.2.2.2.1 (by kernel_rfl) (by simp) (by kernel_rfl) rfl ?_); intro w4 hB4 hg4 hs4; have T4 : Hid (Below w.heap.size w w4 ∧ Bk w4 w.heap.size 32 #[.int .i64 0, .string ⟨#[]⟩, .int .i64 0, .int .i64 0, .int .i64 0, .slice none 0 0, .string ⟨#[]⟩, .int .i64 0, .int .i64 0, .int .i64 0, .string ⟨#[]⟩, .string ⟨#[]⟩, .int .i64 0, .int .i64 0, .int .i64 0, .int .i64 0, .slice none 0 0, .string ⟨#[]⟩, .string ⟨#[]⟩, .int .i64 0, .string ⟨#[]⟩] ∧ Bk w4 (w.heap.size + 1) 74 #[.string s, .int .i64 at3, .int .i64 0] ∧ Bk w4 w1.heap.size 32 #[.int .i64 ((1 : Nat) : Int), .string nm, .int .i64 (a : Int), .int .i64 (b : Int), .int .i64 (d : Int), .slice Av ls.length cv, .string ⟨#[]⟩, .int .i64 0, .int .i64 0, .int .i64 0, .string ⟨#[]⟩, .string ⟨#[]⟩, .int .i64 0, .int .i64 0, .int .i64 0, .int .i64 0, .slice none 0 0, .string ⟨#[]⟩, .string ⟨#[]⟩, .int .i64 0, .string ⟨#[]⟩] ∧ OwnL w4 w2.heap.size (.slice Av ls.length cv) ls) := ⟨grown_below T3.out.1 hg4 (by omega), T3.out.2.1.stays hg4 (by simp; omega), T3.out.2.2.1.stays hg4 (by simp; omega), hB4, T3.out.2.2.2.2.stays hg4 (by omega)⟩; have cA_w4 : w4.cell? ⟨w.heap.size + 1, 1, none⟩ = some (.int .i64 at3) := Bk.cellAt T4.out.2.2.1 1; have cE_w4 : w4.cell? ⟨w.heap.size + 1, 2, none⟩ = some (.int .i64 0) := Bk.cellAt T4.out.2.2.1 2; have fE_w4 : w4.frozen? ⟨w.heap.size + 1, 2, none⟩ = false := Bk.free T4.out.2.2.1 2; have c0_w4 : w4.cell? ⟨w1.heap.size, 0, none⟩ = some (.int .i64 ((1 : Nat) : Int)) := Bk.cellAt T4.out.2.2.2.1 0; have c20_w4 : w4.cell? ⟨w1.heap.size, 20, none⟩ = some (.string ⟨#[]⟩) := Bk.cellAt T4.out.2.2.2.1 20; have f20_w4 : w4.frozen? ⟨w1.heap.size, 20, none⟩ = false := Bk.free T4.out.2.2.2.1 20)
        have hR3 : Bk (w4.setCell ⟨w.heap.size + 1, 2, none⟩ (.int .i64 3)) (w.heap.size + 1) 74 #[.string s, .int .i64 at3, .int .i64 3] := T4.out.2.2.1.put 2 (.int .i64 3)
        have cE0 := hR3.cellAt 2
        have bN0 := Bk.other T4.out.2.1 (p := ⟨w.heap.size + 1, 2, none⟩) (by simp) (.int .i64 3)
        have bL0 := Below.setCell T4.out.1 (p := ⟨w.heap.size + 1, 2, none⟩) (by simp) (.int .i64 3)
        refine wp_region_held_drew (S := fun W => W.cell? ⟨w.heap.size + 1, 2, none⟩ = some (.int .i64 3)) (by kernel_rfl) cE0 (fun hS0 => ?_)
        refine wpAnyH_take (i := 0) (v := .agg #[.int .i64 0, .string ⟨#[]⟩, .int .i64 0, .int .i64 0, .int .i64 0, .slice none 0 0, .string ⟨#[]⟩, .int .i64 0, .int .i64 0, .int .i64 0, .string ⟨#[]⟩, .string ⟨#[]⟩, .int .i64 0, .int .i64 0, .int .i64 0, .int .i64 0, .slice none 0 0, .string ⟨#[]⟩, .string ⟨#[]⟩, .int .i64 0, .string ⟨#[]⟩]) rfl (by kernel_rfl) (by kernel_rfl) (by kernel_rfl) (fun _ _ _ h => h) (Or.inl ⟨by rfl, ?_⟩) hS0 ?_
        · intro W _; go_simp
        try simp only [Act.put, List.getElem_toArray, List.getElem_cons_zero, List.getElem_cons_succ, List.setIfInBounds_toArray, List.set_cons_zero, List.set_cons_succ]
        refine wpAnyH_take (i := 1) (v := ?_) rfl (by kernel_rfl) (by kernel_rfl) (by kernel_rfl) (fun _ _ _ h => h) (Or.inl ⟨by rfl, ?_⟩) hS0 ?_
        rotate_left
        · intro W _; go_simp; try with_reducible rfl
        try simp only [Act.put, List.getElem_toArray, List.getElem_cons_zero, List.getElem_cons_succ, List.setIfInBounds_toArray, List.set_cons_zero, List.set_cons_succ]
        refine wpAnyH_take (i := 2) (v := ?_) rfl (by kernel_rfl) (by kernel_rfl) (by kernel_rfl) (fun _ _ _ h => h) (Or.inl ⟨by rfl, ?_⟩) hS0 ?_
        rotate_left
        · intro W _; go_simp; try with_reducible rfl
        try simp only [Act.put, List.getElem_toArray, List.getElem_cons_zero, List.getElem_cons_succ, List.setIfInBounds_toArray, List.set_cons_zero, List.set_cons_succ]
        refine wpAnyH_take (i := 3) (v := ?_) rfl (by kernel_rfl) (by kernel_rfl) (by kernel_rfl) (fun _ _ _ h => h) (Or.inl ⟨by rfl, ?_⟩) hS0 ?_
        rotate_left
        · intro W _; go_simp; try with_reducible rfl
        try simp only [Act.put, List.getElem_toArray, List.getElem_cons_zero, List.getElem_cons_succ, List.setIfInBounds_toArray, List.set_cons_zero, List.set_cons_succ]
        refine wpAnyH_take (i := 4) (v := ?_) rfl (by kernel_rfl) (by kernel_rfl) (by kernel_rfl) (fun _ _ _ h => h) (Or.inl ⟨by rfl, ?_⟩) hS0 ?_
        rotate_left
        · intro W hSW; have hSW2 : W.cell? ⟨w.heap.size + 1, 2, none⟩ = some (.int .i64 3) := hSW; go_simp; try with_reducible rfl
        try simp only [Act.put, List.getElem_toArray, List.getElem_cons_zero, List.getElem_cons_succ, List.setIfInBounds_toArray, List.set_cons_zero, List.set_cons_succ]
        refine wpAnyH_ready (rs := [5]) (by kernel_rfl) (by simp) ?_
        refine AllReadyH.cons rfl (fun K hK => ?_) AllReadyH.nil
        rw [if_pos (by rfl)]
        refine store_bk_op 32 (.tmp 2) (.tmp 84) rfl w.heap.size 0 #[.int .i64 0, .string ⟨#[]⟩, .int .i64 0, .int .i64 0, .int .i64 0, .slice none 0 0, .string ⟨#[]⟩, .int .i64 0, .int .i64 0, .int .i64 0, .string ⟨#[]⟩, .string ⟨#[]⟩, .int .i64 0, .int .i64 0, .int .i64 0, .int .i64 0, .slice none 0 0, .string ⟨#[]⟩, .string ⟨#[]⟩, .int .i64 0, .string ⟨#[]⟩] rfl rfl 32 #[.int .i64 0, .string ⟨#[]⟩, .int .i64 0, .int .i64 0, .int .i64 0, .slice none 0 0, .string ⟨#[]⟩, .int .i64 0, .int .i64 0, .int .i64 0, .string ⟨#[]⟩, .string ⟨#[]⟩, .int .i64 0, .int .i64 0, .int .i64 0, .int .i64 0, .slice none 0 0, .string ⟨#[]⟩, .string ⟨#[]⟩, .int .i64 0, .string ⟨#[]⟩] #[.int .i64 0, .string ⟨#[]⟩, .int .i64 0, .int .i64 0, .int .i64 0, .slice none 0 0, .string ⟨#[]⟩, .int .i64 0, .int .i64 0, .int .i64 0, .string ⟨#[]⟩, .string ⟨#[]⟩, .int .i64 0, .int .i64 0, .int .i64 0, .int .i64 0, .slice none 0 0, .string ⟨#[]⟩, .string ⟨#[]⟩, .int .i64 0, .string ⟨#[]⟩] bN0.drewB (by kernel_rfl) (by simp) (by kernel_rfl) rfl ?_
        intro wz hBz hgz hsz
        refine hK.out _ _ (hgz.cell hS0 (by simp)) (fun hS1 => ?_)
        clear hK K
        try simp only [Act.put, List.getElem_toArray, List.getElem_cons_zero, List.getElem_cons_succ, List.setIfInBounds_toArray, List.set_cons_zero, List.set_cons_succ]
        refine wpAnyH_take (i := 6) (v := ?_) rfl (by kernel_rfl) (by kernel_rfl) (by kernel_rfl) (fun _ _ _ h => h) (Or.inl ⟨by rfl, ?_⟩) hS1 ?_
        rotate_left
        · intro W _; go_simp; try with_reducible rfl
        try simp only [Act.put, List.getElem_toArray, List.getElem_cons_zero, List.getElem_cons_succ, List.setIfInBounds_toArray, List.set_cons_zero, List.set_cons_succ]
        refine wpAnyH_done (by kernel_rfl) ?_ _
        go_wp2_with fail
        exact bodyPost_ret (v := .tuple #[.agg #[.int .i64 0, .string ⟨#[]⟩, .int .i64 0, .int .i64 0, .int .i64 0, .slice none 0 0, .string ⟨#[]⟩, .int .i64 0, .int .i64 0, .int .i64 0, .string ⟨#[]⟩, .string ⟨#[]⟩, .int .i64 0, .int .i64 0, .int .i64 0, .int .i64 0, .slice none 0 0, .string ⟨#[]⟩, .string ⟨#[]⟩, .int .i64 0, .string ⟨#[]⟩], .int .i64 3]) (results_bk2 Try.results15 _ _ w.heap.size 32 #[.int .i64 0, .string ⟨#[]⟩, .int .i64 0, .int .i64 0, .int .i64 0, .slice none 0 0, .string ⟨#[]⟩, .int .i64 0, .int .i64 0, .int .i64 0, .string ⟨#[]⟩, .string ⟨#[]⟩, .int .i64 0, .int .i64 0, .int .i64 0, .int .i64 0, .slice none 0 0, .string ⟨#[]⟩, .string ⟨#[]⟩, .int .i64 0, .string ⟨#[]⟩] _ _ rfl rfl hBz Try.underlying32 rfl (by kernel_rfl)) rfl (GotO.of HE.out ⟨.slice none 0 0, .slice none 0 0, rfl, OwnL.nil _ _, OwnL.nil _ _, grown_below (Below.drew bL0) hgz (Nat.le_refl _)⟩)
    case neg =>
      have HE : Hid (D = (Ov.zero, er)) := HD.out.trans (opFin_no h0)
      have e1 : (er == 0) = false := by simpa using h0
      have e2 : (er != 0) = true := by simpa using h0
      clear h0 hat3
      go_wp2_with ((with_reducible refine store_bk rfl 26 (.tmp 48) (.tmp 47) rfl w1.heap.size 1 #[.string nm, .int .i64 (a : Int), .int .i64 (b : Int), .int .i64 (d : Int), .slice Av ls.length cv] rfl rfl 32 #[.int .i64 ((1 : Nat) : Int), .string ⟨#[]⟩, .int .i64 0, .int .i64 0, .int .i64 0, .slice none 0 0, .string ⟨#[]⟩, .int .i64 0, .int .i64 0, .int .i64 0, .string ⟨#[]⟩, .string ⟨#[]⟩, .int .i64 0, .int .i64 0, .int .i64 0, .int .i64 0, .slice none 0 0, .string ⟨#[]⟩, .string ⟨#[]⟩, .int .i64 0, .string ⟨#[]⟩] #[.int .i64 ((1 : Nat) : Int), .string nm, .int .i64 (a : Int), .int .i64 (b : Int), .int .i64 (d : Int), .slice Av ls.length cv, .string ⟨#[]⟩, .int .i64 0, .int .i64 0, .int .i64 0, .string ⟨#[]⟩, .string ⟨#[]⟩, .int .i64 0, .int .i64 0, .int .i64 0, .int .i64 0, .slice none 0 0, .string ⟨#[]⟩, .string ⟨#[]⟩, .int .i64 0, .string ⟨#[]⟩] T3.out.2.2.2.1 (by kernel_rfl) (by simp) (by kernel_rfl) rfl ?_); intro w4 hB4 hg4 hs4; have T4 : Hid (Below w.heap.size w w4 ∧ Bk w4 w.heap.size 32 #[.int .i64 0, .string ⟨#[]⟩, .int .i64 0, .int .i64 0, .int .i64 0, .slice none 0 0, .string ⟨#[]⟩, .int .i64 0, .int .i64 0, .int .i64 0, .string ⟨#[]⟩, .string ⟨#[]⟩, .int .i64 0, .int .i64 0, .int .i64 0, .int .i64 0, .slice none 0 0, .string ⟨#[]⟩, .string ⟨#[]⟩, .int .i64 0, .string ⟨#[]⟩] ∧ Bk w4 (w.heap.size + 1) 74 #[.string s, .int .i64 at3, .int .i64 er] ∧ Bk w4 w1.heap.size 32 #[.int .i64 ((1 : Nat) : Int), .string nm, .int .i64 (a : Int), .int .i64 (b : Int), .int .i64 (d : Int), .slice Av ls.length cv, .string ⟨#[]⟩, .int .i64 0, .int .i64 0, .int .i64 0, .string ⟨#[]⟩, .string ⟨#[]⟩, .int .i64 0, .int .i64 0, .int .i64 0, .int .i64 0, .slice none 0 0, .string ⟨#[]⟩, .string ⟨#[]⟩, .int .i64 0, .string ⟨#[]⟩] ∧ OwnL w4 w2.heap.size (.slice Av ls.length cv) ls) := ⟨grown_below T3.out.1 hg4 (by omega), T3.out.2.1.stays hg4 (by simp; omega), T3.out.2.2.1.stays hg4 (by simp; omega), hB4, T3.out.2.2.2.2.stays hg4 (by omega)⟩; have cA_w4 : w4.cell? ⟨w.heap.size + 1, 1, none⟩ = some (.int .i64 at3) := Bk.cellAt T4.out.2.2.1 1; have cE_w4 : w4.cell? ⟨w.heap.size + 1, 2, none⟩ = some (.int .i64 er) := Bk.cellAt T4.out.2.2.1 2; have fE_w4 : w4.frozen? ⟨w.heap.size + 1, 2, none⟩ = false := Bk.free T4.out.2.2.1 2; have c0_w4 : w4.cell? ⟨w1.heap.size, 0, none⟩ = some (.int .i64 ((1 : Nat) : Int)) := Bk.cellAt T4.out.2.2.2.1 0; have c20_w4 : w4.cell? ⟨w1.heap.size, 20, none⟩ = some (.string ⟨#[]⟩) := Bk.cellAt T4.out.2.2.2.1 20; have f20_w4 : w4.frozen? ⟨w1.heap.size, 20, none⟩ = false := Bk.free T4.out.2.2.2.1 20)
      have cE0 := cE_w4
      have bN0 := T4.out.2.1
      have bL0 := T4.out.1
      refine wp_region_held_drew (S := fun W => W.cell? ⟨w.heap.size + 1, 2, none⟩ = some (.int .i64 er)) (by kernel_rfl) cE0 (fun hS0 => ?_)
      refine wpAnyH_take (i := 0) (v := .agg #[.int .i64 0, .string ⟨#[]⟩, .int .i64 0, .int .i64 0, .int .i64 0, .slice none 0 0, .string ⟨#[]⟩, .int .i64 0, .int .i64 0, .int .i64 0, .string ⟨#[]⟩, .string ⟨#[]⟩, .int .i64 0, .int .i64 0, .int .i64 0, .int .i64 0, .slice none 0 0, .string ⟨#[]⟩, .string ⟨#[]⟩, .int .i64 0, .string ⟨#[]⟩]) rfl (by kernel_rfl) (by kernel_rfl) (by kernel_rfl) (fun _ _ _ h => h) (Or.inl ⟨by rfl, ?_⟩) hS0 ?_
      · intro W _; go_simp
      try simp only [Act.put, List.getElem_toArray, List.getElem_cons_zero, List.getElem_cons_succ, List.setIfInBounds_toArray, List.set_cons_zero, List.set_cons_succ]
      refine wpAnyH_take (i := 1) (v := ?_) rfl (by kernel_rfl) (by kernel_rfl) (by kernel_rfl) (fun _ _ _ h => h) (Or.inl ⟨by rfl, ?_⟩) hS0 ?_
      rotate_left
      · intro W _; go_simp; try with_reducible rfl
      try simp only [Act.put, List.getElem_toArray, List.getElem_cons_zero, List.getElem_cons_succ, List.setIfInBounds_toArray, List.set_cons_zero, List.set_cons_succ]
      refine wpAnyH_take (i := 2) (v := ?_) rfl (by kernel_rfl) (by kernel_rfl) (by kernel_rfl) (fun _ _ _ h => h) (Or.inl ⟨by rfl, ?_⟩) hS0 ?_
      rotate_left
      · intro W _; go_simp; try with_reducible rfl
      try simp only [Act.put, List.getElem_toArray, List.getElem_cons_zero, List.getElem_cons_succ, List.setIfInBounds_toArray, List.set_cons_zero, List.set_cons_succ]
      refine wpAnyH_take (i := 3) (v := ?_) rfl (by kernel_rfl) (by kernel_rfl) (by kernel_rfl) (fun _ _ _ h => h) (Or.inl ⟨by rfl, ?_⟩) hS0 ?_
      rotate_left
      · intro W _; go_simp; try with_reducible rfl
      try simp only [Act.put, List.getElem_toArray, List.getElem_cons_zero, List.getElem_cons_succ, List.setIfInBounds_toArray, List.set_cons_zero, List.set_cons_succ]
      refine wpAnyH_take (i := 4) (v := ?_) rfl (by kernel_rfl) (by kernel_rfl) (by kernel_rfl) (fun _ _ _ h => h) (Or.inl ⟨by rfl, ?_⟩) hS0 ?_
      rotate_left
      · intro W hSW; have hSW2 : W.cell? ⟨w.heap.size + 1, 2, none⟩ = some (.int .i64 er) := hSW; go_simp; try with_reducible rfl
      try simp only [Act.put, List.getElem_toArray, List.getElem_cons_zero, List.getElem_cons_succ, List.setIfInBounds_toArray, List.set_cons_zero, List.set_cons_succ]
      refine wpAnyH_ready (rs := [5]) (by kernel_rfl) (by simp) ?_
      refine AllReadyH.cons rfl (fun K hK => ?_) AllReadyH.nil
      rw [if_pos (by rfl)]
      refine store_bk_op 32 (.tmp 2) (.tmp 84) rfl w.heap.size 0 #[.int .i64 0, .string ⟨#[]⟩, .int .i64 0, .int .i64 0, .int .i64 0, .slice none 0 0, .string ⟨#[]⟩, .int .i64 0, .int .i64 0, .int .i64 0, .string ⟨#[]⟩, .string ⟨#[]⟩, .int .i64 0, .int .i64 0, .int .i64 0, .int .i64 0, .slice none 0 0, .string ⟨#[]⟩, .string ⟨#[]⟩, .int .i64 0, .string ⟨#[]⟩] rfl rfl 32 #[.int .i64 0, .string ⟨#[]⟩, .int .i64 0, .int .i64 0, .int .i64 0, .slice none 0 0, .string ⟨#[]⟩, .int .i64 0, .int .i64 0, .int .i64 0, .string ⟨#[]⟩, .string ⟨#[]⟩, .int .i64 0, .int .i64 0, .int .i64 0, .int .i64 0, .slice none 0 0, .string ⟨#[]⟩, .string ⟨#[]⟩, .int .i64 0, .string ⟨#[]⟩] #[.int .i64 0, .string ⟨#[]⟩, .int .i64 0, .int .i64 0, .int .i64 0, .slice none 0 0, .string ⟨#[]⟩, .int .i64 0, .int .i64 0, .int .i64 0, .string ⟨#[]⟩, .string ⟨#[]⟩, .int .i64 0, .int .i64 0, .int .i64 0, .int .i64 0, .slice none 0 0, .string ⟨#[]⟩, .string ⟨#[]⟩, .int .i64 0, .string ⟨#[]⟩] bN0.drewB (by kernel_rfl) (by simp) (by kernel_rfl) rfl ?_
      intro wz hBz hgz hsz
      refine hK.out _ _ (hgz.cell hS0 (by simp)) (fun hS1 => ?_)
      clear hK K
      try simp only [Act.put, List.getElem_toArray, List.getElem_cons_zero, List.getElem_cons_succ, List.setIfInBounds_toArray, List.set_cons_zero, List.set_cons_succ]
      refine wpAnyH_take (i := 6) (v := ?_) rfl (by kernel_rfl) (by kernel_rfl) (by kernel_rfl) (fun _ _ _ h => h) (Or.inl ⟨by rfl, ?_⟩) hS1 ?_
      rotate_left
      · intro W _; go_simp; try with_reducible rfl
      try simp only [Act.put, List.getElem_toArray, List.getElem_cons_zero, List.getElem_cons_succ, List.setIfInBounds_toArray, List.set_cons_zero, List.set_cons_succ]
      refine wpAnyH_done (by kernel_rfl) ?_ _
      go_wp2_with fail
      exact bodyPost_ret (v := .tuple #[.agg #[.int .i64 0, .string ⟨#[]⟩, .int .i64 0, .int .i64 0, .int .i64 0, .slice none 0 0, .string ⟨#[]⟩, .int .i64 0, .int .i64 0, .int .i64 0, .string ⟨#[]⟩, .string ⟨#[]⟩, .int .i64 0, .int .i64 0, .int .i64 0, .int .i64 0, .slice none 0 0, .string ⟨#[]⟩, .string ⟨#[]⟩, .int .i64 0, .string ⟨#[]⟩], .int .i64 er]) (results_bk2 Try.results15 _ _ w.heap.size 32 #[.int .i64 0, .string ⟨#[]⟩, .int .i64 0, .int .i64 0, .int .i64 0, .slice none 0 0, .string ⟨#[]⟩, .int .i64 0, .int .i64 0, .int .i64 0, .string ⟨#[]⟩, .string ⟨#[]⟩, .int .i64 0, .int .i64 0, .int .i64 0, .int .i64 0, .slice none 0 0, .string ⟨#[]⟩, .string ⟨#[]⟩, .int .i64 0, .string ⟨#[]⟩] _ _ rfl rfl hBz Try.underlying32 rfl (by kernel_rfl)) rfl (GotO.of HE.out ⟨.slice none 0 0, .slice none 0 0, rfl, OwnL.nil _ _, OwnL.nil _ _, grown_below (Below.drew bL0) hgz (Nat.le_refl _)⟩)
  case neg =>
    by_cases h3 : k = 3
    case pos =>
      subst h3
      rw [pTake_3 ht] at hD
      have kk := fun W (hR : RdR W (w.heap.size + 1) s (p, 0)) => rr_queue (w.heap.size + 1) s p l W hR hl hs
      obtain ⟨⟨nm, a, b, d⟩, nx, er, hx⟩ : ∃ x nx er, tQueue l p = (x, nx, er) := ⟨_, _, _, rfl⟩
      unfold valQueue at kk
      rw [hx] at kk hD
      simp only [] at kk hD
      have KK := Lib.hid kk
      clear kk hx
      have HD := Lib.hid hD
      have KN := Lib.hid kn
      clear kn ht hbad hk hD h0 h1
      go_enter Try.func15, Try.ntmps15
      go_wp2_with fail
      have hR0 : RdR ((w.alloc (.cells #[.int .i64 0, .string ⟨#[]⟩, .int .i64 0, .int .i64 0, .int .i64 0, .slice none 0 0, .string ⟨#[]⟩, .int .i64 0, .int .i64 0, .int .i64 0, .string ⟨#[]⟩, .string ⟨#[]⟩, .int .i64 0, .int .i64 0, .int .i64 0, .int .i64 0, .slice none 0 0, .string ⟨#[]⟩, .string ⟨#[]⟩, .int .i64 0, .string ⟨#[]⟩] 32)).alloc (.cells #[.string s, .int .i64 0, .int .i64 0] 74)) (w.heap.size + 1) s (0, 0) := ⟨0, Bk.freshAt _ _ _ (by simp), fun _ => rfl⟩
      have hN0 : Bk ((w.alloc (.cells #[.int .i64 0, .string ⟨#[]⟩, .int .i64 0, .int .i64 0, .int .i64 0, .slice none 0 0, .string ⟨#[]⟩, .int .i64 0, .int .i64 0, .int .i64 0, .string ⟨#[]⟩, .string ⟨#[]⟩, .int .i64 0, .int .i64 0, .int .i64 0, .int .i64 0, .slice none 0 0, .string ⟨#[]⟩, .string ⟨#[]⟩, .int .i64 0, .string ⟨#[]⟩] 32)).alloc (.cells #[.string s, .int .i64 0, .int .i64 0] 74)) w.heap.size 32 #[.int .i64 0, .string ⟨#[]⟩, .int .i64 0, .int .i64 0, .int .i64 0, .slice none 0 0, .string ⟨#[]⟩, .int .i64 0, .int .i64 0, .int .i64 0, .string ⟨#[]⟩, .string ⟨#[]⟩, .int .i64 0, .int .i64 0, .int .i64 0, .int .i64 0, .slice none 0 0, .string ⟨#[]⟩, .string ⟨#[]⟩, .int .i64 0, .string ⟨#[]⟩] := (Bk.fresh _ _ _).later ((Below.refl _ _).alloc (Nat.le_refl _) _)
      refine (KN.out _ hR0).mono ?_
      rintro e w1 ⟨rfl, hR1, hg1⟩
      obtain ⟨at_, hbR, hat⟩ := hR1
      have T1 : Hid (Below w.heap.size w w1 ∧ Bk w1 w.heap.size 32 #[.int .i64 0, .string ⟨#[]⟩, .int .i64 0, .int .i64 0, .int .i64 0, .slice none 0 0, .string ⟨#[]⟩, .int .i64 0, .int .i64 0, .int .i64 0, .string ⟨#[]⟩, .string ⟨#[]⟩, .int .i64 0, .int .i64 0, .int .i64 0, .int .i64 0, .slice none 0 0, .string ⟨#[]⟩, .string ⟨#[]⟩, .int .i64 0, .string ⟨#[]⟩] ∧ Bk w1 (w.heap.size + 1) 74 #[.string s, .int .i64 at_, .int .i64 0]) := ⟨grown_below (by (repeat' (first | (with_reducible exact Below.refl _ _) | (with_reducible refine bdrewN ?_ _) | (with_reducible refine Below.drew ?_) | (with_reducible refine Below.setCell ?_ ?_ _) | (with_reducible refine Below.alloc ?_ ?_ _) | (with_reducible exact Nat.le_refl _) | (with_reducible assumption) | omega | (simp only [World.size_alloc, World.size_setCell, World.size_drew, sz_drewN]; omega)))) hg1 (by omega), hN0.stays hg1 (by simp), hbR⟩
      have hz1 : w.heap.size + 1 < w1.heap.size := T1.out.2.2.here
      have hat2 : p = at_ := (hat rfl).symm
      subst hat2
      clear hR0 hN0 hbR hat hg1
      go_wp2_with ((with_reducible refine store_bk rfl 32 (.tmp 5) (.tmp 11) rfl w1.heap.size 0 #[.int .i64 ((3 : Nat) : Int), .string ⟨#[]⟩, .int .i64 0, .int .i64 0, .int .i64 0, .slice none 0 0, .string ⟨#[]⟩, .int .i64 0, .int .i64 0, .int .i64 0, .string ⟨#[]⟩, .string ⟨#[]⟩, .int .i64 0, .int .i64 0, .int .i64 0, .int .i64 0, .slice none 0 0, .string ⟨#[]⟩, .string ⟨#[]⟩, .int .i64 0, .string ⟨#[]⟩] rfl rfl 32 #[.int .i64 0, .string ⟨#[]⟩, .int .i64 0, .int .i64 0, .int .i64 0, .slice none 0 0, .string ⟨#[]⟩, .int .i64 0, .int .i64 0, .int .i64 0, .string ⟨#[]⟩, .string ⟨#[]⟩, .int .i64 0, .int .i64 0, .int .i64 0, .int .i64 0, .slice none 0 0, .string ⟨#[]⟩, .string ⟨#[]⟩, .int .i64 0, .string ⟨#[]⟩] #[.int .i64 ((3 : Nat) : Int), .string ⟨#[]⟩, .int .i64 0, .int .i64 0, .int .i64 0, .slice none 0 0, .string ⟨#[]⟩, .int .i64 0, .int .i64 0, .int .i64 0, .string ⟨#[]⟩, .string ⟨#[]⟩, .int .i64 0, .int .i64 0, .int .i64 0, .int .i64 0, .slice none 0 0, .string ⟨#[]⟩, .string ⟨#[]⟩, .int .i64 0, .string ⟨#[]⟩] (Bk.fresh _ _ _) (by kernel_rfl) (by simp) (by kernel_rfl) rfl ?_); intro w2 hB2 hg2 hs2; have T2 : Hid (Below w.heap.size w w2 ∧ Bk w2 w.heap.size 32 #[.int .i64 0, .string ⟨#[]⟩, .int .i64 0, .int .i64 0, .int .i64 0, .slice none 0 0, .string ⟨#[]⟩, .int .i64 0, .int .i64 0, .int .i64 0, .string ⟨#[]⟩, .string ⟨#[]⟩, .int .i64 0, .int .i64 0, .int .i64 0, .int .i64 0, .slice none 0 0, .string ⟨#[]⟩, .string ⟨#[]⟩, .int .i64 0, .string ⟨#[]⟩] ∧ Bk w2 (w.heap.size + 1) 74 #[.string s, .int .i64 p, .int .i64 0] ∧ Bk w2 w1.heap.size 32 #[.int .i64 ((3 : Nat) : Int), .string ⟨#[]⟩, .int .i64 0, .int .i64 0, .int .i64 0, .slice none 0 0, .string ⟨#[]⟩, .int .i64 0, .int .i64 0, .int .i64 0, .string ⟨#[]⟩, .string ⟨#[]⟩, .int .i64 0, .int .i64 0, .int .i64 0, .int .i64 0, .slice none 0 0, .string ⟨#[]⟩, .string ⟨#[]⟩, .int .i64 0, .string ⟨#[]⟩]) := ⟨T1.out.1.trans ((grown_below ((Below.refl _ _).alloc (Nat.le_refl _) _) hg2 (Nat.le_refl _)).mono T1.out.1.size), (T1.out.2.1.later ((Below.refl _ _).alloc (Nat.le_refl _) _)).stays hg2 (by simp; omega), (T1.out.2.2.later ((Below.refl _ _).alloc (Nat.le_refl _) _)).stays hg2 (by simp; omega), hB2⟩; have cA_w2 : w2.cell? ⟨w.heap.size + 1, 1, none⟩ = some (.int .i64 p) := Bk.cellAt T2.out.2.2.1 1; have cE_w2 : w2.cell? ⟨w.heap.size + 1, 2, none⟩ = some (.int .i64 0) := Bk.cellAt T2.out.2.2.1 2; have fE_w2 : w2.frozen? ⟨w.heap.size + 1, 2, none⟩ = false := Bk.free T2.out.2.2.1 2; have c0_w2 : w2.cell? ⟨w1.heap.size, 0, none⟩ = some (.int .i64 ((3 : Nat) : Int)) := Bk.cellAt T2.out.2.2.2 0; have c20_w2 : w2.cell? ⟨w1.heap.size, 20, none⟩ = some (.string ⟨#[]⟩) := Bk.cellAt T2.out.2.2.2 20; have f20_w2 : w2.frozen? ⟨w1.heap.size, 20, none⟩ = false := Bk.free T2.out.2.2.2 20; have z2 : w1.heap.size < w2.heap.size := Bk.here T2.out.2.2.2)
      refine (KK.out _ ⟨p, T2.out.2.2.1, fun _ => rfl⟩).mono ?_
      rintro e w3 ⟨rfl, hR3, hg3⟩
      obtain ⟨at3, hb3, hat3⟩ := hR3
      have T3 : Hid (Below w.heap.size w w3 ∧ Bk w3 w.heap.size 32 #[.int .i64 0, .string ⟨#[]⟩, .int .i64 0, .int .i64 0, .int .i64 0, .slice none 0 0, .string ⟨#[]⟩, .int .i64 0, .int .i64 0, .int .i64 0, .string ⟨#[]⟩, .string ⟨#[]⟩, .int .i64 0, .int .i64 0, .int .i64 0, .int .i64 0, .slice none 0 0, .string ⟨#[]⟩, .string ⟨#[]⟩, .int .i64 0, .string ⟨#[]⟩] ∧ Bk w3 (w.heap.size + 1) 74 #[.string s, .int .i64 at3, .int .i64 er] ∧ Bk w3 w1.heap.size 32 #[.int .i64 ((3 : Nat) : Int), .string ⟨#[]⟩, .int .i64 0, .int .i64 0, .int .i64 0, .slice none 0 0, .string ⟨#[]⟩, .int .i64 0, .int .i64 0, .int .i64 0, .string ⟨#[]⟩, .string ⟨#[]⟩, .int .i64 0, .int .i64 0, .int .i64 0, .int .i64 0, .slice none 0 0, .string ⟨#[]⟩, .string ⟨#[]⟩, .int .i64 0, .string ⟨#[]⟩]) := ⟨grown_below T2.out.1 hg3 (by omega), T2.out.2.1.stays hg3 (by simp), hb3, T2.out.2.2.2.stays hg3 (by simp; omega)⟩
      have z3 : w1.heap.size < w2.heap.size := T2.out.2.2.2.here
      clear hB2 hg2 hs2 cA_w2 cE_w2 fE_w2 c0_w2 c20_w2 f20_w2 z2 hb3 hg3 T1
      by_cases h0 : er = 0
      case pos =>
        subst h0
        have hat4 : at3 = nx := hat3 rfl
        subst hat4
        clear hat3
        by_cases h1 : at3 = (s.size : Int)
        case pos =>
          have HE : Hid (D = (_, 0)) := HD.out.trans (opFin_ok (by rw [h1, hsl.out]))
          have h1x : (at3 != (s.size : Int)) = false := by simp [h1]
          clear h1
          go_wp2_with (first | ((with_reducible refine store_bk rfl 28 (.tmp 53) (.tmp 52) rfl w1.heap.size 6 #[.string nm, .int .i64 (a : Int), .int .i64 (b : Int), .int .i64 (d : Int)] rfl rfl 32 #[.int .i64 ((3 : Nat) : Int), .string ⟨#[]⟩, .int .i64 0, .int .i64 0, .int .i64 0, .slice none 0 0, .string ⟨#[]⟩, .int .i64 0, .int .i64 0, .int .i64 0, .string ⟨#[]⟩, .string ⟨#[]⟩, .int .i64 0, .int .i64 0, .int .i64 0, .int .i64 0, .slice none 0 0, .string ⟨#[]⟩, .string ⟨#[]⟩, .int .i64 0, .string ⟨#[]⟩] #[.int .i64 ((3 : Nat) : Int), .string ⟨#[]⟩, .int .i64 0, .int .i64 0, .int .i64 0, .slice none 0 0, .string nm, .int .i64 (a : Int), .int .i64 (b : Int), .int .i64 (d : Int), .string ⟨#[]⟩, .string ⟨#[]⟩, .int .i64 0, .int .i64 0, .int .i64 0, .int .i64 0, .slice none 0 0, .string ⟨#[]⟩, .string ⟨#[]⟩, .int .i64 0, .string ⟨#[]⟩] T3.out.2.2.2 (by kernel_rfl) (by simp) (by kernel_rfl) rfl ?_); intro w4 hB4 hg4 hs4; have T4 : Hid (Below w.heap.size w w4 ∧ Bk w4 w.heap.size 32 #[.int .i64 0, .string ⟨#[]⟩, .int .i64 0, .int .i64 0, .int .i64 0, .slice none 0 0, .string ⟨#[]⟩, .int .i64 0, .int .i64 0, .int .i64 0, .string ⟨#[]⟩, .string ⟨#[]⟩, .int .i64 0, .int .i64 0, .int .i64 0, .int .i64 0, .slice none 0 0, .string ⟨#[]⟩, .string ⟨#[]⟩, .int .i64 0, .string ⟨#[]⟩] ∧ Bk w4 (w.heap.size + 1) 74 #[.string s, .int .i64 at3, .int .i64 0] ∧ Bk w4 w1.heap.size 32 #[.int .i64 ((3 : Nat) : Int), .string ⟨#[]⟩, .int .i64 0, .int .i64 0, .int .i64 0, .slice none 0 0, .string nm, .int .i64 (a : Int), .int .i64 (b : Int), .int .i64 (d : Int), .string ⟨#[]⟩, .string ⟨#[]⟩, .int .i64 0, .int .i64 0, .int .i64 0, .int .i64 0, .slice none 0 0, .string ⟨#[]⟩, .string ⟨#[]⟩, .int .i64 0, .string ⟨#[]⟩]) := ⟨grown_below T3.out.1 hg4 (by omega), T3.out.2.1.stays hg4 (by simp; omega), T3.out.2.2.1.stays hg4 (by simp; omega), hB4⟩; have cA_w4 : w4.cell? ⟨w.heap.size + 1, 1, none⟩ = some (.int .i64 at3) := Bk.cellAt T4.out.2.2.1 1; have cE_w4 : w4.cell? ⟨w.heap.size + 1, 2, none⟩ = some (.int .i64 0) := Bk.cellAt T4.out.2.2.1 2; have fE_w4 : w4.frozen? ⟨w.heap.size + 1, 2, none⟩ = false := Bk.free T4.out.2.2.1 2; have c0_w4 : w4.cell? ⟨w1.heap.size, 0, none⟩ = some (.int .i64 ((3 : Nat) : Int)) := Bk.cellAt T4.out.2.2.2 0; have c20_w4 : w4.cell? ⟨w1.heap.size, 20, none⟩ = some (.string ⟨#[]⟩) := Bk.cellAt T4.out.2.2.2 20; have f20_w4 : w4.frozen? ⟨w1.heap.size, 20, none⟩ = false := Bk.free T4.out.2.2.2 20) | (with_reducible refine load_bk rfl 32 _ rfl w1.heap.size 0 rfl 32 #[.int .i64 ((3 : Nat) : Int), .string ⟨#[]⟩, .int .i64 0, .int .i64 0, .int .i64 0, .slice none 0 0, .string nm, .int .i64 (a : Int), .int .i64 (b : Int), .int .i64 (d : Int), .string ⟨#[]⟩, .string ⟨#[]⟩, .int .i64 0, .int .i64 0, .int .i64 0, .int .i64 0, .slice none 0 0, .string ⟨#[]⟩, .string ⟨#[]⟩, .int .i64 0, .string ⟨#[]⟩] #[.int .i64 ((3 : Nat) : Int), .string ⟨#[]⟩, .int .i64 0, .int .i64 0, .int .i64 0, .slice none 0 0, .string nm, .int .i64 (a : Int), .int .i64 (b : Int), .int .i64 (d : Int), .string ⟨#[]⟩, .string ⟨#[]⟩, .int .i64 0, .int .i64 0, .int .i64 0, .int .i64 0, .slice none 0 0, .string ⟨#[]⟩, .string ⟨#[]⟩, .int .i64 0, .string ⟨#[]⟩] _ T4.out.2.2.2 (Part.whole _) Try.underlying32 rfl (by kernel_rfl) ?_) | ((with_reducible refine store_bk rfl 32 (.tmp 2) (.tmp 89) rfl w.heap.size 0 #[.int .i64 ((3 : Nat) : Int), .string ⟨#[]⟩, .int .i64 0, .int .i64 0, .int .i64 0, .slice none 0 0, .string nm, .int .i64 (a : Int), .int .i64 (b : Int), .int .i64 (d : Int), .string ⟨#[]⟩, .string ⟨#[]⟩, .int .i64 0, .int .i64 0, .int .i64 0, .int .i64 0, .slice none 0 0, .string ⟨#[]⟩, .string ⟨#[]⟩, .int .i64 0, .string ⟨#[]⟩] rfl rfl 32 #[.int .i64 0, .string ⟨#[]⟩, .int .i64 0, .int .i64 0, .int .i64 0, .slice none 0 0, .string ⟨#[]⟩, .int .i64 0, .int .i64 0, .int .i64 0, .string ⟨#[]⟩, .string ⟨#[]⟩, .int .i64 0, .int .i64 0, .int .i64 0, .int .i64 0, .slice none 0 0, .string ⟨#[]⟩, .string ⟨#[]⟩, .int .i64 0, .string ⟨#[]⟩] #[.int .i64 ((3 : Nat) : Int), .string ⟨#[]⟩, .int .i64 0, .int .i64 0, .int .i64 0, .slice none 0 0, .string nm, .int .i64 (a : Int), .int .i64 (b : Int), .int .i64 (d : Int), .string ⟨#[]⟩, .string ⟨#[]⟩, .int .i64 0, .int .i64 0, .int .i64 0, .int .i64 0, .slice none 0 0, .string ⟨#[]⟩, .string ⟨#[]⟩, .int .i64 0, .string ⟨#[]⟩] T4.out.2.1 (by kernel_rfl) (by simp) (by kernel_rfl) rfl ?_); intro wz hBz hgz hsz))
          exact bodyPost_ret (v := .tuple #[.agg #[.int .i64 ((3 : Nat) : Int), .string ⟨#[]⟩, .int .i64 0, .int .i64 0, .int .i64 0, .slice none 0 0, .string nm, .int .i64 (a : Int), .int .i64 (b : Int), .int .i64 (d : Int), .string ⟨#[]⟩, .string ⟨#[]⟩, .int .i64 0, .int .i64 0, .int .i64 0, .int .i64 0, .slice none 0 0, .string ⟨#[]⟩, .string ⟨#[]⟩, .int .i64 0, .string ⟨#[]⟩], .int .i64 0]) (results_bk2 Try.results15 _ _ w.heap.size 32 #[.int .i64 ((3 : Nat) : Int), .string ⟨#[]⟩, .int .i64 0, .int .i64 0, .int .i64 0, .slice none 0 0, .string nm, .int .i64 (a : Int), .int .i64 (b : Int), .int .i64 (d : Int), .string ⟨#[]⟩, .string ⟨#[]⟩, .int .i64 0, .int .i64 0, .int .i64 0, .int .i64 0, .slice none 0 0, .string ⟨#[]⟩, .string ⟨#[]⟩, .int .i64 0, .string ⟨#[]⟩] _ _ rfl rfl hBz Try.underlying32 rfl (by kernel_rfl)) rfl (GotO.of HE.out ⟨.slice none 0 0, .slice none 0 0, rfl, OwnL.nil _ _, OwnL.nil _ _, grown_below T4.out.1 hgz (Nat.le_refl _)⟩)
        case neg =>
          have HE : Hid (D = (Ov.zero, 3)) := HD.out.trans (opFin_long (by rw [← hsl.out]; exact h1))
          have h1x : (at3 != (s.size : Int)) = true := by simpa using h1
          clear h1
          go_wp2_with ((with_reducible refine store_bk rfl 28 (.tmp 53) (.tmp 52) rfl w1.heap.size 6 #[.string nm, .int .i64 (a : Int), .int .i64 (b : Int), .int .i64 (d : Int)] rfl rfl 32 #[.int .i64 ((3 : Nat) : Int), .string ⟨#[]⟩, .int .i64 0, .int .i64 0, .int .i64 0, .slice none 0 0, .string ⟨#[]⟩, .int .i64 0, .int .i64 0, .int .i64 0, .string ⟨#[]⟩, .string ⟨#[]⟩, .int .i64 0, .int .i64 0, .int .i64 0, .int .i64 0, .slice none 0 0, .string ⟨#[]⟩, .string ⟨#[]⟩, .int .i64 0, .string ⟨#[]⟩] #[.int .i64 ((3 : Nat) : Int), .string ⟨#[]⟩, .int .i64 0, .int .i64 0, .int .i64 0, .slice none 0 0, .string nm, .int .i64 (a : Int), .int .i64 (b : Int), .int .i64 (d : Int), .string ⟨#[]⟩, .string ⟨#[]⟩, .int .i64 0, .int .i64 0, .int .i64 0, .int .i64 0, .slice none 0 0, .string ⟨#[]⟩, .string ⟨#[]⟩, .int .i64 0, .string ⟨#[]⟩] T3.out.2.2.2 (by kernel_rfl) (by simp) (by kernel_rfl) rfl ?_); intro w4 hB4 hg4 hs4; have T4 : Hid (Below w.heap.size w w4 ∧ Bk w4 w.heap.size 32 #[.int .i64 0, .string ⟨#[]⟩, .int .i64 0, .int .i64 0, .int .i64 0, .slice none 0 0, .string ⟨#[]⟩, .int .i64 0, .int .i64 0, .int .i64 0, .string ⟨#[]⟩, .string ⟨#[]⟩, .int .i64 0, .int .i64 0, .int .i64 0, .int .i64 0, .slice none 0 0, .string ⟨#[]⟩, .string ⟨#[]⟩, .int .i64 0, .string ⟨#[]⟩] ∧ Bk w4 (w.heap.size + 1) 74 #[.string s, .int .i64 at3, .int .i64 0] ∧ Bk w4 w1.heap.size 32 #[.int .i64 ((3 : Nat) : Int), .string ⟨#[]⟩, .int .i64 0, .int .i64 0, .int .i64 0, .slice none 0 0, .string nm, .int .i64 (a : Int), .int .i64 (b : Int), .int .i64 (d : Int), .string ⟨#[]⟩, .string ⟨#[]⟩, .int .i64 0, .int .i64 0, .int .i64 0, .int .i64 0, .slice none 0 0, .string ⟨#[]⟩, .string ⟨#[]⟩, .int .i64 0, .string ⟨#[]⟩]) := ⟨grown_below T3.out.1 hg4 (by omega), T3.out.2.1.stays hg4 (by simp; omega), T3.out.2.2.1.stays hg4 (by simp; omega), hB4⟩; have cA_w4 : w4.cell? ⟨w.heap.size + 1, 1, none⟩ = some (.int .i64 at3) := Bk.cellAt T4.out.2.2.1 1; have cE_w4 : w4.cell? ⟨w.heap.size + 1, 2, none⟩ = some (.int .i64 0) := Bk.cellAt T4.out.2.2.1 2; have fE_w4 : w4.frozen? ⟨w.heap.size + 1, 2, none⟩ = false := Bk.free T4.out.2.2.1 2; have c0_w4 : w4.cell? ⟨w1.heap.size, 0, none⟩ = some (.int .i64 ((3 : Nat) : Int)) := Bk.cellAt T4.out.2.2.2 0; have c20_w4 : w4.cell? ⟨w1.heap.size, 20, none⟩ = some (.string ⟨#[]⟩) := Bk.cellAt T4.out.2.2.2 20; have f20_w4 : w4.frozen? ⟨w1.heap.size, 20, none⟩ = false := Bk.free T4.out.2.2.2 20)
          have hR3 : Bk (w4.setCell ⟨w.heap.size + 1, 2, none⟩ (.int .i64 3)) (w.heap.size + 1) 74 #[.string s, .int .i64 at3, .int .i64 3] := T4.out.2.2.1.put 2 (.int .i64 3)
          have cE0 := hR3.cellAt 2
          have bN0 := Bk.other T4.out.2.1 (p := ⟨w.heap.size + 1, 2, none⟩) (by simp) (.int .i64 3)
          have bL0 := Below.setCell T4.out.1 (p := ⟨w.heap.size + 1, 2, none⟩) (by simp) (.int .i64 3)
          refine wp_region_held_drew (S := fun W => W.cell? ⟨w.heap.size + 1, 2, none⟩ = some (.int .i64 3)) (by kernel_rfl) cE0 (fun hS0 => ?_)
          refine wpAnyH_take (i := 0) (v := .agg #[.int .i64 0, .string ⟨#[]⟩, .int .i64 0, .int .i64 0, .int .i64 0, .slice none 0 0, .string ⟨#[]⟩, .int .i64 0, .int .i64 0, .int .i64 0, .string ⟨#[]⟩, .string ⟨#[]⟩, .int .i64 0, .int .i64 0, .int .i64 0, .int .i64 0, .slice none 0 0, .string ⟨#[]⟩, .string ⟨#[]⟩, .int .i64 0, .string ⟨#[]⟩]) rfl (by kernel_rfl) (by kernel_rfl) (by kernel_rfl) (fun _ _ _ h => h) (Or.inl ⟨by rfl, ?_⟩) hS0 ?_
          · intro W _; go_simp
          try simp only [Act.put, List.getElem_toArray, List.getElem_cons_zero, List.getElem_cons_succ, List.setIfInBounds_toArray, List.set_cons_zero, List.set_cons_succ]
          refine wpAnyH_take (i := 1) (v := ?_) rfl (by kernel_rfl) (by kernel_rfl) (by kernel_rfl) (fun _ _ _ h => h) (Or.inl ⟨by rfl, ?_⟩) hS0 ?_
          rotate_left
          · intro W _; go_simp; try with_reducible rfl
          try simp only [Act.put, List.getElem_toArray, List.getElem_cons_zero, List.getElem_cons_succ, List.setIfInBounds_toArray, List.set_cons_zero, List.set_cons_succ]
          refine wpAnyH_take (i := 2) (v := ?_) rfl (by kernel_rfl) (by kernel_rfl) (by kernel_rfl) (fun _ _ _ h => h) (Or.inl ⟨by rfl, ?_⟩) hS0 ?_
          rotate_left
          · intro W _; go_simp; try with_reducible rfl
          try simp only [Act.put, List.getElem_toArray, List.getElem_cons_zero, List.getElem_cons_succ, List.setIfInBounds_toArray, List.set_cons_zero, List.set_cons_succ]
          refine wpAnyH_take (i := 3) (v := ?_) rfl (by kernel_rfl) (by kernel_rfl) (by kernel_rfl) (fun _ _ _ h => h) (Or.inl ⟨by rfl, ?_⟩) hS0 ?_
          rotate_left
          · intro W _; go_simp; try with_reducible rfl
          try simp only [Act.put, List.getElem_toArray, List.getElem_cons_zero, List.getElem_cons_succ, List.setIfInBounds_toArray, List.set_cons_zero, List.set_cons_succ]
          refine wpAnyH_take (i := 4) (v := ?_) rfl (by kernel_rfl) (by kernel_rfl) (by kernel_rfl) (fun _ _ _ h => h) (Or.inl ⟨by rfl, ?_⟩) hS0 ?_
          rotate_left
          · intro W hSW; have hSW2 : W.cell? ⟨w.heap.size + 1, 2, none⟩ = some (.int .i64 3) := hSW; go_simp; try with_reducible rfl
          try simp only [Act.put, List.getElem_toArray, List.getElem_cons_zero, List.getElem_cons_succ, List.setIfInBounds_toArray, List.set_cons_zero, List.set_cons_succ]
          refine wpAnyH_ready (rs := [5]) (by kernel_rfl) (by simp) ?_
          refine AllReadyH.cons rfl (fun K hK => ?_) AllReadyH.nil
          rw [if_pos (by rfl)]
          refine store_bk_op 32 (.tmp 2) (.tmp 84) rfl w.heap.size 0 #[.int .i64 0, .string ⟨#[]⟩, .int .i64 0, .int .i64 0, .int .i64 0, .slice none 0 0, .string ⟨#[]⟩, .int .i64 0, .int .i64 0, .int .i64 0, .string ⟨#[]⟩, .string ⟨#[]⟩, .int .i64 0, .int .i64 0, .int .i64 0, .int .i64 0, .slice none 0 0, .string ⟨#[]⟩, .string ⟨#[]⟩, .int .i64 0, .string ⟨#[]⟩] rfl rfl 32 #[.int .i64 0, .string ⟨#[]⟩, .int .i64 0, .int .i64 0, .int .i64 0, .slice none 0 0, .string ⟨#[]⟩, .int .i64 0, .int .i64 0, .int .i64 0, .string ⟨#[]⟩, .string ⟨#[]⟩, .int .i64 0, .int .i64 0, .int .i64 0, .int .i64 0, .slice none 0 0, .string ⟨#[]⟩, .string ⟨#[]⟩, .int .i64 0, .string ⟨#[]⟩] #[.int .i64 0, .string ⟨#[]⟩, .int .i64 0, .int .i64 0, .int .i64 0, .slice none 0 0, .string ⟨#[]⟩, .int .i64 0, .int .i64 0, .int .i64 0, .string ⟨#[]⟩, .string ⟨#[]⟩, .int .i64 0, .int .i64 0, .int .i64 0, .int .i64 0, .slice none 0 0, .string ⟨#[]⟩, .string ⟨#[]⟩, .int .i64 0, .string ⟨#[]⟩] bN0.drewB (by kernel_rfl) (by simp) (by kernel_rfl) rfl ?_
          intro wz hBz hgz hsz
          refine hK.out _ _ (hgz.cell hS0 (by simp)) (fun hS1 => ?_)
          clear hK K
          try simp only [Act.put, List.getElem_toArray, List.getElem_cons_zero, List.getElem_cons_succ, List.setIfInBounds_toArray, List.set_cons_zero, List.set_cons_succ]
          refine wpAnyH_take (i := 6) (v := ?_) rfl (by kernel_rfl) (by kernel_rfl) (by kernel_rfl) (fun _ _ _ h => h) (Or.inl ⟨by rfl, ?_⟩) hS1 ?_
          rotate_left
          · intro W _; go_simp; try with_reducible rfl
          try simp only [Act.put, List.getElem_toArray, List.getElem_cons_zero, List.getElem_cons_succ, List.setIfInBounds_toArray, List.set_cons_zero, List.set_cons_succ]
          refine wpAnyH_done (by kernel_rfl) ?_ _
          go_wp2_with fail
          exact bodyPost_ret (v := .tuple #[.agg #[.int .i64 0, .string ⟨#[]⟩, .int .i64 0, .int .i64 0, .int .i64 0, .slice none 0 0, .string ⟨#[]⟩, .int .i64 0, .int .i64 0, .int .i64 0, .string ⟨#[]⟩, .string ⟨#[]⟩, .int .i64 0, .int .i64 0, .int .i64 0, .int .i64 0, .slice none 0 0, .string ⟨#[]⟩, .string ⟨#[]⟩, .int .i64 0, .string ⟨#[]⟩], .int .i64 3]) (results_bk2 Try.results15 _ _ w.heap.size 32 #[.int .i64 0, .string ⟨#[]⟩, .int .i64 0, .int .i64 0, .int .i64 0, .slice none 0 0, .string ⟨#[]⟩, .int .i64 0, .int .i64 0, .int .i64 0, .string ⟨#[]⟩, .string ⟨#[]⟩, .int .i64 0, .int .i64 0, .int .i64 0, .int .i64 0, .slice none 0 0, .string ⟨#[]⟩, .string ⟨#[]⟩, .int .i64 0, .string ⟨#[]⟩] _ _ rfl rfl hBz Try.underlying32 rfl (by kernel_rfl)) rfl (GotO.of HE.out ⟨.slice none 0 0, .slice none 0 0, rfl, OwnL.nil _ _, OwnL.nil _ _, grown_below (Below.drew bL0) hgz (Nat.le_refl _)⟩)
      case neg =>
        have HE : Hid (D = (Ov.zero, er)) := HD.out.trans (opFin_no h0)
        have e1 : (er == 0) = false := by simpa using h0
        have e2 : (er != 0) = true := by simpa using h0
        clear h0 hat3
        go_wp2_with ((with_reducible refine store_bk rfl 28 (.tmp 53) (.tmp 52) rfl w1.heap.size 6 #[.string nm, .int .i64 (a : Int), .int .i64 (b : Int), .int .i64 (d : Int)] rfl rfl 32 #[.int .i64 ((3 : Nat) : Int), .string ⟨#[]⟩, .int .i64 0, .int .i64 0, .int .i64 0, .slice none 0 0, .string ⟨#[]⟩, .int .i64 0, .int .i64 0, .int .i64 0, .string ⟨#[]⟩, .string ⟨#[]⟩, .int .i64 0, .int .i64 0, .int .i64 0, .int .i64 0, .slice none 0 0, .string ⟨#[]⟩, .string ⟨#[]⟩, .int .i64 0, .string ⟨#[]⟩] #[.int .i64 ((3 : Nat) : Int), .string ⟨#[]⟩, .int .i64 0, .int .i64 0, .int .i64 0, .slice none 0 0, .string nm, .int .i64 (a : Int), .int .i64 (b : Int), .int .i64 (d : Int), .string ⟨#[]⟩, .string ⟨#[]⟩, .int .i64 0, .int .i64 0, .int .i64 0, .int .i64 0, .slice none 0 0, .string ⟨#[]⟩, .string ⟨#[]⟩, .int .i64 0, .string ⟨#[]⟩] T3.out.2.2.2 (by kernel_rfl) (by simp) (by kernel_rfl) rfl ?_); intro w4 hB4 hg4 hs4; have T4 : Hid (Below w.heap.size w w4 ∧ Bk w4 w.heap.size 32 #[.int .i64 0, .string ⟨#[]⟩, .int .i64 0, .int .i64 0, .int .i64 0, .slice none 0 0, .string ⟨#[]⟩, .int .i64 0, .int .i64 0, .int .i64 0, .string ⟨#[]⟩, .string ⟨#[]⟩, .int .i64 0, .int .i64 0, .int .i64 0, .int .i64 0, .slice none 0 0, .string ⟨#[]⟩, .string ⟨#[]⟩, .int .i64 0, .string ⟨#[]⟩] ∧ Bk w4 (w.heap.size + 1) 74 #[.string s, .int .i64 at3, .int .i64 er] ∧ Bk w4 w1.heap.size 32 #[.int .i64 ((3 : Nat) : Int), .string ⟨#[]⟩, .int .i64 0, .int .i64 0, .int .i64 0, .slice none 0 0, .string nm, .int .i64 (a : Int), .int .i64 (b : Int), .int .i64 (d : Int), .string ⟨#[]⟩, .string ⟨#[]⟩, .int .i64 0, .int .i64 0, .int .i64 0, .int .i64 0, .slice none 0 0, .string ⟨#[]⟩, .string ⟨#[]⟩, .int .i64 0, .string ⟨#[]⟩]) := ⟨grown_below T3.out.1 hg4 (by omega), T3.out.2.1.stays hg4 (by simp; omega), T3.out.2.2.1.stays hg4 (by simp; omega), hB4⟩; have cA_w4 : w4.cell? ⟨w.heap.size + 1, 1, none⟩ = some (.int .i64 at3) := Bk.cellAt T4.out.2.2.1 1; have cE_w4 : w4.cell? ⟨w.heap.size + 1, 2, none⟩ = some (.int .i64 er) := Bk.cellAt T4.out.2.2.1 2; have fE_w4 : w4.frozen? ⟨w.heap.size + 1, 2, none⟩ = false := Bk.free T4.out.2.2.1 2; have c0_w4 : w4.cell? ⟨w1.heap.size, 0, none⟩ = some (.int .i64 ((3 : Nat) : Int)) := Bk.cellAt T4.out.2.2.2 0; have c20_w4 : w4.cell? ⟨w1.heap.size, 20, none⟩ = some (.string ⟨#[]⟩) := Bk.cellAt T4.out.2.2.2 20; have f20_w4 : w4.frozen? ⟨w1.heap.size, 20, none⟩ = false := Bk.free T4.out.2.2.2 20)
        have cE0 := cE_w4
        have bN0 := T4.out.2.1
        have bL0 := T4.out.1
        refine wp_region_held_drew (S := fun W => W.cell? ⟨w.heap.size + 1, 2, none⟩ = some (.int .i64 er)) (by kernel_rfl) cE0 (fun hS0 => ?_)
        refine wpAnyH_take (i := 0) (v := .agg #[.int .i64 0, .string ⟨#[]⟩, .int .i64 0, .int .i64 0, .int .i64 0, .slice none 0 0, .string ⟨#[]⟩, .int .i64 0, .int .i64 0, .int .i64 0, .string ⟨#[]⟩, .string ⟨#[]⟩, .int .i64 0, .int .i64 0, .int .i64 0, .int .i64 0, .slice none 0 0, .string ⟨#[]⟩, .string ⟨#[]⟩, .int .i64 0, .string ⟨#[]⟩]) rfl (by kernel_rfl) (by kernel_rfl) (by kernel_rfl) (fun _ _ _ h => h) (Or.inl ⟨by rfl, ?_⟩) hS0 ?_
        · intro W _; go_simp
        try simp only [Act.put, List.getElem_toArray, List.getElem_cons_zero, List.getElem_cons_succ, List.setIfInBounds_toArray, List.set_cons_zero, List.set_cons_succ]
        refine wpAnyH_take (i := 1) (v := ?_) rfl (by kernel_rfl) (by kernel_rfl) (by kernel_rfl) (fun _ _ _ h => h) (Or.inl ⟨by rfl, ?_⟩) hS0 ?_
        rotate_left
        · intro W _; go_simp; try with_reducible rfl
        try simp only [Act.put, List.getElem_toArray, List.getElem_cons_zero, List.getElem_cons_succ, List.setIfInBounds_toArray, List.set_cons_zero, List.set_cons_succ]
        refine wpAnyH_take (i := 2) (v := ?_) rfl (by kernel_rfl) (by kernel_rfl) (by kernel_rfl) (fun _ _ _ h => h) (Or.inl ⟨by rfl, ?_⟩) hS0 ?_
        rotate_left
        · intro W _; go_simp; try with_reducible rfl
        try simp only [Act.put, List.getElem_toArray, List.getElem_cons_zero, List.getElem_cons_succ, List.setIfInBounds_toArray, List.set_cons_zero, List.set_cons_succ]
        refine wpAnyH_take (i := 3) (v := ?_) rfl (by kernel_rfl) (by kernel_rfl) (by kernel_rfl) (fun _ _ _ h => h) (Or.inl ⟨by rfl, ?_⟩) hS0 ?_
        rotate_left
        · intro W _; go_simp; try with_reducible rfl
        try simp only [Act.put, List.getElem_toArray, List.getElem_cons_zero, List.getElem_cons_succ, List.setIfInBounds_toArray, List.set_cons_zero, List.set_cons_succ]
        refine wpAnyH_take (i := 4) (v := ?_) rfl (by kernel_rfl) (by kernel_rfl) (by kernel_rfl) (fun _ _ _ h => h) (Or.inl ⟨by rfl, ?_⟩) hS0 ?_
        rotate_left
        · intro W hSW; have hSW2 : W.cell? ⟨w.heap.size + 1, 2, none⟩ = some (.int .i64 er) := hSW; go_simp; try with_reducible rfl
        try simp only [Act.put, List.getElem_toArray, List.getElem_cons_zero, List.getElem_cons_succ, List.setIfInBounds_toArray, List.set_cons_zero, List.set_cons_succ]
        refine wpAnyH_ready (rs := [5]) (by kernel_rfl) (by simp) ?_
        refine AllReadyH.cons rfl (fun K hK => ?_) AllReadyH.nil
        rw [if_pos (by rfl)]
        refine store_bk_op 32 (.tmp 2) (.tmp 84) rfl w.heap.size 0 #[.int .i64 0, .string ⟨#[]⟩, .int .i64 0, .int .i64 0, .int .i64 0, .slice none 0 0, .string ⟨#[]⟩, .int .i64 0, .int .i64 0, .int .i64 0, .string ⟨#[]⟩, .string ⟨#[]⟩, .int .i64 0, .int .i64 0, .int .i64 0, .int .i64 0, .slice none 0 0, .string ⟨#[]⟩, .string ⟨#[]⟩, .int .i64 0, .string ⟨#[]⟩] rfl rfl 32 #[.int .i64 0, .string ⟨#[]⟩, .int .i64 0, .int .i64 0, .int .i64 0, .slice none 0 0, .string ⟨#[]⟩, .int .i64 0, .int .i64 0, .int .i64 0, .string ⟨#[]⟩, .string ⟨#[]⟩, .int .i64 0, .int .i64 0, .int .i64 0, .int .i64 0, .slice none 0 0, .string ⟨#[]⟩, .string ⟨#[]⟩, .int .i64 0, .string ⟨#[]⟩] #[.int .i64 0, .string ⟨#[]⟩, .int .i64 0, .int .i64 0, .int .i64 0, .slice none 0 0, .string ⟨#[]⟩, .int .i64 0, .int .i64 0, .int .i64 0, .string ⟨#[]⟩, .string ⟨#[]⟩, .int .i64 0, .int .i64 0, .int .i64 0, .int .i64 0, .slice none 0 0, .string ⟨#[]⟩, .string ⟨#[]⟩, .int .i64 0, .string ⟨#[]⟩] bN0.drewB (by kernel_rfl) (by simp) (by kernel_rfl) rfl ?_
        intro wz hBz hgz hsz
        refine hK.out _ _ (hgz.cell hS0 (by simp)) (fun hS1 => ?_)
        clear hK K
        try simp only [Act.put, List.getElem_toArray, List.getElem_cons_zero, List.getElem_cons_succ, List.setIfInBounds_toArray, List.set_cons_zero, List.set_cons_succ]
        refine wpAnyH_take (i := 6) (v := ?_) rfl (by kernel_rfl) (by kernel_rfl) (by kernel_rfl) (fun _ _ _ h => h) (Or.inl ⟨by rfl, ?_⟩) hS1 ?_
        rotate_left
        · intro W _; go_simp; try with_reducible rfl
        try simp only [Act.put, List.getElem_toArray, List.getElem_cons_zero, List.getElem_cons_succ, List.setIfInBounds_toArray, List.set_cons_zero, List.set_cons_succ]
        refine wpAnyH_done (by kernel_rfl) ?_ _
        go_wp2_with fail
        exact bodyPost_ret (v := .tuple #[.agg #[.int .i64 0, .string ⟨#[]⟩, .int .i64 0, .int .i64 0, .int .i64 0, .slice none 0 0, .string ⟨#[]⟩, .int .i64 0, .int .i64 0, .int .i64 0, .string ⟨#[]⟩, .string ⟨#[]⟩, .int .i64 0, .int .i64 0, .int .i64 0, .int .i64 0, .slice none 0 0, .string ⟨#[]⟩, .string ⟨#[]⟩, .int .i64 0, .string ⟨#[]⟩], .int .i64 er]) (results_bk2 Try.results15 _ _ w.heap.size 32 #[.int .i64 0, .string ⟨#[]⟩, .int .i64 0, .int .i64 0, .int .i64 0, .slice none 0 0, .string ⟨#[]⟩, .int .i64 0, .int .i64 0, .int .i64 0, .string ⟨#[]⟩, .string ⟨#[]⟩, .int .i64 0, .int .i64 0, .int .i64 0, .int .i64 0, .slice none 0 0, .string ⟨#[]⟩, .string ⟨#[]⟩, .int .i64 0, .string ⟨#[]⟩] _ _ rfl rfl hBz Try.underlying32 rfl (by kernel_rfl)) rfl (GotO.of HE.out ⟨.slice none 0 0, .slice none 0 0, rfl, OwnL.nil _ _, OwnL.nil _ _, grown_below (Below.drew bL0) hgz (Nat.le_refl _)⟩)
    case neg =>
      by_cases h5 : k = 5
      case pos =>
        subst h5
        rw [pTake_5 ht] at hD
        have kk := fun W (hR : RdR W (w.heap.size + 1) s (p, 0)) => rr_task (w.heap.size + 1) s p l W hR hl hs
        obtain ⟨⟨nm, qu, pr, a, b, d, ls, ap, ga, sz⟩, nx, er, hx⟩ : ∃ x nx er, tTask l p = (x, nx, er) := ⟨_, _, _, rfl⟩
        unfold valTask at kk
        rw [hx] at kk hD
        simp only [] at kk hD
        have KK := Lib.hid kk
        clear kk hx
        have HD := Lib.hid hD
        have KN := Lib.hid kn
        clear kn ht hbad hk hD h0 h1 h3
        go_enter Try.func15, Try.ntmps15
        go_wp2_with fail
        have hR0 : RdR ((w.alloc (.cells #[.int .i64 0, .string ⟨#[]⟩, .int .i64 0, .int .i64 0, .int .i64 0, .slice none 0 0, .string ⟨#[]⟩, .int .i64 0, .int .i64 0, .int .i64 0, .string ⟨#[]⟩, .string ⟨#[]⟩, .int .i64 0, .int .i64 0, .int .i64 0, .int .i64 0, .slice none 0 0, .string ⟨#[]⟩, .string ⟨#[]⟩, .int .i64 0, .string ⟨#[]⟩] 32)).alloc (.cells #[.string s, .int .i64 0, .int .i64 0] 74)) (w.heap.size + 1) s (0, 0) := ⟨0, Bk.freshAt _ _ _ (by simp), fun _ => rfl⟩
        have hN0 : Bk ((w.alloc (.cells #[.int .i64 0, .string ⟨#[]⟩, .int .i64 0, .int .i64 0, .int .i64 0, .slice none 0 0, .string ⟨#[]⟩, .int .i64 0, .int .i64 0, .int .i64 0, .string ⟨#[]⟩, .string ⟨#[]⟩, .int .i64 0, .int .i64 0, .int .i64 0, .int .i64 0, .slice none 0 0, .string ⟨#[]⟩, .string ⟨#[]⟩, .int .i64 0, .string ⟨#[]⟩] 32)).alloc (.cells #[.string s, .int .i64 0, .int .i64 0] 74)) w.heap.size 32 #[.int .i64 0, .string ⟨#[]⟩, .int .i64 0, .int .i64 0, .int .i64 0, .slice none 0 0, .string ⟨#[]⟩, .int .i64 0, .int .i64 0, .int .i64 0, .string ⟨#[]⟩, .string ⟨#[]⟩, .int .i64 0, .int .i64 0, .int .i64 0, .int .i64 0, .slice none 0 0, .string ⟨#[]⟩, .string ⟨#[]⟩, .int .i64 0, .string ⟨#[]⟩] := (Bk.fresh _ _ _).later ((Below.refl _ _).alloc (Nat.le_refl _) _)
        refine (KN.out _ hR0).mono ?_
        rintro e w1 ⟨rfl, hR1, hg1⟩
        obtain ⟨at_, hbR, hat⟩ := hR1
        have T1 : Hid (Below w.heap.size w w1 ∧ Bk w1 w.heap.size 32 #[.int .i64 0, .string ⟨#[]⟩, .int .i64 0, .int .i64 0, .int .i64 0, .slice none 0 0, .string ⟨#[]⟩, .int .i64 0, .int .i64 0, .int .i64 0, .string ⟨#[]⟩, .string ⟨#[]⟩, .int .i64 0, .int .i64 0, .int .i64 0, .int .i64 0, .slice none 0 0, .string ⟨#[]⟩, .string ⟨#[]⟩, .int .i64 0, .string ⟨#[]⟩] ∧ Bk w1 (w.heap.size + 1) 74 #[.string s, .int .i64 at_, .int .i64 0]) := ⟨grown_below (by (repeat' (first | (with_reducible exact Below.refl _ _) | (with_reducible refine bdrewN ?_ _) | (with_reducible refine Below.drew ?_) | (with_reducible refine Below.setCell ?_ ?_ _) | (with_reducible refine Below.alloc ?_ ?_ _) | (with_reducible exact Nat.le_refl _) | (with_reducible assumption) | omega | (simp only [World.size_alloc, World.size_setCell, World.size_drew, sz_drewN]; omega)))) hg1 (by omega), hN0.stays hg1 (by simp), hbR⟩
        have hz1 : w.heap.size + 1 < w1.heap.size := T1.out.2.2.here
        have hat2 : p = at_ := (hat rfl).symm
        subst hat2
        clear hR0 hN0 hbR hat hg1
        go_wp2_with ((with_reducible refine store_bk rfl 32 (.tmp 5) (.tmp 11) rfl w1.heap.size 0 #[.int .i64 ((5 : Nat) : Int), .string ⟨#[]⟩, .int .i64 0, .int .i64 0, .int .i64 0, .slice none 0 0, .string ⟨#[]⟩, .int .i64 0, .int .i64 0, .int .i64 0, .string ⟨#[]⟩, .string ⟨#[]⟩, .int .i64 0, .int .i64 0, .int .i64 0, .int .i64 0, .slice none 0 0, .string ⟨#[]⟩, .string ⟨#[]⟩, .int .i64 0, .string ⟨#[]⟩] rfl rfl 32 #[.int .i64 0, .string ⟨#[]⟩, .int .i64 0, .int .i64 0, .int .i64 0, .slice none 0 0, .string ⟨#[]⟩, .int .i64 0, .int .i64 0, .int .i64 0, .string ⟨#[]⟩, .string ⟨#[]⟩, .int .i64 0, .int .i64 0, .int .i64 0, .int .i64 0, .slice none 0 0, .string ⟨#[]⟩, .string ⟨#[]⟩, .int .i64 0, .string ⟨#[]⟩] #[.int .i64 ((5 : Nat) : Int), .string ⟨#[]⟩, .int .i64 0, .int .i64 0, .int .i64 0, .slice none 0 0, .string ⟨#[]⟩, .int .i64 0, .int .i64 0, .int .i64 0, .string ⟨#[]⟩, .string ⟨#[]⟩, .int .i64 0, .int .i64 0, .int .i64 0, .int .i64 0, .slice none 0 0, .string ⟨#[]⟩, .string ⟨#[]⟩, .int .i64 0, .string ⟨#[]⟩] (Bk.fresh _ _ _) (by kernel_rfl) (by simp) (by kernel_rfl) rfl ?_); intro w2 hB2 hg2 hs2; have T2 : Hid (Below w.heap.size w w2 ∧ Bk w2 w.heap.size 32 #[.int .i64 0, .string ⟨#[]⟩, .int .i64 0, .int .i64 0, .int .i64 0, .slice none 0 0, .string ⟨#[]⟩, .int .i64 0, .int .i64 0, .int .i64 0, .string ⟨#[]⟩, .string ⟨#[]⟩, .int .i64 0, .int .i64 0, .int .i64 0, .int .i64 0, .slice none 0 0, .string ⟨#[]⟩, .string ⟨#[]⟩, .int .i64 0, .string ⟨#[]⟩] ∧ Bk w2 (w.heap.size + 1) 74 #[.string s, .int .i64 p, .int .i64 0] ∧ Bk w2 w1.heap.size 32 #[.int .i64 ((5 : Nat) : Int), .string ⟨#[]⟩, .int .i64 0, .int .i64 0, .int .i64 0, .slice none 0 0, .string ⟨#[]⟩, .int .i64 0, .int .i64 0, .int .i64 0, .string ⟨#[]⟩, .string ⟨#[]⟩, .int .i64 0, .int .i64 0, .int .i64 0, .int .i64 0, .slice none 0 0, .string ⟨#[]⟩, .string ⟨#[]⟩, .int .i64 0, .string ⟨#[]⟩]) := ⟨T1.out.1.trans ((grown_below ((Below.refl _ _).alloc (Nat.le_refl _) _) hg2 (Nat.le_refl _)).mono T1.out.1.size), (T1.out.2.1.later ((Below.refl _ _).alloc (Nat.le_refl _) _)).stays hg2 (by simp; omega), (T1.out.2.2.later ((Below.refl _ _).alloc (Nat.le_refl _) _)).stays hg2 (by simp; omega), hB2⟩; have cA_w2 : w2.cell? ⟨w.heap.size + 1, 1, none⟩ = some (.int .i64 p) := Bk.cellAt T2.out.2.2.1 1; have cE_w2 : w2.cell? ⟨w.heap.size + 1, 2, none⟩ = some (.int .i64 0) := Bk.cellAt T2.out.2.2.1 2; have fE_w2 : w2.frozen? ⟨w.heap.size + 1, 2, none⟩ = false := Bk.free T2.out.2.2.1 2; have c0_w2 : w2.cell? ⟨w1.heap.size, 0, none⟩ = some (.int .i64 ((5 : Nat) : Int)) := Bk.cellAt T2.out.2.2.2 0; have c20_w2 : w2.cell? ⟨w1.heap.size, 20, none⟩ = some (.string ⟨#[]⟩) := Bk.cellAt T2.out.2.2.2 20; have f20_w2 : w2.frozen? ⟨w1.heap.size, 20, none⟩ = false := Bk.free T2.out.2.2.2 20; have z2 : w1.heap.size < w2.heap.size := Bk.here T2.out.2.2.2)
        refine (KK.out _ ⟨p, T2.out.2.2.1, fun _ => rfl⟩).mono ?_
        rintro e w3 ⟨v, rfl, ho, hR3, hg3⟩
        obtain ⟨Av, cv, sv⟩ := ho.sl
        have hv := sv.val
        subst hv
        clear sv
        obtain ⟨at3, hb3, hat3⟩ := hR3
        have T3 : Hid (Below w.heap.size w w3 ∧ Bk w3 w.heap.size 32 #[.int .i64 0, .string ⟨#[]⟩, .int .i64 0, .int .i64 0, .int .i64 0, .slice none 0 0, .string ⟨#[]⟩, .int .i64 0, .int .i64 0, .int .i64 0, .string ⟨#[]⟩, .string ⟨#[]⟩, .int .i64 0, .int .i64 0, .int .i64 0, .int .i64 0, .slice none 0 0, .string ⟨#[]⟩, .string ⟨#[]⟩, .int .i64 0, .string ⟨#[]⟩] ∧ Bk w3 (w.heap.size + 1) 74 #[.string s, .int .i64 at3, .int .i64 er] ∧ Bk w3 w1.heap.size 32 #[.int .i64 ((5 : Nat) : Int), .string ⟨#[]⟩, .int .i64 0, .int .i64 0, .int .i64 0, .slice none 0 0, .string ⟨#[]⟩, .int .i64 0, .int .i64 0, .int .i64 0, .string ⟨#[]⟩, .string ⟨#[]⟩, .int .i64 0, .int .i64 0, .int .i64 0, .int .i64 0, .slice none 0 0, .string ⟨#[]⟩, .string ⟨#[]⟩, .int .i64 0, .string ⟨#[]⟩] ∧ OwnL w3 w2.heap.size (.slice Av ls.length cv) ls) := ⟨grown_below T2.out.1 hg3 (by omega), T2.out.2.1.stays hg3 (by simp), hb3, T2.out.2.2.2.stays hg3 (by simp; omega), ho⟩
        have z3 : w1.heap.size < w2.heap.size := T2.out.2.2.2.here
        clear hB2 hg2 hs2 cA_w2 cE_w2 fE_w2 c0_w2 c20_w2 f20_w2 z2 hb3 hg3 T1 ho
        by_cases h0 : er = 0
        case pos =>
          subst h0
          have hat4 : at3 = nx := hat3 rfl
          subst hat4
          clear hat3
          by_cases h1 : at3 = (s.size : Int)
          case pos =>
            have HE : Hid (D = (_, 0)) := HD.out.trans (opFin_ok (by rw [h1, hsl.out]))
            have h1x : (at3 != (s.size : Int)) = false := by simp [h1]
            clear h1
            go_wp2_with (first | ((with_reducible refine store_bk rfl 30 (.tmp 58) (.tmp 57) rfl w1.heap.size 10 #[.string nm, .string qu, .int .i64 (pr : Int), .int .i64 (a : Int), .int .i64 (b : Int), .int .i64 (d : Int), .slice Av ls.length cv, .string ap, .string ga, .int .i64 (sz : Int)] rfl rfl 32 #[.int .i64 ((5 : Nat) : Int), .string ⟨#[]⟩, .int .i64 0, .int .i64 0, .int .i64 0, .slice none 0 0, .string ⟨#[]⟩, .int .i64 0, .int .i64 0, .int .i64 0, .string ⟨#[]⟩, .string ⟨#[]⟩, .int .i64 0, .int .i64 0, .int .i64 0, .int .i64 0, .slice none 0 0, .string ⟨#[]⟩, .string ⟨#[]⟩, .int .i64 0, .string ⟨#[]⟩] #[.int .i64 ((5 : Nat) : Int), .string ⟨#[]⟩, .int .i64 0, .int .i64 0, .int .i64 0, .slice none 0 0, .string ⟨#[]⟩, .int .i64 0, .int .i64 0, .int .i64 0, .string nm, .string qu, .int .i64 (pr : Int), .int .i64 (a : Int), .int .i64 (b : Int), .int .i64 (d : Int), .slice Av ls.length cv, .string ap, .string ga, .int .i64 (sz : Int), .string ⟨#[]⟩] T3.out.2.2.2.1 (by kernel_rfl) (by simp) (by kernel_rfl) rfl ?_); intro w4 hB4 hg4 hs4; have T4 : Hid (Below w.heap.size w w4 ∧ Bk w4 w.heap.size 32 #[.int .i64 0, .string ⟨#[]⟩, .int .i64 0, .int .i64 0, .int .i64 0, .slice none 0 0, .string ⟨#[]⟩, .int .i64 0, .int .i64 0, .int .i64 0, .string ⟨#[]⟩, .string ⟨#[]⟩, .int .i64 0, .int .i64 0, .int .i64 0, .int .i64 0, .slice none 0 0, .string ⟨#[]⟩, .string ⟨#[]⟩, .int .i64 0, .string ⟨#[]⟩] ∧ Bk w4 (w.heap.size + 1) 74 #[.string s, .int .i64 at3, .int .i64 0] ∧ Bk w4 w1.heap.size 32 #[.int .i64 ((5 : Nat) : Int), .string ⟨#[]⟩, .int .i64 0, .int .i64 0, .int .i64 0, .slice none 0 0, .string ⟨#[]⟩, .int .i64 0, .int .i64 0, .int .i64 0, .string nm, .string qu, .int .i64 (pr : Int), .int .i64 (a : Int), .int .i64 (b : Int), .int .i64 (d : Int), .slice Av ls.length cv, .string ap, .string ga, .int .i64 (sz : Int), .string ⟨#[]⟩] ∧ OwnL w4 w2.heap.size (.slice Av ls.length cv) ls) := ⟨grown_below T3.out.1 hg4 (by omega), T3.out.2.1.stays hg4 (by simp; omega), T3.out.2.2.1.stays hg4 (by simp; omega), hB4, T3.out.2.2.2.2.stays hg4 (by omega)⟩; have cA_w4 : w4.cell? ⟨w.heap.size + 1, 1, none⟩ = some (.int .i64 at3) := Bk.cellAt T4.out.2.2.1 1; have cE_w4 : w4.cell? ⟨w.heap.size + 1, 2, none⟩ = some (.int .i64 0) := Bk.cellAt T4.out.2.2.1 2; have fE_w4 : w4.frozen? ⟨w.heap.size + 1, 2, none⟩ = false := Bk.free T4.out.2.2.1 2; have c0_w4 : w4.cell? ⟨w1.heap.size, 0, none⟩ = some (.int .i64 ((5 : Nat) : Int)) := Bk.cellAt T4.out.2.2.2.1 0; have c20_w4 : w4.cell? ⟨w1.heap.size, 20, none⟩ = some (.string ⟨#[]⟩) := Bk.cellAt T4.out.2.2.2.1 20; have f20_w4 : w4.frozen? ⟨w1.heap.size, 20, none⟩ = false := Bk.free T4.out.2.2.2.1 20) | (with_reducible refine load_bk rfl 32 _ rfl w1.heap.size 0 rfl 32 #[.int .i64 ((5 : Nat) : Int), .string ⟨#[]⟩, .int .i64 0, .int .i64 0, .int .i64 0, .slice none 0 0, .string ⟨#[]⟩, .int .i64 0, .int .i64 0, .int .i64 0, .string nm, .string qu, .int .i64 (pr : Int), .int .i64 (a : Int), .int .i64 (b : Int), .int .i64 (d : Int), .slice Av ls.length cv, .string ap, .string ga, .int .i64 (sz : Int), .string ⟨#[]⟩] #[.int .i64 ((5 : Nat) : Int), .string ⟨#[]⟩, .int .i64 0, .int .i64 0, .int .i64 0, .slice none 0 0, .string ⟨#[]⟩, .int .i64 0, .int .i64 0, .int .i64 0, .string nm, .string qu, .int .i64 (pr : Int), .int .i64 (a : Int), .int .i64 (b : Int), .int .i64 (d : Int), .slice Av ls.length cv, .string ap, .string ga, .int .i64 (sz : Int), .string ⟨#[]⟩] _ T4.out.2.2.2.1 (Part.whole _) Try.underlying32 rfl (by kernel_rfl) ?_) | ((with_reducible refine store_bk rfl 32 (.tmp 2) (.tmp 89) rfl w.heap.size 0 #[.int .i64 ((5 : Nat) : Int), .string ⟨#[]⟩, .int .i64 0, .int .i64 0, .int .i64 0, .slice none 0 0, .string ⟨#[]⟩, .int .i64 0, .int .i64 0, .int .i64 0, .string nm, .string qu, .int .i64 (pr : Int), .int .i64 (a : Int), .int .i64 (b : Int), .int .i64 (d : Int), .slice Av ls.length cv, .string ap, .string ga, .int .i64 (sz : Int), .string ⟨#[]⟩] rfl rfl 32 #[.int .i64 0, .string ⟨#[]⟩, .int .i64 0, .int .i64 0, .int .i64 0, .slice none 0 0, .string ⟨#[]⟩, .int .i64 0, .int .i64 0, .int .i64 0, .string ⟨#[]⟩, .string ⟨#[]⟩, .int .i64 0, .int .i64 0, .int .i64 0, .int .i64 0, .slice none 0 0, .string ⟨#[]⟩, .string ⟨#[]⟩, .int .i64 0, .string ⟨#[]⟩] #[.int .i64 ((5 : Nat) : Int), .string ⟨#[]⟩, .int .i64 0, .int .i64 0, .int .i64 0, .slice none 0 0, .string ⟨#[]⟩, .int .i64 0, .int .i64 0, .int .i64 0, .string nm, .string qu, .int .i64 (pr : Int), .int .i64 (a : Int), .int .i64 (b : Int), .int .i64 (d : Int), .slice Av ls.length cv, .string ap, .string ga, .int .i64 (sz : Int), .string ⟨#[]⟩] T4.out.2.1 (by kernel_rfl) (by simp) (by kernel_rfl) rfl ?_); intro wz hBz hgz hsz))
            exact bodyPost_ret (v := .tuple #[.agg #[.int .i64 ((5 : Nat) : Int), .string ⟨#[]⟩, .int .i64 0, .int .i64 0, .int .i64 0, .slice none 0 0, .string ⟨#[]⟩, .int .i64 0, .int .i64 0, .int .i64 0, .string nm, .string qu, .int .i64 (pr : Int), .int .i64 (a : Int), .int .i64 (b : Int), .int .i64 (d : Int), .slice Av ls.length cv, .string ap, .string ga, .int .i64 (sz : Int), .string ⟨#[]⟩], .int .i64 0]) (results_bk2 Try.results15 _ _ w.heap.size 32 #[.int .i64 ((5 : Nat) : Int), .string ⟨#[]⟩, .int .i64 0, .int .i64 0, .int .i64 0, .slice none 0 0, .string ⟨#[]⟩, .int .i64 0, .int .i64 0, .int .i64 0, .string nm, .string qu, .int .i64 (pr : Int), .int .i64 (a : Int), .int .i64 (b : Int), .int .i64 (d : Int), .slice Av ls.length cv, .string ap, .string ga, .int .i64 (sz : Int), .string ⟨#[]⟩] _ _ rfl rfl hBz Try.underlying32 rfl (by kernel_rfl)) rfl (GotO.of HE.out ⟨.slice none 0 0, .slice Av ls.length cv, rfl, OwnL.nil _ _, (T4.out.2.2.2.2.stays hgz (by omega)).base (by omega), grown_below T4.out.1 hgz (Nat.le_refl _)⟩)
          case neg =>
            have HE : Hid (D = (Ov.zero, 3)) := HD.out.trans (opFin_long (by rw [← hsl.out]; exact h1))
            have h1x : (at3 != (s.size : Int)) = true := by simpa using h1
            clear h1
            go_wp2_with ((with_reducible refine store_bk rfl 30 (.tmp 58) (.tmp 57) rfl w1.heap.size 10 #[.string nm, .string qu, .int .i64 (pr : Int), .int .i64 (a : Int), .int .i64 (b : Int), .int .i64 (d : Int), .slice Av ls.length cv, .string ap, .string ga, .int .i64 (sz : Int)] rfl rfl 32 #[.int .i64 ((5 : Nat) : Int), .string ⟨#[]⟩, .int .i64 0, .int .i64 0, .int .i64 0, .slice none 0 0, .string ⟨#[]⟩, .int .i64 0, .int .i64 0, .int .i64 0, .string ⟨#[]⟩, .string ⟨#[]⟩, .int .i64 0, .int .i64 0, .int .i64 0, .int .i64 0, .slice none 0 0, .string ⟨#[]⟩, .string ⟨#[]⟩, .int .i64 0, .string ⟨#[]⟩] #[.int .i64 ((5 : Nat) : Int), .string ⟨#[]⟩, .int .i64 0, .int .i64 0, .int .i64 0, .slice none 0 0, .string ⟨#[]⟩, .int .i64 0, .int .i64 0, .int .i64 0, .string nm, .string qu, .int .i64 (pr : Int), .int .i64 (a : Int), .int .i64 (b : Int), .int .i64 (d : Int), .slice Av ls.length cv, .string ap, .string ga, .int .i64 (sz : Int), .string ⟨#[]⟩] T3.out.2.2.2.1 (by kernel_rfl) (by simp) (by kernel_rfl) rfl ?_); intro w4 hB4 hg4 hs4; have T4 : Hid (Below w.heap.size w w4 ∧ Bk w4 w.heap.size 32 #[.int .i64 0, .string ⟨#[]⟩, .int .i64 0, .int .i64 0, .int .i64 0, .slice none 0 0, .string ⟨#[]⟩, .int .i64 0, .int .i64 0, .int .i64 0, .string ⟨#[]⟩, .string ⟨#[]⟩, .int .i64 0, .int .i64 0, .int .i64 0, .int .i64 0, .slice none 0 0, .string ⟨#[]⟩, .string ⟨#[]⟩, .int .i64 0, .string ⟨#[]⟩] ∧ Bk w4 (w.heap.size + 1) 74 #[.string s, .int .i64 at3, .int .i64 0] ∧ Bk w4 w1.heap.size 32 #[.int .i64 ((5 : Nat) : Int), .string ⟨#[]⟩, .int .i64 0, .int .i64 0, .int .i64 0, .slice none 0 0, .string ⟨#[]⟩, .int .i64 0, .int .i64 0, .int .i64 0, .string nm, .string qu, .int .i64 (pr : Int), .int .i64 (a : Int), .int .i64 (b : Int), .int .i64 (d : Int), .slice Av ls.length cv, .string ap, .string ga, .int .i64 (sz : Int), .string ⟨#[]⟩] ∧ OwnL w4 w2.heap.size (.slice Av ls.length cv) ls) := ⟨grown_below T3.out.1 hg4 (by omega), T3.out.2.1.stays hg4 (by simp; omega), T3.out.2.2.1.stays hg4 (by simp; omega), hB4, T3.out.2.2.2.2.stays hg4 (by omega)⟩; have cA_w4 : w4.cell? ⟨w.heap.size + 1, 1, none⟩ = some (.int .i64 at3) := Bk.cellAt T4.out.2.2.1 1; have cE_w4 : w4.cell? ⟨w.heap.size + 1, 2, none⟩ = some (.int .i64 0) := Bk.cellAt T4.out.2.2.1 2; have fE_w4 : w4.frozen? ⟨w.heap.size + 1, 2, none⟩ = false := Bk.free T4.out.2.2.1 2; have c0_w4 : w4.cell? ⟨w1.heap.size, 0, none⟩ = some (.int .i64 ((5 : Nat) : Int)) := Bk.cellAt T4.out.2.2.2.1 0; have c20_w4 : w4.cell? ⟨w1.heap.size, 20, none⟩ = some (.string ⟨#[]⟩) := Bk.cellAt T4.out.2.2.2.1 20; have f20_w4 : w4.frozen? ⟨w1.heap.size, 20, none⟩ = false := Bk.free T4.out.2.2.2.1 20)
            have hR3 : Bk (w4.setCell ⟨w.heap.size + 1, 2, none⟩ (.int .i64 3)) (w.heap.size + 1) 74 #[.string s, .int .i64 at3, .int .i64 3] := T4.out.2.2.1.put 2 (.int .i64 3)
            have cE0 := hR3.cellAt 2
            have bN0 := Bk.other T4.out.2.1 (p := ⟨w.heap.size + 1, 2, none⟩) (by simp) (.int .i64 3)
            have bL0 := Below.setCell T4.out.1 (p := ⟨w.heap.size + 1, 2, none⟩) (by simp) (.int .i64 3)
            refine wp_region_held_drew (S := fun W => W.cell? ⟨w.heap.size + 1, 2, none⟩ = some (.int .i64 3)) (by kernel_rfl) cE0 (fun hS0 => ?_)
            refine wpAnyH_take (i := 0) (v := .agg #[.int .i64 0, .string ⟨#[]⟩, .int .i64 0, .int .i64 0, .int .i64 0, .slice none 0 0, .string ⟨#[]⟩, .int .i64 0, .int .i64 0, .int .i64 0, .string ⟨#[]⟩, .string ⟨#[]⟩, .int .i64 0, .int .i64 0, .int .i64 0, .int .i64 0, .slice none 0 0, .string ⟨#[]⟩, .string ⟨#[]⟩, .int .i64 0, .string ⟨#[]⟩]) rfl (by kernel_rfl) (by kernel_rfl) (by kernel_rfl) (fun _ _ _ h => h) (Or.inl ⟨by rfl, ?_⟩) hS0 ?_
            · intro W _; go_simp
            try simp only [Act.put, List.getElem_toArray, List.getElem_cons_zero, List.getElem_cons_succ, List.setIfInBounds_toArray, List.set_cons_zero, List.set_cons_succ]
            refine wpAnyH_take (i := 1) (v := ?_) rfl (by kernel_rfl) (by kernel_rfl) (by kernel_rfl) (fun _ _ _ h => h) (Or.inl ⟨by rfl, ?_⟩) hS0 ?_
            rotate_left
            · intro W _; go_simp; try with_reducible rfl
            try simp only [Act.put, List.getElem_toArray, List.getElem_cons_zero, List.getElem_cons_succ, List.setIfInBounds_toArray, List.set_cons_zero, List.set_cons_succ]
            refine wpAnyH_take (i := 2) (v := ?_) rfl (by kernel_rfl) (by kernel_rfl) (by kernel_rfl) (fun _ _ _ h => h) (Or.inl ⟨by rfl, ?_⟩) hS0 ?_
            rotate_left
            · intro W _; go_simp; try with_reducible rfl
            try simp only [Act.put, List.getElem_toArray, List.getElem_cons_zero, List.getElem_cons_succ, List.setIfInBounds_toArray, List.set_cons_zero, List.set_cons_succ]
            refine wpAnyH_take (i := 3) (v := ?_) rfl (by kernel_rfl) (by kernel_rfl) (by kernel_rfl) (fun _ _ _ h => h) (Or.inl ⟨by rfl, ?_⟩) hS0 ?_
            rotate_left
            · intro W _; go_simp; try with_reducible rfl
            try simp only [Act.put, List.getElem_toArray, List.getElem_cons_zero, List.getElem_cons_succ, List.setIfInBounds_toArray, List.set_cons_zero, List.set_cons_succ]
            refine wpAnyH_take (i := 4) (v := ?_) rfl (by kernel_rfl) (by kernel_rfl) (by kernel_rfl) (fun _ _ _ h => h) (Or.inl ⟨by rfl, ?_⟩) hS0 ?_
            rotate_left
            · intro W hSW; have hSW2 : W.cell? ⟨w.heap.size + 1, 2, none⟩ = some (.int .i64 3) := hSW; go_simp; try with_reducible rfl
            try simp only [Act.put, List.getElem_toArray, List.getElem_cons_zero, List.getElem_cons_succ, List.setIfInBounds_toArray, List.set_cons_zero, List.set_cons_succ]
            refine wpAnyH_ready (rs := [5]) (by kernel_rfl) (by simp) ?_
            refine AllReadyH.cons rfl (fun K hK => ?_) AllReadyH.nil
            rw [if_pos (by rfl)]
            refine store_bk_op 32 (.tmp 2) (.tmp 84) rfl w.heap.size 0 #[.int .i64 0, .string ⟨#[]⟩, .int .i64 0, .int .i64 0, .int .i64 0, .slice none 0 0, .string ⟨#[]⟩, .int .i64 0, .int .i64 0, .int .i64 0, .string ⟨#[]⟩, .string ⟨#[]⟩, .int .i64 0, .int .i64 0, .int .i64 0, .int .i64 0, .slice none 0 0, .string ⟨#[]⟩, .string ⟨#[]⟩, .int .i64 0, .string ⟨#[]⟩] rfl rfl 32 #[.int .i64 0, .string ⟨#[]⟩, .int .i64 0, .int .i64 0, .int .i64 0, .slice none 0 0, .string ⟨#[]⟩, .int .i64 0, .int .i64 0, .int .i64 0, .string ⟨#[]⟩, .string ⟨#[]⟩, .int .i64 0, .int .i64 0, .int .i64 0, .int .i64 0, .slice none 0 0, .string ⟨#[]⟩, .string ⟨#[]⟩, .int .i64 0, .string ⟨#[]⟩] #[.int .i64 0, .string ⟨#[]⟩, .int .i64 0, .int .i64 0, .int .i64 0, .slice none 0 0, .string ⟨#[]⟩, .int .i64 0, .int .i64 0, .int .i64 0, .string ⟨#[]⟩, .string ⟨#[]⟩, .int .i64 0, .int .i64 0, .int .i64 0, .int .i64 0, .slice none 0 0, .string ⟨#[]⟩, .string ⟨#[]⟩, .int .i64 0, .string ⟨#[]⟩] bN0.drewB (by kernel_rfl) (by simp) (by kernel_rfl) rfl ?_
            intro wz hBz hgz hsz
            refine hK.out _ _ (hgz.cell hS0 (by simp)) (fun hS1 => ?_)
            clear hK K
            try simp only [Act.put, List.getElem_toArray, List.getElem_cons_zero, List.getElem_cons_succ, List.setIfInBounds_toArray, List.set_cons_zero, List.set_cons_succ]
            refine wpAnyH_take (i := 6) (v := ?_) rfl (by kernel_rfl) (by kernel_rfl) (by kernel_rfl) (fun _ _ _ h => h) (Or.inl ⟨by rfl, ?_⟩) hS1 ?_
            rotate_left
            · intro W _; go_simp; try with_reducible rfl
            try simp only [Act.put, List.getElem_toArray, List.getElem_cons_zero, List.getElem_cons_succ, List.setIfInBounds_toArray, List.set_cons_zero, List.set_cons_succ]
            refine wpAnyH_done (by kernel_rfl) ?_ _
            go_wp2_with fail
            exact bodyPost_ret (v := .tuple #[.agg #[.int .i64 0, .string ⟨#[]⟩, .int .i64 0, .int .i64 0, .int .i64 0, .slice none 0 0, .string ⟨#[]⟩, .int .i64 0, .int .i64 0, .int .i64 0, .string ⟨#[]⟩, .string ⟨#[]⟩, .int .i64 0, .int .i64 0, .int .i64 0, .int .i64 0, .slice none 0 0, .string ⟨#[]⟩, .string ⟨#[]⟩, .int .i64 0, .string ⟨#[]⟩], .int .i64 3]) (results_bk2 Try.results15 _ _ w.heap.size 32 #[.int .i64 0, .string ⟨#[]⟩, .int .i64 0, .int .i64 0, .int .i64 0, .slice none 0 0, .string ⟨#[]⟩, .int .i64 0, .int .i64 0, .int .i64 0, .string ⟨#[]⟩, .string ⟨#[]⟩, .int .i64 0, .int .i64 0, .int .i64 0, .int .i64 0, .slice none 0 0, .string ⟨#[]⟩, .string ⟨#[]⟩, .int .i64 0, .string ⟨#[]⟩] _ _ rfl rfl hBz Try.underlying32 rfl (by kernel_rfl)) rfl (GotO.of HE.out ⟨.slice none 0 0, .slice none 0 0, rfl, OwnL.nil _ _, OwnL.nil _ _, grown_below (Below.drew bL0) hgz (Nat.le_refl _)⟩)
        case neg =>
          have HE : Hid (D = (Ov.zero, er)) := HD.out.trans (opFin_no h0)
          have e1 : (er == 0) = false := by simpa using h0
          have e2 : (er != 0) = true := by simpa using h0
          clear h0 hat3
          go_wp2_with ((with_reducible refine store_bk rfl 30 (.tmp 58) (.tmp 57) rfl w1.heap.size 10 #[.string nm, .string qu, .int .i64 (pr : Int), .int .i64 (a : Int), .int .i64 (b : Int), .int .i64 (d : Int), .slice Av ls.length cv, .string ap, .string ga, .int .i64 (sz : Int)] rfl rfl 32 #[.int .i64 ((5 : Nat) : Int), .string ⟨#[]⟩, .int .i64 0, .int .i64 0, .int .i64 0, .slice none 0 0, .string ⟨#[]⟩, .int .i64 0, .int .i64 0, .int .i64 0, .string ⟨#[]⟩, .string ⟨#[]⟩, .int .i64 0, .int .i64 0, .int .i64 0, .int .i64 0, .slice none 0 0, .string ⟨#[]⟩, .string ⟨#[]⟩, .int .i64 0, .string ⟨#[]⟩] #[.int .i64 ((5 : Nat) : Int), .string ⟨#[]⟩, .int .i64 0, .int .i64 0, .int .i64 0, .slice none 0 0, .string ⟨#[]⟩, .int .i64 0, .int .i64 0, .int .i64 0, .string nm, .string qu, .int .i64 (pr : Int), .int .i64 (a : Int), .int .i64 (b : Int), .int .i64 (d : Int), .slice Av ls.length cv, .string ap, .string ga, .int .i64 (sz : Int), .string ⟨#[]⟩] T3.out.2.2.2.1 (by kernel_rfl) (by simp) (by kernel_rfl) rfl ?_); intro w4 hB4 hg4 hs4; have T4 : Hid (Below w.heap.size w w4 ∧ Bk w4 w.heap.size 32 #[.int .i64 0, .string ⟨#[]⟩, .int .i64 0, .int .i64 0, .int .i64 0, .slice none 0 0, .string ⟨#[]⟩, .int .i64 0, .int .i64 0, .int .i64 0, .string ⟨#[]⟩, .string ⟨#[]⟩, .int .i64 0, .int .i64 0, .int .i64 0, .int .i64 0, .slice none 0 0, .string ⟨#[]⟩, .string ⟨#[]⟩, .int .i64 0, .string ⟨#[]⟩] ∧ Bk w4 (w.heap.size + 1) 74 #[.string s, .int .i64 at3, .int .i64 er] ∧ Bk w4 w1.heap.size 32 #[.int .i64 ((5 : Nat) : Int), .string ⟨#[]⟩, .int .i64 0, .int .i64 0, .int .i64 0, .slice none 0 0, .string ⟨#[]⟩, .int .i64 0, .int .i64 0, .int .i64 0, .string nm, .string qu, .int .i64 (pr : Int), .int .i64 (a : Int), .int .i64 (b : Int), .int .i64 (d : Int), .slice Av ls.length cv, .string ap, .string ga, .int .i64 (sz : Int), .string ⟨#[]⟩] ∧ OwnL w4 w2.heap.size (.slice Av ls.length cv) ls) := ⟨grown_below T3.out.1 hg4 (by omega), T3.out.2.1.stays hg4 (by simp; omega), T3.out.2.2.1.stays hg4 (by simp; omega), hB4, T3.out.2.2.2.2.stays hg4 (by omega)⟩; have cA_w4 : w4.cell? ⟨w.heap.size + 1, 1, none⟩ = some (.int .i64 at3) := Bk.cellAt T4.out.2.2.1 1; have cE_w4 : w4.cell? ⟨w.heap.size + 1, 2, none⟩ = some (.int .i64 er) := Bk.cellAt T4.out.2.2.1 2; have fE_w4 : w4.frozen? ⟨w.heap.size + 1, 2, none⟩ = false := Bk.free T4.out.2.2.1 2; have c0_w4 : w4.cell? ⟨w1.heap.size, 0, none⟩ = some (.int .i64 ((5 : Nat) : Int)) := Bk.cellAt T4.out.2.2.2.1 0; have c20_w4 : w4.cell? ⟨w1.heap.size, 20, none⟩ = some (.string ⟨#[]⟩) := Bk.cellAt T4.out.2.2.2.1 20; have f20_w4 : w4.frozen? ⟨w1.heap.size, 20, none⟩ = false := Bk.free T4.out.2.2.2.1 20)
          have cE0 := cE_w4
          have bN0 := T4.out.2.1
          have bL0 := T4.out.1
          refine wp_region_held_drew (S := fun W => W.cell? ⟨w.heap.size + 1, 2, none⟩ = some (.int .i64 er)) (by kernel_rfl) cE0 (fun hS0 => ?_)
          refine wpAnyH_take (i := 0) (v := .agg #[.int .i64 0, .string ⟨#[]⟩, .int .i64 0, .int .i64 0, .int .i64 0, .slice none 0 0, .string ⟨#[]⟩, .int .i64 0, .int .i64 0, .int .i64 0, .string ⟨#[]⟩, .string ⟨#[]⟩, .int .i64 0, .int .i64 0, .int .i64 0, .int .i64 0, .slice none 0 0, .string ⟨#[]⟩, .string ⟨#[]⟩, .int .i64 0, .string ⟨#[]⟩]) rfl (by kernel_rfl) (by kernel_rfl) (by kernel_rfl) (fun _ _ _ h => h) (Or.inl ⟨by rfl, ?_⟩) hS0 ?_
          · intro W _; go_simp
          try simp only [Act.put, List.getElem_toArray, List.getElem_cons_zero, List.getElem_cons_succ, List.setIfInBounds_toArray, List.set_cons_zero, List.set_cons_succ]
          refine wpAnyH_take (i := 1) (v := ?_) rfl (by kernel_rfl) (by kernel_rfl) (by kernel_rfl) (fun _ _ _ h => h) (Or.inl ⟨by rfl, ?_⟩) hS0 ?_
          rotate_left
          · intro W _; go_simp; try with_reducible rfl
          try simp only [Act.put, List.getElem_toArray, List.getElem_cons_zero, List.getElem_cons_succ, List.setIfInBounds_toArray, List.set_cons_zero, List.set_cons_succ]
          refine wpAnyH_take (i := 2) (v := ?_) rfl (by kernel_rfl) (by kernel_rfl) (by kernel_rfl) (fun _ _ _ h => h) (Or.inl ⟨by rfl, ?_⟩) hS0 ?_
          rotate_left
          · intro W _; go_simp; try with_reducible rfl
          try simp only [Act.put, List.getElem_toArray, List.getElem_cons_zero, List.getElem_cons_succ, List.setIfInBounds_toArray, List.set_cons_zero, List.set_cons_succ]
          refine wpAnyH_take (i := 3) (v := ?_) rfl (by kernel_rfl) (by kernel_rfl) (by kernel_rfl) (fun _ _ _ h => h) (Or.inl ⟨by rfl, ?_⟩) hS0 ?_
          rotate_left
          · intro W _; go_simp; try with_reducible rfl
          try simp only [Act.put, List.getElem_toArray, List.getElem_cons_zero, List.getElem_cons_succ, List.setIfInBounds_toArray, List.set_cons_zero, List.set_cons_succ]
          refine wpAnyH_take (i := 4) (v := ?_) rfl (by kernel_rfl) (by kernel_rfl) (by kernel_rfl) (fun _ _ _ h => h) (Or.inl ⟨by rfl, ?_⟩) hS0 ?_
          rotate_left
          · intro W hSW; have hSW2 : W.cell? ⟨w.heap.size + 1, 2, none⟩ = some (.int .i64 er) := hSW; go_simp; try with_reducible rfl
          try simp only [Act.put, List.getElem_toArray, List.getElem_cons_zero, List.getElem_cons_succ, List.setIfInBounds_toArray, List.set_cons_zero, List.set_cons_succ]
          refine wpAnyH_ready (rs := [5]) (by kernel_rfl) (by simp) ?_
          refine AllReadyH.cons rfl (fun K hK => ?_) AllReadyH.nil
          rw [if_pos (by rfl)]
          refine store_bk_op 32 (.tmp 2) (.tmp 84) rfl w.heap.size 0 #[.int .i64 0, .string ⟨#[]⟩, .int .i64 0, .int .i64 0, .int .i64 0, .slice none 0 0, .string ⟨#[]⟩, .int .i64 0, .int .i64 0, .int .i64 0, .string ⟨#[]⟩, .string ⟨#[]⟩, .int .i64 0, .int .i64 0, .int .i64 0, .int .i64 0, .slice none 0 0, .string ⟨#[]⟩, .string ⟨#[]⟩, .int .i64 0, .string ⟨#[]⟩] rfl rfl 32 #[.int .i64 0, .string ⟨#[]⟩, .int .i64 0, .int .i64 0, .int .i64 0, .slice none 0 0, .string ⟨#[]⟩, .int .i64 0, .int .i64 0, .int .i64 0, .string ⟨#[]⟩, .string ⟨#[]⟩, .int .i64 0, .int .i64 0, .int .i64 0, .int .i64 0, .slice none 0 0, .string ⟨#[]⟩, .string ⟨#[]⟩, .int .i64 0, .string ⟨#[]⟩] #[.int .i64 0, .string ⟨#[]⟩, .int .i64 0, .int .i64 0, .int .i64 0, .slice none 0 0, .string ⟨#[]⟩, .int .i64 0, .int .i64 0, .int .i64 0, .string ⟨#[]⟩, .string ⟨#[]⟩, .int .i64 0, .int .i64 0, .int .i64 0, .int .i64 0, .slice none 0 0, .string ⟨#[]⟩, .string ⟨#[]⟩, .int .i64 0, .string ⟨#[]⟩] bN0.drewB (by kernel_rfl) (by simp) (by kernel_rfl) rfl ?_
          intro wz hBz hgz hsz
          refine hK.out _ _ (hgz.cell hS0 (by simp)) (fun hS1 => ?_)
          clear hK K
          try simp only [Act.put, List.getElem_toArray, List.getElem_cons_zero, List.getElem_cons_succ, List.setIfInBounds_toArray, List.set_cons_zero, List.set_cons_succ]
          refine wpAnyH_take (i := 6) (v := ?_) rfl (by kernel_rfl) (by kernel_rfl) (by kernel_rfl) (fun _ _ _ h => h) (Or.inl ⟨by rfl, ?_⟩) hS1 ?_
          rotate_left
          · intro W _; go_simp; try with_reducible rfl
          try simp only [Act.put, List.getElem_toArray, List.getElem_cons_zero, List.getElem_cons_succ, List.setIfInBounds_toArray, List.set_cons_zero, List.set_cons_succ]
          refine wpAnyH_done (by kernel_rfl) ?_ _
          go_wp2_with fail
          exact bodyPost_ret (v := .tuple #[.agg #[.int .i64 0, .string ⟨#[]⟩, .int .i64 0, .int .i64 0, .int .i64 0, .slice none 0 0, .string ⟨#[]⟩, .int .i64 0, .int .i64 0, .int .i64 0, .string ⟨#[]⟩, .string ⟨#[]⟩, .int .i64 0, .int .i64 0, .int .i64 0, .int .i64 0, .slice none 0 0, .string ⟨#[]⟩, .string ⟨#[]⟩, .int .i64 0, .string ⟨#[]⟩], .int .i64 er]) (results_bk2 Try.results15 _ _ w.heap.size 32 #[.int .i64 0, .string ⟨#[]⟩, .int .i64 0, .int .i64 0, .int .i64 0, .slice none 0 0, .string ⟨#[]⟩, .int .i64 0, .int .i64 0, .int .i64 0, .string ⟨#[]⟩, .string ⟨#[]⟩, .int .i64 0, .int .i64 0, .int .i64 0, .int .i64 0, .slice none 0 0, .string ⟨#[]⟩, .string ⟨#[]⟩, .int .i64 0, .string ⟨#[]⟩] _ _ rfl rfl hBz Try.underlying32 rfl (by kernel_rfl)) rfl (GotO.of HE.out ⟨.slice none 0 0, .slice none 0 0, rfl, OwnL.nil _ _, OwnL.nil _ _, grown_below (Below.drew bL0) hgz (Nat.le_refl _)⟩)
      case neg =>
        by_cases h9 : k = 9
        case pos =>
          subst h9
          rw [pTake_9 ht] at hD
          have HD := Lib.hid hD
          have KN := Lib.hid kn
          clear kn ht hbad hk hD h0 h1 h3 h5
          go_enter Try.func15, Try.ntmps15
          go_wp2_with fail
          have hR0 : RdR ((w.alloc (.cells #[.int .i64 0, .string ⟨#[]⟩, .int .i64 0, .int .i64 0, .int .i64 0, .slice none 0 0, .string ⟨#[]⟩, .int .i64 0, .int .i64 0, .int .i64 0, .string ⟨#[]⟩, .string ⟨#[]⟩, .int .i64 0, .int .i64 0, .int .i64 0, .int .i64 0, .slice none 0 0, .string ⟨#[]⟩, .string ⟨#[]⟩, .int .i64 0, .string ⟨#[]⟩] 32)).alloc (.cells #[.string s, .int .i64 0, .int .i64 0] 74)) (w.heap.size + 1) s (0, 0) := ⟨0, Bk.freshAt _ _ _ (by simp), fun _ => rfl⟩
          have hN0 : Bk ((w.alloc (.cells #[.int .i64 0, .string ⟨#[]⟩, .int .i64 0, .int .i64 0, .int .i64 0, .slice none 0 0, .string ⟨#[]⟩, .int .i64 0, .int .i64 0, .int .i64 0, .string ⟨#[]⟩, .string ⟨#[]⟩, .int .i64 0, .int .i64 0, .int .i64 0, .int .i64 0, .slice none 0 0, .string ⟨#[]⟩, .string ⟨#[]⟩, .int .i64 0, .string ⟨#[]⟩] 32)).alloc (.cells #[.string s, .int .i64 0, .int .i64 0] 74)) w.heap.size 32 #[.int .i64 0, .string ⟨#[]⟩, .int .i64 0, .int .i64 0, .int .i64 0, .slice none 0 0, .string ⟨#[]⟩, .int .i64 0, .int .i64 0, .int .i64 0, .string ⟨#[]⟩, .string ⟨#[]⟩, .int .i64 0, .int .i64 0, .int .i64 0, .int .i64 0, .slice none 0 0, .string ⟨#[]⟩, .string ⟨#[]⟩, .int .i64 0, .string ⟨#[]⟩] := (Bk.fresh _ _ _).later ((Below.refl _ _).alloc (Nat.le_refl _) _)
          refine (KN.out _ hR0).mono ?_
          rintro e w1 ⟨rfl, hR1, hg1⟩
          obtain ⟨at_, hbR, hat⟩ := hR1
          have T1 : Hid (Below w.heap.size w w1 ∧ Bk w1 w.heap.size 32 #[.int .i64 0, .string ⟨#[]⟩, .int .i64 0, .int .i64 0, .int .i64 0, .slice none 0 0, .string ⟨#[]⟩, .int .i64 0, .int .i64 0, .int .i64 0, .string ⟨#[]⟩, .string ⟨#[]⟩, .int .i64 0, .int .i64 0, .int .i64 0, .int .i64 0, .slice none 0 0, .string ⟨#[]⟩, .string ⟨#[]⟩, .int .i64 0, .string ⟨#[]⟩] ∧ Bk w1 (w.heap.size + 1) 74 #[.string s, .int .i64 at_, .int .i64 0]) := ⟨grown_below (by (repeat' (first | (with_reducible exact Below.refl _ _) | (with_reducible refine bdrewN ?_ _) | (with_reducible refine Below.drew ?_) | (with_reducible refine Below.setCell ?_ ?_ _) | (with_reducible refine Below.alloc ?_ ?_ _) | (with_reducible exact Nat.le_refl _) | (with_reducible assumption) | omega | (simp only [World.size_alloc, World.size_setCell, World.size_drew, sz_drewN]; omega)))) hg1 (by omega), hN0.stays hg1 (by simp), hbR⟩
          have hz1 : w.heap.size + 1 < w1.heap.size := T1.out.2.2.here
          have hat2 : p = at_ := (hat rfl).symm
          subst hat2
          clear hR0 hN0 hbR hat hg1
          by_cases h1 : p = (s.size : Int)
          case pos =>
            have HE : Hid (D = (_, 0)) := HD.out.trans (opFin_ok (by rw [h1, hsl.out]))
            have h1x : (p != (s.size : Int)) = false := by simp [h1]
            clear h1
            go_wp2_with (first | ((with_reducible refine store_bk rfl 32 (.tmp 5) (.tmp 11) rfl w1.heap.size 0 #[.int .i64 ((9 : Nat) : Int), .string ⟨#[]⟩, .int .i64 0, .int .i64 0, .int .i64 0, .slice none 0 0, .string ⟨#[]⟩, .int .i64 0, .int .i64 0, .int .i64 0, .string ⟨#[]⟩, .string ⟨#[]⟩, .int .i64 0, .int .i64 0, .int .i64 0, .int .i64 0, .slice none 0 0, .string ⟨#[]⟩, .string ⟨#[]⟩, .int .i64 0, .string ⟨#[]⟩] rfl rfl 32 #[.int .i64 0, .string ⟨#[]⟩, .int .i64 0, .int .i64 0, .int .i64 0, .slice none 0 0, .string ⟨#[]⟩, .int .i64 0, .int .i64 0, .int .i64 0, .string ⟨#[]⟩, .string ⟨#[]⟩, .int .i64 0, .int .i64 0, .int .i64 0, .int .i64 0, .slice none 0 0, .string ⟨#[]⟩, .string ⟨#[]⟩, .int .i64 0, .string ⟨#[]⟩] #[.int .i64 ((9 : Nat) : Int), .string ⟨#[]⟩, .int .i64 0, .int .i64 0, .int .i64 0, .slice none 0 0, .string ⟨#[]⟩, .int .i64 0, .int .i64 0, .int .i64 0, .string ⟨#[]⟩, .string ⟨#[]⟩, .int .i64 0, .int .i64 0, .int .i64 0, .int .i64 0, .slice none 0 0, .string ⟨#[]⟩, .string ⟨#[]⟩, .int .i64 0, .string ⟨#[]⟩] (Bk.fresh _ _ _) (by kernel_rfl) (by simp) (by kernel_rfl) rfl ?_); intro w2 hB2 hg2 hs2; have T2 : Hid (Below w.heap.size w w2 ∧ Bk w2 w.heap.size 32 #[.int .i64 0, .string ⟨#[]⟩, .int .i64 0, .int .i64 0, .int .i64 0, .slice none 0 0, .string ⟨#[]⟩, .int .i64 0, .int .i64 0, .int .i64 0, .string ⟨#[]⟩, .string ⟨#[]⟩, .int .i64 0, .int .i64 0, .int .i64 0, .int .i64 0, .slice none 0 0, .string ⟨#[]⟩, .string ⟨#[]⟩, .int .i64 0, .string ⟨#[]⟩] ∧ Bk w2 (w.heap.size + 1) 74 #[.string s, .int .i64 p, .int .i64 0] ∧ Bk w2 w1.heap.size 32 #[.int .i64 ((9 : Nat) : Int), .string ⟨#[]⟩, .int .i64 0, .int .i64 0, .int .i64 0, .slice none 0 0, .string ⟨#[]⟩, .int .i64 0, .int .i64 0, .int .i64 0, .string ⟨#[]⟩, .string ⟨#[]⟩, .int .i64 0, .int .i64 0, .int .i64 0, .int .i64 0, .slice none 0 0, .string ⟨#[]⟩, .string ⟨#[]⟩, .int .i64 0, .string ⟨#[]⟩]) := ⟨T1.out.1.trans ((grown_below ((Below.refl _ _).alloc (Nat.le_refl _) _) hg2 (Nat.le_refl _)).mono T1.out.1.size), (T1.out.2.1.later ((Below.refl _ _).alloc (Nat.le_refl _) _)).stays hg2 (by simp; omega), (T1.out.2.2.later ((Below.refl _ _).alloc (Nat.le_refl _) _)).stays hg2 (by simp; omega), hB2⟩; have cA_w2 : w2.cell? ⟨w.heap.size + 1, 1, none⟩ = some (.int .i64 p) := Bk.cellAt T2.out.2.2.1 1; have cE_w2 : w2.cell? ⟨w.heap.size + 1, 2, none⟩ = some (.int .i64 0) := Bk.cellAt T2.out.2.2.1 2; have fE_w2 : w2.frozen? ⟨w.heap.size + 1, 2, none⟩ = false := Bk.free T2.out.2.2.1 2; have c0_w2 : w2.cell? ⟨w1.heap.size, 0, none⟩ = some (.int .i64 ((9 : Nat) : Int)) := Bk.cellAt T2.out.2.2.2 0; have c20_w2 : w2.cell? ⟨w1.heap.size, 20, none⟩ = some (.string ⟨#[]⟩) := Bk.cellAt T2.out.2.2.2 20; have f20_w2 : w2.frozen? ⟨w1.heap.size, 20, none⟩ = false := Bk.free T2.out.2.2.2 20; have z2 : w1.heap.size < w2.heap.size := Bk.here T2.out.2.2.2) | (with_reducible refine load_bk rfl 32 _ rfl w1.heap.size 0 rfl 32 #[.int .i64 ((9 : Nat) : Int), .string ⟨#[]⟩, .int .i64 0, .int .i64 0, .int .i64 0, .slice none 0 0, .string ⟨#[]⟩, .int .i64 0, .int .i64 0, .int .i64 0, .string ⟨#[]⟩, .string ⟨#[]⟩, .int .i64 0, .int .i64 0, .int .i64 0, .int .i64 0, .slice none 0 0, .string ⟨#[]⟩, .string ⟨#[]⟩, .int .i64 0, .string ⟨#[]⟩] #[.int .i64 ((9 : Nat) : Int), .string ⟨#[]⟩, .int .i64 0, .int .i64 0, .int .i64 0, .slice none 0 0, .string ⟨#[]⟩, .int .i64 0, .int .i64 0, .int .i64 0, .string ⟨#[]⟩, .string ⟨#[]⟩, .int .i64 0, .int .i64 0, .int .i64 0, .int .i64 0, .slice none 0 0, .string ⟨#[]⟩, .string ⟨#[]⟩, .int .i64 0, .string ⟨#[]⟩] _ T2.out.2.2.2 (Part.whole _) Try.underlying32 rfl (by kernel_rfl) ?_) | ((with_reducible refine store_bk rfl 32 (.tmp 2) (.tmp 89) rfl w.heap.size 0 #[.int .i64 ((9 : Nat) : Int), .string ⟨#[]⟩, .int .i64 0, .int .i64 0, .int .i64 0, .slice none 0 0, .string ⟨#[]⟩, .int .i64 0, .int .i64 0, .int .i64 0, .string ⟨#[]⟩, .string ⟨#[]⟩, .int .i64 0, .int .i64 0, .int .i64 0, .int .i64 0, .slice none 0 0, .string ⟨#[]⟩, .string ⟨#[]⟩, .int .i64 0, .string ⟨#[]⟩] rfl rfl 32 #[.int .i64 0, .string ⟨#[]⟩, .int .i64 0, .int .i64 0, .int .i64 0, .slice none 0 0, .string ⟨#[]⟩, .int .i64 0, .int .i64 0, .int .i64 0, .string ⟨#[]⟩, .string ⟨#[]⟩, .int .i64 0, .int .i64 0, .int .i64 0, .int .i64 0, .slice none 0 0, .string ⟨#[]⟩, .string ⟨#[]⟩, .int .i64 0, .string ⟨#[]⟩] #[.int .i64 ((9 : Nat) : Int), .string ⟨#[]⟩, .int .i64 0, .int .i64 0, .int .i64 0, .slice none 0 0, .string ⟨#[]⟩, .int .i64 0, .int .i64 0, .int .i64 0, .string ⟨#[]⟩, .string ⟨#[]⟩, .int .i64 0, .int .i64 0, .int .i64 0, .int .i64 0, .slice none 0 0, .string ⟨#[]⟩, .string ⟨#[]⟩, .int .i64 0, .string ⟨#[]⟩] T2.out.2.1 (by kernel_rfl) (by simp) (by kernel_rfl) rfl ?_); intro wz hBz hgz hsz))
            exact bodyPost_ret (v := .tuple #[.agg #[.int .i64 ((9 : Nat) : Int), .string ⟨#[]⟩, .int .i64 0, .int .i64 0, .int .i64 0, .slice none 0 0, .string ⟨#[]⟩, .int .i64 0, .int .i64 0, .int .i64 0, .string ⟨#[]⟩, .string ⟨#[]⟩, .int .i64 0, .int .i64 0, .int .i64 0, .int .i64 0, .slice none 0 0, .string ⟨#[]⟩, .string ⟨#[]⟩, .int .i64 0, .string ⟨#[]⟩], .int .i64 0]) (results_bk2 Try.results15 _ _ w.heap.size 32 #[.int .i64 ((9 : Nat) : Int), .string ⟨#[]⟩, .int .i64 0, .int .i64 0, .int .i64 0, .slice none 0 0, .string ⟨#[]⟩, .int .i64 0, .int .i64 0, .int .i64 0, .string ⟨#[]⟩, .string ⟨#[]⟩, .int .i64 0, .int .i64 0, .int .i64 0, .int .i64 0, .slice none 0 0, .string ⟨#[]⟩, .string ⟨#[]⟩, .int .i64 0, .string ⟨#[]⟩] _ _ rfl rfl hBz Try.underlying32 rfl (by kernel_rfl)) rfl (GotO.of HE.out ⟨.slice none 0 0, .slice none 0 0, rfl, OwnL.nil _ _, OwnL.nil _ _, grown_below T2.out.1 hgz (Nat.le_refl _)⟩)
          case neg =>
            have HE : Hid (D = (Ov.zero, 3)) := HD.out.trans (opFin_long (by rw [← hsl.out]; exact h1))
            have h1x : (p != (s.size : Int)) = true := by simpa using h1
            clear h1
            go_wp2_with ((with_reducible refine store_bk rfl 32 (.tmp 5) (.tmp 11) rfl w1.heap.size 0 #[.int .i64 ((9 : Nat) : Int), .string ⟨#[]⟩, .int .i64 0, .int .i64 0, .int .i64 0, .slice none 0 0, .string ⟨#[]⟩, .int .i64 0, .int .i64 0, .int .i64 0, .string ⟨#[]⟩, .string ⟨#[]⟩, .int .i64 0, .int .i64 0, .int .i64 0, .int .i64 0, .slice none 0 0, .string ⟨#[]⟩, .string ⟨#[]⟩, .int .i64 0, .string ⟨#[]⟩] rfl rfl 32 #[.int .i64 0, .string ⟨#[]⟩, .int .i64 0, .int .i64 0, .int .i64 0, .slice none 0 0, .string ⟨#[]⟩, .int .i64 0, .int .i64 0, .int .i64 0, .string ⟨#[]⟩, .string ⟨#[]⟩, .int .i64 0, .int .i64 0, .int .i64 0, .int .i64 0, .slice none 0 0, .string ⟨#[]⟩, .string ⟨#[]⟩, .int .i64 0, .string ⟨#[]⟩] #[.int .i64 ((9 : Nat) : Int), .string ⟨#[]⟩, .int .i64 0, .int .i64 0, .int .i64 0, .slice none 0 0, .string ⟨#[]⟩, .int .i64 0, .int .i64 0, .int .i64 0, .string ⟨#[]⟩, .string ⟨#[]⟩, .int .i64 0, .int .i64 0, .int .i64 0, .int .i64 0, .slice none 0 0, .string ⟨#[]⟩, .string ⟨#[]⟩, .int .i64 0, .string ⟨#[]⟩] (Bk.fresh _ _ _) (by kernel_rfl) (by simp) (by kernel_rfl) rfl ?_); intro w2 hB2 hg2 hs2; have T2 : Hid (Below w.heap.size w w2 ∧ Bk w2 w.heap.size 32 #[.int .i64 0, .string ⟨#[]⟩, .int .i64 0, .int .i64 0, .int .i64 0, .slice none 0 0, .string ⟨#[]⟩, .int .i64 0, .int .i64 0, .int .i64 0, .string ⟨#[]⟩, .string ⟨#[]⟩, .int .i64 0, .int .i64 0, .int .i64 0, .int .i64 0, .slice none 0 0, .string ⟨#[]⟩, .string ⟨#[]⟩, .int .i64 0, .string ⟨#[]⟩] ∧ Bk w2 (w.heap.size + 1) 74 #[.string s, .int .i64 p, .int .i64 0] ∧ Bk w2 w1.heap.size 32 #[.int .i64 ((9 : Nat) : Int), .string ⟨#[]⟩, .int .i64 0, .int .i64 0, .int .i64 0, .slice none 0 0, .string ⟨#[]⟩, .int .i64 0, .int .i64 0, .int .i64 0, .string ⟨#[]⟩, .string ⟨#[]⟩, .int .i64 0, .int .i64 0, .int .i64 0, .int .i64 0, .slice none 0 0, .string ⟨#[]⟩, .string ⟨#[]⟩, .int .i64 0, .string ⟨#[]⟩]) := ⟨T1.out.1.trans ((grown_below ((Below.refl _ _).alloc (Nat.le_refl _) _) hg2 (Nat.le_refl _)).mono T1.out.1.size), (T1.out.2.1.later ((Below.refl _ _).alloc (Nat.le_refl _) _)).stays hg2 (by simp; omega), (T1.out.2.2.later ((Below.refl _ _).alloc (Nat.le_refl _) _)).stays hg2 (by simp; omega), hB2⟩; have cA_w2 : w2.cell? ⟨w.heap.size + 1, 1, none⟩ = some (.int .i64 p) := Bk.cellAt T2.out.2.2.1 1; have cE_w2 : w2.cell? ⟨w.heap.size + 1, 2, none⟩ = some (.int .i64 0) := Bk.cellAt T2.out.2.2.1 2; have fE_w2 : w2.frozen? ⟨w.heap.size + 1, 2, none⟩ = false := Bk.free T2.out.2.2.1 2; have c0_w2 : w2.cell? ⟨w1.heap.size, 0, none⟩ = some (.int .i64 ((9 : Nat) : Int)) := Bk.cellAt T2.out.2.2.2 0; have c20_w2 : w2.cell? ⟨w1.heap.size, 20, none⟩ = some (.string ⟨#[]⟩) := Bk.cellAt T2.out.2.2.2 20; have f20_w2 : w2.frozen? ⟨w1.heap.size, 20, none⟩ = false := Bk.free T2.out.2.2.2 20; have z2 : w1.heap.size < w2.heap.size := Bk.here T2.out.2.2.2)
            have hR3 : Bk (w2.setCell ⟨w.heap.size + 1, 2, none⟩ (.int .i64 3)) (w.heap.size + 1) 74 #[.string s, .int .i64 p, .int .i64 3] := T2.out.2.2.1.put 2 (.int .i64 3)
            have cE0 := hR3.cellAt 2
            have bN0 := Bk.other T2.out.2.1 (p := ⟨w.heap.size + 1, 2, none⟩) (by simp) (.int .i64 3)
            have bL0 := Below.setCell T2.out.1 (p := ⟨w.heap.size + 1, 2, none⟩) (by simp) (.int .i64 3)
            refine wp_region_held_drew (S := fun W => W.cell? ⟨w.heap.size + 1, 2, none⟩ = some (.int .i64 3)) (by kernel_rfl) cE0 (fun hS0 => ?_)
            refine wpAnyH_take (i := 0) (v := .agg #[.int .i64 0, .string ⟨#[]⟩, .int .i64 0, .int .i64 0, .int .i64 0, .slice none 0 0, .string ⟨#[]⟩, .int .i64 0, .int .i64 0, .int .i64 0, .string ⟨#[]⟩, .string ⟨#[]⟩, .int .i64 0, .int .i64 0, .int .i64 0, .int .i64 0, .slice none 0 0, .string ⟨#[]⟩, .string ⟨#[]⟩, .int .i64 0, .string ⟨#[]⟩]) rfl (by kernel_rfl) (by kernel_rfl) (by kernel_rfl) (fun _ _ _ h => h) (Or.inl ⟨by rfl, ?_⟩) hS0 ?_
            · intro W _; go_simp
            try simp only [Act.put, List.getElem_toArray, List.getElem_cons_zero, List.getElem_cons_succ, List.setIfInBounds_toArray, List.set_cons_zero, List.set_cons_succ]
            refine wpAnyH_take (i := 1) (v := ?_) rfl (by kernel_rfl) (by kernel_rfl) (by kernel_rfl) (fun _ _ _ h => h) (Or.inl ⟨by rfl, ?_⟩) hS0 ?_
            rotate_left
            · intro W _; go_simp; try with_reducible rfl
            try simp only [Act.put, List.getElem_toArray, List.getElem_cons_zero, List.getElem_cons_succ, List.setIfInBounds_toArray, List.set_cons_zero, List.set_cons_succ]
            refine wpAnyH_take (i := 2) (v := ?_) rfl (by kernel_rfl) (by kernel_rfl) (by kernel_rfl) (fun _ _ _ h => h) (Or.inl ⟨by rfl, ?_⟩) hS0 ?_
            rotate_left
            · intro W _; go_simp; try with_reducible rfl
            try simp only [Act.put, List.getElem_toArray, List.getElem_cons_zero, List.getElem_cons_succ, List.setIfInBounds_toArray, List.set_cons_zero, List.set_cons_succ]
            refine wpAnyH_take (i := 3) (v := ?_) rfl (by kernel_rfl) (by kernel_rfl) (by kernel_rfl) (fun _ _ _ h => h) (Or.inl ⟨by rfl, ?_⟩) hS0 ?_
            rotate_left
            · intro W _; go_simp; try with_reducible rfl
            try simp only [Act.put, List.getElem_toArray, List.getElem_cons_zero, List.getElem_cons_succ, List.setIfInBounds_toArray, List.set_cons_zero, List.set_cons_succ]
            refine wpAnyH_take (i := 4) (v := ?_) rfl (by kernel_rfl) (by kernel_rfl) (by kernel_rfl) (fun _ _ _ h => h) (Or.inl ⟨by rfl, ?_⟩) hS0 ?_
            rotate_left
            · intro W hSW; have hSW2 : W.cell? ⟨w.heap.size + 1, 2, none⟩ = some (.int .i64 3) := hSW; go_simp; try with_reducible rfl
            try simp only [Act.put, List.getElem_toArray, List.getElem_cons_zero, List.getElem_cons_succ, List.setIfInBounds_toArray, List.set_cons_zero, List.set_cons_succ]
            refine wpAnyH_ready (rs := [5]) (by kernel_rfl) (by simp) ?_
            refine AllReadyH.cons rfl (fun K hK => ?_) AllReadyH.nil
            rw [if_pos (by rfl)]
            refine store_bk_op 32 (.tmp 2) (.tmp 84) rfl w.heap.size 0 #[.int .i64 0, .string ⟨#[]⟩, .int .i64 0, .int .i64 0, .int .i64 0, .slice none 0 0, .string ⟨#[]⟩, .int .i64 0, .int .i64 0, .int .i64 0, .string ⟨#[]⟩, .string ⟨#[]⟩, .int .i64 0, .int .i64 0, .int .i64 0, .int .i64 0, .slice none 0 0, .string ⟨#[]⟩, .string ⟨#[]⟩, .int .i64 0, .string ⟨#[]⟩] rfl rfl 32 #[.int .i64 0, .string ⟨#[]⟩, .int .i64 0, .int .i64 0, .int .i64 0, .slice none 0 0, .string ⟨#[]⟩, .int .i64 0, .int .i64 0, .int .i64 0, .string ⟨#[]⟩, .string ⟨#[]⟩, .int .i64 0, .int .i64 0, .int .i64 0, .int .i64 0, .slice none 0 0, .string ⟨#[]⟩, .string ⟨#[]⟩, .int .i64 0, .string ⟨#[]⟩] #[.int .i64 0, .string ⟨#[]⟩, .int .i64 0, .int .i64 0, .int .i64 0, .slice none 0 0, .string ⟨#[]⟩, .int .i64 0, .int .i64 0, .int .i64 0, .string ⟨#[]⟩, .string ⟨#[]⟩, .int .i64 0, .int .i64 0, .int .i64 0, .int .i64 0, .slice none 0 0, .string ⟨#[]⟩, .string ⟨#[]⟩, .int .i64 0, .string ⟨#[]⟩] bN0.drewB (by kernel_rfl) (by simp) (by kernel_rfl) rfl ?_
            intro wz hBz hgz hsz
            refine hK.out _ _ (hgz.cell hS0 (by simp)) (fun hS1 => ?_)
            clear hK K
            try simp only [Act.put, List.getElem_toArray, List.getElem_cons_zero, List.getElem_cons_succ, List.setIfInBounds_toArray, List.set_cons_zero, List.set_cons_succ]
            refine wpAnyH_take (i := 6) (v := ?_) rfl (by kernel_rfl) (by kernel_rfl) (by kernel_rfl) (fun _ _ _ h => h) (Or.inl ⟨by rfl, ?_⟩) hS1 ?_
            rotate_left
            · intro W _; go_simp; try with_reducible rfl
            try simp only [Act.put, List.getElem_toArray, List.getElem_cons_zero, List.getElem_cons_succ, List.setIfInBounds_toArray, List.set_cons_zero, List.set_cons_succ]
            refine wpAnyH_done (by kernel_rfl) ?_ _
            go_wp2_with fail
            exact bodyPost_ret (v := .tuple #[.agg #[.int .i64 0, .string ⟨#[]⟩, .int .i64 0, .int .i64 0, .int .i64 0, .slice none 0 0, .string ⟨#[]⟩, .int .i64 0, .int .i64 0, .int .i64 0, .string ⟨#[]⟩, .string ⟨#[]⟩, .int .i64 0, .int .i64 0, .int .i64 0, .int .i64 0, .slice none 0 0, .string ⟨#[]⟩, .string ⟨#[]⟩, .int .i64 0, .string ⟨#[]⟩], .int .i64 3]) (results_bk2 Try.results15 _ _ w.heap.size 32 #[.int .i64 0, .string ⟨#[]⟩, .int .i64 0, .int .i64 0, .int .i64 0, .slice none 0 0, .string ⟨#[]⟩, .int .i64 0, .int .i64 0, .int .i64 0, .string ⟨#[]⟩, .string ⟨#[]⟩, .int .i64 0, .int .i64 0, .int .i64 0, .int .i64 0, .slice none 0 0, .string ⟨#[]⟩, .string ⟨#[]⟩, .int .i64 0, .string ⟨#[]⟩] _ _ rfl rfl hBz Try.underlying32 rfl (by kernel_rfl)) rfl (GotO.of HE.out ⟨.slice none 0 0, .slice none 0 0, rfl, OwnL.nil _ _, OwnL.nil _ _, grown_below (Below.drew bL0) hgz (Nat.le_refl _)⟩)
        case neg =>
          have hnm : k = 2 ∨ k = 4 ∨ k = 6 ∨ k = 7 ∨ k = 8 := by omega
          have e0 : ((k : Int) == 0) = false := by simp; omega
          have e1 : ((k : Int) == 1) = false := by simp; omega
          have e3 : ((k : Int) == 3) = false := by simp; omega
          have e5 : ((k : Int) == 5) = false := by simp; omega
          have e9 : ((k : Int) == 9) = false := by simp; omega
          rw [pTake_nm ht hnm] at hD
          have kk := fun W (hR : RdR W (w.heap.size + 1) s (p, 0)) => rr_text (w.heap.size + 1) s l (p, 0) W hR hl hs
          rw [tName_rTx] at hD
          have hlen := rTx_len l (p, 0)
          obtain ⟨nm, nx, er, hx⟩ : ∃ x nx er, rTx l (p, 0) = (x, nx, er) := ⟨_, _, _, rfl⟩
          rw [hx] at kk hD hlen
          simp only [] at kk hD hlen
          have KK := Lib.hid kk
          have km := fun W => rname_any nm W (by omega)
          have KM := Lib.hid km
          clear km hlen
          clear kk hx
          have HD := Lib.hid hD
          have KN := Lib.hid kn
          clear kn ht hbad hk hD h0 h1 h3 h5 h9 hnm
          go_enter Try.func15, Try.ntmps15
          go_wp2_with fail
          have hR0 : RdR ((w.alloc (.cells #[.int .i64 0, .string ⟨#[]⟩, .int .i64 0, .int .i64 0, .int .i64 0, .slice none 0 0, .string ⟨#[]⟩, .int .i64 0, .int .i64 0, .int .i64 0, .string ⟨#[]⟩, .string ⟨#[]⟩, .int .i64 0, .int .i64 0, .int .i64 0, .int .i64 0, .slice none 0 0, .string ⟨#[]⟩, .string ⟨#[]⟩, .int .i64 0, .string ⟨#[]⟩] 32)).alloc (.cells #[.string s, .int .i64 0, .int .i64 0] 74)) (w.heap.size + 1) s (0, 0) := ⟨0, Bk.freshAt _ _ _ (by simp), fun _ => rfl⟩
          have hN0 : Bk ((w.alloc (.cells #[.int .i64 0, .string ⟨#[]⟩, .int .i64 0, .int .i64 0, .int .i64 0, .slice none 0 0, .string ⟨#[]⟩, .int .i64 0, .int .i64 0, .int .i64 0, .string ⟨#[]⟩, .string ⟨#[]⟩, .int .i64 0, .int .i64 0, .int .i64 0, .int .i64 0, .slice none 0 0, .string ⟨#[]⟩, .string ⟨#[]⟩, .int .i64 0, .string ⟨#[]⟩] 32)).alloc (.cells #[.string s, .int .i64 0, .int .i64 0] 74)) w.heap.size 32 #[.int .i64 0, .string ⟨#[]⟩, .int .i64 0, .int .i64 0, .int .i64 0, .slice none 0 0, .string ⟨#[]⟩, .int .i64 0, .int .i64 0, .int .i64 0, .string ⟨#[]⟩, .string ⟨#[]⟩, .int .i64 0, .int .i64 0, .int .i64 0, .int .i64 0, .slice none 0 0, .string ⟨#[]⟩, .string ⟨#[]⟩, .int .i64 0, .string ⟨#[]⟩] := (Bk.fresh _ _ _).later ((Below.refl _ _).alloc (Nat.le_refl _) _)
          refine (KN.out _ hR0).mono ?_
          rintro e w1 ⟨rfl, hR1, hg1⟩
          obtain ⟨at_, hbR, hat⟩ := hR1
          have T1 : Hid (Below w.heap.size w w1 ∧ Bk w1 w.heap.size 32 #[.int .i64 0, .string ⟨#[]⟩, .int .i64 0, .int .i64 0, .int .i64 0, .slice none 0 0, .string ⟨#[]⟩, .int .i64 0, .int .i64 0, .int .i64 0, .string ⟨#[]⟩, .string ⟨#[]⟩, .int .i64 0, .int .i64 0, .int .i64 0, .int .i64 0, .slice none 0 0, .string ⟨#[]⟩, .string ⟨#[]⟩, .int .i64 0, .string ⟨#[]⟩] ∧ Bk w1 (w.heap.size + 1) 74 #[.string s, .int .i64 at_, .int .i64 0]) := ⟨grown_below (by (repeat' (first | (with_reducible exact Below.refl _ _) | (with_reducible refine bdrewN ?_ _) | (with_reducible refine Below.drew ?_) | (with_reducible refine Below.setCell ?_ ?_ _) | (with_reducible refine Below.alloc ?_ ?_ _) | (with_reducible exact Nat.le_refl _) | (with_reducible assumption) | omega | (simp only [World.size_alloc, World.size_setCell, World.size_drew, sz_drewN]; omega)))) hg1 (by omega), hN0.stays hg1 (by simp), hbR⟩
          have hz1 : w.heap.size + 1 < w1.heap.size := T1.out.2.2.here
          have hat2 : p = at_ := (hat rfl).symm
          subst hat2
          clear hR0 hN0 hbR hat hg1
          go_wp2_with ((with_reducible refine store_bk rfl 32 (.tmp 5) (.tmp 11) rfl w1.heap.size 0 #[.int .i64 (k : Int), .string ⟨#[]⟩, .int .i64 0, .int .i64 0, .int .i64 0, .slice none 0 0, .string ⟨#[]⟩, .int .i64 0, .int .i64 0, .int .i64 0, .string ⟨#[]⟩, .string ⟨#[]⟩, .int .i64 0, .int .i64 0, .int .i64 0, .int .i64 0, .slice none 0 0, .string ⟨#[]⟩, .string ⟨#[]⟩, .int .i64 0, .string ⟨#[]⟩] rfl rfl 32 #[.int .i64 0, .string ⟨#[]⟩, .int .i64 0, .int .i64 0, .int .i64 0, .slice none 0 0, .string ⟨#[]⟩, .int .i64 0, .int .i64 0, .int .i64 0, .string ⟨#[]⟩, .string ⟨#[]⟩, .int .i64 0, .int .i64 0, .int .i64 0, .int .i64 0, .slice none 0 0, .string ⟨#[]⟩, .string ⟨#[]⟩, .int .i64 0, .string ⟨#[]⟩] #[.int .i64 (k : Int), .string ⟨#[]⟩, .int .i64 0, .int .i64 0, .int .i64 0, .slice none 0 0, .string ⟨#[]⟩, .int .i64 0, .int .i64 0, .int .i64 0, .string ⟨#[]⟩, .string ⟨#[]⟩, .int .i64 0, .int .i64 0, .int .i64 0, .int .i64 0, .slice none 0 0, .string ⟨#[]⟩, .string ⟨#[]⟩, .int .i64 0, .string ⟨#[]⟩] (Bk.fresh _ _ _) (by kernel_rfl) (by simp) (by kernel_rfl) rfl ?_); intro w2 hB2 hg2 hs2; have T2 : Hid (Below w.heap.size w w2 ∧ Bk w2 w.heap.size 32 #[.int .i64 0, .string ⟨#[]⟩, .int .i64 0, .int .i64 0, .int .i64 0, .slice none 0 0, .string ⟨#[]⟩, .int .i64 0, .int .i64 0, .int .i64 0, .string ⟨#[]⟩, .string ⟨#[]⟩, .int .i64 0, .int .i64 0, .int .i64 0, .int .i64 0, .slice none 0 0, .string ⟨#[]⟩, .string ⟨#[]⟩, .int .i64 0, .string ⟨#[]⟩] ∧ Bk w2 (w.heap.size + 1) 74 #[.string s, .int .i64 p, .int .i64 0] ∧ Bk w2 w1.heap.size 32 #[.int .i64 (k : Int), .string ⟨#[]⟩, .int .i64 0, .int .i64 0, .int .i64 0, .slice none 0 0, .string ⟨#[]⟩, .int .i64 0, .int .i64 0, .int .i64 0, .string ⟨#[]⟩, .string ⟨#[]⟩, .int .i64 0, .int .i64 0, .int .i64 0, .int .i64 0, .slice none 0 0, .string ⟨#[]⟩, .string ⟨#[]⟩, .int .i64 0, .string ⟨#[]⟩]) := ⟨T1.out.1.trans ((grown_below ((Below.refl _ _).alloc (Nat.le_refl _) _) hg2 (Nat.le_refl _)).mono T1.out.1.size), (T1.out.2.1.later ((Below.refl _ _).alloc (Nat.le_refl _) _)).stays hg2 (by simp; omega), (T1.out.2.2.later ((Below.refl _ _).alloc (Nat.le_refl _) _)).stays hg2 (by simp; omega), hB2⟩; have cA_w2 : w2.cell? ⟨w.heap.size + 1, 1, none⟩ = some (.int .i64 p) := Bk.cellAt T2.out.2.2.1 1; have cE_w2 : w2.cell? ⟨w.heap.size + 1, 2, none⟩ = some (.int .i64 0) := Bk.cellAt T2.out.2.2.1 2; have fE_w2 : w2.frozen? ⟨w.heap.size + 1, 2, none⟩ = false := Bk.free T2.out.2.2.1 2; have c0_w2 : w2.cell? ⟨w1.heap.size, 0, none⟩ = some (.int .i64 (k : Int)) := Bk.cellAt T2.out.2.2.2 0; have c20_w2 : w2.cell? ⟨w1.heap.size, 20, none⟩ = some (.string ⟨#[]⟩) := Bk.cellAt T2.out.2.2.2 20; have f20_w2 : w2.frozen? ⟨w1.heap.size, 20, none⟩ = false := Bk.free T2.out.2.2.2 20; have z2 : w1.heap.size < w2.heap.size := Bk.here T2.out.2.2.2)
          refine (KK.out _ ⟨p, T2.out.2.2.1, fun _ => rfl⟩).mono ?_
          rintro e w3 ⟨rfl, hR3, hg3⟩
          obtain ⟨at3, hb3, hat3⟩ := hR3
          have T3 : Hid (Below w.heap.size w w3 ∧ Bk w3 w.heap.size 32 #[.int .i64 0, .string ⟨#[]⟩, .int .i64 0, .int .i64 0, .int .i64 0, .slice none 0 0, .string ⟨#[]⟩, .int .i64 0, .int .i64 0, .int .i64 0, .string ⟨#[]⟩, .string ⟨#[]⟩, .int .i64 0, .int .i64 0, .int .i64 0, .int .i64 0, .slice none 0 0, .string ⟨#[]⟩, .string ⟨#[]⟩, .int .i64 0, .string ⟨#[]⟩] ∧ Bk w3 (w.heap.size + 1) 74 #[.string s, .int .i64 at3, .int .i64 er] ∧ Bk w3 w1.heap.size 32 #[.int .i64 (k : Int), .string ⟨#[]⟩, .int .i64 0, .int .i64 0, .int .i64 0, .slice none 0 0, .string ⟨#[]⟩, .int .i64 0, .int .i64 0, .int .i64 0, .string ⟨#[]⟩, .string ⟨#[]⟩, .int .i64 0, .int .i64 0, .int .i64 0, .int .i64 0, .slice none 0 0, .string ⟨#[]⟩, .string ⟨#[]⟩, .int .i64 0, .string ⟨#[]⟩]) := ⟨grown_below T2.out.1 hg3 (by omega), T2.out.2.1.stays hg3 (by simp), hb3, T2.out.2.2.2.stays hg3 (by simp; omega)⟩
          have z3 : w1.heap.size < w2.heap.size := T2.out.2.2.2.here
          clear hB2 hg2 hs2 cA_w2 cE_w2 fE_w2 c0_w2 c20_w2 f20_w2 z2 hb3 hg3 T1
          have cA_w3 : w3.cell? ⟨w.heap.size + 1, 1, none⟩ = some (.int .i64 at3) := Bk.cellAt T3.out.2.2.1 1
          have cE_w3 : w3.cell? ⟨w.heap.size + 1, 2, none⟩ = some (.int .i64 er) := Bk.cellAt T3.out.2.2.1 2
          have fE_w3 : w3.frozen? ⟨w.heap.size + 1, 2, none⟩ = false := Bk.free T3.out.2.2.1 2
          have c0_w3 : w3.cell? ⟨w1.heap.size, 0, none⟩ = some (.int .i64 (k : Int)) := Bk.cellAt T3.out.2.2.2 0
          have c20_w3 : w3.cell? ⟨w1.heap.size, 20, none⟩ = some (.string ⟨#[]⟩) := Bk.cellAt T3.out.2.2.2 20
          have f20_w3 : w3.frozen? ⟨w1.heap.size, 20, none⟩ = false := Bk.free T3.out.2.2.2 20
          have T4 : Hid (Below w.heap.size w (w3.setCell ⟨w1.heap.size, 20, none⟩ (.string nm)) ∧ Bk (w3.setCell ⟨w1.heap.size, 20, none⟩ (.string nm)) w.heap.size 32 #[.int .i64 0, .string ⟨#[]⟩, .int .i64 0, .int .i64 0, .int .i64 0, .slice none 0 0, .string ⟨#[]⟩, .int .i64 0, .int .i64 0, .int .i64 0, .string ⟨#[]⟩, .string ⟨#[]⟩, .int .i64 0, .int .i64 0, .int .i64 0, .int .i64 0, .slice none 0 0, .string ⟨#[]⟩, .string ⟨#[]⟩, .int .i64 0, .string ⟨#[]⟩] ∧ Bk (w3.setCell ⟨w1.heap.size, 20, none⟩ (.string nm)) (w.heap.size + 1) 74 #[.string s, .int .i64 at3, .int .i64 er] ∧ Bk (w3.setCell ⟨w1.heap.size, 20, none⟩ (.string nm)) w1.heap.size 32 #[.int .i64 (k : Int), .string ⟨#[]⟩, .int .i64 0, .int .i64 0, .int .i64 0, .slice none 0 0, .string ⟨#[]⟩, .int .i64 0, .int .i64 0, .int .i64 0, .string ⟨#[]⟩, .string ⟨#[]⟩, .int .i64 0, .int .i64 0, .int .i64 0, .int .i64 0, .slice none 0 0, .string ⟨#[]⟩, .string ⟨#[]⟩, .int .i64 0, .string nm]) := ⟨T3.out.1.setCell (p := ⟨w1.heap.size, 20, none⟩) (by simp; omega) _, T3.out.2.1.other (p := ⟨w1.heap.size, 20, none⟩) (by simp; omega) _, T3.out.2.2.1.other (p := ⟨w1.heap.size, 20, none⟩) (by simp; omega) _, T3.out.2.2.2.put 20 (.string nm)⟩
          by_cases h0 : er = 0
          case pos =>
            subst h0
            have hat4 : at3 = nx := hat3 rfl
            subst hat4
            clear hat3
            have HM := KM.out
            have hD2 := HD.out
            rw [if_pos rfl] at hD2
            by_cases hn : nameB nm = true
            case pos =>
              rw [hn] at HM hD2
              rw [if_pos rfl] at hD2
              have HD3 := Lib.hid hD2
              have HM2 := Lib.hid HM
              clear HM hD2 hn HD KM
              go_wp2_with fail
              refine (HM2.out _).mono ?_
              rintro e w' ⟨rfl, rfl⟩
              by_cases h1 : at3 = (s.size : Int)
              case pos =>
                have HE : Hid (D = (_, 0)) := HD3.out.trans (opFin_ok (by rw [h1, hsl.out]))
                have h1x : (at3 != (s.size : Int)) = false := by simp [h1]
                clear h1
                go_wp2_with (first | (with_reducible refine load_bk rfl 32 _ rfl w1.heap.size 0 rfl 32 #[.int .i64 (k : Int), .string ⟨#[]⟩, .int .i64 0, .int .i64 0, .int .i64 0, .slice none 0 0, .string ⟨#[]⟩, .int .i64 0, .int .i64 0, .int .i64 0, .string ⟨#[]⟩, .string ⟨#[]⟩, .int .i64 0, .int .i64 0, .int .i64 0, .int .i64 0, .slice none 0 0, .string ⟨#[]⟩, .string ⟨#[]⟩, .int .i64 0, .string nm] #[.int .i64 (k : Int), .string ⟨#[]⟩, .int .i64 0, .int .i64 0, .int .i64 0, .slice none 0 0, .string ⟨#[]⟩, .int .i64 0, .int .i64 0, .int .i64 0, .string ⟨#[]⟩, .string ⟨#[]⟩, .int .i64 0, .int .i64 0, .int .i64 0, .int .i64 0, .slice none 0 0, .string ⟨#[]⟩, .string ⟨#[]⟩, .int .i64 0, .string nm] _ T4.out.2.2.2 (Part.whole _) Try.underlying32 rfl (by kernel_rfl) ?_) | ((with_reducible refine store_bk rfl 32 (.tmp 2) (.tmp 89) rfl w.heap.size 0 #[.int .i64 (k : Int), .string ⟨#[]⟩, .int .i64 0, .int .i64 0, .int .i64 0, .slice none 0 0, .string ⟨#[]⟩, .int .i64 0, .int .i64 0, .int .i64 0, .string ⟨#[]⟩, .string ⟨#[]⟩, .int .i64 0, .int .i64 0, .int .i64 0, .int .i64 0, .slice none 0 0, .string ⟨#[]⟩, .string ⟨#[]⟩, .int .i64 0, .string nm] rfl rfl 32 #[.int .i64 0, .string ⟨#[]⟩, .int .i64 0, .int .i64 0, .int .i64 0, .slice none 0 0, .string ⟨#[]⟩, .int .i64 0, .int .i64 0, .int .i64 0, .string ⟨#[]⟩, .string ⟨#[]⟩, .int .i64 0, .int .i64 0, .int .i64 0, .int .i64 0, .slice none 0 0, .string ⟨#[]⟩, .string ⟨#[]⟩, .int .i64 0, .string ⟨#[]⟩] #[.int .i64 (k : Int), .string ⟨#[]⟩, .int .i64 0, .int .i64 0, .int .i64 0, .slice none 0 0, .string ⟨#[]⟩, .int .i64 0, .int .i64 0, .int .i64 0, .string ⟨#[]⟩, .string ⟨#[]⟩, .int .i64 0, .int .i64 0, .int .i64 0, .int .i64 0, .slice none 0 0, .string ⟨#[]⟩, .string ⟨#[]⟩, .int .i64 0, .string nm] T4.out.2.1 (by kernel_rfl) (by simp) (by kernel_rfl) rfl ?_); intro wz hBz hgz hsz))
                exact bodyPost_ret (v := .tuple #[.agg #[.int .i64 (k : Int), .string ⟨#[]⟩, .int .i64 0, .int .i64 0, .int .i64 0, .slice none 0 0, .string ⟨#[]⟩, .int .i64 0, .int .i64 0, .int .i64 0, .string ⟨#[]⟩, .string ⟨#[]⟩, .int .i64 0, .int .i64 0, .int .i64 0, .int .i64 0, .slice none 0 0, .string ⟨#[]⟩, .string ⟨#[]⟩, .int .i64 0, .string nm], .int .i64 0]) (results_bk2 Try.results15 _ _ w.heap.size 32 #[.int .i64 (k : Int), .string ⟨#[]⟩, .int .i64 0, .int .i64 0, .int .i64 0, .slice none 0 0, .string ⟨#[]⟩, .int .i64 0, .int .i64 0, .int .i64 0, .string ⟨#[]⟩, .string ⟨#[]⟩, .int .i64 0, .int .i64 0, .int .i64 0, .int .i64 0, .slice none 0 0, .string ⟨#[]⟩, .string ⟨#[]⟩, .int .i64 0, .string nm] _ _ rfl rfl hBz Try.underlying32 rfl (by kernel_rfl)) rfl (GotO.of HE.out ⟨.slice none 0 0, .slice none 0 0, rfl, OwnL.nil _ _, OwnL.nil _ _, grown_below T4.out.1 hgz (Nat.le_refl _)⟩)
              case neg =>
                have HE : Hid (D = (Ov.zero, 3)) := HD3.out.trans (opFin_long (by rw [← hsl.out]; exact h1))
                have h1x : (at3 != (s.size : Int)) = true := by simpa using h1
                clear h1
                go_wp2_with fail
                have hR3 : Bk ((w3.setCell ⟨w1.heap.size, 20, none⟩ (.string nm)).setCell ⟨w.heap.size + 1, 2, none⟩ (.int .i64 3)) (w.heap.size + 1) 74 #[.string s, .int .i64 at3, .int .i64 3] := T4.out.2.2.1.put 2 (.int .i64 3)
                have cE0 := hR3.cellAt 2
                have bN0 := Bk.other T4.out.2.1 (p := ⟨w.heap.size + 1, 2, none⟩) (by simp) (.int .i64 3)
                have bL0 := Below.setCell T4.out.1 (p := ⟨w.heap.size + 1, 2, none⟩) (by simp) (.int .i64 3)
                refine wp_region_held_drew (S := fun W => W.cell? ⟨w.heap.size + 1, 2, none⟩ = some (.int .i64 3)) (by kernel_rfl) cE0 (fun hS0 => ?_)
                refine wpAnyH_take (i := 0) (v := .agg #[.int .i64 0, .string ⟨#[]⟩, .int .i64 0, .int .i64 0, .int .i64 0, .slice none 0 0, .string ⟨#[]⟩, .int .i64 0, .int .i64 0, .int .i64 0, .string ⟨#[]⟩, .string ⟨#[]⟩, .int .i64 0, .int .i64 0, .int .i64 0, .int .i64 0, .slice none 0 0, .string ⟨#[]⟩, .string ⟨#[]⟩, .int .i64 0, .string ⟨#[]⟩]) rfl (by kernel_rfl) (by kernel_rfl) (by kernel_rfl) (fun _ _ _ h => h) (Or.inl ⟨by rfl, ?_⟩) hS0 ?_
                · intro W _; go_simp
                try simp only [Act.put, List.getElem_toArray, List.getElem_cons_zero, List.getElem_cons_succ, List.setIfInBounds_toArray, List.set_cons_zero, List.set_cons_succ]
                refine wpAnyH_take (i := 1) (v := ?_) rfl (by kernel_rfl) (by kernel_rfl) (by kernel_rfl) (fun _ _ _ h => h) (Or.inl ⟨by rfl, ?_⟩) hS0 ?_
                rotate_left
                · intro W _; go_simp; try with_reducible rfl
                try simp only [Act.put, List.getElem_toArray, List.getElem_cons_zero, List.getElem_cons_succ, List.setIfInBounds_toArray, List.set_cons_zero, List.set_cons_succ]
                refine wpAnyH_take (i := 2) (v := ?_) rfl (by kernel_rfl) (by kernel_rfl) (by kernel_rfl) (fun _ _ _ h => h) (Or.inl ⟨by rfl, ?_⟩) hS0 ?_
                rotate_left
                · intro W _; go_simp; try with_reducible rfl
                try simp only [Act.put, List.getElem_toArray, List.getElem_cons_zero, List.getElem_cons_succ, List.setIfInBounds_toArray, List.set_cons_zero, List.set_cons_succ]
                refine wpAnyH_take (i := 3) (v := ?_) rfl (by kernel_rfl) (by kernel_rfl) (by kernel_rfl) (fun _ _ _ h => h) (Or.inl ⟨by rfl, ?_⟩) hS0 ?_
                rotate_left
                · intro W _; go_simp; try with_reducible rfl
                try simp only [Act.put, List.getElem_toArray, List.getElem_cons_zero, List.getElem_cons_succ, List.setIfInBounds_toArray, List.set_cons_zero, List.set_cons_succ]
                refine wpAnyH_take (i := 4) (v := ?_) rfl (by kernel_rfl) (by kernel_rfl) (by kernel_rfl) (fun _ _ _ h => h) (Or.inl ⟨by rfl, ?_⟩) hS0 ?_
                rotate_left
                · intro W hSW; have hSW2 : W.cell? ⟨w.heap.size + 1, 2, none⟩ = some (.int .i64 3) := hSW; go_simp; try with_reducible rfl
                try simp only [Act.put, List.getElem_toArray, List.getElem_cons_zero, List.getElem_cons_succ, List.setIfInBounds_toArray, List.set_cons_zero, List.set_cons_succ]
                refine wpAnyH_ready (rs := [5]) (by kernel_rfl) (by simp) ?_
                refine AllReadyH.cons rfl (fun K hK => ?_) AllReadyH.nil
                rw [if_pos (by rfl)]
                refine store_bk_op 32 (.tmp 2) (.tmp 84) rfl w.heap.size 0 #[.int .i64 0, .string ⟨#[]⟩, .int .i64 0, .int .i64 0, .int .i64 0, .slice none 0 0, .string ⟨#[]⟩, .int .i64 0, .int .i64 0, .int .i64 0, .string ⟨#[]⟩, .string ⟨#[]⟩, .int .i64 0, .int .i64 0, .int .i64 0, .int .i64 0, .slice none 0 0, .string ⟨#[]⟩, .string ⟨#[]⟩, .int .i64 0, .string ⟨#[]⟩] rfl rfl 32 #[.int .i64 0, .string ⟨#[]⟩, .int .i64 0, .int .i64 0, .int .i64 0, .slice none 0 0, .string ⟨#[]⟩, .int .i64 0, .int .i64 0, .int .i64 0, .string ⟨#[]⟩, .string ⟨#[]⟩, .int .i64 0, .int .i64 0, .int .i64 0, .int .i64 0, .slice none 0 0, .string ⟨#[]⟩, .string ⟨#[]⟩, .int .i64 0, .string ⟨#[]⟩] #[.int .i64 0, .string ⟨#[]⟩, .int .i64 0, .int .i64 0, .int .i64 0, .slice none 0 0, .string ⟨#[]⟩, .int .i64 0, .int .i64 0, .int .i64 0, .string ⟨#[]⟩, .string ⟨#[]⟩, .int .i64 0, .int .i64 0, .int .i64 0, .int .i64 0, .slice none 0 0, .string ⟨#[]⟩, .string ⟨#[]⟩, .int .i64 0, .string ⟨#[]⟩] bN0.drewB (by kernel_rfl) (by simp) (by kernel_rfl) rfl ?_
                intro wz hBz hgz hsz
                refine hK.out _ _ (hgz.cell hS0 (by simp)) (fun hS1 => ?_)
                clear hK K
                try simp only [Act.put, List.getElem_toArray, List.getElem_cons_zero, List.getElem_cons_succ, List.setIfInBounds_toArray, List.set_cons_zero, List.set_cons_succ]
                refine wpAnyH_take (i := 6) (v := ?_) rfl (by kernel_rfl) (by kernel_rfl) (by kernel_rfl) (fun _ _ _ h => h) (Or.inl ⟨by rfl, ?_⟩) hS1 ?_
                rotate_left
                · intro W _; go_simp; try with_reducible rfl
                try simp only [Act.put, List.getElem_toArray, List.getElem_cons_zero, List.getElem_cons_succ, List.setIfInBounds_toArray, List.set_cons_zero, List.set_cons_succ]
                refine wpAnyH_done (by kernel_rfl) ?_ _
                go_wp2_with fail
                exact bodyPost_ret (v := .tuple #[.agg #[.int .i64 0, .string ⟨#[]⟩, .int .i64 0, .int .i64 0, .int .i64 0, .slice none 0 0, .string ⟨#[]⟩, .int .i64 0, .int .i64 0, .int .i64 0, .string ⟨#[]⟩, .string ⟨#[]⟩, .int .i64 0, .int .i64 0, .int .i64 0, .int .i64 0, .slice none 0 0, .string ⟨#[]⟩, .string ⟨#[]⟩, .int .i64 0, .string ⟨#[]⟩], .int .i64 3]) (results_bk2 Try.results15 _ _ w.heap.size 32 #[.int .i64 0, .string ⟨#[]⟩, .int .i64 0, .int .i64 0, .int .i64 0, .slice none 0 0, .string ⟨#[]⟩, .int .i64 0, .int .i64 0, .int .i64 0, .string ⟨#[]⟩, .string ⟨#[]⟩, .int .i64 0, .int .i64 0, .int .i64 0, .int .i64 0, .slice none 0 0, .string ⟨#[]⟩, .string ⟨#[]⟩, .int .i64 0, .string ⟨#[]⟩] _ _ rfl rfl hBz Try.underlying32 rfl (by kernel_rfl)) rfl (GotO.of HE.out ⟨.slice none 0 0, .slice none 0 0, rfl, OwnL.nil _ _, OwnL.nil _ _, grown_below (Below.drew bL0) hgz (Nat.le_refl _)⟩)
            case neg =>
              have hn' : nameB nm = false := by simpa using hn
              rw [hn'] at HM hD2
              rw [if_neg (by simp)] at hD2
              have HE : Hid (D = (Ov.zero, 3)) := hD2.trans (opFin_no (by decide))
              have HM2 := Lib.hid HM
              clear HM hD2 hn hn' HD KM
              go_wp2_with fail
              refine (HM2.out _).mono ?_
              rintro e w' ⟨rfl, rfl⟩
              go_wp2_with fail
              have hR3 : Bk ((w3.setCell ⟨w1.heap.size, 20, none⟩ (.string nm)).setCell ⟨w.heap.size + 1, 2, none⟩ (.int .i64 3)) (w.heap.size + 1) 74 #[.string s, .int .i64 at3, .int .i64 3] := T4.out.2.2.1.put 2 (.int .i64 3)
              have cE0 := hR3.cellAt 2
              have bN0 := Bk.other T4.out.2.1 (p := ⟨w.heap.size + 1, 2, none⟩) (by simp) (.int .i64 3)
              have bL0 := Below.setCell T4.out.1 (p := ⟨w.heap.size + 1, 2, none⟩) (by simp) (.int .i64 3)
              refine wp_region_held_drew (S := fun W => W.cell? ⟨w.heap.size + 1, 2, none⟩ = some (.int .i64 3)) (by kernel_rfl) cE0 (fun hS0 => ?_)
              refine wpAnyH_take (i := 0) (v := .agg #[.int .i64 0, .string ⟨#[]⟩, .int .i64 0, .int .i64 0, .int .i64 0, .slice none 0 0, .string ⟨#[]⟩, .int .i64 0, .int .i64 0, .int .i64 0, .string ⟨#[]⟩, .string ⟨#[]⟩, .int .i64 0, .int .i64 0, .int .i64 0, .int .i64 0, .slice none 0 0, .string ⟨#[]⟩, .string ⟨#[]⟩, .int .i64 0, .string ⟨#[]⟩]) rfl (by kernel_rfl) (by kernel_rfl) (by kernel_rfl) (fun _ _ _ h => h) (Or.inl ⟨by rfl, ?_⟩) hS0 ?_
              · intro W _; go_simp
              try simp only [Act.put, List.getElem_toArray, List.getElem_cons_zero, List.getElem_cons_succ, List.setIfInBounds_toArray, List.set_cons_zero, List.set_cons_succ]
              refine wpAnyH_take (i := 1) (v := ?_) rfl (by kernel_rfl) (by kernel_rfl) (by kernel_rfl) (fun _ _ _ h => h) (Or.inl ⟨by rfl, ?_⟩) hS0 ?_
              rotate_left
              · intro W _; go_simp; try with_reducible rfl
              try simp only [Act.put, List.getElem_toArray, List.getElem_cons_zero, List.getElem_cons_succ, List.setIfInBounds_toArray, List.set_cons_zero, List.set_cons_succ]
              refine wpAnyH_take (i := 2) (v := ?_) rfl (by kernel_rfl) (by kernel_rfl) (by kernel_rfl) (fun _ _ _ h => h) (Or.inl ⟨by rfl, ?_⟩) hS0 ?_
              rotate_left
              · intro W _; go_simp; try with_reducible rfl
              try simp only [Act.put, List.getElem_toArray, List.getElem_cons_zero, List.getElem_cons_succ, List.setIfInBounds_toArray, List.set_cons_zero, List.set_cons_succ]
              refine wpAnyH_take (i := 3) (v := ?_) rfl (by kernel_rfl) (by kernel_rfl) (by kernel_rfl) (fun _ _ _ h => h) (Or.inl ⟨by rfl, ?_⟩) hS0 ?_
              rotate_left
              · intro W _; go_simp; try with_reducible rfl
              try simp only [Act.put, List.getElem_toArray, List.getElem_cons_zero, List.getElem_cons_succ, List.setIfInBounds_toArray, List.set_cons_zero, List.set_cons_succ]
              refine wpAnyH_take (i := 4) (v := ?_) rfl (by kernel_rfl) (by kernel_rfl) (by kernel_rfl) (fun _ _ _ h => h) (Or.inl ⟨by rfl, ?_⟩) hS0 ?_
              rotate_left
              · intro W hSW; have hSW2 : W.cell? ⟨w.heap.size + 1, 2, none⟩ = some (.int .i64 3) := hSW; go_simp; try with_reducible rfl
              try simp only [Act.put, List.getElem_toArray, List.getElem_cons_zero, List.getElem_cons_succ, List.setIfInBounds_toArray, List.set_cons_zero, List.set_cons_succ]
              refine wpAnyH_ready (rs := [5]) (by kernel_rfl) (by simp) ?_
              refine AllReadyH.cons rfl (fun K hK => ?_) AllReadyH.nil
              rw [if_pos (by rfl)]
              refine store_bk_op 32 (.tmp 2) (.tmp 84) rfl w.heap.size 0 #[.int .i64 0, .string ⟨#[]⟩, .int .i64 0, .int .i64 0, .int .i64 0, .slice none 0 0, .string ⟨#[]⟩, .int .i64 0, .int .i64 0, .int .i64 0, .string ⟨#[]⟩, .string ⟨#[]⟩, .int .i64 0, .int .i64 0, .int .i64 0, .int .i64 0, .slice none 0 0, .string ⟨#[]⟩, .string ⟨#[]⟩, .int .i64 0, .string ⟨#[]⟩] rfl rfl 32 #[.int .i64 0, .string ⟨#[]⟩, .int .i64 0, .int .i64 0, .int .i64 0, .slice none 0 0, .string ⟨#[]⟩, .int .i64 0, .int .i64 0, .int .i64 0, .string ⟨#[]⟩, .string ⟨#[]⟩, .int .i64 0, .int .i64 0, .int .i64 0, .int .i64 0, .slice none 0 0, .string ⟨#[]⟩, .string ⟨#[]⟩, .int .i64 0, .string ⟨#[]⟩] #[.int .i64 0, .string ⟨#[]⟩, .int .i64 0, .int .i64 0, .int .i64 0, .slice none 0 0, .string ⟨#[]⟩, .int .i64 0, .int .i64 0, .int .i64 0, .string ⟨#[]⟩, .string ⟨#[]⟩, .int .i64 0, .int .i64 0, .int .i64 0, .int .i64 0, .slice none 0 0, .string ⟨#[]⟩, .string ⟨#[]⟩, .int .i64 0, .string ⟨#[]⟩] bN0.drewB (by kernel_rfl) (by simp) (by kernel_rfl) rfl ?_
              intro wz hBz hgz hsz
              refine hK.out _ _ (hgz.cell hS0 (by simp)) (fun hS1 => ?_)
              clear hK K
              try simp only [Act.put, List.getElem_toArray, List.getElem_cons_zero, List.getElem_cons_succ, List.setIfInBounds_toArray, List.set_cons_zero, List.set_cons_succ]
              refine wpAnyH_take (i := 6) (v := ?_) rfl (by kernel_rfl) (by kernel_rfl) (by kernel_rfl) (fun _ _ _ h => h) (Or.inl ⟨by rfl, ?_⟩) hS1 ?_
              rotate_left
              · intro W _; go_simp; try with_reducible rfl
              try simp only [Act.put, List.getElem_toArray, List.getElem_cons_zero, List.getElem_cons_succ, List.setIfInBounds_toArray, List.set_cons_zero, List.set_cons_succ]
              refine wpAnyH_done (by kernel_rfl) ?_ _
              go_wp2_with fail
              exact bodyPost_ret (v := .tuple #[.agg #[.int .i64 0, .string ⟨#[]⟩, .int .i64 0, .int .i64 0, .int .i64 0, .slice none 0 0, .string ⟨#[]⟩, .int .i64 0, .int .i64 0, .int .i64 0, .string ⟨#[]⟩, .string ⟨#[]⟩, .int .i64 0, .int .i64 0, .int .i64 0, .int .i64 0, .slice none 0 0, .string ⟨#[]⟩, .string ⟨#[]⟩, .int .i64 0, .string ⟨#[]⟩], .int .i64 3]) (results_bk2 Try.results15 _ _ w.heap.size 32 #[.int .i64 0, .string ⟨#[]⟩, .int .i64 0, .int .i64 0, .int .i64 0, .slice none 0 0, .string ⟨#[]⟩, .int .i64 0, .int .i64 0, .int .i64 0, .string ⟨#[]⟩, .string ⟨#[]⟩, .int .i64 0, .int .i64 0, .int .i64 0, .int .i64 0, .slice none 0 0, .string ⟨#[]⟩, .string ⟨#[]⟩, .int .i64 0, .string ⟨#[]⟩] _ _ rfl rfl hBz Try.underlying32 rfl (by kernel_rfl)) rfl (GotO.of HE.out ⟨.slice none 0 0, .slice none 0 0, rfl, OwnL.nil _ _, OwnL.nil _ _, grown_below (Below.drew bL0) hgz (Nat.le_refl _)⟩)
          case neg =>
            have HE : Hid (D = (Ov.zero, er)) := by show _ = _; rw [HD.out, if_neg h0]; exact opFin_no h0
            have e1 : (er == 0) = false := by simpa using h0
            have e2 : (er != 0) = true := by simpa using h0
            clear h0 hat3
            go_wp2_with fail
            have cE0 := (Bk.cellAt T4.out.2.2.1 2)
            have bN0 := T4.out.2.1
            have bL0 := T4.out.1
            refine wp_region_held_drew (S := fun W => W.cell? ⟨w.heap.size + 1, 2, none⟩ = some (.int .i64 er)) (by kernel_rfl) cE0 (fun hS0 => ?_)
            refine wpAnyH_take (i := 0) (v := .agg #[.int .i64 0, .string ⟨#[]⟩, .int .i64 0, .int .i64 0, .int .i64 0, .slice none 0 0, .string ⟨#[]⟩, .int .i64 0, .int .i64 0, .int .i64 0, .string ⟨#[]⟩, .string ⟨#[]⟩, .int .i64 0, .int .i64 0, .int .i64 0, .int .i64 0, .slice none 0 0, .string ⟨#[]⟩, .string ⟨#[]⟩, .int .i64 0, .string ⟨#[]⟩]) rfl (by kernel_rfl) (by kernel_rfl) (by kernel_rfl) (fun _ _ _ h => h) (Or.inl ⟨by rfl, ?_⟩) hS0 ?_
            · intro W _; go_simp
            try simp only [Act.put, List.getElem_toArray, List.getElem_cons_zero, List.getElem_cons_succ, List.setIfInBounds_toArray, List.set_cons_zero, List.set_cons_succ]
            refine wpAnyH_take (i := 1) (v := ?_) rfl (by kernel_rfl) (by kernel_rfl) (by kernel_rfl) (fun _ _ _ h => h) (Or.inl ⟨by rfl, ?_⟩) hS0 ?_
            rotate_left
            · intro W _; go_simp; try with_reducible rfl
            try simp only [Act.put, List.getElem_toArray, List.getElem_cons_zero, List.getElem_cons_succ, List.setIfInBounds_toArray, List.set_cons_zero, List.set_cons_succ]
            refine wpAnyH_take (i := 2) (v := ?_) rfl (by kernel_rfl) (by kernel_rfl) (by kernel_rfl) (fun _ _ _ h => h) (Or.inl ⟨by rfl, ?_⟩) hS0 ?_
            rotate_left
            · intro W _; go_simp; try with_reducible rfl
            try simp only [Act.put, List.getElem_toArray, List.getElem_cons_zero, List.getElem_cons_succ, List.setIfInBounds_toArray, List.set_cons_zero, List.set_cons_succ]
            refine wpAnyH_take (i := 3) (v := ?_) rfl (by kernel_rfl) (by kernel_rfl) (by kernel_rfl) (fun _ _ _ h => h) (Or.inl ⟨by rfl, ?_⟩) hS0 ?_
            rotate_left
            · intro W _; go_simp; try with_reducible rfl
            try simp only [Act.put, List.getElem_toArray, List.getElem_cons_zero, List.getElem_cons_succ, List.setIfInBounds_toArray, List.set_cons_zero, List.set_cons_succ]
            refine wpAnyH_take (i := 4) (v := ?_) rfl (by kernel_rfl) (by kernel_rfl) (by kernel_rfl) (fun _ _ _ h => h) (Or.inl ⟨by rfl, ?_⟩) hS0 ?_
            rotate_left
            · intro W hSW; have hSW2 : W.cell? ⟨w.heap.size + 1, 2, none⟩ = some (.int .i64 er) := hSW; go_simp; try with_reducible rfl
            try simp only [Act.put, List.getElem_toArray, List.getElem_cons_zero, List.getElem_cons_succ, List.setIfInBounds_toArray, List.set_cons_zero, List.set_cons_succ]
            refine wpAnyH_ready (rs := [5]) (by kernel_rfl) (by simp) ?_
            refine AllReadyH.cons rfl (fun K hK => ?_) AllReadyH.nil
            rw [if_pos (by rfl)]
            refine store_bk_op 32 (.tmp 2) (.tmp 84) rfl w.heap.size 0 #[.int .i64 0, .string ⟨#[]⟩, .int .i64 0, .int .i64 0, .int .i64 0, .slice none 0 0, .string ⟨#[]⟩, .int .i64 0, .int .i64 0, .int .i64 0, .string ⟨#[]⟩, .string ⟨#[]⟩, .int .i64 0, .int .i64 0, .int .i64 0, .int .i64 0, .slice none 0 0, .string ⟨#[]⟩, .string ⟨#[]⟩, .int .i64 0, .string ⟨#[]⟩] rfl rfl 32 #[.int .i64 0, .string ⟨#[]⟩, .int .i64 0, .int .i64 0, .int .i64 0, .slice none 0 0, .string ⟨#[]⟩, .int .i64 0, .int .i64 0, .int .i64 0, .string ⟨#[]⟩, .string ⟨#[]⟩, .int .i64 0, .int .i64 0, .int .i64 0, .int .i64 0, .slice none 0 0, .string ⟨#[]⟩, .string ⟨#[]⟩, .int .i64 0, .string ⟨#[]⟩] #[.int .i64 0, .string ⟨#[]⟩, .int .i64 0, .int .i64 0, .int .i64 0, .slice none 0 0, .string ⟨#[]⟩, .int .i64 0, .int .i64 0, .int .i64 0, .string ⟨#[]⟩, .string ⟨#[]⟩, .int .i64 0, .int .i64 0, .int .i64 0, .int .i64 0, .slice none 0 0, .string ⟨#[]⟩, .string ⟨#[]⟩, .int .i64 0, .string ⟨#[]⟩] bN0.drewB (by kernel_rfl) (by simp) (by kernel_rfl) rfl ?_
            intro wz hBz hgz hsz
            refine hK.out _ _ (hgz.cell hS0 (by simp)) (fun hS1 => ?_)
            clear hK K
            try simp only [Act.put, List.getElem_toArray, List.getElem_cons_zero, List.getElem_cons_succ, List.setIfInBounds_toArray, List.set_cons_zero, List.set_cons_succ]
            refine wpAnyH_take (i := 6) (v := ?_) rfl (by kernel_rfl) (by kernel_rfl) (by kernel_rfl) (fun _ _ _ h => h) (Or.inl ⟨by rfl, ?_⟩) hS1 ?_
            rotate_left
            · intro W _; go_simp; try with_reducible rfl
            try simp only [Act.put, List.getElem_toArray, List.getElem_cons_zero, List.getElem_cons_succ, List.setIfInBounds_toArray, List.set_cons_zero, List.set_cons_succ]
            refine wpAnyH_done (by kernel_rfl) ?_ _
            go_wp2_with fail
            exact bodyPost_ret (v := .tuple #[.agg #[.int .i64 0, .string ⟨#[]⟩, .int .i64 0, .int .i64 0, .int .i64 0, .slice none 0 0, .string ⟨#[]⟩, .int .i64 0, .int .i64 0, .int .i64 0, .string ⟨#[]⟩, .string ⟨#[]⟩, .int .i64 0, .int .i64 0, .int .i64 0, .int .i64 0, .slice none 0 0, .string ⟨#[]⟩, .string ⟨#[]⟩, .int .i64 0, .string ⟨#[]⟩], .int .i64 er]) (results_bk2 Try.results15 _ _ w.heap.size 32 #[.int .i64 0, .string ⟨#[]⟩, .int .i64 0, .int .i64 0, .int .i64 0, .slice none 0 0, .string ⟨#[]⟩, .int .i64 0, .int .i64 0, .int .i64 0, .string ⟨#[]⟩, .string ⟨#[]⟩, .int .i64 0, .int .i64 0, .int .i64 0, .int .i64 0, .slice none 0 0, .string ⟨#[]⟩, .string ⟨#[]⟩, .int .i64 0, .string ⟨#[]⟩] _ _ rfl rfl hBz Try.underlying32 rfl (by kernel_rfl)) rfl (GotO.of HE.out ⟨.slice none 0 0, .slice none 0 0, rfl, OwnL.nil _ _, OwnL.nil _ _, grown_below (Below.drew bL0) hgz (Nat.le_refl _)⟩)
end Go.Proofs.Ytehkdaknhgmdkaa
