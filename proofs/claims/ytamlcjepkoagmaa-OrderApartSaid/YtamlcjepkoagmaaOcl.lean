/- The contracts of order.compare, order.Ahead, quota.Waits and of the comparison that order.waiting hands to the sort. Condition (of the last): both places are ones of the jobs. -/
import Derived.Test.YtamlcjepkoagmaaCmq
import Derived.Test.YtamlcjepkoagmaaOpl
import Derived.Test.YtamlcjepkoagmaaMod
import Derived.Deep.RegionHeld3
namespace Go.Proofs.Ytamlcjepkoagmaa
open Go.RowKit Go.Sort
set_option linter.unusedSimpArgs false
set_option linter.unusedVariables false

theorem Gw.below {w w1 : World} (h : Gw w w1) : Below w.heap.size w w1 := by
  obtain ⟨q, os, rfl⟩ := h
  refine ⟨rfl, rfl, rfl, by simp, fun k hk => ?_⟩
  rw [heap_grow_old _ _ (by exact hk)]; rfl
/-- The comparison of two jobs. -/
def cfo (x y : Jb) : Int := or2 (cI y.pr x.pr) (cI x.sq y.sq)
theorem cfo_try (x y : Jb) : decide (cfo x y < 0) = tryB x y := by
  rw [Bool.eq_iff_iff, decide_eq_true_eq, tryB_iff]
  unfold cfo or2
  by_cases h : x.pr = y.pr
  · rw [if_pos (cI_zero.2 h.symm), cI_neg]; omega
  · rw [if_neg (fun e => h (cI_zero.1 e).symm), cI_neg]; omega

set_option maxHeartbeats 3200000 in
set_option maxRecDepth 100000 in
theorem compare14_any (x y : Jb) (w : World) :
    Calls Try.prog 19 #[.agg x.arr, .agg y.arr] w fun e w' => e = .returned (.int .i64 (cfo x y)) ∧ Gw w w' := by
  have k1 := fun W => compareI_any y.pr x.pr W
  have k2 := fun W => compareI_any x.sq y.sq W
  have k3 := fun (x y : Int) (g : Nat) W => or2_any x y g W
  obtain ⟨r, hr⟩ : ∃ r, r = cfo x y := ⟨_, rfl⟩
  rw [← hr]
  unfold cfo at hr
  generalize cI y.pr x.pr = p at k1 hr
  generalize cI x.sq y.sq = q at k2 hr
  have K1 := Lib.hid k1; have K2 := Lib.hid k2; have K3 := Lib.hid k3; have HR := Lib.hid hr; clear k1 k2 k3 hr
  go_enter Try.func19, Try.ntmps19
  go_wp2_with fail
  have hg0 : Gw w ((w.alloc (.cells x.arr 29)).alloc (.cells y.arr 29)) := ((Gw.refl w).alloc _).alloc _
  have hA0 := (Bk.fresh w 29 x.arr).later (w' := (w.alloc (.cells x.arr 29)).alloc (.cells y.arr 29)) ((Below.refl _ _).alloc (Nat.le_refl _) _)
  have hC0 : Bk ((w.alloc (.cells x.arr 29)).alloc (.cells y.arr 29)) (w.heap.size + 1) 29 y.arr := Bk.freshAt _ _ _ (by simp)
  generalize hw1 : (w.alloc (.cells x.arr 29)).alloc (.cells y.arr 29) = w1 at hg0 hA0 hC0 ⊢
  clear hw1
  have la : w.heap.size < w1.heap.size := hA0.here
  have lc : w.heap.size + 1 < w1.heap.size := hC0.here
  have a0 : w1.cell? ⟨w.heap.size, 2, none⟩ = some (.int .i64 x.pr) := hA0.cellAt 2
  have a1 : w1.cell? ⟨w.heap.size, 10, none⟩ = some (.int .i64 x.sq) := hA0.cellAt 10
  have c0 : w1.cell? ⟨w.heap.size + 1, 2, none⟩ = some (.int .i64 y.pr) := hC0.cellAt 2
  have c1 : w1.cell? ⟨w.heap.size + 1, 10, none⟩ = some (.int .i64 y.sq) := hC0.cellAt 10
  have A0 := Lib.hid a0; have A1 := Lib.hid a1; have C0 := Lib.hid c0; have C1 := Lib.hid c1; have LA := Lib.hid la; have LC := Lib.hid lc; have HG0 := Lib.hid hg0
  clear hA0 hC0 a0 a1 c0 c1 la lc hg0
  refine wp_region_held_drew (S := fun W => Gw w1 W) (by kernel_rfl) ((Gw.refl _).drew) (fun hS0 => ?_)
  refine wpAnyH_take (i := 0) (v := ?_) rfl (by kernel_rfl) (by kernel_rfl) (by kernel_rfl) (fun _ _ _ h => h) (Or.inl ⟨by rfl, ?_⟩) hS0 ?_
  rotate_left
  · intro W _; go_simp; try with_reducible rfl
  try simp only [Act.put, List.getElem_toArray, List.getElem_cons_zero, List.getElem_cons_succ, List.setIfInBounds_toArray, List.set_cons_zero, List.set_cons_succ]
  refine wpAnyH_take (i := 1) (v := ?_) rfl (by kernel_rfl) (by kernel_rfl) (by kernel_rfl) (fun _ _ _ h => h) (Or.inl ⟨by rfl, ?_⟩) hS0 ?_
  rotate_left
  · intro W _; go_simp; try with_reducible rfl
  try simp only [Act.put, List.getElem_toArray, List.getElem_cons_zero, List.getElem_cons_succ, List.setIfInBounds_toArray, List.set_cons_zero, List.set_cons_succ]
  refine wpAnyH_take (i := 2) (v := ?_) rfl (by kernel_rfl) (by kernel_rfl) (by kernel_rfl) (fun _ _ _ h => h) (Or.inl ⟨by rfl, ?_⟩) hS0 ?_
  rotate_left
  · intro W hSW; have hx := (hSW.cell LC.out).trans C0.out; go_simp; try with_reducible rfl
  try simp only [Act.put, List.getElem_toArray, List.getElem_cons_zero, List.getElem_cons_succ, List.setIfInBounds_toArray, List.set_cons_zero, List.set_cons_succ]
  refine wpAnyH_take (i := 3) (v := ?_) rfl (by kernel_rfl) (by kernel_rfl) (by kernel_rfl) (fun _ _ _ h => h) (Or.inl ⟨by rfl, ?_⟩) hS0 ?_
  rotate_left
  · intro W _; go_simp; try with_reducible rfl
  try simp only [Act.put, List.getElem_toArray, List.getElem_cons_zero, List.getElem_cons_succ, List.setIfInBounds_toArray, List.set_cons_zero, List.set_cons_succ]
  refine wpAnyH_take (i := 4) (v := ?_) rfl (by kernel_rfl) (by kernel_rfl) (by kernel_rfl) (fun _ _ _ h => h) (Or.inl ⟨by rfl, ?_⟩) hS0 ?_
  rotate_left
  · intro W _; go_simp; try with_reducible rfl
  try simp only [Act.put, List.getElem_toArray, List.getElem_cons_zero, List.getElem_cons_succ, List.setIfInBounds_toArray, List.set_cons_zero, List.set_cons_succ]
  refine wpAnyH_take (i := 5) (v := ?_) rfl (by kernel_rfl) (by kernel_rfl) (by kernel_rfl) (fun _ _ _ h => h) (Or.inl ⟨by rfl, ?_⟩) hS0 ?_
  rotate_left
  · intro W hSW; have hx := (hSW.cell LA.out).trans A0.out; go_simp; try with_reducible rfl
  try simp only [Act.put, List.getElem_toArray, List.getElem_cons_zero, List.getElem_cons_succ, List.setIfInBounds_toArray, List.set_cons_zero, List.set_cons_succ]
  refine wpAnyH_take (i := 7) (v := ?_) rfl (by kernel_rfl) (by kernel_rfl) (by kernel_rfl) (fun _ _ _ h => h) (Or.inl ⟨by rfl, ?_⟩) hS0 ?_
  rotate_left
  · intro W _; go_simp; try with_reducible rfl
  try simp only [Act.put, List.getElem_toArray, List.getElem_cons_zero, List.getElem_cons_succ, List.setIfInBounds_toArray, List.set_cons_zero, List.set_cons_succ]
  refine wpAnyH_take (i := 8) (v := ?_) rfl (by kernel_rfl) (by kernel_rfl) (by kernel_rfl) (fun _ _ _ h => h) (Or.inl ⟨by rfl, ?_⟩) hS0 ?_
  rotate_left
  · intro W hSW; have hx := (hSW.cell LA.out).trans A1.out; go_simp; try with_reducible rfl
  try simp only [Act.put, List.getElem_toArray, List.getElem_cons_zero, List.getElem_cons_succ, List.setIfInBounds_toArray, List.set_cons_zero, List.set_cons_succ]
  refine wpAnyH_take (i := 9) (v := ?_) rfl (by kernel_rfl) (by kernel_rfl) (by kernel_rfl) (fun _ _ _ h => h) (Or.inl ⟨by rfl, ?_⟩) hS0 ?_
  rotate_left
  · intro W _; go_simp; try with_reducible rfl
  try simp only [Act.put, List.getElem_toArray, List.getElem_cons_zero, List.getElem_cons_succ, List.setIfInBounds_toArray, List.set_cons_zero, List.set_cons_succ]
  refine wpAnyH_take (i := 10) (v := ?_) rfl (by kernel_rfl) (by kernel_rfl) (by kernel_rfl) (fun _ _ _ h => h) (Or.inl ⟨by rfl, ?_⟩) hS0 ?_
  rotate_left
  · intro W hSW; have hx := (hSW.cell LC.out).trans C1.out; go_simp; try with_reducible rfl
  try simp only [Act.put, List.getElem_toArray, List.getElem_cons_zero, List.getElem_cons_succ, List.setIfInBounds_toArray, List.set_cons_zero, List.set_cons_succ]
  refine wpAnyH_ready (rs := [6]) (by kernel_rfl) (by simp) ?_
  refine AllReadyH.cons rfl (fun K hK => ?_) AllReadyH.nil
  go_simp
  refine (K1.out _).mono ?_
  rintro v v1 ⟨rfl, rfl⟩
  go_simp
  refine hK.out _ _ hS0 (fun hS1 => ?_)
  clear hK K
  try simp only [Act.put, List.getElem_toArray, List.getElem_cons_zero, List.getElem_cons_succ, List.setIfInBounds_toArray, List.set_cons_zero, List.set_cons_succ]
  refine wpAnyH_ready (rs := [11]) (by kernel_rfl) (by simp) ?_
  refine AllReadyH.cons rfl (fun K hK => ?_) AllReadyH.nil
  go_simp
  refine (K2.out _).mono ?_
  rintro v v2 ⟨rfl, rfl⟩
  go_simp
  refine hK.out _ _ hS1 (fun hS2 => ?_)
  clear hK K
  try simp only [Act.put, List.getElem_toArray, List.getElem_cons_zero, List.getElem_cons_succ, List.setIfInBounds_toArray, List.set_cons_zero, List.set_cons_succ]
  refine wpAnyH_ready (rs := [12]) (by kernel_rfl) (by simp) ?_
  refine AllReadyH.cons rfl (fun K hK => ?_) AllReadyH.nil
  simp only [if_pos, Region.wanted]
  refine itwo_op 11 16 p q rfl rfl rfl ?_
  intro g v3 hg hv3
  subst hg hv3
  refine hK.out _ _ (hS2.alloc _) (fun hS3 => ?_)
  clear hK K
  try simp only [Act.put, List.getElem_toArray, List.getElem_cons_zero, List.getElem_cons_succ, List.setIfInBounds_toArray, List.set_cons_zero, List.set_cons_succ]
  refine wpAnyH_ready (rs := [13]) (by kernel_rfl) (by simp) ?_
  refine AllReadyH.cons rfl (fun K hK => ?_) AllReadyH.nil
  go_simp
  refine (K3.out p q _ _ (by simp) (by simp) (by simp)).mono ?_
  rintro v v4 ⟨rfl, rfl⟩
  go_simp
  refine hK.out _ _ hS3 (fun hS4 => ?_)
  clear hK K
  try simp only [Act.put, List.getElem_toArray, List.getElem_cons_zero, List.getElem_cons_succ, List.setIfInBounds_toArray, List.set_cons_zero, List.set_cons_succ]
  refine wpAnyH_take (i := 14) (v := ?_) rfl (by kernel_rfl) (by kernel_rfl) (by kernel_rfl) (fun _ _ _ h => h) (Or.inl ⟨by rfl, ?_⟩) hS4 ?_
  rotate_left
  · intro W _; go_simp; try with_reducible rfl
  try simp only [Act.put, List.getElem_toArray, List.getElem_cons_zero, List.getElem_cons_succ, List.setIfInBounds_toArray, List.set_cons_zero, List.set_cons_succ]
  refine wpAnyH_done (by kernel_rfl) ?_ _
  go_wp2_with fail
  go_ret
  exact ⟨HR.out.symm ▸ rfl, HG0.out.trans hS4⟩
set_option maxHeartbeats 1600000 in
theorem ahead_any (a b : Jb) (w : World) : Calls Try.prog 13 #[.agg a.arr, .agg b.arr] w fun e w' => e = .returned (.bool (tryB a b)) ∧ Below w.heap.size w w' := by
  obtain ⟨r, hr⟩ : ∃ r, r = cfo a b := ⟨_, rfl⟩
  have k1 := fun (W : World) => compare14_any a b W
  have ht := cfo_try a b
  rw [← hr] at k1 ht
  have K1 := Lib.hid k1; have HT := Lib.hid ht; clear k1 ht hr
  go_enter Try.func13, Try.ntmps13
  have HA := Lib.hid (show Bk ((w.alloc (.cells a.arr 29)).alloc (.cells b.arr 29)) w.heap.size 29 a.arr from (Bk.fresh w _ _).later ((Below.refl _ _).alloc (Nat.le_refl _) _))
  have HB := Lib.hid (show Bk ((w.alloc (.cells a.arr 29)).alloc (.cells b.arr 29)) (w.heap.size + 1) 29 b.arr from Bk.freshAt _ _ _ (by simp))
  have hB0 : Below w.heap.size w ((w.alloc (.cells a.arr 29)).alloc (.cells b.arr 29)) := ((Below.refl _ _).alloc (Nat.le_refl _) _).alloc (by simp) _
  go_wp2_with (first | (with_reducible refine load_bk rfl 29 _ rfl w.heap.size 0 rfl 29 a.arr a.arr _ HA.out (Part.whole _) Try.underlying29 rfl (by kernel_rfl) ?_) | (with_reducible refine load_bk rfl 29 _ rfl (w.heap.size + 1) 0 rfl 29 b.arr b.arr _ HB.out (Part.whole _) Try.underlying29 rfl (by kernel_rfl) ?_))
  refine (K1.out _).mono ?_; rintro e w1 ⟨rfl, hb⟩
  go_wp2_with fail
  go_ret
  exact ⟨by rw [← HT.out]; rfl, hB0.trans (hb.below.mono hB0.size)⟩
set_option maxHeartbeats 1600000 in
theorem waits_any (j : Jb) (w : World) : Calls Try.prog 20 #[.agg j.arr] w fun e w' => e = .returned (.bool (decide (j.nd.size = 0))) ∧ Below w.heap.size w w' := by
  obtain ⟨nm, qu, pr, a, b, c, A, n, cp, ap, ga, sz, sq, nd, bo⟩ := j
  by_cases h : nd.size = 0
  · obtain rfl := empty_of h
    go_enter Try.func20, Try.ntmps20
    go_wp2
    go_ret
    exact ⟨rfl, (by (repeat' (first | (with_reducible exact Below.refl _ _) | (with_reducible refine bdrewN ?_ _) | (with_reducible refine Below.drew ?_) | (with_reducible refine Below.setCell ?_ ?_ _) | (with_reducible refine Below.alloc ?_ ?_ _) | (with_reducible exact Nat.le_refl _) | (with_reducible assumption) | omega | (simp only [World.size_alloc, World.size_setCell, World.size_drew, sz_drewN]; omega))))⟩
  · have h1 := full_of h
    have hres : decide (nd.size = 0) = false := decide_eq_false h
    show Calls _ _ _ _ fun e w' => e = .returned (.bool (decide (nd.size = 0))) ∧ _
    rw [hres]
    clear hres h
    obtain ⟨h1, h2⟩ := h1
    go_enter Try.func20, Try.ntmps20
    go_wp2
    go_ret
    exact ⟨rfl, (by (repeat' (first | (with_reducible exact Below.refl _ _) | (with_reducible refine bdrewN ?_ _) | (with_reducible refine Below.drew ?_) | (with_reducible refine Below.setCell ?_ ?_ _) | (with_reducible refine Below.alloc ?_ ?_ _) | (with_reducible exact Nat.le_refl _) | (with_reducible assumption) | omega | (simp only [World.size_alloc, World.size_setCell, World.size_drew, sz_drewN]; omega))))⟩

set_option maxHeartbeats 3200000 in
set_option maxRecDepth 100000 in
theorem closure14_any (A : Option Addr) (n cap g9 : Nat) (l : List Jb) (x y : Nat) (W : World) (hn : Hid (n = l.length)) (hx : x < n) (hy : y < n) (hl : n ≤ 1000000) (hA : Hid (RdJ W A l)) (hg9 : Hid (W.cell? ⟨g9, 0, none⟩ = some (.slice A n cap))) :
    Calls Try.prog 22 #[.int .i64 x, .int .i64 y, .pointer (some ⟨g9, 0, none⟩)] W fun e w' => e = .returned (.int .i64 (cfo (jat l x) (jat l y))) ∧ Gw W w' := by
  have hxl : x < l.length := by have := hn.out; omega
  have hyl : y < l.length := by have := hn.out; omega
  obtain ⟨g, o, hAg, hg, hj1⟩ := hA.out.at hxl
  subst hAg
  obtain ⟨g', o', hAg, hg', hj2⟩ := hA.out.at hyl
  injection hAg with hAg; injection hAg with e1 e2; subst e1 e2
  obtain ⟨j1, hj1k⟩ : ∃ j, j = l[x] := ⟨_, rfl⟩
  obtain ⟨j2, hj2k⟩ : ∃ j, j = l[y] := ⟨_, rfl⟩
  rw [← hj1k] at hj1; rw [← hj2k] at hj2
  obtain ⟨r, hr⟩ : ∃ r, r = cfo (jat l x) (jat l y) := ⟨_, rfl⟩
  rw [← hr]
  rw [jat_at hxl, jat_at hyl, ← hj1k, ← hj2k] at hr
  have k1 := fun (W : World) => compare14_any j1 j2 W
  rw [← hr] at k1
  have l9 : g9 < W.heap.size := World.block_lt_of_cell? W _ hg9.out
  have K1 := Lib.hid k1; have HJ1 := Lib.hid hj1; have HJ2 := Lib.hid hj2; have L9 := Lib.hid l9
  clear k1 hr hj1 hj2 hj1k hj2k l9
  go_enter Try.func22, Try.ntmps22
  go_wp2_with fail
  refine wp_region_held_drew (S := fun X => Gw W X) (by kernel_rfl) ((Gw.refl _).drew) (fun hS0 => ?_)
  refine wpAnyH_take (i := 0) (v := ?_) rfl (by kernel_rfl) (by kernel_rfl) (by kernel_rfl) (fun _ _ _ h => h) (Or.inl ⟨by rfl, ?_⟩) hS0 ?_
  rotate_left
  · intro W hSW; have hx := (hSW.cell L9.out).trans hg9.out; go_simp; try with_reducible rfl
  try simp only [Act.put, List.getElem_toArray, List.getElem_cons_zero, List.getElem_cons_succ, List.setIfInBounds_toArray, List.set_cons_zero, List.set_cons_succ]
  refine wpAnyH_take (i := 1) (v := ?_) rfl (by kernel_rfl) (by kernel_rfl) (by kernel_rfl) (fun _ _ _ h => h) (Or.inl ⟨by rfl, ?_⟩) hS0 ?_
  rotate_left
  · intro W _; go_simp; try with_reducible rfl
  try simp only [Act.put, List.getElem_toArray, List.getElem_cons_zero, List.getElem_cons_succ, List.setIfInBounds_toArray, List.set_cons_zero, List.set_cons_succ]
  refine wpAnyH_take (i := 2) (v := ?_) rfl (by kernel_rfl) (by kernel_rfl) (by kernel_rfl) (fun _ _ _ h => h) (Or.inl ⟨by rfl, ?_⟩) hS0 ?_
  rotate_left
  · intro W _; go_simp; try with_reducible rfl
  try simp only [Act.put, List.getElem_toArray, List.getElem_cons_zero, List.getElem_cons_succ, List.setIfInBounds_toArray, List.set_cons_zero, List.set_cons_succ]
  refine wpAnyH_take (i := 3) (v := .agg j1.arr) rfl (by kernel_rfl) (by kernel_rfl) (by kernel_rfl) (fun _ _ _ h => h) (yields_rg rfl 29 _ rfl g (o + x * 13) rfl j1.arr _ (fun X hX => (HJ1.out.later hX.below).rg) Try.underlying29 rfl (by kernel_rfl)) hS0 ?_
  try simp only [Act.put, List.getElem_toArray, List.getElem_cons_zero, List.getElem_cons_succ, List.setIfInBounds_toArray, List.set_cons_zero, List.set_cons_succ]
  refine wpAnyH_take (i := 4) (v := ?_) rfl (by kernel_rfl) (by kernel_rfl) (by kernel_rfl) (fun _ _ _ h => h) (Or.inl ⟨by rfl, ?_⟩) hS0 ?_
  rotate_left
  · intro W hSW; have hx := (hSW.cell L9.out).trans hg9.out; go_simp; try with_reducible rfl
  try simp only [Act.put, List.getElem_toArray, List.getElem_cons_zero, List.getElem_cons_succ, List.setIfInBounds_toArray, List.set_cons_zero, List.set_cons_succ]
  refine wpAnyH_take (i := 5) (v := ?_) rfl (by kernel_rfl) (by kernel_rfl) (by kernel_rfl) (fun _ _ _ h => h) (Or.inl ⟨by rfl, ?_⟩) hS0 ?_
  rotate_left
  · intro W _; go_simp; try with_reducible rfl
  try simp only [Act.put, List.getElem_toArray, List.getElem_cons_zero, List.getElem_cons_succ, List.setIfInBounds_toArray, List.set_cons_zero, List.set_cons_succ]
  refine wpAnyH_take (i := 6) (v := ?_) rfl (by kernel_rfl) (by kernel_rfl) (by kernel_rfl) (fun _ _ _ h => h) (Or.inl ⟨by rfl, ?_⟩) hS0 ?_
  rotate_left
  · intro W _; go_simp; try with_reducible rfl
  try simp only [Act.put, List.getElem_toArray, List.getElem_cons_zero, List.getElem_cons_succ, List.setIfInBounds_toArray, List.set_cons_zero, List.set_cons_succ]
  refine wpAnyH_take (i := 7) (v := .agg j2.arr) rfl (by kernel_rfl) (by kernel_rfl) (by kernel_rfl) (fun _ _ _ h => h) (yields_rg rfl 29 _ rfl g (o + y * 13) rfl j2.arr _ (fun X hX => (HJ2.out.later hX.below).rg) Try.underlying29 rfl (by kernel_rfl)) hS0 ?_
  try simp only [Act.put, List.getElem_toArray, List.getElem_cons_zero, List.getElem_cons_succ, List.setIfInBounds_toArray, List.set_cons_zero, List.set_cons_succ]
  refine wpAnyH_ready (rs := [8]) (by kernel_rfl) (by simp) ?_
  refine AllReadyH.cons rfl (fun K hK => ?_) AllReadyH.nil
  go_simp
  refine (K1.out _).mono ?_
  rintro v v1 ⟨rfl, hb1⟩
  go_simp
  refine hK.out _ _ (hS0.trans hb1) (fun hS1 => ?_)
  clear hK K
  try simp only [Act.put, List.getElem_toArray, List.getElem_cons_zero, List.getElem_cons_succ, List.setIfInBounds_toArray, List.set_cons_zero, List.set_cons_succ]
  refine wpAnyH_take (i := 9) (v := ?_) rfl (by kernel_rfl) (by kernel_rfl) (by kernel_rfl) (fun _ _ _ h => h) (Or.inl ⟨by rfl, ?_⟩) hS1 ?_
  rotate_left
  · intro W _; go_simp; try with_reducible rfl
  try simp only [Act.put, List.getElem_toArray, List.getElem_cons_zero, List.getElem_cons_succ, List.setIfInBounds_toArray, List.set_cons_zero, List.set_cons_succ]
  refine wpAnyH_done (by kernel_rfl) ?_ _
  go_wp2_with fail
  go_ret
  exact ⟨rfl, hS1⟩
end Go.Proofs.Ytamlcjepkoagmaa
