/- The scheduler in memory; the contracts of gen1.New, Scheduler.next and Scheduler.State. Condition: the state's lists are of at most 1000. -/
import Derived.Test.YtjgojgmgicpgaaaGreatTGcp
namespace Go.Proofs.YtjgojgmgicpgaaaGreat
open Go.RowKit
set_option linter.unusedSimpArgs false
set_option linter.unusedVariables false

/-- Lists of a size that is looked at. -/
structure Sm (S : Sg) : Prop where
  M : S.M.length ≤ 1000
  Q : S.Q.length ≤ 1000
  J : S.J.length ≤ 1000
  lM : ∀ x ∈ S.M, x.2.length ≤ 1000
  lJ : ∀ x ∈ S.J, x.2.length ≤ 1000
  nx : 1 ≤ S.nx ∧ S.nx ≤ 4611686018427387904
  ck : 0 ≤ S.ck ∧ S.ck ≤ 4611686018427387904
/-- A scheduler lies in block g. -/
structure Gs (w : World) (b g : Nat) (lst : Int) (vM vQ vJ : Value) (S : Sg) : Prop where
  bk : Bk w g 111 #[.int .i64 S.ck, .int .i64 lst, vM, vQ, vJ]
  nx : S.nx = lst + 1
  own : OwnS w b vM vQ vJ S
  le : b ≤ g
  ne : ∀ k, blkS vM vQ vJ S k → k ≠ g
section
variable {w w' : World} {b b' g : Nat} {lst : Int} {vM vQ vJ : Value} {S : Sg}
/-- The blocks of a scheduler. -/
def blkG (g : Nat) (vM vQ vJ : Value) (S : Sg) (k : Nat) : Prop := k = g ∨ blkS vM vQ vJ S k
theorem Gs.grp {p : Nat → Prop} (h : Gs w b g lst vM vQ vJ S) (hg : GrP p w w') (hp : ∀ k, blkG g vM vQ vJ S k → ¬ p k) : Gs w' b g lst vM vQ vJ S :=
  ⟨h.bk.grp hg (hp g (.inl rfl)), h.nx, h.own.grp hg fun k hk => hp k (.inr hk), h.le, h.ne⟩
theorem Gs.below (h : Gs w b g lst vM vQ vJ S) (hb : Below w.heap.size w w') : Gs w' b g lst vM vQ vJ S := h.grp (GrP.ofBelow (p := fun _ => False) hb) fun _ _ e => e
theorem Gs.base (h : Gs w b g lst vM vQ vJ S) (hb : b' ≤ b) : Gs w b' g lst vM vQ vJ S := ⟨h.bk, h.nx, h.own.base hb, Nat.le_trans hb h.le, h.ne⟩
theorem Gs.blk (h : Gs w b g lst vM vQ vJ S) {k : Nat} (hk : blkG g vM vQ vJ S k) : b ≤ k ∧ k < w.heap.size := by
  rcases hk with rfl | hk
  · exact ⟨h.le, h.bk.here⟩
  · exact h.own.blk hk
end
theorem blkS_new {k : Nat} : ¬ blkS (.slice none 0 0) (.slice none 0 0) (.slice none 0 0) Sg.new k := by
  rintro (e | e | e | ⟨x, hx, _⟩ | ⟨x, hx, _⟩)
  · cases e
  · cases e
  · cases e
  · cases hx
  · cases hx
theorem ownS_new (w : World) (b : Nat) : OwnS w b (.slice none 0 0) (.slice none 0 0) (.slice none 0 0) Sg.new :=
  ⟨OwnK.nil _ _ _ _, OwnK.nil _ _ _ _, OwnK.nil _ _ _ _, fun x hx => (by cases hx), fun x hx => (by cases hx), fun x hx => (by cases hx), fun x hx => (by cases hx), fun x hx => (by cases hx)⟩
theorem sm_new : Sm Sg.new := ⟨by decide, by decide, by decide, fun x hx => (by cases hx), fun x hx => (by cases hx), by decide, by decide⟩
/-- The zero scheduler in a new block. -/
theorem gs_new (w : World) (t : TypeId) (ht : t = 111) : Gs (w.alloc (.cells #[.int .i64 0, .int .i64 0, .slice none 0 0, .slice none 0 0, .slice none 0 0] t)) w.heap.size w.heap.size 0 (.slice none 0 0) (.slice none 0 0) (.slice none 0 0) Sg.new := by
  subst ht
  exact ⟨Bk.fresh _ _ _, rfl, ownS_new _ _, Nat.le_refl _, fun k hk => (blkS_new hk).elim⟩
set_option maxHeartbeats 1600000 in
theorem new_any (w : World) : Calls Tryz.prog 23 #[] w fun e w' => e = .returned (.pointer (some ⟨w.heap.size, 0, none⟩)) ∧ Gs w' w.heap.size w.heap.size 0 (.slice none 0 0) (.slice none 0 0) (.slice none 0 0) Sg.new ∧ Below w.heap.size w w' := by
  go_enter Tryz.func23, Tryz.ntmps23
  go_wp2
  go_ret
  exact ⟨rfl, gs_new w _ rfl, (Below.refl _ _).alloc (Nat.le_refl _) _⟩
set_option maxHeartbeats 1600000 in
theorem next_any (g : Nat) (ck lst nx : Int) (vM vQ vJ : Value) (w : World) (hB : Hid (Bk w g 111 #[.int .i64 ck, .int .i64 lst, vM, vQ, vJ])) (hn : nx = lst + 1) (h1 : 1 ≤ nx ∧ nx ≤ 4611686018427387904) :
    Calls Tryz.prog 65 #[.pointer (some ⟨g, 0, none⟩)] w fun e w' => e = .returned (.int .i64 nx) ∧ w = w' := by
  have c1 : w.cell? ⟨g, 1, none⟩ = some (.int .i64 lst) := hB.out.cellAt 1
  go_enter Tryz.func65, Tryz.ntmps65
  go_wp2
  go_ret
  exact ⟨by rw [hn]; rfl, rfl⟩

set_option maxHeartbeats 6400000 in
set_option maxRecDepth 100000 in
theorem state_any (b g : Nat) (lst : Int) (vM vQ vJ : Value) (S : Sg) (w : World) (hG : Hid (Gs w b g lst vM vQ vJ S)) (hM : Hid (Sm S)) :
    Calls Tryz.prog 25 #[.pointer (some ⟨g, 0, none⟩)] w fun e w' => (∃ vM vQ vJ S', e = .returned (.agg #[.int .i64 S.ck, .int .i64 S.nx, vM, vQ, vJ]) ∧ OwnS w' w.heap.size vM vQ vJ S' ∧ S'.bare = S.bare) ∧ Below w.heap.size w w' := by
  obtain ⟨⟨ck, nx, A, N, cA, B, K0, cB, C, n, cC⟩, hva, hvr⟩ := hG.out.own.rd
  have hv1 : .slice A N cA = vM := congrArg (fun a : Array Value => a.getD 2 undef) hva
  have hv2 : .slice B K0 cB = vQ := congrArg (fun a : Array Value => a.getD 3 undef) hva
  have hv3 : .slice C n cC = vJ := congrArg (fun a : Array Value => a.getD 4 undef) hva
  have e1 : ck = S.ck := hvr.ck
  have e2 : nx = S.nx := hvr.nx
  subst hv1 hv2 hv3 e1 e2
  clear hva hvr
  have hN : Hid (S.nx = lst + 1) := hG.out.nx
  have kc : ∀ (v : Sv) (W : World), v.arr = #[.int .i64 S.ck, .int .i64 S.nx, .slice A N cA, .slice B K0 cB, .slice C n cC] → RdSt W v S → Calls Tryz.prog 64 #[.agg #[.int .i64 S.ck, .int .i64 S.nx, .slice A N cA, .slice B K0 cB, .slice C n cC]] W fun e w' => (∃ vM vQ vJ S', e = .returned (.agg #[.int .i64 S.ck, .int .i64 S.nx, vM, vQ, vJ]) ∧ OwnS w' W.heap.size vM vQ vJ S' ∧ S'.bare = S.bare) ∧ Below W.heap.size W w' := fun v W hva hvr => by
    rw [← hva]
    exact copy_any v S _ hvr (by rw [hvr.N]; exact hM.out.M) (by rw [hvr.K]; exact hM.out.Q) (by rw [hvr.n]; exact hM.out.J) hM.out.lM hM.out.lJ
  have KC := Lib.hid kc; clear kc
  obtain ⟨W0, hW0⟩ : ∃ W0, W0 = w.alloc (.cells #[.int .i64 0, .int .i64 0, .slice none 0 0, .slice none 0 0, .slice none 0 0] 26) := ⟨_, rfl⟩
  have hG0 : Hid (Gs W0 b g lst (.slice A N cA) (.slice B K0 cB) (.slice C n cC) S) := by rw [hW0]; exact hG.out.below ((Below.refl _ _).alloc (Nat.le_refl _) _)
  have hR0 : Hid (Bk W0 w.heap.size 26 #[.int .i64 0, .int .i64 0, .slice none 0 0, .slice none 0 0, .slice none 0 0]) := by rw [hW0]; exact Bk.fresh _ _ _
  have hB0 : Below w.heap.size w W0 := by rw [hW0]; exact (Below.refl _ _).alloc (Nat.le_refl _) _
  go_enter Tryz.func25, Tryz.ntmps25
  go_wp2_with fail
  rw [← hW0]
  clear hW0
  · skip
    refine wp_region_E (S := fun W => Gs W b g lst (.slice A N cA) (.slice B K0 cB) (.slice C n cC) S ∧ Bk W w.heap.size 26 #[.int .i64 0, .int .i64 0, .slice none 0 0, .slice none 0 0, .slice none 0 0] ∧ Below w.heap.size w W) 20 (by kernel_rfl) ⟨hG0.out.below (Below.drew (Below.refl _ _)), hR0.out.drewB, Below.drew hB0⟩ (fun hS0 => ?_)
    refine wpAnyE_take (i := 0) (v := ?_) rfl (by kernel_rfl) (by kernel_rfl) (by kernel_rfl) (by kernel_rfl) (by kernel_rfl) (fun _ _ _ h => h) (Or.inl ⟨by rfl, ?_⟩) hS0 ?_
    rotate_left
    · intro W _; go_simp; try with_reducible rfl
    try simp only [Act.put, List.getElem_toArray, List.getElem_cons_zero, List.setIfInBounds_toArray, List.set_cons_zero, List.set_cons_succ]
    refine wpAnyE_take (i := 1) (v := ?_) rfl (by kernel_rfl) (by kernel_rfl) (by kernel_rfl) (by kernel_rfl) (by kernel_rfl) (fun _ _ _ h => h) (Or.inl ⟨by rfl, ?_⟩) hS0 ?_
    rotate_left
    · intro W _; go_simp; try with_reducible rfl
    try simp only [Act.put, List.getElem_toArray, List.getElem_cons_zero, List.getElem_cons_succ, List.setIfInBounds_toArray, List.set_cons_zero, List.set_cons_succ]
    refine wpAnyE_take (i := 2) (v := ?_) rfl (by kernel_rfl) (by kernel_rfl) (by kernel_rfl) (by kernel_rfl) (by kernel_rfl) (fun _ _ _ h => h) (Or.inl ⟨by rfl, ?_⟩) hS0 ?_
    rotate_left
    · intro W _; go_simp; try with_reducible rfl
    try simp only [Act.put, List.getElem_toArray, List.getElem_cons_zero, List.getElem_cons_succ, List.setIfInBounds_toArray, List.set_cons_zero, List.set_cons_succ]
    refine wpAnyE_take (i := 3) (v := ?_) rfl (by kernel_rfl) (by kernel_rfl) (by kernel_rfl) (by kernel_rfl) (by kernel_rfl) (fun _ _ _ h => h) (Or.inl ⟨by rfl, ?_⟩) hS0 ?_
    rotate_left
    · intro W hSW; have hx := hSW.1.bk.cellAt 0; go_simp; try with_reducible rfl
    try simp only [Act.put, List.getElem_toArray, List.getElem_cons_zero, List.getElem_cons_succ, List.setIfInBounds_toArray, List.set_cons_zero, List.set_cons_succ]
    refine wpAnyE_take (i := 4) (v := ?_) rfl (by kernel_rfl) (by kernel_rfl) (by kernel_rfl) (by kernel_rfl) (by kernel_rfl) (fun _ _ _ h => h) (Or.inl ⟨by rfl, ?_⟩) hS0 ?_
    rotate_left
    · intro W _; go_simp; try with_reducible rfl
    try simp only [Act.put, List.getElem_toArray, List.getElem_cons_zero, List.getElem_cons_succ, List.setIfInBounds_toArray, List.set_cons_zero, List.set_cons_succ]
    refine wpAnyE_take (i := 6) (v := ?_) rfl (by kernel_rfl) (by kernel_rfl) (by kernel_rfl) (by kernel_rfl) (by kernel_rfl) (fun _ _ _ h => h) (Or.inl ⟨by rfl, ?_⟩) hS0 ?_
    rotate_left
    · intro W _; go_simp; try with_reducible rfl
    try simp only [Act.put, List.getElem_toArray, List.getElem_cons_zero, List.getElem_cons_succ, List.setIfInBounds_toArray, List.set_cons_zero, List.set_cons_succ]
    refine wpAnyE_take (i := 7) (v := ?_) rfl (by kernel_rfl) (by kernel_rfl) (by kernel_rfl) (by kernel_rfl) (by kernel_rfl) (fun _ _ _ h => h) (Or.inl ⟨by rfl, ?_⟩) hS0 ?_
    rotate_left
    · intro W _; go_simp; try with_reducible rfl
    try simp only [Act.put, List.getElem_toArray, List.getElem_cons_zero, List.getElem_cons_succ, List.setIfInBounds_toArray, List.set_cons_zero, List.set_cons_succ]
    refine wpAnyE_take (i := 8) (v := ?_) rfl (by kernel_rfl) (by kernel_rfl) (by kernel_rfl) (by kernel_rfl) (by kernel_rfl) (fun _ _ _ h => h) (Or.inl ⟨by rfl, ?_⟩) hS0 ?_
    rotate_left
    · intro W _; go_simp; try with_reducible rfl
    try simp only [Act.put, List.getElem_toArray, List.getElem_cons_zero, List.getElem_cons_succ, List.setIfInBounds_toArray, List.set_cons_zero, List.set_cons_succ]
    refine wpAnyE_take (i := 9) (v := ?_) rfl (by kernel_rfl) (by kernel_rfl) (by kernel_rfl) (by kernel_rfl) (by kernel_rfl) (fun _ _ _ h => h) (Or.inl ⟨by rfl, ?_⟩) hS0 ?_
    rotate_left
    · intro W hSW; have hx := hSW.1.bk.cellAt 2; go_simp; try with_reducible rfl
    try simp only [Act.put, List.getElem_toArray, List.getElem_cons_zero, List.getElem_cons_succ, List.setIfInBounds_toArray, List.set_cons_zero, List.set_cons_succ]
    refine wpAnyE_take (i := 10) (v := ?_) rfl (by kernel_rfl) (by kernel_rfl) (by kernel_rfl) (by kernel_rfl) (by kernel_rfl) (fun _ _ _ h => h) (Or.inl ⟨by rfl, ?_⟩) hS0 ?_
    rotate_left
    · intro W _; go_simp; try with_reducible rfl
    try simp only [Act.put, List.getElem_toArray, List.getElem_cons_zero, List.getElem_cons_succ, List.setIfInBounds_toArray, List.set_cons_zero, List.set_cons_succ]
    refine wpAnyE_take (i := 11) (v := ?_) rfl (by kernel_rfl) (by kernel_rfl) (by kernel_rfl) (by kernel_rfl) (by kernel_rfl) (fun _ _ _ h => h) (Or.inl ⟨by rfl, ?_⟩) hS0 ?_
    rotate_left
    · intro W _; go_simp; try with_reducible rfl
    try simp only [Act.put, List.getElem_toArray, List.getElem_cons_zero, List.getElem_cons_succ, List.setIfInBounds_toArray, List.set_cons_zero, List.set_cons_succ]
    refine wpAnyE_take (i := 12) (v := ?_) rfl (by kernel_rfl) (by kernel_rfl) (by kernel_rfl) (by kernel_rfl) (by kernel_rfl) (fun _ _ _ h => h) (Or.inl ⟨by rfl, ?_⟩) hS0 ?_
    rotate_left
    · intro W _; go_simp; try with_reducible rfl
    try simp only [Act.put, List.getElem_toArray, List.getElem_cons_zero, List.getElem_cons_succ, List.setIfInBounds_toArray, List.set_cons_zero, List.set_cons_succ]
    refine wpAnyE_take (i := 13) (v := ?_) rfl (by kernel_rfl) (by kernel_rfl) (by kernel_rfl) (by kernel_rfl) (by kernel_rfl) (fun _ _ _ h => h) (Or.inl ⟨by rfl, ?_⟩) hS0 ?_
    rotate_left
    · intro W hSW; have hx := hSW.1.bk.cellAt 3; go_simp; try with_reducible rfl
    try simp only [Act.put, List.getElem_toArray, List.getElem_cons_zero, List.getElem_cons_succ, List.setIfInBounds_toArray, List.set_cons_zero, List.set_cons_succ]
    refine wpAnyE_take (i := 14) (v := ?_) rfl (by kernel_rfl) (by kernel_rfl) (by kernel_rfl) (by kernel_rfl) (by kernel_rfl) (fun _ _ _ h => h) (Or.inl ⟨by rfl, ?_⟩) hS0 ?_
    rotate_left
    · intro W _; go_simp; try with_reducible rfl
    try simp only [Act.put, List.getElem_toArray, List.getElem_cons_zero, List.getElem_cons_succ, List.setIfInBounds_toArray, List.set_cons_zero, List.set_cons_succ]
    refine wpAnyE_take (i := 15) (v := ?_) rfl (by kernel_rfl) (by kernel_rfl) (by kernel_rfl) (by kernel_rfl) (by kernel_rfl) (fun _ _ _ h => h) (Or.inl ⟨by rfl, ?_⟩) hS0 ?_
    rotate_left
    · intro W _; go_simp; try with_reducible rfl
    try simp only [Act.put, List.getElem_toArray, List.getElem_cons_zero, List.getElem_cons_succ, List.setIfInBounds_toArray, List.set_cons_zero, List.set_cons_succ]
    refine wpAnyE_take (i := 16) (v := ?_) rfl (by kernel_rfl) (by kernel_rfl) (by kernel_rfl) (by kernel_rfl) (by kernel_rfl) (fun _ _ _ h => h) (Or.inl ⟨by rfl, ?_⟩) hS0 ?_
    rotate_left
    · intro W _; go_simp; try with_reducible rfl
    try simp only [Act.put, List.getElem_toArray, List.getElem_cons_zero, List.getElem_cons_succ, List.setIfInBounds_toArray, List.set_cons_zero, List.set_cons_succ]
    refine wpAnyE_take (i := 17) (v := ?_) rfl (by kernel_rfl) (by kernel_rfl) (by kernel_rfl) (by kernel_rfl) (by kernel_rfl) (fun _ _ _ h => h) (Or.inl ⟨by rfl, ?_⟩) hS0 ?_
    rotate_left
    · intro W hSW; have hx := hSW.1.bk.cellAt 4; go_simp; try with_reducible rfl
    try simp only [Act.put, List.getElem_toArray, List.getElem_cons_zero, List.getElem_cons_succ, List.setIfInBounds_toArray, List.set_cons_zero, List.set_cons_succ]
    refine wpAnyE_ready (rs := [5]) (by kernel_rfl) (by simp) ?_
    refine AllReadyE.cons rfl (fun K hK => ?_) AllReadyE.nil
    go_simp
    refine (next_any g S.ck lst S.nx _ _ _ _ hS0.1.bk hN.out hM.out.nx).mono ?_
    rintro e w5 ⟨rfl, rfl⟩
    go_simp
    refine hK.out _ _ (hS0) (fun hS1 => ?_)
    clear hK K
    try simp only [Act.put, List.getElem_toArray, List.getElem_cons_zero, List.getElem_cons_succ, List.setIfInBounds_toArray, List.set_cons_zero, List.set_cons_succ]
    refine wpAnyE_take (i := 18) (v := ?_) rfl (by kernel_rfl) (by kernel_rfl) (by kernel_rfl) (by kernel_rfl) (by kernel_rfl) (fun _ _ _ h => h) (Or.inl ⟨by rfl, ?_⟩) hS1 ?_
    rotate_left
    · intro W _; go_simp; try with_reducible rfl
    try simp only [Act.put, List.getElem_toArray, List.getElem_cons_zero, List.getElem_cons_succ, List.setIfInBounds_toArray, List.set_cons_zero, List.set_cons_succ]
    refine wpAnyE_ready (rs := [19]) (by kernel_rfl) (by simp) ?_
    refine AllReadyE.cons rfl (fun K hK => ?_) AllReadyE.nil
    go_simp
    obtain ⟨v, hva, hvr⟩ := hS1.1.own.rd
    refine (KC.out v _ hva hvr).mono ?_
    rintro e w6 ⟨⟨uM, uQ, uJ, S', rfl, hO, hbare⟩, hb6⟩
    obtain ⟨⟨ck6, nx6, A6, N6, cA6, B6, K6, cB6, C6, n6, cC6⟩, hva6, _⟩ := hO.rd
    have hv1 : .slice A6 N6 cA6 = uM := congrArg (fun a : Array Value => a.getD 2 undef) hva6
    have hv2 : .slice B6 K6 cB6 = uQ := congrArg (fun a : Array Value => a.getD 3 undef) hva6
    have hv3 : .slice C6 n6 cC6 = uJ := congrArg (fun a : Array Value => a.getD 4 undef) hva6
    subst hv1 hv2 hv3
    clear hva6
    have hlt6 := hS1.2.1.here
    have HO6 : Hid (OwnS w6 (w.heap.size + 1) _ _ _ S') := hO.base hlt6
    clear hO hlt6
    go_simp
    refine hK.out _ _ (⟨hS1.1.below hb6, hS1.2.1.later hb6, hS1.2.2.trans (hb6.mono hS1.2.2.size)⟩) (fun hS2 => ?_)
    clear hK K
    try simp only [Act.put, List.getElem_toArray, List.getElem_cons_zero, List.getElem_cons_succ, List.setIfInBounds_toArray, List.set_cons_zero, List.set_cons_succ]
    refine wpAnyE_ready (rs := [20]) (by kernel_rfl) (by simp) ?_
    refine AllReadyE.last rfl (by kernel_rfl) (fun K hK => ?_) AllReadyE.nil
    rw [if_pos (by rfl)]
    refine store_bk_op 26 (.tmp 2) (.tmp 26) rfl w.heap.size 0 #[.int .i64 S.ck, .int .i64 S.nx, .slice A6 N6 cA6, .slice B6 K6 cB6, .slice C6 n6 cC6] rfl rfl 26 _ #[.int .i64 S.ck, .int .i64 S.nx, .slice A6 N6 cA6, .slice B6 K6 cB6, .slice C6 n6 cC6] hS2.2.1 (by kernel_rfl) (by simp) (by kernel_rfl) rfl ?_
    intro w7 hB7 hg7 hs7
    refine hK.out _ _ ?_
    clear hK K
    try simp only [Act.put, List.getElem_toArray, List.getElem_cons_zero, List.getElem_cons_succ, List.setIfInBounds_toArray, List.set_cons_zero, List.set_cons_succ]
    refine wpAny_of_held (S := fun _ => True) _ _ _ _ ?_
    refine wpAnyH_done (by kernel_rfl) ?_ _

    go_wp2_with fail
    have hO7 : OwnS w7 w.heap.size _ _ _ S' := (HO6.out.grp (GrP.of hg7) fun k hk e => by have := (HO6.out.blk hk).1; injection e with e; omega).base (by omega)
    exact bodyPost_ret (v := .agg #[.int .i64 S.ck, .int .i64 S.nx, .slice A6 N6 cA6, .slice B6 K6 cB6, .slice C6 n6 cC6]) (results_bk1 Tryz.results25 _ _ w.heap.size 26 _ _ rfl hB7 Tryz.underlying26 rfl (by kernel_rfl)) rfl ⟨⟨_, _, _, S', rfl, hO7, hbare⟩, hS2.2.2.grown hg7 (by have := hS2.2.2.size; omega) (fun q e => by injection e with e; omega)⟩
end Go.Proofs.YtjgojgmgicpgaaaGreat
