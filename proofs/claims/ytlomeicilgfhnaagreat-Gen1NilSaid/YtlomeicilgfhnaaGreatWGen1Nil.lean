/- The walk of Gen1Nil. No condition beyond the form's own. -/
import Derived.Test.YtlomeicilgfhnaaGreatGnn
import Derived.Test.YtlomeicilgfhnaaGreatGsm
import Derived.Test.YtlomeicilgfhnaaGreatOac
namespace Go.Proofs.YtlomeicilgfhnaaGreat
open Go.RowKit
set_option linter.unusedSimpArgs false
set_option linter.unusedVariables false

theorem state2_any (b g : Nat) (lst : Int) (vM vQ vJ : Value) (S : Sg) (w : World) (hG : Gs w b g lst vM vQ vJ S) (hM : Sm S) : Calls Tryz.prog 20 #[.pointer (some ⟨g, 0, none⟩)] w fun e w' => (∃ (v : Sv) (S' : Sg), e = .returned (.agg v.arr) ∧ RdS w' v S' ∧ S'.bare = S.bare) ∧ Below w.heap.size w w' := by
  refine (state_any b g lst vM vQ vJ S w hG hM).mono ?_
  rintro e w' ⟨⟨uM, uQ, uJ, S', rfl, hO, hbr⟩, hb⟩
  obtain ⟨⟨ck, nx, A, N, cA, B, K, cB, C, n, cC⟩, hva, hvr⟩ := hO.rd
  have hv1 : .slice A N cA = uM := congrArg (fun a : Array Value => a.getD 2 undef) hva
  have hv2 : .slice B K cB = uQ := congrArg (fun a : Array Value => a.getD 3 undef) hva
  have hv3 : .slice C n cC = uJ := congrArg (fun a : Array Value => a.getD 4 undef) hva
  subst hv1 hv2 hv3
  have hck : S.ck = S'.ck := (congrArg Sg.ck hbr : S'.bare.ck = S.bare.ck).symm
  have hnx : S.nx = S'.nx := (congrArg Sg.nx hbr : S'.bare.nx = S.bare.nx).symm
  exact ⟨⟨⟨S.ck, S.nx, A, N, cA, B, K, cB, C, n, cC⟩, S', rfl, hO.rdOf hck hnx, hbr⟩, hb⟩
theorem blkG_new {g k : Nat} (h : blkG g (.slice none 0 0) (.slice none 0 0) (.slice none 0 0) Sg.new k) : k = g := h.elim id fun h => (blkS_new h).elim
theorem sameAns_nil (e : Int) : sameAns e [] e [] = true := by unfold sameAns; simp [sameA]
namespace gen1Nil
set_option maxHeartbeats 51200000 in
set_option maxRecDepth 100000 in
theorem walk0 (x : Oz) (w : World) (hx : OzOk w x) :
    Calls Tryz.prog 9 #[.agg x.arr] w fun r w' => r = .returned (.bool true) ∧ Below w.heap.size w w' := by
  have K1 := Lib.hid (fun W => awake15_any W)
  have K2 := Lib.hid (fun W (h : OzOk W x) => small15_any x W h)
  have K3 := Lib.hid (fun W => new2_any W)
  have K4 := Lib.hid (fun W => do_nil x W)
  have K5 := Lib.hid (fun W => state_nil W)
  have K6 := Lib.hid (fun W => rnew_any W)
  have K7 := Lib.hid (fun (v u : Sv) (S T : Sg) (W : World) (h1 : RdS W v S) (h2 : RdS W u T) (h3 : S.bare = T.bare) => same15_yes v u S T W h1 h2 h3)
  have HX := Lib.hid (fun W (h : Below w.heap.size w W) => hx.later h)
  have HM1 : Hid (x.m1 = x.v.l1.length) := hx.l1.len
  clear hx
  have HO0 : Hid (Bk (w.alloc (.cells x.arr 49)) w.heap.size 49 x.arr) := Bk.fresh _ _ _
  have hb0 : Below w.heap.size w (w.alloc (.cells x.arr 49)) := (Below.refl _ _).alloc (Nat.le_refl _) _
  go_enter Tryz.func9, Tryz.ntmps9
  go_wp2_with fail
  refine (K1.out _).mono ?_; rintro e w1 ⟨rfl, hb1⟩
  have HO1 := Lib.hid (HO0.out.later hb1)
  have hB1 : Below w.heap.size w w1 := hb0.trans (hb1.mono hb0.size)
  go_wp2_with (with_reducible refine load_bk rfl 49 _ rfl w.heap.size 0 rfl 49 x.arr x.arr _ HO1.out (Part.whole _) Tryz.underlying49 rfl (by kernel_rfl) ?_)
  refine (K2.out _ (HX.out _ hB1)).mono ?_; rintro e w2 ⟨⟨b, rfl, hbt⟩, hb2⟩
  have HO2 := Lib.hid (HO1.out.later hb2)
  have hB2 : Below w.heap.size w w2 := hB1.trans (hb2.mono hB1.size)
  clear HO0 HO1 hb0 hb1 hb2 hB1 K2
  cases b
  case false =>
    go_wp2_with fail
    refine (K1.out _).mono ?_; rintro e w3 ⟨rfl, hb3⟩
    go_wp2_with fail
    go_ret
    exact ⟨rfl, hB2.trans (hb3.mono hB2.size)⟩
  case true =>
    obtain ⟨hm1, hm3⟩ := hbt rfl
    have hll : x.v.l1.length ≤ 1000 := by rw [← HM1.out]; omega
    have K8 := Lib.hid (fun (b g : Nat) (lst : Int) (W : World) (h : Gs W b g lst (.slice none 0 0) (.slice none 0 0) (.slice none 0 0) Sg.new) (h2 : OzOk W x) => do_new b g lst x W h h2 hll)
    have HSm := Lib.hid (sm_nSt x.v hll)
    have K9 := Lib.hid (fun (b g : Nat) (lst : Int) (vM vQ vJ : Value) (S : Sg) (W : World) (h : Gs W b g lst vM vQ vJ S) (h2 : Sm S) => state2_any b g lst vM vQ vJ S W h h2)
    clear hm1 hm3 hll hbt
    obtain ⟨z, hz⟩ : ∃ z, z = w2.heap.size := ⟨_, rfl⟩
    obtain ⟨wz, hwz⟩ : ∃ wz, wz = w2.alloc (.cells #[.int .i64 0, .int .i64 0, .slice none 0 0, .slice none 0 0, .slice none 0 0] 73) := ⟨_, rfl⟩
    have HGz : Hid (Gs wz z z 0 (.slice none 0 0) (.slice none 0 0) (.slice none 0 0) Sg.new) := by rw [hz, hwz]; exact gs_new w2 _ rfl
    have hbz : Below w2.heap.size w2 wz := by rw [hwz]; exact (Below.refl _ _).alloc (Nat.le_refl _) _
    have hzlt : w.heap.size < z := by rw [hz]; exact HO2.out.here
    go_wp2_with fail
    rw [← hwz, ← hz]
    refine (K3.out _).mono ?_; rintro e w3 ⟨⟨g, rfl, hG3⟩, hb3⟩
    have hzg : z < g := by have h1 := HGz.out.bk.here; have h2 := hG3.le; omega
    have HGn3 := Lib.hid (hG3.base (b' := z) (Nat.le_of_lt HGz.out.bk.here))
    have HGz3 := Lib.hid (HGz.out.below hb3)
    have HO3 := Lib.hid ((HO2.out.later hbz).later hb3)
    have hB3 : Below w.heap.size w w3 := (hB2.trans (hbz.mono hB2.size)).trans (hb3.mono (hB2.trans (hbz.mono hB2.size)).size)
    clear hG3 HGz HO2 hbz hb3 hwz hz hB2
    go_wp2_with (with_reducible refine load_bk rfl 49 _ rfl w.heap.size 0 rfl 49 x.arr x.arr _ HO3.out (Part.whole _) Tryz.underlying49 rfl (by kernel_rfl) ?_)
    refine (K4.out w3).mono ?_; rintro e w4 ⟨rfl, hb4⟩
    have HGz4 := Lib.hid (HGz3.out.below hb4); have HGn4 := Lib.hid (HGn3.out.below hb4); have HO4 := Lib.hid (HO3.out.later hb4)
    have hB4 : Below w.heap.size w w4 := hB3.trans (hb4.mono hB3.size)
    have hgw : g < w4.heap.size := HGn4.out.bk.here
    clear HGz3 HGn3 HO3 hB3 hb4
    go_wp2_with ((with_reducible refine store_bk rfl 36 (.tmp 6) (.tmp 20) rfl w4.heap.size 0 #[.int .i64 1, .slice none 0 0] rfl rfl 36 _ #[.int .i64 1, .slice none 0 0] (Bk.fresh _ _ _) (by kernel_rfl) (by simp) (by kernel_rfl) rfl ?_); intro w5 hB5 hg5 hs5; have hbl5 : Below w4.heap.size w4 w5 := grown_below ((Below.refl _ _).alloc (Nat.le_refl _) _) hg5 (Nat.le_refl _); have HA5 := Lib.hid hB5; have HGz5 := Lib.hid (HGz4.out.below hbl5); have HGn5 := Lib.hid (HGn4.out.below hbl5); have HO5 := Lib.hid (HO4.out.later hbl5); have hb5 : Below w.heap.size w w5 := hB4.trans (hbl5.mono hB4.size); clear hB5 hg5 hs5 HGz4 HGn4 HO4)
    obtain ⟨pa, hpa⟩ : ∃ pa, pa = w4.heap.size := ⟨_, rfl⟩
    rw [← hpa] at HA5 ⊢
    have hgp : g < pa := by omega
    clear hpa hgw hB4
    have HGz5d : Hid (Gs w5.drew z z 0 (.slice none 0 0) (.slice none 0 0) (.slice none 0 0) Sg.new) := HGz5.out.below (Below.drew (Below.refl _ _))
    have HGn5d : Hid (Gs w5.drew z g 0 (.slice none 0 0) (.slice none 0 0) (.slice none 0 0) Sg.new) := HGn5.out.below (Below.drew (Below.refl _ _))
    clear HGz5 HGn5
    refine wp_region_held_drew (S := fun W => Bk W w.heap.size 49 x.arr ∧ Bk W pa 36 #[.int .i64 1, .slice none 0 0] ∧ Below w.heap.size w W) (by kernel_rfl) (⟨HO5.out.drewB, HA5.out.drewB, Below.drew hb5⟩) (fun hS0 => ?_)
    refine wpAnyH_take (i := 0) (v := ?_) rfl (by kernel_rfl) (by kernel_rfl) (by kernel_rfl) (fun _ _ _ h => h) (Or.inl ⟨by rfl, ?_⟩) hS0 ?_
    rotate_left
    · intro W _; go_simp; try with_reducible rfl
    try simp only [Act.put, List.getElem_toArray, List.getElem_cons_zero, List.setIfInBounds_toArray, List.set_cons_zero, List.set_cons_succ]
    refine wpAnyH_take (i := 1) (v := ?_) rfl (by kernel_rfl) (by kernel_rfl) (by kernel_rfl) (fun _ _ _ h => h) (Or.inl ⟨by rfl, ?_⟩) hS0 ?_
    rotate_left
    · intro W hSW; have hx := hSW.2.1.cellAt 0; go_simp; try with_reducible rfl
    try simp only [Act.put, List.getElem_toArray, List.getElem_cons_zero, List.getElem_cons_succ, List.setIfInBounds_toArray, List.set_cons_zero, List.set_cons_succ]
    refine wpAnyH_take (i := 2) (v := ?_) rfl (by kernel_rfl) (by kernel_rfl) (by kernel_rfl) (fun _ _ _ h => h) (Or.inl ⟨by rfl, ?_⟩) hS0 ?_
    rotate_left
    · intro W _; go_simp; try with_reducible rfl
    try simp only [Act.put, List.getElem_toArray, List.getElem_cons_zero, List.getElem_cons_succ, List.setIfInBounds_toArray, List.set_cons_zero, List.set_cons_succ]
    refine wpAnyH_take (i := 3) (v := ?_) rfl (by kernel_rfl) (by kernel_rfl) (by kernel_rfl) (fun _ _ _ h => h) (Or.inl ⟨by rfl, ?_⟩) hS0 ?_
    rotate_left
    · intro W _; go_simp; try with_reducible rfl
    try simp only [Act.put, List.getElem_toArray, List.getElem_cons_zero, List.getElem_cons_succ, List.setIfInBounds_toArray, List.set_cons_zero, List.set_cons_succ]
    refine wpAnyH_take (i := 4) (v := ?_) rfl (by kernel_rfl) (by kernel_rfl) (by kernel_rfl) (fun _ _ _ h => h) (Or.inl ⟨by rfl, ?_⟩) hS0 ?_
    rotate_left
    · intro W _; go_simp; try with_reducible rfl
    try simp only [Act.put, List.getElem_toArray, List.getElem_cons_zero, List.getElem_cons_succ, List.setIfInBounds_toArray, List.set_cons_zero, List.set_cons_succ]
    refine wpAnyH_take (i := 5) (v := ?_) rfl (by kernel_rfl) (by kernel_rfl) (by kernel_rfl) (fun _ _ _ h => h) (Or.inl ⟨by rfl, ?_⟩) hS0 ?_
    rotate_left
    · intro W hSW; have hx := hSW.2.1.cellAt 1; go_simp; try with_reducible rfl
    try simp only [Act.put, List.getElem_toArray, List.getElem_cons_zero, List.getElem_cons_succ, List.setIfInBounds_toArray, List.set_cons_zero, List.set_cons_succ]
    refine wpAnyH_take (i := 6) (v := ?_) rfl (by kernel_rfl) (by kernel_rfl) (by kernel_rfl) (fun _ _ _ h => h) (Or.inl ⟨by rfl, ?_⟩) hS0 ?_
    rotate_left
    · intro W _; go_simp; try with_reducible rfl
    try simp only [Act.put, List.getElem_toArray, List.getElem_cons_zero, List.getElem_cons_succ, List.setIfInBounds_toArray, List.set_cons_zero, List.set_cons_succ]
    refine wpAnyH_take (i := 7) (v := ?_) rfl (by kernel_rfl) (by kernel_rfl) (by kernel_rfl) (fun _ _ _ h => h) (Or.inl ⟨by rfl, ?_⟩) hS0 ?_
    rotate_left
    · intro W _; go_simp; try with_reducible rfl
    try simp only [Act.put, List.getElem_toArray, List.getElem_cons_zero, List.getElem_cons_succ, List.setIfInBounds_toArray, List.set_cons_zero, List.set_cons_succ]
    refine wpAnyH_take (i := 8) (v := ?_) rfl (by kernel_rfl) (by kernel_rfl) (by kernel_rfl) (fun _ _ _ h => h) (Or.inl ⟨by rfl, ?_⟩) hS0 ?_
    rotate_left
    · intro W _; go_simp; try with_reducible rfl
    try simp only [Act.put, List.getElem_toArray, List.getElem_cons_zero, List.getElem_cons_succ, List.setIfInBounds_toArray, List.set_cons_zero, List.set_cons_succ]
    refine wpAnyH_take (i := 9) (v := ?_) rfl (by kernel_rfl) (by kernel_rfl) (by kernel_rfl) (fun _ _ _ h => h) (Or.inl ⟨by rfl, ?_⟩) hS0 ?_
    rotate_left
    · intro W _; go_simp; try with_reducible rfl
    try simp only [Act.put, List.getElem_toArray, List.getElem_cons_zero, List.getElem_cons_succ, List.setIfInBounds_toArray, List.set_cons_zero, List.set_cons_succ]
    refine wpAnyH_take (i := 10) (v := ?_) rfl (by kernel_rfl) (by kernel_rfl) (by kernel_rfl) (fun _ _ _ h => h) (Or.inl ⟨by rfl, ?_⟩) hS0 ?_
    rotate_left
    · intro W _; go_simp; try with_reducible rfl
    try simp only [Act.put, List.getElem_toArray, List.getElem_cons_zero, List.getElem_cons_succ, List.setIfInBounds_toArray, List.set_cons_zero, List.set_cons_succ]
    refine wpAnyH_ready (rs := [11]) (by kernel_rfl) (by simp) ?_
    refine AllReadyH.cons rfl (fun K hK => ?_) AllReadyH.nil
    go_simp
    refine (K5.out _).mono ?_
    rintro e w6 ⟨⟨v6, S6, rfl, hR6, hbr6⟩, hb6⟩
    have HR6 := Lib.hid hR6; have HBr6 := Lib.hid hbr6; have HGz6 := Lib.hid (HGz5d.out.below hb6); have HGn6 := Lib.hid (HGn5d.out.below hb6)
    go_simp
    refine hK.out _ _ (⟨hS0.1.later hb6, hS0.2.1.later hb6, hS0.2.2.trans (hb6.mono hS0.2.2.size)⟩) (fun hS1 => ?_)
    clear hK K
    try simp only [Act.put, List.getElem_toArray, List.getElem_cons_zero, List.getElem_cons_succ, List.setIfInBounds_toArray, List.set_cons_zero, List.set_cons_succ]
    clear hR6 hbr6 hb6 HGz5d HGn5d
    refine wpAnyH_ready (rs := [12]) (by kernel_rfl) (by simp) ?_
    refine AllReadyH.cons rfl (fun K hK => ?_) AllReadyH.nil
    go_simp
    refine (K6.out _).mono ?_
    rintro e w7 ⟨rfl, hb7⟩
    have HR7 := Lib.hid (HR6.out.later hb7); have HGz7 := Lib.hid (HGz6.out.below hb7); have HGn7 := Lib.hid (HGn6.out.below hb7)
    go_simp
    refine hK.out _ _ (⟨hS1.1.later hb7, hS1.2.1.later hb7, hS1.2.2.trans (hb7.mono hS1.2.2.size)⟩) (fun hS2 => ?_)
    clear hK K
    try simp only [Act.put, List.getElem_toArray, List.getElem_cons_zero, List.getElem_cons_succ, List.setIfInBounds_toArray, List.set_cons_zero, List.set_cons_succ]
    clear hb7 HR6 HGz6 HGn6
    refine wpAnyH_ready (rs := [13]) (by kernel_rfl) (by simp) ?_
    refine AllReadyH.cons rfl (fun K hK => ?_) AllReadyH.nil
    go_simp
    refine (K7.out v6 svN S6 Sg.new w7 HR7.out (rdN w7) HBr6.out).mono ?_
    rintro e w8 ⟨rfl, hb8⟩
    have HGz8 := Lib.hid (HGz7.out.below hb8); have HGn8 := Lib.hid (HGn7.out.below hb8)
    go_simp
    refine hK.out _ _ (⟨hS2.1.later hb8, hS2.2.1.later hb8, hS2.2.2.trans (hb8.mono hS2.2.2.size)⟩) (fun hS3 => ?_)
    clear hK K
    try simp only [Act.put, List.getElem_toArray, List.getElem_cons_zero, List.getElem_cons_succ, List.setIfInBounds_toArray, List.set_cons_zero, List.set_cons_succ]
    clear hb8 HR7 HGz7 HGn7
    refine wpAnyH_take (i := 14) (v := ?_) rfl (by kernel_rfl) (by kernel_rfl) (by kernel_rfl) (fun _ _ _ h => h) (Or.inl ⟨by rfl, ?_⟩) hS3 ?_
    rotate_left
    · intro W _; go_simp; try with_reducible rfl
    try simp only [Act.put, List.getElem_toArray, List.getElem_cons_zero, List.getElem_cons_succ, List.setIfInBounds_toArray, List.set_cons_zero, List.set_cons_succ]
    refine wpAnyH_take (i := 15) (v := ?_) rfl (by kernel_rfl) (by kernel_rfl) (by kernel_rfl) (fun _ _ _ h => h) (Or.inl ⟨by rfl, ?_⟩) hS3 ?_
    rotate_left
    · intro W _; go_simp; try with_reducible rfl
    try simp only [Act.put, List.getElem_toArray, List.getElem_cons_zero, List.getElem_cons_succ, List.setIfInBounds_toArray, List.set_cons_zero, List.set_cons_succ]
    refine wpAnyH_take (i := 16) (v := ?_) rfl (by kernel_rfl) (by kernel_rfl) (by kernel_rfl) (fun _ _ _ h => h) (Or.inl ⟨by rfl, ?_⟩) hS3 ?_
    rotate_left
    · intro W _; go_simp; try with_reducible rfl
    try simp only [Act.put, List.getElem_toArray, List.getElem_cons_zero, List.getElem_cons_succ, List.setIfInBounds_toArray, List.set_cons_zero, List.set_cons_succ]
    refine wpAnyH_take (i := 17) (v := .agg x.arr) rfl (by kernel_rfl) (by kernel_rfl) (by kernel_rfl) (fun _ _ _ h => h) (yields_bk (by rfl) 49 _ rfl w.heap.size 0 rfl 49 x.arr x.arr _ (fun W hW => hW.1) (Part.whole _) Tryz.underlying49 rfl (by kernel_rfl)) hS3 ?_
    try simp only [Act.put, List.getElem_toArray, List.getElem_cons_zero, List.getElem_cons_succ, List.setIfInBounds_toArray, List.set_cons_zero, List.set_cons_succ]
    refine wpAnyH_take (i := 19) (v := ?_) rfl (by kernel_rfl) (by kernel_rfl) (by kernel_rfl) (fun _ _ _ h => h) (Or.inl ⟨by rfl, ?_⟩) hS3 ?_
    rotate_left
    · intro W _; go_simp; try with_reducible rfl
    try simp only [Act.put, List.getElem_toArray, List.getElem_cons_zero, List.getElem_cons_succ, List.setIfInBounds_toArray, List.set_cons_zero, List.set_cons_succ]
    refine wpAnyH_take (i := 20) (v := .agg x.arr) rfl (by kernel_rfl) (by kernel_rfl) (by kernel_rfl) (fun _ _ _ h => h) (yields_bk (by rfl) 49 _ rfl w.heap.size 0 rfl 49 x.arr x.arr _ (fun W hW => hW.1) (Part.whole _) Tryz.underlying49 rfl (by kernel_rfl)) hS3 ?_
    try simp only [Act.put, List.getElem_toArray, List.getElem_cons_zero, List.getElem_cons_succ, List.setIfInBounds_toArray, List.set_cons_zero, List.set_cons_succ]
    refine wpAnyH_ready (rs := [18]) (by kernel_rfl) (by simp) ?_
    refine AllReadyH.cons rfl (fun K hK => ?_) AllReadyH.nil
    go_simp
    refine (K8.out z z 0 w8 HGz8.out (HX.out _ hS3.2.2)).mono ?_
    rintro e w9 ⟨⟨A9, c9, rfl, hc9⟩, hW9⟩
    obtain ⟨l9, vM9, vQ9, vJ9, S9, hG9, hS9, hgr9, hnw9⟩ := hW9
    have HG9 := Lib.hid hG9; have HS9 := Lib.hid hS9
    have HN9 : Hid (∀ k, blkG z vM9 vQ9 vJ9 S9 k → k = z ∨ w8.heap.size ≤ k) := fun k hk => (hnw9 k hk).imp blkG_new id
    have hgw8 : g < w8.heap.size := HGn8.out.bk.here
    have HGn9 := Lib.hid (HGn8.out.grp hgr9 (fun k hk e => by have h1 := blkG_new hk; have h2 := blkG_new e; omega))
    have hbl9 : Below z w8 w9 := hgr9.below (Nat.le_of_lt HGz8.out.bk.here) (fun k hk => by have := blkG_new hk; omega)
    go_simp
    refine hK.out _ _ (⟨hS3.1.grp hgr9 (fun e => by have := blkG_new e; omega), hS3.2.1.grp hgr9 (fun e => by have := blkG_new e; omega), hS3.2.2.trans (hbl9.mono (Nat.le_of_lt hzlt))⟩) (fun hS4 => ?_)
    clear hK K
    try simp only [Act.put, List.getElem_toArray, List.getElem_cons_zero, List.getElem_cons_succ, List.setIfInBounds_toArray, List.set_cons_zero, List.set_cons_succ]
    clear hG9 hS9 hnw9 hgr9 hbl9 HGz8 HGn8
    refine wpAnyH_ready (rs := [21]) (by kernel_rfl) (by simp) ?_
    refine AllReadyH.cons rfl (fun K hK => ?_) AllReadyH.nil
    go_simp
    refine (K8.out z g 0 w9 HGn9.out (HX.out _ hS4.2.2)).mono ?_
    rintro e w10 ⟨⟨A10, c10, rfl, hc10⟩, hW10⟩
    obtain ⟨l10, vM10, vQ10, vJ10, S10, hG10, hS10, hgr10, hnw10⟩ := hW10
    have HG10 := Lib.hid hG10; have HS10 := Lib.hid hS10
    have HG9' := Lib.hid (HG9.out.grp hgr10 (fun k hk e => by have h1 := HN9.out k hk; have h2 := blkG_new e; omega))
    have hbl10 : Below z w9 w10 := hgr10.below (Nat.le_trans HGn9.out.le (Nat.le_of_lt HGn9.out.bk.here)) (fun k hk => by have := blkG_new hk; omega)
    go_simp
    refine hK.out _ _ (⟨hS4.1.grp hgr10 (fun e => by have := blkG_new e; omega), hS4.2.1.grp hgr10 (fun e => by have := blkG_new e; omega), hS4.2.2.trans (hbl10.mono (Nat.le_of_lt hzlt))⟩) (fun hS5 => ?_)
    clear hK K
    try simp only [Act.put, List.getElem_toArray, List.getElem_cons_zero, List.getElem_cons_succ, List.setIfInBounds_toArray, List.set_cons_zero, List.set_cons_succ]
    clear hG10 hS10 hnw10 hgr10 hbl10 HG9 HN9 HGn9
    refine wpAnyH_ready (rs := [22]) (by kernel_rfl) (by simp) ?_
    refine AllReadyH.cons rfl (fun K hK => ?_) AllReadyH.nil
    go_simp
    have hks := rsameAns_any (nErr x.v) (nErr x.v) A9 A10 0 c9 0 c10 [] [] w10 (show 0 = _ from rfl) (show 0 = _ from rfl) (show RdA w10 A9 [] from fun i y h => by simp at h) (show RdA w10 A10 [] from fun i y h => by simp at h) (Nat.zero_le _) hc9 (Nat.zero_le _) hc10
    rw [sameAns_nil] at hks
    refine hks.mono ?_
    rintro e w11 ⟨rfl, hb11⟩
    have HGa := Lib.hid (HG9'.out.below hb11); have HGb := Lib.hid (HG10.out.below hb11)
    go_simp
    refine hK.out _ _ (⟨hS5.1.later hb11, hS5.2.1.later hb11, hS5.2.2.trans (hb11.mono hS5.2.2.size)⟩) (fun hS6 => ?_)
    clear hK K
    try simp only [Act.put, List.getElem_toArray, List.getElem_cons_zero, List.getElem_cons_succ, List.setIfInBounds_toArray, List.set_cons_zero, List.set_cons_succ]
    clear hb11 HG9' HG10 hc9 hc10
    refine wpAnyH_take (i := 23) (v := ?_) rfl (by kernel_rfl) (by kernel_rfl) (by kernel_rfl) (fun _ _ _ h => h) (Or.inl ⟨by rfl, ?_⟩) hS6 ?_
    rotate_left
    · intro W _; go_simp; try with_reducible rfl
    try simp only [Act.put, List.getElem_toArray, List.getElem_cons_zero, List.getElem_cons_succ, List.setIfInBounds_toArray, List.set_cons_zero, List.set_cons_succ]
    refine wpAnyH_take (i := 24) (v := ?_) rfl (by kernel_rfl) (by kernel_rfl) (by kernel_rfl) (fun _ _ _ h => h) (Or.inl ⟨by rfl, ?_⟩) hS6 ?_
    rotate_left
    · intro W _; go_simp; try with_reducible rfl
    try simp only [Act.put, List.getElem_toArray, List.getElem_cons_zero, List.getElem_cons_succ, List.setIfInBounds_toArray, List.set_cons_zero, List.set_cons_succ]
    refine wpAnyH_take (i := 25) (v := ?_) rfl (by kernel_rfl) (by kernel_rfl) (by kernel_rfl) (fun _ _ _ h => h) (Or.inl ⟨by rfl, ?_⟩) hS6 ?_
    rotate_left
    · intro W _; go_simp; try with_reducible rfl
    try simp only [Act.put, List.getElem_toArray, List.getElem_cons_zero, List.getElem_cons_succ, List.setIfInBounds_toArray, List.set_cons_zero, List.set_cons_succ]
    refine wpAnyH_take (i := 27) (v := ?_) rfl (by kernel_rfl) (by kernel_rfl) (by kernel_rfl) (fun _ _ _ h => h) (Or.inl ⟨by rfl, ?_⟩) hS6 ?_
    rotate_left
    · intro W _; go_simp; try with_reducible rfl
    try simp only [Act.put, List.getElem_toArray, List.getElem_cons_zero, List.getElem_cons_succ, List.setIfInBounds_toArray, List.set_cons_zero, List.set_cons_succ]
    refine wpAnyH_ready (rs := [26]) (by kernel_rfl) (by simp) ?_
    refine AllReadyH.cons rfl (fun K hK => ?_) AllReadyH.nil
    go_simp
    refine (K9.out z z l9 vM9 vQ9 vJ9 S9 w11 HGa.out (HSm.out.bare HS9.out)).mono ?_
    rintro e w12 ⟨⟨v12, S12, rfl, hR12, hbr12⟩, hb12⟩
    have HR12 := Lib.hid hR12; have HBr12 := Lib.hid hbr12; have HGb2 := Lib.hid (HGb.out.below hb12)
    go_simp
    refine hK.out _ _ (⟨hS6.1.later hb12, hS6.2.1.later hb12, hS6.2.2.trans (hb12.mono hS6.2.2.size)⟩) (fun hS7 => ?_)
    clear hK K
    try simp only [Act.put, List.getElem_toArray, List.getElem_cons_zero, List.getElem_cons_succ, List.setIfInBounds_toArray, List.set_cons_zero, List.set_cons_succ]
    clear hb12 hR12 hbr12 HGa HGb
    refine wpAnyH_ready (rs := [28]) (by kernel_rfl) (by simp) ?_
    refine AllReadyH.cons rfl (fun K hK => ?_) AllReadyH.nil
    go_simp
    refine (K9.out z g l10 vM10 vQ10 vJ10 S10 w12 HGb2.out (HSm.out.bare HS10.out)).mono ?_
    rintro e w13 ⟨⟨v13, S13, rfl, hR13, hbr13⟩, hb13⟩
    have HR13 := Lib.hid hR13; have HBr13 := Lib.hid hbr13; have HR12' := Lib.hid (HR12.out.later hb13)
    go_simp
    refine hK.out _ _ (⟨hS7.1.later hb13, hS7.2.1.later hb13, hS7.2.2.trans (hb13.mono hS7.2.2.size)⟩) (fun hS8 => ?_)
    clear hK K
    try simp only [Act.put, List.getElem_toArray, List.getElem_cons_zero, List.getElem_cons_succ, List.setIfInBounds_toArray, List.set_cons_zero, List.set_cons_succ]
    clear hb13 hR13 hbr13 HR12 HGb2
    refine wpAnyH_ready (rs := [29]) (by kernel_rfl) (by simp) ?_
    refine AllReadyH.cons rfl (fun K hK => ?_) AllReadyH.nil
    go_simp
    refine (K7.out v12 v13 S12 S13 w13 HR12'.out HR13.out (by rw [HBr12.out, HBr13.out, HS9.out, HS10.out])).mono ?_
    rintro e w14 ⟨rfl, hb14⟩
    go_simp
    refine hK.out _ _ (⟨hS8.1.later hb14, hS8.2.1.later hb14, hS8.2.2.trans (hb14.mono hS8.2.2.size)⟩) (fun hS9 => ?_)
    clear hK K
    try simp only [Act.put, List.getElem_toArray, List.getElem_cons_zero, List.getElem_cons_succ, List.setIfInBounds_toArray, List.set_cons_zero, List.set_cons_succ]
    have HBz := Lib.hid hS9.2.2
    refine wpAnyH_take (i := 30) (v := ?_) rfl (by kernel_rfl) (by kernel_rfl) (by kernel_rfl) (fun _ _ _ h => h) (Or.inl ⟨by rfl, ?_⟩) hS9 ?_
    rotate_left
    · intro W _; go_simp; try with_reducible rfl
    try simp only [Act.put, List.getElem_toArray, List.getElem_cons_zero, List.getElem_cons_succ, List.setIfInBounds_toArray, List.set_cons_zero, List.set_cons_succ]
    refine wpAnyH_take (i := 31) (v := ?_) rfl (by kernel_rfl) (by kernel_rfl) (by kernel_rfl) (fun _ _ _ h => h) (Or.inl ⟨by rfl, ?_⟩) hS9 ?_
    rotate_left
    · intro W _; go_simp; try with_reducible rfl
    try simp only [Act.put, List.getElem_toArray, List.getElem_cons_zero, List.getElem_cons_succ, List.setIfInBounds_toArray, List.set_cons_zero, List.set_cons_succ]
    refine wpAnyH_done (by kernel_rfl) ?_ _
    go_wp2_with fail
    go_ret
    exact ⟨rfl, HBz.out⟩
theorem walk (k : Int) (nn : ByteArray) (a1 b1 c1 : Int) (A1 : Option Addr) (m1 p1 : Nat) (l1 : List Lb) (qn : ByteArray) (a2 b2 c2 : Int) (tn tq : ByteArray) (tp a3 b3 c3 : Int) (A3 : Option Addr) (m3 p3 : Nat) (l3 : List Lb) (ta tg : ByteArray) (ts : Int) (s : ByteArray) (w : World) (hn1 : Hid (m1 = l1.length)) (hp1 : m1 ≤ p1) (hq1 : p1 ≤ 9223372036854775807) (hn3 : Hid (m3 = l3.length)) (hp3 : m3 ≤ p3) (hq3 : p3 ≤ 9223372036854775807) (hr1 : Hid (RdL w A1 l1)) (hr3 : Hid (RdL w A3 l3)) (hz1 : Hid (Sz l1)) (hz3 : Hid (Sz l3)) (hnn : nn.size ≤ 140737488351232) (hqn : qn.size ≤ 140737488351232) (htn : tn.size ≤ 140737488351232) (htq : tq.size ≤ 140737488351232) (hta : ta.size ≤ 140737488351232) (htg : tg.size ≤ 140737488351232) (hs : s.size ≤ 140737488351232) :
    Calls Tryz.prog 9 #[.agg #[.int .i64 k, .string nn, .int .i64 a1, .int .i64 b1, .int .i64 c1, .slice A1 m1 p1, .string qn, .int .i64 a2, .int .i64 b2, .int .i64 c2, .string tn, .string tq, .int .i64 tp, .int .i64 a3, .int .i64 b3, .int .i64 c3, .slice A3 m3 p3, .string ta, .string tg, .int .i64 ts, .string s]] w fun r w' => r = .returned (.bool true) ∧ Below w.heap.size w w' :=
  walk0 ⟨⟨k, nn, a1, b1, c1, l1, qn, a2, b2, c2, tn, tq, tp, a3, b3, c3, l3, ta, tg, ts, s⟩, A1, m1, p1, A3, m3, p3⟩ w ⟨⟨hn1.out, hr1.out, hp1, hq1, hz1.out⟩, ⟨hn3.out, hr3.out, hp3, hq3, hz3.out⟩, hnn, hqn, htn, htq, hta, htg, hs⟩
end gen1Nil
end Go.Proofs.YtlomeicilgfhnaaGreat
