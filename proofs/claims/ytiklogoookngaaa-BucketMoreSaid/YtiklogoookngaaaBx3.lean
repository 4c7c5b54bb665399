/- Layer 17: Put of an index. Condition: the vector's first number is an int. -/
import Derived.Test.YtiklogoookngaaaBx1
import Derived.Test.YtiklogoookngaaaLat
import Derived.Test.YtiklogoookngaaaRge
namespace Go.Proofs.Ytiklogoookngaaa
open Go.RowKit
set_option linter.unusedSimpArgs false
set_option linter.unusedVariables false

theorem getN_del (D : List NV) (s : ByteArray) : getN (delN D s) s = none := getN_none.2 fun p hp => (delN_mem.1 hp).2
set_option maxHeartbeats 6400000 in
set_option maxRecDepth 100000 in
/-- A name gets a vector. -/
theorem put_any (b g : Nat) (M : Nat → Value) (D : List NV) (s : ByteArray) (t : R3) (w : World) (ht : okV t) (hb0 : b ≤ w.heap.size) (hH : Hid (Ix w b g M D)) : Calls Try.prog 10 #[.pointer (some ⟨g, 0, none⟩), .string s, vR t] w fun e w' => e = .returned (.tuple #[]) ∧ (∃ M', Ix w' b g M' (delN D s ++ [(s, t)]) ∧ ∀ k, IxB g M' k → IxB g M k ∨ w.heap.size ≤ k) ∧ GrP (IxB g M) w w' := by
  have KD : Hid (∀ w, Hid (Ix w b g M D) → Calls Try.prog 12 #[.pointer (some ⟨g, 0, none⟩), .string s] w fun e w' => e = .returned (.bool (getN D s).isSome) ∧ Ix w' b g M (delN D s) ∧ GrP (IxB g M) w w') := fun w h => del_any b g M D s w h
  obtain ⟨q, hq⟩ : ∃ q, q = num t := ⟨_, rfl⟩
  have KN : Hid (∀ w, Calls Try.prog 20 #[vR t] w fun e w' => e = .returned (.int .i64 (q : Nat)) ∧ Below w.heap.size w w') := fun w => by rw [hq]; exact number_any t w ht
  have hq64 : q < 64 := by rw [hq]; exact num_lt ht
  have HQ := Lib.hid hq
  clear hq
  obtain ⟨W0, hW0⟩ : ∃ W, W = w.alloc (.cells #[.int .i64 t.1, .int .i64 t.2.1, .int .i64 t.2.2] 37) := ⟨_, rfl⟩
  obtain ⟨p, hp⟩ : ∃ p, p = w.heap.size := ⟨_, rfl⟩
  have qT : ∀ (w : World) (r : Option Nat), (binOp .eql 32 (.map r) (.map none)).run Try.prog w = .ok (.bool r.isNone) w := fun w r => run_eql_map_nil w _ _ _ r Try.underlying32
  have qM := @run_makeMap Try.prog
  have HB0 : Hid (Below w.heap.size w W0) := by rw [hW0]; exact (Below.refl _ _).alloc (Nat.le_refl _) _
  have HP0 : Hid (Bk W0 p 37 #[.int .i64 t.1, .int .i64 t.2.1, .int .i64 t.2.2]) := by rw [hW0, hp]; exact Bk.fresh _ _ _
  have H0 := Lib.hid (hH.out.later HB0.out)
  go_enter Try.func10, Try.ntmps10
  go_wp2_with fail
  rw [← hW0, ← hp]
  clear hW0
  have HPW := Lib.hid hp
  clear hp
  refine (KD.out _ H0).mono ?_
  rintro e w1 ⟨rfl, hI1, hG1⟩
  have HP1 : Hid (Bk w1 p 37 #[.int .i64 t.1, .int .i64 t.2.1, .int .i64 t.2.2]) := HP0.out.grp hG1 fun h => by have := (hH.out.blk h).2; have := HPW.out; omega
  have HI1 := Lib.hid hI1
  have HG1 := Lib.hid hG1
  have c0 : w1.cell? ⟨p, 0, none⟩ = some (.int .i64 t.1) := HP1.out.cellAt 0
  have c1 : w1.cell? ⟨p, 1, none⟩ = some (.int .i64 t.2.1) := HP1.out.cellAt 1
  have c2 : w1.cell? ⟨p, 2, none⟩ = some (.int .i64 t.2.2) := HP1.out.cellAt 2
  have hp1 : p < w1.heap.size := HP1.out.here
  clear hI1 hG1 KD H0 HP0
  have hq0 : (0 : Int) ≤ (q : Int) := by omega
  have hqi : (q : Int) < 64 := by omega
  go_wp2_with fail
  refine wp_region_later (by kernel_rfl) (by kernel_rfl) ?_; have hL : ∀ (w : World) (x : Later w) (b o : Nat), b < w.heap.size → x.to.cell? ⟨b, o, none⟩ = w.cell? ⟨b, o, none⟩ := fun w x b o hb => x.cell hb; have hN := Later.some; (repeat (go_big_quiet_step (((with_reducible exact Later.call (KN.out _)))))); refine wpQuiet_nil ?_; intro w3 hw3; have hb3 := Later.out hw3; clear hw3 hL hN
  have HI3 := Lib.hid (HI1.out.later hb3)
  have HP3 := Lib.hid (HP1.out.later hb3)
  obtain ⟨L, hm, hL⟩ := HI3.out.maps q hq64
  obtain ⟨o, ho⟩ := hm.val
  have hc : w3.cell? ⟨g, q, none⟩ = some (.map o) := by rw [HI3.out.cell hq64, ho]
  have hf : w3.frozen? ⟨g, q, none⟩ = false := HI3.out.bk.free q
  have HM : Hid (MapV w3 (.map o) (L.map eV)) := by rw [← ho]; exact hm
  have HO := Lib.hid ho
  have HL := Lib.hid hL
  have HGN : Hid (getL (L.map eV) s = none) := by
    show _ = _
    rw [getL_N, getN_none.2 fun p hp => (delN_mem.1 (inB_mem.1 (HL.out.mem_iff.1 hp)).1).2]; rfl
  have HB3 := Lib.hid hb3
  clear hm hL ho c0 c1 c2 hb3
  have key : ∀ (M4 : Nat → Value) (w4 w5 : World) (m : Nat), Ix w4 b g M4 (delN D s) → M4 q = .map (some m) → MapL w5 m (L.map eV ++ [(s, vR t)]) → w4.grownBy w5 (some m) → (∀ k, IxB g M4 k → IxB g M k ∨ w.heap.size ≤ k) → GrP (IxB g M) w w4 → (IxB g M m ∨ w.heap.size ≤ m) →
      (∃ M', Ix w5 b g M' (delN D s ++ [(s, t)]) ∧ ∀ k, IxB g M' k → IxB g M k ∨ w.heap.size ≤ k) ∧ GrP (IxB g M) w w5 := fun M4 w4 w5 m h1 h2 h3 h4 h5 h6 h7 => by
    have hnew : ∀ p ∈ delN D s, p.1 ≠ s := fun p hp => (delN_mem.1 hp).2
    have hin : ∀ j, inB (delN D s ++ [(s, t)]) j = inB (delN D s) j ++ (if q = j then [(s, t)] else []) := fun j => by
      unfold inB
      rw [List.filter_append]
      congr 1
      rw [List.filter_cons, ← HQ.out]
      by_cases e : q = j
      · rw [if_pos (by simpa using e), if_pos e]; rfl
      · rw [if_neg (by simpa using e), if_neg e]; rfl
    have r := h1.turn hq64 (L := L ++ [(s, t)]) (E := delN D s ++ [(s, t)]) (by rw [h2]; exact h4) (by rw [h2]; exact .inr ⟨m, rfl, by rw [List.map_append]; exact h3⟩) (by rw [hin, if_pos rfl]; exact HL.out.append_right _) (fun j hj => by rw [hin, if_neg (fun e => hj e.symm), List.append_nil])
      (fun p hp => (List.mem_append.1 hp).elim (h1.ok p) fun hp => by rw [List.mem_singleton.1 hp]; exact ht) (by
        rw [List.map_append, List.nodup_append]
        refine ⟨h1.nodup, by simp, fun a ha c hc e => ?_⟩
        obtain ⟨p, hp, rfl⟩ := List.mem_map.1 ha
        simp at hc
        exact hnew p hp (e.trans hc))
    refine ⟨⟨M4, r.1, h5⟩, ?_⟩
    have h4' : GrP (fun k => some m = some k) w4 w5 := GrP.of h4
    exact ⟨h4'.os.trans h6.os, h4'.tape.trans h6.tape, h4'.output.trans h6.output, Nat.le_trans h6.size h4'.size, fun k hk hn => (h4'.block k (Nat.lt_of_lt_of_le hk h6.size) fun e => by
      injection e with e
      subst e
      rcases h7 with h7 | h7
      · exact hn h7
      · omega).trans (h6.block k hk hn)⟩
  have KEY := Lib.hid key
  clear key
  have HG3 : Hid (GrP (IxB g M) w w3) := ((GrP.ofBelow HB0.out).trans HG1.out).trans (GrP.ofBelow HB3.out)
  have HSZ : Hid (w.heap.size ≤ w3.heap.size) := HG3.out.size
  cases o with
  | none =>
    have hL0 : L.map eV = [] := by
      rcases HM.out with ⟨_, h⟩ | ⟨b, h, _⟩
      · exact h
      · cases h
    obtain ⟨m, hm⟩ : ∃ m, m = w3.heap.size := ⟨_, rfl⟩
    obtain ⟨W4, hW4⟩ : ∃ W, W = (w3.alloc (.map #[] 0)).setCell ⟨g, q, none⟩ (.map (some m)) := ⟨_, rfl⟩
    have hgw3 : g < w3.heap.size := HI3.out.bk.here
    have hal : Below w3.heap.size w3 (w3.alloc (.map #[] 0)) := (Below.refl _ _).alloc (Nat.le_refl _) _
    have hbka : Bk (w3.alloc (.map #[] 0)) g 35 (cM M) := HI3.out.bk.later hal
    have HI4 : Hid (Ix W4 b g (fun j => if j = q then .map (some m) else M j) (delN D s)) := by
      have hgr : GrP (fun k => k = g) (w3.alloc (.map #[] 0)) W4 := by rw [hW4]; exact GrP.set (p := fun k => k = g) (GrP.refl _ _) rfl _
      have hmm : MapL W4 m [] := (hm ▸ MapL.made w3).same (hgr.block m (by rw [hm]; simp) (by omega))
      refine ⟨by rw [← cM_set M hq64, hW4]; exact hbka.put q _, fun i hi => ?_, fun i j hi hj hij k h1 h2 => ?_, fun k hk => ?_, HI3.out.ok, HI3.out.nodup⟩
      · by_cases e : i = q
        · subst e
          refine ⟨L, ?_, HL.out⟩
          show MapV W4 (if i = i then .map (some m) else M i) _
          rw [if_pos rfl, hL0]
          exact .inr ⟨m, rfl, hmm⟩
        · obtain ⟨L2, h1, h2⟩ := HI3.out.maps i hi
          refine ⟨L2, ?_, h2⟩
          show MapV W4 (if i = q then .map (some m) else M i) _
          rw [if_neg e]
          refine (h1.later hal).grp hgr fun k hk e2 => ?_
          subst e2
          rcases h1 with ⟨h3, _⟩ | ⟨z, h3, h4⟩
          · rw [h3] at hk; cases hk
          · rw [h3] at hk
            injection hk with hk
            subst hk
            obtain ⟨es, clock, h5⟩ := h4.here
            have := HI3.out.bk.symm.trans h5
            cases this
      · have h1 : mapBlock (if i = q then .map (some m) else M i) = some k := h1
        have h2 : mapBlock (if j = q then .map (some m) else M j) = some k := h2
        by_cases e1 : i = q
        · rw [if_pos e1] at h1
          injection h1 with h1
          rw [if_neg (fun e2 => hij (e1.trans e2.symm))] at h2
          have := (HI3.out.blk (.inr ⟨j, hj, h2⟩)).2
          omega
        · rw [if_neg e1] at h1
          by_cases e2 : j = q
          · rw [if_pos e2] at h2
            injection h2 with h2
            have := (HI3.out.blk (.inr ⟨i, hi, h1⟩)).2
            omega
          · rw [if_neg e2] at h2
            exact HI3.out.apart i j hi hj hij k h1 h2
      · rcases hk with rfl | ⟨i, hi, h1⟩
        · exact HI3.out.low _ (.inl rfl)
        · have h1 : mapBlock (if i = q then .map (some m) else M i) = some k := h1
          by_cases e1 : i = q
          · rw [if_pos e1] at h1
            injection h1 with h1
            have := HSZ.out; omega
          · rw [if_neg e1] at h1
            exact HI3.out.low _ (.inr ⟨i, hi, h1⟩)
    have HP4 : Hid (Bk W4 p 37 #[.int .i64 t.1, .int .i64 t.2.1, .int .i64 t.2.2]) := by
      rw [hW4]
      exact (HP3.out.later hal).grp ((GrP.refl (fun k => k = g) _).set rfl _) fun e => by
        have h1 := (hH.out.blk (k := g) (.inl rfl)).2
        have := HPW.out; omega
    have HC4 : Hid (W4.cell? ⟨g, q, none⟩ = some (.map (some m))) := by show _ = _; rw [HI4.out.cell hq64, if_pos rfl]
    have HM4 : Hid (MapL W4 m (L.map eV)) := by
      obtain ⟨L2, h1, h2⟩ := HI4.out.maps q hq64
      have h1 : MapV W4 (if q = q then .map (some m) else M q) (L2.map eV) := h1
      rw [if_pos rfl] at h1
      rcases h1 with ⟨h3, _⟩ | ⟨z, h3, h4⟩
      · cases h3
      · injection h3 with h3
        injection h3 with h3
        subst h3
        have : L2.Perm L := h2.trans HL.out.symm
        have hL1 : L = [] := List.map_eq_nil_iff.1 hL0
        rw [hL1] at this
        rw [List.Perm.eq_nil this] at h4
        rw [hL0]; exact h4
    have HG4 : Hid (GrP (IxB g M) w W4) := by
      rw [hW4]
      exact (HG3.out.trans (GrP.ofBelow hal)).set (.inl rfl) _
    have HIB : Hid (∀ k, IxB g (fun j => if j = q then .map (some m) else M j) k → IxB g M k ∨ w.heap.size ≤ k) := fun k hk => by
      rcases hk with rfl | ⟨i, hi, h1⟩
      · exact .inl (.inl rfl)
      · have h1 : mapBlock (if i = q then .map (some m) else M i) = some k := h1
        by_cases e1 : i = q
        · rw [if_pos e1] at h1
          injection h1 with h1
          have := HSZ.out
          exact .inr (by omega)
        · rw [if_neg e1] at h1
          exact .inl (.inr ⟨i, hi, h1⟩)
    have HMB : Hid (IxB g M m ∨ w.heap.size ≤ m) := .inr (by rw [hm]; exact HSZ.out)
    clear hal hbka hL0
    have hW5 : W4 = (w3.setCell ⟨g, q, none⟩ (.map (some m))).alloc (.map #[] 0) := by rw [hW4]; exact World.setCell_alloc_past _ _ _ _ hgw3
    clear hW4
    go_wp2_with fail
    rw [← hm, ← hW5]
    clear hW5 hc hf hgw3 hm
    refine wp_region_E (S := fun W => (W.cell? ⟨g, q, none⟩ = some (.map (some m)) ∧ Bk W p 37 #[.int .i64 t.1, .int .i64 t.2.1, .int .i64 t.2.2]) ∧ MapL W m (L.map eV) ∧ Below W4.heap.size W4 W) 5 (by kernel_rfl) (⟨⟨HC4.out, HP4.out.drewB⟩, HM4.out, Below.drew (Below.refl _ _)⟩) (fun hS0 => ?_)
    refine wpAnyE_take (i := 0) (v := ?_) rfl (by kernel_rfl) (by kernel_rfl) (by kernel_rfl) (by kernel_rfl) (by kernel_rfl) (fun _ _ _ h => h) (Or.inl ⟨by rfl, ?_⟩) hS0 ?_
    rotate_left
    · intro W _; go_simp; try with_reducible rfl
    try simp only [Act.put, List.getElem_toArray, List.getElem_cons_zero, List.setIfInBounds_toArray, List.set_cons_zero, List.set_cons_succ]
    refine wpAnyE_take (i := 1) (v := ?_) rfl (by kernel_rfl) (by kernel_rfl) (by kernel_rfl) (by kernel_rfl) (by kernel_rfl) (fun _ _ _ h => h) (Or.inl ⟨by rfl, ?_⟩) hS0 ?_
    rotate_left
    · intro W _; go_simp; try with_reducible rfl
    try simp only [Act.put, List.getElem_toArray, List.getElem_cons_zero, List.getElem_cons_succ, List.setIfInBounds_toArray, List.set_cons_zero, List.set_cons_succ]
    refine wpAnyE_take (i := 2) (v := ?_) rfl (by kernel_rfl) (by kernel_rfl) (by kernel_rfl) (by kernel_rfl) (by kernel_rfl) (fun _ _ _ h => h) (Or.inl ⟨by rfl, ?_⟩) hS0 ?_
    rotate_left
    · intro W hSW; have hx := hSW.1.1; go_simp; try with_reducible rfl
    try simp only [Act.put, List.getElem_toArray, List.getElem_cons_zero, List.getElem_cons_succ, List.setIfInBounds_toArray, List.set_cons_zero, List.set_cons_succ]
    refine wpAnyE_take (i := 3) (v := ?_) rfl (by kernel_rfl) (by kernel_rfl) (by kernel_rfl) (by kernel_rfl) (by kernel_rfl) (fun _ _ _ h => h) (Or.inl ⟨by rfl, ?_⟩) hS0 ?_
    rotate_left
    · intro W _; go_simp; try with_reducible rfl
    try simp only [Act.put, List.getElem_toArray, List.getElem_cons_zero, List.getElem_cons_succ, List.setIfInBounds_toArray, List.set_cons_zero, List.set_cons_succ]
    refine wpAnyE_take (i := 4) (v := .agg #[.int .i64 t.1, .int .i64 t.2.1, .int .i64 t.2.2]) rfl (by kernel_rfl) (by kernel_rfl) (by kernel_rfl) (by kernel_rfl) (by kernel_rfl) (fun _ _ _ h => h) (yields_bk (by rfl) 37 _ rfl p 0 rfl 37 #[.int .i64 t.1, .int .i64 t.2.1, .int .i64 t.2.2] #[.int .i64 t.1, .int .i64 t.2.1, .int .i64 t.2.2] _ (fun W hW => hW.1.2) (Part.whole _) Try.underlying37 rfl (by kernel_rfl)) hS0 ?_
    try simp only [Act.put, List.getElem_toArray, List.getElem_cons_zero, List.getElem_cons_succ, List.setIfInBounds_toArray, List.set_cons_zero, List.set_cons_succ]
    refine wpAnyE_ready (rs := [5]) (by kernel_rfl) (by simp) ?_
    refine AllReadyE.last rfl (by kernel_rfl) (fun K hK => ?_) AllReadyE.nil
    refine store_l_op _ _ _ 32 rfl 9 37 Try.underlying32 Try.underlying9 m rfl hS0.2.1 s rfl HGN.out _ rfl ?_
    intro w5 hm5 hg5 hs5
    have HW5 := Lib.hid hS0.2.2
    refine hK.out _ _ ?_
    clear hK K
    try simp only [Act.put, List.getElem_toArray, List.getElem_cons_zero, List.getElem_cons_succ, List.setIfInBounds_toArray, List.set_cons_zero, List.set_cons_succ]
    refine wpAny_of_held (S := fun _ => True) _ _ _ _ ?_
    refine wpAnyH_done (by kernel_rfl) ?_ _
    go_wp2_with fail
    first | go_end0 | refine bodyPost_ret (results_none rfl _ _ _) rfl ?_
    exact ⟨rfl, KEY.out _ _ w5 m (HI4.out.later HW5.out) (if_pos rfl) hm5 hg5 HIB.out (HG4.out.trans (GrP.ofBelow HW5.out)) HMB.out⟩
  | some m =>
    have HC4 := Lib.hid hc
    have HM4 : Hid (MapL w3 m (L.map eV)) := by
      rcases HM.out with ⟨h3, _⟩ | ⟨z, h3, h4⟩
      · cases h3
      · injection h3 with h3
        injection h3 with h3
        subst h3
        exact h4
    have HP4 := HP3
    have HMB : Hid (IxB g M m) := .inr ⟨q, hq64, by rw [HO.out]; rfl⟩
    go_wp2_with fail
    clear hc hf
    refine wp_region_E (S := fun W => (W.cell? ⟨g, q, none⟩ = some (.map (some m)) ∧ Bk W p 37 #[.int .i64 t.1, .int .i64 t.2.1, .int .i64 t.2.2]) ∧ MapL W m (L.map eV) ∧ Below w3.heap.size w3 W) 5 (by kernel_rfl) (⟨⟨HC4.out, HP4.out.drewB⟩, HM4.out, Below.drew (Below.refl _ _)⟩) (fun hS0 => ?_)
    refine wpAnyE_take (i := 0) (v := ?_) rfl (by kernel_rfl) (by kernel_rfl) (by kernel_rfl) (by kernel_rfl) (by kernel_rfl) (fun _ _ _ h => h) (Or.inl ⟨by rfl, ?_⟩) hS0 ?_
    rotate_left
    · intro W _; go_simp; try with_reducible rfl
    try simp only [Act.put, List.getElem_toArray, List.getElem_cons_zero, List.setIfInBounds_toArray, List.set_cons_zero, List.set_cons_succ]
    refine wpAnyE_take (i := 1) (v := ?_) rfl (by kernel_rfl) (by kernel_rfl) (by kernel_rfl) (by kernel_rfl) (by kernel_rfl) (fun _ _ _ h => h) (Or.inl ⟨by rfl, ?_⟩) hS0 ?_
    rotate_left
    · intro W _; go_simp; try with_reducible rfl
    try simp only [Act.put, List.getElem_toArray, List.getElem_cons_zero, List.getElem_cons_succ, List.setIfInBounds_toArray, List.set_cons_zero, List.set_cons_succ]
    refine wpAnyE_take (i := 2) (v := ?_) rfl (by kernel_rfl) (by kernel_rfl) (by kernel_rfl) (by kernel_rfl) (by kernel_rfl) (fun _ _ _ h => h) (Or.inl ⟨by rfl, ?_⟩) hS0 ?_
    rotate_left
    · intro W hSW; have hx := hSW.1.1; go_simp; try with_reducible rfl
    try simp only [Act.put, List.getElem_toArray, List.getElem_cons_zero, List.getElem_cons_succ, List.setIfInBounds_toArray, List.set_cons_zero, List.set_cons_succ]
    refine wpAnyE_take (i := 3) (v := ?_) rfl (by kernel_rfl) (by kernel_rfl) (by kernel_rfl) (by kernel_rfl) (by kernel_rfl) (fun _ _ _ h => h) (Or.inl ⟨by rfl, ?_⟩) hS0 ?_
    rotate_left
    · intro W _; go_simp; try with_reducible rfl
    try simp only [Act.put, List.getElem_toArray, List.getElem_cons_zero, List.getElem_cons_succ, List.setIfInBounds_toArray, List.set_cons_zero, List.set_cons_succ]
    refine wpAnyE_take (i := 4) (v := .agg #[.int .i64 t.1, .int .i64 t.2.1, .int .i64 t.2.2]) rfl (by kernel_rfl) (by kernel_rfl) (by kernel_rfl) (by kernel_rfl) (by kernel_rfl) (fun _ _ _ h => h) (yields_bk (by rfl) 37 _ rfl p 0 rfl 37 #[.int .i64 t.1, .int .i64 t.2.1, .int .i64 t.2.2] #[.int .i64 t.1, .int .i64 t.2.1, .int .i64 t.2.2] _ (fun W hW => hW.1.2) (Part.whole _) Try.underlying37 rfl (by kernel_rfl)) hS0 ?_
    try simp only [Act.put, List.getElem_toArray, List.getElem_cons_zero, List.getElem_cons_succ, List.setIfInBounds_toArray, List.set_cons_zero, List.set_cons_succ]
    refine wpAnyE_ready (rs := [5]) (by kernel_rfl) (by simp) ?_
    refine AllReadyE.last rfl (by kernel_rfl) (fun K hK => ?_) AllReadyE.nil
    refine store_l_op _ _ _ 32 rfl 9 37 Try.underlying32 Try.underlying9 m rfl hS0.2.1 s rfl HGN.out _ rfl ?_
    intro w5 hm5 hg5 hs5
    have HW5 := Lib.hid hS0.2.2
    refine hK.out _ _ ?_
    clear hK K
    try simp only [Act.put, List.getElem_toArray, List.getElem_cons_zero, List.getElem_cons_succ, List.setIfInBounds_toArray, List.set_cons_zero, List.set_cons_succ]
    refine wpAny_of_held (S := fun _ => True) _ _ _ _ ?_
    refine wpAnyH_done (by kernel_rfl) ?_ _
    go_wp2_with fail
    first | go_end0 | refine bodyPost_ret (results_none rfl _ _ _) rfl ?_
    exact ⟨rfl, KEY.out M _ w5 m (HI3.out.later HW5.out) HO.out hm5 hg5 (fun k hk => .inl hk) (HG3.out.trans (GrP.ofBelow HW5.out)) (.inl HMB.out)⟩
end Go.Proofs.Ytiklogoookngaaa
