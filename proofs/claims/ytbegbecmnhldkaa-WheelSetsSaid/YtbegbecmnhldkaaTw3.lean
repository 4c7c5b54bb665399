/- Layer 19: Set of a wheel. No condition. -/
import Derived.Test.YtbegbecmnhldkaaTw1
import Derived.Test.YtbegbecmnhldkaaTwm
import Derived.Test.YtbegbecmnhldkaaLat
import Derived.Test.YtbegbecmnhldkaaRge
namespace Go.Proofs.Ytbegbecmnhldkaa
open Go.RowKit
set_option linter.unusedSimpArgs false
set_option linter.unusedVariables false

theorem haltMapT {P : Program} {ops : Array Oper} {rest : List Oper} {o : Oper} {a : Act} {w : World} {Q : Exit → Act → World → Prop} (t : TypeId) (m x v : Operand) (_hop : o.op = Op.mapUpdate t m x v) (h : Hid (wpList P ops Q (o :: rest) a w)) : wpList P ops Q (o :: rest) a w := h.out
theorem getT_del (D : List NT) (s : ByteArray) : getT (delT D s) s = none := getT_none.2 fun p hp => (delT_mem.1 hp).2
set_option maxHeartbeats 6400000 in
set_option maxRecDepth 100000 in
/-- A name gets a vector. -/
theorem setT_any (b g : Nat) (M : Nat → Value) (D : List NT) (s : ByteArray) (t : Int) (w : World) (hb0 : b ≤ w.heap.size) (hH : Hid (Wx w b g M D)) : Calls Try.prog 10 #[.pointer (some ⟨g, 0, none⟩), .string s, .int .i64 t] w fun e w' => e = .returned (.tuple #[]) ∧ (∃ M', Wx w' b g M' (delT D s ++ [(s, t)]) ∧ ∀ k, WxB g M' k → WxB g M k ∨ w.heap.size ≤ k) ∧ GrP (WxB g M) w w' := by
  have KD : Hid (∀ w, Hid (Wx w b g M D) → Calls Try.prog 12 #[.pointer (some ⟨g, 0, none⟩), .string s] w fun e w' => e = .returned (.bool (getT D s).isSome) ∧ Wx w' b g M (delT D s) ∧ GrP (WxB g M) w w') := fun w h => delT_any b g M D s w h
  obtain ⟨q, hq⟩ : ∃ q, q = numT t := ⟨_, rfl⟩
  have KN : Hid (∀ w, Calls Try.prog 20 #[.int .i64 t] w fun e w' => e = .returned (.int .i64 (q : Nat)) ∧ Below w.heap.size w w') := fun w => by rw [hq]; exact (numberT_any t w).mono fun e w' h => ⟨h.1, by rw [h.2]; exact Below.refl _ _⟩
  have hq64 : q < 16 := by rw [hq]; exact numT_lt t
  have HQ := Lib.hid hq
  clear hq
  have qT : ∀ (w : World) (r : Option Nat), (binOp .eql 32 (.map r) (.map none)).run Try.prog w = .ok (.bool r.isNone) w := fun w r => run_eql_map_nil w _ _ _ r Try.underlying32
  have qM := @run_makeMap Try.prog
  go_enter Try.func10, Try.ntmps10
  go_wp2_with fail
  refine (KD.out _ hH).mono ?_
  rintro e w1 ⟨rfl, hI1, hG1⟩
  have HI1 := Lib.hid hI1
  have HG1 := Lib.hid hG1
  have hgw : g < w1.heap.size := HI1.out.bk.here
  clear hI1 hG1 KD
  have hq0 : (0 : Int) ≤ (q : Int) := by omega
  have hqi : (q : Int) < 16 := by omega
  go_wp2_with fail
  refine wp_region_later (by kernel_rfl) (by kernel_rfl) ?_; have hL : ∀ (w : World) (x : Later w) (b o : Nat), b < w.heap.size → x.to.cell? ⟨b, o, none⟩ = w.cell? ⟨b, o, none⟩ := fun w x b o hb => x.cell hb; have hN := Later.some; (repeat (go_big_quiet_step (((with_reducible exact Later.call (KN.out _)))))); refine wpQuiet_nil ?_; intro w2 hw2; have hb2 := Later.out hw2; clear hw2 hL hN
  have HI3 := Lib.hid (HI1.out.later hb2)
  obtain ⟨L, hm, hL⟩ := HI3.out.maps q hq64
  obtain ⟨o, ho⟩ := hm.val
  have hc : w2.cell? ⟨g, q, none⟩ = some (.map o) := by rw [HI3.out.cell hq64, ho]
  have hf : w2.frozen? ⟨g, q, none⟩ = false := HI3.out.bk.free q
  have HM : Hid (MapV w2 (.map o) (L.map eT)) := by rw [← ho]; exact hm
  have HO := Lib.hid ho
  have HL := Lib.hid hL
  have HGN : Hid (getL (L.map eT) s = none) := by
    show _ = _
    rw [getL_T, getT_none.2 fun p hp => (delT_mem.1 (inT_mem.1 (HL.out.mem_iff.1 hp)).1).2]; rfl
  have HB3 := Lib.hid hb2
  clear hm hL ho hb2 hgw
  have key : ∀ (M4 : Nat → Value) (w4 w5 : World) (m : Nat), Wx w4 b g M4 (delT D s) → M4 q = .map (some m) → MapL w5 m (L.map eT ++ [(s, .int .i64 t)]) → w4.grownBy w5 (some m) → (∀ k, WxB g M4 k → WxB g M k ∨ w.heap.size ≤ k) → GrP (WxB g M) w w4 → (WxB g M m ∨ w.heap.size ≤ m) →
      (∃ M', Wx w5 b g M' (delT D s ++ [(s, t)]) ∧ ∀ k, WxB g M' k → WxB g M k ∨ w.heap.size ≤ k) ∧ GrP (WxB g M) w w5 := fun M4 w4 w5 m h1 h2 h3 h4 h5 h6 h7 => by
    have hnew : ∀ p ∈ delT D s, p.1 ≠ s := fun p hp => (delT_mem.1 hp).2
    have hin : ∀ j, inT (delT D s ++ [(s, t)]) j = inT (delT D s) j ++ (if q = j then [(s, t)] else []) := fun j => by
      unfold inT
      rw [List.filter_append]
      congr 1
      rw [List.filter_cons, ← HQ.out]
      by_cases e : q = j
      · rw [if_pos (by simpa using e), if_pos e]; rfl
      · rw [if_neg (by simpa using e), if_neg e]; rfl
    have r := h1.turn hq64 (L := L ++ [(s, t)]) (E := delT D s ++ [(s, t)]) (by rw [h2]; exact h4) (by rw [h2]; exact .inr ⟨m, rfl, by rw [List.map_append]; exact h3⟩) (by rw [hin, if_pos rfl]; exact HL.out.append_right _) (fun j hj => by rw [hin, if_neg (fun e => hj e.symm), List.append_nil])
      (by
        rw [List.map_append, List.nodup_append]
        refine ⟨h1.nodup, by simp, fun a ha c hc e => ?_⟩
        obtain ⟨p, hp, rfl⟩ := List.mem_map.1 ha
        simp at hc
        exact hnew p hp (e.trans hc))
    refine ⟨⟨M4, r.1, h5⟩, ?_⟩
    have h4' : GrP (fun k => some m = some k) w4 w5 := GrP.of h4
    exact ⟨h4'.os.trans h6.os, h4'.tape.trans h6.tape, h4'.output.trans h6.output, Nat.le_trans h6.size h4'.size, fun k hk hn => (h4'.block k (Nat.lt_of_lt_of_le hk h6.size) fun e => by
      injection e with e
      subst e
      rcases h7 with h7 | h7
      · exact hn h7
      · omega).trans (h6.block k hk hn)⟩
  have KEY := Lib.hid key
  clear key
  have HG3 : Hid (GrP (WxB g M) w w2) := HG1.out.trans (GrP.ofBelow HB3.out)
  have HSZ : Hid (w.heap.size ≤ w2.heap.size) := HG3.out.size
  cases o with
  | none =>
    have hL0 : L.map eT = [] := by
      rcases HM.out with ⟨_, h⟩ | ⟨b, h, _⟩
      · exact h
      · cases h
    obtain ⟨m, hm⟩ : ∃ m, m = w2.heap.size := ⟨_, rfl⟩
    obtain ⟨W4, hW4⟩ : ∃ W, W = (w2.alloc (.map #[] 0)).setCell ⟨g, q, none⟩ (.map (some m)) := ⟨_, rfl⟩
    have hgw3 : g < w2.heap.size := HI3.out.bk.here
    have hal : Below w2.heap.size w2 (w2.alloc (.map #[] 0)) := (Below.refl _ _).alloc (Nat.le_refl _) _
    have hbka : Bk (w2.alloc (.map #[] 0)) g 35 (cT M) := HI3.out.bk.later hal
    have HI4 : Hid (Wx W4 b g (fun j => if j = q then .map (some m) else M j) (delT D s)) := by
      have hgr : GrP (fun k => k = g) (w2.alloc (.map #[] 0)) W4 := by rw [hW4]; exact GrP.set (p := fun k => k = g) (GrP.refl _ _) rfl _
      have hmm : MapL W4 m [] := (hm ▸ MapL.made w2).same (hgr.block m (by rw [hm]; simp) (by omega))
      refine ⟨by rw [← cT_set M hq64, hW4]; exact hbka.put q _, fun i hi => ?_, fun i j hi hj hij k h1 h2 => ?_, fun k hk => ?_, HI3.out.nodup⟩
      · by_cases e : i = q
        · subst e
          refine ⟨L, ?_, HL.out⟩
          show MapV W4 (if i = i then .map (some m) else M i) _
          rw [if_pos rfl, hL0]
          exact .inr ⟨m, rfl, hmm⟩
        · obtain ⟨L2, h1, h2⟩ := HI3.out.maps i hi
          refine ⟨L2, ?_, h2⟩
          show MapV W4 (if i = q then .map (some m) else M i) _
          rw [if_neg e]
          refine (h1.later hal).grpT hgr fun k hk e2 => ?_
          subst e2
          rcases h1 with ⟨h3, _⟩ | ⟨z, h3, h4⟩
          · rw [h3] at hk; cases hk
          · rw [h3] at hk
            injection hk with hk
            subst hk
            obtain ⟨es, clock, h5⟩ := h4.here
            have := HI3.out.bk.symm.trans h5
            cases this
      · have h1 : mapBlock (if i = q then .map (some m) else M i) = some k := h1
        have h2 : mapBlock (if j = q then .map (some m) else M j) = some k := h2
        by_cases e1 : i = q
        · rw [if_pos e1] at h1
          injection h1 with h1
          rw [if_neg (fun e2 => hij (e1.trans e2.symm))] at h2
          have := (HI3.out.blk (.inr ⟨j, hj, h2⟩)).2
          omega
        · rw [if_neg e1] at h1
          by_cases e2 : j = q
          · rw [if_pos e2] at h2
            injection h2 with h2
            have := (HI3.out.blk (.inr ⟨i, hi, h1⟩)).2
            omega
          · rw [if_neg e2] at h2
            exact HI3.out.apart i j hi hj hij k h1 h2
      · rcases hk with rfl | ⟨i, hi, h1⟩
        · exact HI3.out.low _ (.inl rfl)
        · have h1 : mapBlock (if i = q then .map (some m) else M i) = some k := h1
          by_cases e1 : i = q
          · rw [if_pos e1] at h1
            injection h1 with h1
            have := HSZ.out; omega
          · rw [if_neg e1] at h1
            exact HI3.out.low _ (.inr ⟨i, hi, h1⟩)
    have HC4 : Hid (W4.cell? ⟨g, q, none⟩ = some (.map (some m))) := by show _ = _; rw [HI4.out.cell hq64, if_pos rfl]
    have HM4 : Hid (MapL W4 m (L.map eT)) := by
      obtain ⟨L2, h1, h2⟩ := HI4.out.maps q hq64
      have h1 : MapV W4 (if q = q then .map (some m) else M q) (L2.map eT) := h1
      rw [if_pos rfl] at h1
      rcases h1 with ⟨h3, _⟩ | ⟨z, h3, h4⟩
      · cases h3
      · injection h3 with h3
        injection h3 with h3
        subst h3
        have : L2.Perm L := h2.trans HL.out.symm
        have hL1 : L = [] := List.map_eq_nil_iff.1 hL0
        rw [hL1] at this
        rw [List.Perm.eq_nil this] at h4
        rw [hL0]; exact h4
    have HG4 : Hid (GrP (WxB g M) w W4) := by
      rw [hW4]
      exact (HG3.out.trans (GrP.ofBelow hal)).set (.inl rfl) _
    have HIB : Hid (∀ k, WxB g (fun j => if j = q then .map (some m) else M j) k → WxB g M k ∨ w.heap.size ≤ k) := fun k hk => by
      rcases hk with rfl | ⟨i, hi, h1⟩
      · exact .inl (.inl rfl)
      · have h1 : mapBlock (if i = q then .map (some m) else M i) = some k := h1
        by_cases e1 : i = q
        · rw [if_pos e1] at h1
          injection h1 with h1
          have := HSZ.out
          exact .inr (by omega)
        · rw [if_neg e1] at h1
          exact .inl (.inr ⟨i, hi, h1⟩)
    have HMB : Hid (WxB g M m ∨ w.heap.size ≤ m) := .inr (by rw [hm]; exact HSZ.out)
    clear hal hbka hL0
    have hW5 : W4 = (w2.setCell ⟨g, q, none⟩ (.map (some m))).alloc (.map #[] 0) := by rw [hW4]; exact World.setCell_alloc_past _ _ _ _ hgw3
    clear hW4
    go_wp2_with (with_reducible refine haltMapT _ _ _ _ rfl ?_)
    rw [← hm, ← hW5]
    clear hW5 hc hf hgw3 hm
    refine Lib.hid ?_
    have hcc : W4.cell? ⟨g, q, none⟩ = some (.map (some m)) := HC4.out
    ((with_reducible refine store_t rfl _ _ _ 32 rfl 9 3 Try.underlying32 Try.underlying9 m rfl HM4.out s rfl HGN.out _ rfl rfl ?_); intro w5 hm5 hg5 hs5)
    go_wp2_with fail
    first | go_end0 | refine bodyPost_ret (results_none rfl _ _ _) rfl ?_
    exact ⟨rfl, KEY.out _ _ w5 m HI4.out (if_pos rfl) hm5 hg5 HIB.out HG4.out HMB.out⟩
  | some m =>
    have HC4 := Lib.hid hc
    have HM4 : Hid (MapL w2 m (L.map eT)) := by
      rcases HM.out with ⟨h3, _⟩ | ⟨z, h3, h4⟩
      · cases h3
      · injection h3 with h3
        injection h3 with h3
        subst h3
        exact h4
    have HMB : Hid (WxB g M m) := .inr ⟨q, hq64, by rw [HO.out]; rfl⟩
    have hcc : w2.cell? ⟨g, q, none⟩ = some (.map (some m)) := HC4.out
    go_wp2_with ((with_reducible refine store_t rfl _ _ _ 32 rfl 9 3 Try.underlying32 Try.underlying9 m rfl HM4.out s rfl HGN.out _ rfl rfl ?_); intro w5 hm5 hg5 hs5)
    first | go_end0 | refine bodyPost_ret (results_none rfl _ _ _) rfl ?_
    exact ⟨rfl, KEY.out M _ w5 m HI3.out HO.out hm5 hg5 (fun k hk => .inl hk) HG3.out (.inl HMB.out)⟩
end Go.Proofs.Ytbegbecmnhldkaa
