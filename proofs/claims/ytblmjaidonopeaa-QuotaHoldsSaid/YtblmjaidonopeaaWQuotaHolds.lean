/- The walk of QuotaHolds. No condition beyond the form's own. -/
import Derived.Test.YtblmjaidonopeaaQh
import Derived.Test.YtblmjaidonopeaaQb
import Derived.Test.YtblmjaidonopeaaQk
import Derived.Test.YtblmjaidonopeaaLat
import Derived.Deep.RegionHeld3
namespace Go.Proofs.Ytblmjaidonopeaa
open Go.RowKit
set_option linter.unusedSimpArgs false
set_option linter.unusedVariables false
namespace quotaHolds
theorem RdJ.at_later {w : World} (x : Later w) {A : Option Addr} {l : List Jb} (h : RdJ w A l) : RdJ x.to A l := h.later x.below

set_option maxHeartbeats 12800000 in
set_option maxRecDepth 100000 in
theorem walk (nm : ByteArray) (a b c : Int) (A : Option Addr) (n cap : Nat) (l : List V3) (w : World) (hnm : nm.size ≤ 140737488351232) (hn : n = l.length) (hnl : n ≤ 9223372036854775807) (hA : RdV w A l) :
    Calls Try.prog 4 #[.agg #[.string nm, .int .i64 a, .int .i64 b, .int .i64 c], .slice A n cap] w fun r w' => r = .returned (.bool true) ∧ Below w.heap.size w w' := by
  have HN := Lib.hid hn; clear hn
  have HA := Lib.hid hA; clear hA
  by_cases h1 : 300 < n
  · go_enter Try.func4, Try.ntmps4
    have hQ0 : Bk (w.alloc (.cells #[.string nm, .int .i64 a, .int .i64 b, .int .i64 c] 26)) w.heap.size 26 #[.string nm, .int .i64 a, .int .i64 b, .int .i64 c] := Bk.fresh w _ _
    have HQ0 := Lib.hid hQ0; clear hQ0
    have hB0 : Below w.heap.size w (w.alloc (.cells #[.string nm, .int .i64 a, .int .i64 b, .int .i64 c] 26)) := (Below.refl _ _).alloc (Nat.le_refl _) _
    go_wp2_with fail
    refine (awake_any _).mono ?_; rintro r w1 ⟨rfl, hb1⟩
    have hB1 : Below w.heap.size w w1 := hB0.trans (hb1.mono hB0.size)
    have HQ1 := Lib.hid (HQ0.out.later hb1); clear HQ0
    have cnm : w1.cell? ⟨w.heap.size, 0, none⟩ = some (.string nm) := HQ1.out.cellAt 0
    have hz1 : w.heap.size < w1.heap.size := HQ1.out.here
    go_wp2_with fail
    refine (awake_any _).mono ?_; rintro r w2 ⟨rfl, hb2⟩
    go_wp2_with fail
    go_ret
    exact ⟨rfl, hB1.trans (hb2.mono hB1.size)⟩
  by_cases h2 : 1000 < nm.size
  · have h1' : decide (300 < (n : Int)) = false := by rw [decide_eq_false_iff_not]; omega
    go_enter Try.func4, Try.ntmps4
    have hQ0 : Bk (w.alloc (.cells #[.string nm, .int .i64 a, .int .i64 b, .int .i64 c] 26)) w.heap.size 26 #[.string nm, .int .i64 a, .int .i64 b, .int .i64 c] := Bk.fresh w _ _
    have HQ0 := Lib.hid hQ0; clear hQ0
    have hB0 : Below w.heap.size w (w.alloc (.cells #[.string nm, .int .i64 a, .int .i64 b, .int .i64 c] 26)) := (Below.refl _ _).alloc (Nat.le_refl _) _
    go_wp2_with fail
    refine (awake_any _).mono ?_; rintro r w1 ⟨rfl, hb1⟩
    have hB1 : Below w.heap.size w w1 := hB0.trans (hb1.mono hB0.size)
    have HQ1 := Lib.hid (HQ0.out.later hb1); clear HQ0
    have cnm : w1.cell? ⟨w.heap.size, 0, none⟩ = some (.string nm) := HQ1.out.cellAt 0
    have hz1 : w.heap.size < w1.heap.size := HQ1.out.here
    go_wp2_with fail
    refine (awake_any _).mono ?_; rintro r w2 ⟨rfl, hb2⟩
    go_wp2_with fail
    go_ret
    exact ⟨rfl, hB1.trans (hb2.mono hB1.size)⟩
  have h1' : decide (300 < (n : Int)) = false := by rw [decide_eq_false_iff_not]; omega
  have h2' : decide (1000 < (nm.size : Int)) = false := by rw [decide_eq_false_iff_not]; omega

  go_enter Try.func4, Try.ntmps4
  have hQ0 : Bk (w.alloc (.cells #[.string nm, .int .i64 a, .int .i64 b, .int .i64 c] 26)) w.heap.size 26 #[.string nm, .int .i64 a, .int .i64 b, .int .i64 c] := Bk.fresh w _ _
  have HQ0 := Lib.hid hQ0; clear hQ0
  have hB0 : Below w.heap.size w (w.alloc (.cells #[.string nm, .int .i64 a, .int .i64 b, .int .i64 c] 26)) := (Below.refl _ _).alloc (Nat.le_refl _) _
  go_wp2_with fail
  refine (awake_any _).mono ?_; rintro r w1 ⟨rfl, hb1⟩
  have hB1 : Below w.heap.size w w1 := hB0.trans (hb1.mono hB0.size)
  have HQ1 := Lib.hid (HQ0.out.later hb1); clear HQ0
  have cnm : w1.cell? ⟨w.heap.size, 0, none⟩ = some (.string nm) := HQ1.out.cellAt 0
  have hz1 : w.heap.size < w1.heap.size := HQ1.out.here
  go_wp2_with fail
  clear cnm hz1
  go_loopw [5, 27] (fun v i wr => ∃ (k : Nat) (M : List V3) (x y z : Int), k ≤ n ∧ i = .int .i64 k ∧ M.length ≤ k ∧ Hid (sm 0 0 0 M = (x, y, z, 0)) ∧ Hid (OwnK wr (w.heap.size + 1) 41 13 v (cellsJ (M.map (jbOf nm)))) ∧ Hid (Bk wr w.heap.size 26 #[.string nm, .int .i64 a, .int .i64 b, .int .i64 c]) ∧ Below w.heap.size w wr) (fun _ i wr => n - (intOf i).toNat)
  case atStart => exact ⟨0, [], 0, 0, 0, Nat.zero_le _, rfl, Nat.le_refl _, (show sm 0 0 0 [] = _ from rfl), (show OwnK _ _ _ _ _ (cellsJ (([] : List V3).map (jbOf nm))) from OwnK.nil _ _ _ _), HQ1, hB1⟩
  case round =>
    clear HQ1 hB1 hb1
    obtain ⟨k, M, x, y, z, hk, rfl, hMk, HS, HO, HQ2, hb⟩ := hrel
    have lt0 : w.heap.size < wr.heap.size := HQ2.out.here
    by_cases hlt : k < n
    · have hlk : k < l.length := by have := HN.out; omega
      obtain ⟨t, ht⟩ : ∃ t, l[k]? = some t := ⟨l[k], List.getElem?_eq_getElem hlk⟩
      obtain ⟨g, o, rfl, c0, c1, c2⟩ := (HA.out.below hb) k t ht
      obtain ⟨d, e, f⟩ := t
      have lg : g < wr.heap.size := World.block_lt_of_cell? wr _ c0
      have HT := Lib.hid ht; clear ht
      simp only at c0 c1 c2
      obtain ⟨js, hjs⟩ : ∃ js, js = M.map (jbOf nm) := ⟨_, rfl⟩
      have HO1 := HO.out
      rw [← hjs] at HO1
      obtain ⟨A', c', hv, hr, hc', hc2'⟩ := HO1.rdj
      obtain ⟨m, hm⟩ : ∃ m, m = js.length := ⟨_, rfl⟩
      rw [← hm] at hv hc'
      subst hv
      have hmk : m ≤ k := by rw [hm, hjs, List.length_map]; exact hMk
      have HMJ : Hid (m = (cellsJ js).length) := by show _ = _; rw [cellsJ_length]; exact hm
      have HM := Lib.hid hm
      have hU1 : sm 0 0 0 (ofQ nm js) = (x, y, z, 0) := by rw [hjs, ofQ_jbOf]; exact HS.out
      obtain ⟨u2, hu2⟩ : ∃ u, sm 0 0 0 (M ++ [(d, e, f)]) = u := ⟨_, rfl⟩
      obtain ⟨x2, y2, z2, f2⟩ := u2
      have hU2 : sm 0 0 0 (ofQ nm (js ++ [jbOf nm (d, e, f)])) = (x2, y2, z2, f2) := by rw [show js ++ [jbOf nm (d, e, f)] = (M ++ [(d, e, f)]).map (jbOf nm) by rw [hjs]; simp, ofQ_jbOf]; exact hu2
      obtain ⟨T, hT⟩ : ∃ T, adm nm a b c d e f x y z 0 = T := ⟨_, rfl⟩
      have hcase := holds_is HS.out hu2 hT
      obtain ⟨m2, hm2⟩ : ∃ m2, m2 = (js ++ [jbOf nm (d, e, f)]).length := ⟨_, rfl⟩
      have hm2l : m2 ≤ 301 := by rw [hm2, List.length_append]; simp; omega
      have hjl : js.length ≤ 300 := by omega
      have HJ0 := Lib.hid hr; clear hr
      have HOJ := Lib.hid HO1; clear HO1
      have HU1 := Lib.hid hU1; have HU2 := Lib.hid hU2; have HUM := Lib.hid hu2; have HC := Lib.hid hcase; have HM2 := Lib.hid hm2; have HJS0 := Lib.hid hjs
      clear hU1 hU2 hu2 hcase hm2 hm HO hjs
      have k1 : ∀ y' : Later wr, Calls Try.prog 10 #[.agg #[.string nm, .int .i64 a, .int .i64 b, .int .i64 c], .slice A' m c', .agg #[.int .i64 d, .int .i64 e, .int .i64 f]] y'.to fun r w' => r = .returned (.int .i64 T) ∧ Below y'.to.heap.size y'.to w' := fun y' => hT ▸ admit_any nm a b c A' m c' js d e f y'.to HM (by omega) (Lib.hid (RdJ.at_later y' HJ0.out)) (by omega) _ _ _ _ HU1
      have K1 := Lib.hid k1; clear k1 hT
      have cnm : wr.cell? ⟨w.heap.size, 0, none⟩ = some (.string nm) := HQ2.out.cellAt 0
      have q0 : wr.cell? ⟨w.heap.size, 1, none⟩ = some (.int .i64 a) := HQ2.out.cellAt 1
      have q1 : wr.cell? ⟨w.heap.size, 2, none⟩ = some (.int .i64 b) := HQ2.out.cellAt 2
      have q2 : wr.cell? ⟨w.heap.size, 3, none⟩ = some (.int .i64 c) := HQ2.out.cellAt 3
      go_wp2_with fail
      refine wp_region_later (by kernel_rfl) (by kernel_rfl) ?_; have hL : ∀ (w : World) (x : Later w) (b o : Nat), b < w.heap.size → x.to.cell? ⟨b, o, none⟩ = w.cell? ⟨b, o, none⟩ := fun w x b o hb => x.cell hb; have hN := Later.some; (repeat (go_big_quiet_step (((go_at_call 10; (with_reducible exact Later.call (K1.out _))))))); refine wpQuiet_nil ?_; intro w2 hw2; have hb2 := Later.out hw2; clear hw2 hL hN
      have hB2 : Below w.heap.size w w2 := hb.trans (hb2.mono hb.size)
      have HQ3 := Lib.hid (HQ2.out.later hb2)
      have d0 := (hb2.cell (p := ⟨g, o + k * 3, none⟩) lg).trans c0
      have d1 := (hb2.cell (p := ⟨g, o + k * 3 + 1, none⟩) lg).trans c1
      have d2 := (hb2.cell (p := ⟨g, o + k * 3 + 2, none⟩) lg).trans c2
      have lg2 : g < w2.heap.size := Nat.lt_of_lt_of_le lg hb2.size
      have lt2 : w.heap.size < w2.heap.size := HQ3.out.here
      clear K1 cnm q0 q1 q2 c0 c1 c2
      have cnm : w2.cell? ⟨w.heap.size, 0, none⟩ = some (.string nm) := HQ3.out.cellAt 0
      go_wp2_with fail
      refine wp_region_held_drew (S := fun W => Below w2.heap.size w2 W) (by kernel_rfl) (Below.drew (Below.refl _ _)) (fun hS0 => ?_)
      refine wpAnyH_take (i := 0) (v := ?_) rfl (by kernel_rfl) (by kernel_rfl) (by kernel_rfl) (fun _ _ _ h => h) (Or.inl ⟨by rfl, ?_⟩) hS0 ?_
      rotate_left
      · intro W _; go_simp; try with_reducible rfl
      try simp only [Act.put, List.getElem_toArray, List.getElem_cons_zero, List.setIfInBounds_toArray, List.set_cons_zero, List.set_cons_succ]
      refine wpAnyH_take (i := 1) (v := ?_) rfl (by kernel_rfl) (by kernel_rfl) (by kernel_rfl) (fun _ _ _ h => h) (Or.inl ⟨by rfl, ?_⟩) hS0 ?_
      rotate_left
      · intro W hSW; have hx : ∀ b o, b < w2.heap.size → W.cell? ⟨b, o, none⟩ = w2.cell? ⟨b, o, none⟩ := fun b o h => hSW.cell (p := ⟨b, o, none⟩) h; go_simp; try with_reducible rfl
      try simp only [Act.put, List.getElem_toArray, List.getElem_cons_zero, List.getElem_cons_succ, List.setIfInBounds_toArray, List.set_cons_zero, List.set_cons_succ]
      refine wpAnyH_take (i := 2) (v := ?_) rfl (by kernel_rfl) (by kernel_rfl) (by kernel_rfl) (fun _ _ _ h => h) (Or.inl ⟨by rfl, ?_⟩) hS0 ?_
      rotate_left
      · intro W _; go_simp; try with_reducible rfl
      try simp only [Act.put, List.getElem_toArray, List.getElem_cons_zero, List.getElem_cons_succ, List.setIfInBounds_toArray, List.set_cons_zero, List.set_cons_succ]
      refine wpAnyH_take (i := 3) (v := ?_) rfl (by kernel_rfl) (by kernel_rfl) (by kernel_rfl) (fun _ _ _ h => h) (Or.inl ⟨by rfl, ?_⟩) hS0 ?_
      rotate_left
      · intro W _; go_simp; try with_reducible rfl
      try simp only [Act.put, List.getElem_toArray, List.getElem_cons_zero, List.getElem_cons_succ, List.setIfInBounds_toArray, List.set_cons_zero, List.set_cons_succ]
      refine wpAnyH_take (i := 4) (v := ?_) rfl (by kernel_rfl) (by kernel_rfl) (by kernel_rfl) (fun _ _ _ h => h) (Or.inl ⟨by rfl, ?_⟩) hS0 ?_
      rotate_left
      · intro W _; go_simp; try with_reducible rfl
      try simp only [Act.put, List.getElem_toArray, List.getElem_cons_zero, List.getElem_cons_succ, List.setIfInBounds_toArray, List.set_cons_zero, List.set_cons_succ]
      refine wpAnyH_take (i := 5) (v := ?_) rfl (by kernel_rfl) (by kernel_rfl) (by kernel_rfl) (fun _ _ _ h => h) (Or.inl ⟨by rfl, ?_⟩) hS0 ?_
      rotate_left
      · intro W hSW; have hx : ∀ b o, b < w2.heap.size → W.cell? ⟨b, o, none⟩ = w2.cell? ⟨b, o, none⟩ := fun b o h => hSW.cell (p := ⟨b, o, none⟩) h; go_simp; try with_reducible rfl
      try simp only [Act.put, List.getElem_toArray, List.getElem_cons_zero, List.getElem_cons_succ, List.setIfInBounds_toArray, List.set_cons_zero, List.set_cons_succ]
      refine wpAnyH_take (i := 6) (v := ?_) rfl (by kernel_rfl) (by kernel_rfl) (by kernel_rfl) (fun _ _ _ h => h) (Or.inl ⟨by rfl, ?_⟩) hS0 ?_
      rotate_left
      · intro W _; go_simp; try with_reducible rfl
      try simp only [Act.put, List.getElem_toArray, List.getElem_cons_zero, List.getElem_cons_succ, List.setIfInBounds_toArray, List.set_cons_zero, List.set_cons_succ]
      refine wpAnyH_take (i := 7) (v := ?_) rfl (by kernel_rfl) (by kernel_rfl) (by kernel_rfl) (fun _ _ _ h => h) (Or.inl ⟨by rfl, ?_⟩) hS0 ?_
      rotate_left
      · intro W _; go_simp; try with_reducible rfl
      try simp only [Act.put, List.getElem_toArray, List.getElem_cons_zero, List.getElem_cons_succ, List.setIfInBounds_toArray, List.set_cons_zero, List.set_cons_succ]
      refine wpAnyH_ready (rs := [8]) (by kernel_rfl) (by simp) ?_
      refine AllReadyH.cons rfl (fun K hK => ?_) AllReadyH.nil
      refine jcell_op rfl ?_
      intro g8 w3 hg8 hZ8 hbl
      have hg8' : w2.heap.size ≤ g8 := by have := hS0.size; omega
      refine hK.out _ _ (hS0.trans (hbl.mono hS0.size)) (fun hS1 => ?_)
      clear hK K
      try simp only [Act.put, List.getElem_toArray, List.getElem_cons_zero, List.getElem_cons_succ, List.setIfInBounds_toArray, List.set_cons_zero, List.set_cons_succ]
      refine wpAnyH_ready (rs := [9]) (by kernel_rfl) (by simp) ?_
      refine AllReadyH.cons rfl (fun K hK => ?_) AllReadyH.nil
      refine store_bk_op 41 (.tmp 8) (.tmp 44) rfl g8 0 #[.string ⟨#[]⟩, .string nm, .int .i64 0, .int .i64 d, .int .i64 e, .int .i64 f, .slice none 0 0, .string ⟨#[]⟩, .string ⟨#[]⟩, .int .i64 0, .int .i64 0, .string ⟨#[]⟩, .int .i64 0] rfl rfl 41 #[.string ⟨#[]⟩, .string ⟨#[]⟩, .int .i64 0, .int .i64 0, .int .i64 0, .int .i64 0, .slice none 0 0, .string ⟨#[]⟩, .string ⟨#[]⟩, .int .i64 0, .int .i64 0, .string ⟨#[]⟩, .int .i64 0] #[.string ⟨#[]⟩, .string nm, .int .i64 0, .int .i64 d, .int .i64 e, .int .i64 f, .slice none 0 0, .string ⟨#[]⟩, .string ⟨#[]⟩, .int .i64 0, .int .i64 0, .string ⟨#[]⟩, .int .i64 0] hZ8 (by kernel_rfl) (by simp) (by kernel_rfl) rfl ?_
      intro w4 hJ8 hg4 hs4
      clear hs4
      refine hK.out _ _ (hS1.trans (grown_base hg4 hS1.size (by intro kk ee; cases ee; exact hg8'))) (fun hS2 => ?_)
      clear hK K
      try simp only [Act.put, List.getElem_toArray, List.getElem_cons_zero, List.getElem_cons_succ, List.setIfInBounds_toArray, List.set_cons_zero, List.set_cons_succ]
      refine wpAnyH_done (by kernel_rfl) ?_ _
      have hb4 : Below w2.heap.size w2 w4 := hS2
      have HJ8 := Lib.hid hJ8
      clear hS0 hS1 hS2 hbl hZ8 hg8 hg4 hJ8 cnm d0 d1 d2
      have hB4 : Below w.heap.size w w4 := hB2.trans (hb4.mono hB2.size)
      have HQ4 := Lib.hid (HQ3.out.later hb4); clear HQ3
      have HJS := Lib.hid ((HJ0.out.later hb2).later hb4)
      have cnm : w4.cell? ⟨w.heap.size, 0, none⟩ = some (.string nm) := HQ4.out.cellAt 0
      have lt4 : w.heap.size < w4.heap.size := HQ4.out.here
      go_upto_region 9 with fail
      go_cut [9, 10] (fun s9 s10 wx => ∃ g9 : Nat, s9 = .pointer (some ⟨g9, 0, none⟩) ∧ s10 = .int .i64 f2 ∧ Below w4.heap.size w4 wx ∧ Bk wx g9 24 #[.int .i64 x2, .int .i64 y2, .int .i64 z2])
      case first =>
        refine wp_region_held_drew (S := fun W => Below w4.heap.size w4 W) (by kernel_rfl) (Below.drew (Below.refl _ _)) (fun hS0 => ?_)
        refine wpAnyH_take (i := 1) (v := ?_) rfl (by kernel_rfl) (by kernel_rfl) (by kernel_rfl) (fun _ _ _ h => h) (Or.inl ⟨by rfl, ?_⟩) hS0 ?_
        rotate_left
        · intro W _; go_simp; try with_reducible rfl
        try simp only [Act.put, List.getElem_toArray, List.getElem_cons_zero, List.getElem_cons_succ, List.setIfInBounds_toArray, List.set_cons_zero, List.set_cons_succ]
        refine wpAnyH_take (i := 3) (v := .agg #[.string ⟨#[]⟩, .string nm, .int .i64 0, .int .i64 d, .int .i64 e, .int .i64 f, .slice none 0 0, .string ⟨#[]⟩, .string ⟨#[]⟩, .int .i64 0, .int .i64 0, .string ⟨#[]⟩, .int .i64 0]) rfl (by kernel_rfl) (by kernel_rfl) (by kernel_rfl) (fun _ _ _ h => h) (yields_bk rfl 41 _ rfl g8 0 rfl 41 #[.string ⟨#[]⟩, .string nm, .int .i64 0, .int .i64 d, .int .i64 e, .int .i64 f, .slice none 0 0, .string ⟨#[]⟩, .string ⟨#[]⟩, .int .i64 0, .int .i64 0, .string ⟨#[]⟩, .int .i64 0] #[.string ⟨#[]⟩, .string nm, .int .i64 0, .int .i64 d, .int .i64 e, .int .i64 f, .slice none 0 0, .string ⟨#[]⟩, .string ⟨#[]⟩, .int .i64 0, .int .i64 0, .string ⟨#[]⟩, .int .i64 0] _ (fun W hW => HJ8.out.later hW) (Part.whole _) Try.underlying41 rfl (by kernel_rfl)) hS0 ?_
        try simp only [Act.put, List.getElem_toArray, List.getElem_cons_zero, List.getElem_cons_succ, List.setIfInBounds_toArray, List.set_cons_zero, List.set_cons_succ]
        refine wpAnyH_take (i := 6) (v := ?_) rfl (by kernel_rfl) (by kernel_rfl) (by kernel_rfl) (fun _ _ _ h => h) (Or.inl ⟨by rfl, ?_⟩) hS0 ?_
        rotate_left
        · intro W _; go_simp; try with_reducible rfl
        try simp only [Act.put, List.getElem_toArray, List.getElem_cons_zero, List.getElem_cons_succ, List.setIfInBounds_toArray, List.set_cons_zero, List.set_cons_succ]
        refine wpAnyH_take (i := 7) (v := ?_) rfl (by kernel_rfl) (by kernel_rfl) (by kernel_rfl) (fun _ _ _ h => h) (Or.inl ⟨by rfl, ?_⟩) hS0 ?_
        rotate_left
        · intro W hSW; have hx : ∀ b o, b < w4.heap.size → W.cell? ⟨b, o, none⟩ = w4.cell? ⟨b, o, none⟩ := fun b o h => hSW.cell (p := ⟨b, o, none⟩) h; go_simp; try with_reducible rfl
        try simp only [Act.put, List.getElem_toArray, List.getElem_cons_zero, List.getElem_cons_succ, List.setIfInBounds_toArray, List.set_cons_zero, List.set_cons_succ]
        refine wpAnyH_ready (rs := [0, 4, 12]) (by kernel_rfl) (by simp) ?_
        refine (AllReadyH.cons rfl (fun K hK => ?_) (AllReadyH.cons rfl (fun K hK => ?_) (AllReadyH.cons rfl (fun K hK => ?_) AllReadyH.nil)))
        · refine none_op rfl ?_
          intro g46 v1 hg46 hE hbl
          have hg46' : w4.heap.size ≤ g46 := by have := hS0.size; omega
          have HE1 := Lib.hid hE; clear hE hg46
          refine hK.out _ _ (hS0.trans (hbl.mono hS0.size)) (fun hS1 => ?_)
          clear hK K
          try simp only [Act.put, List.getElem_toArray, List.getElem_cons_zero, List.getElem_cons_succ, List.setIfInBounds_toArray, List.set_cons_zero, List.set_cons_succ]
          refine wpAnyH_ready (rs := [2, 4, 12]) (by kernel_rfl) (by simp) ?_
          refine (AllReadyH.cons rfl (fun K hK => ?_) (AllReadyH.cons rfl (fun K hK => ?_) (AllReadyH.cons rfl (fun K hK => ?_) AllReadyH.nil)))
          · refine append_kn_op _ (.tmp 46) (.tmp 47) 22 rfl w4.heap.size 41 _ 13 160 Try.underlying22 infoJ rfl (by omega) (.slice (some ⟨g46, 0, none⟩) 0 0) [] rfl (OwnK.of_empty HE1.out hg46') A' c' m (cellsJ js) rfl (RdK.later HJS.out hS1) (cellsJ_k _) (cellsJ_one _) HMJ.out (by simp [cellsJ, maxLen]; omega) (by simp [cellsJ, maxLen]; omega) hS1.size ?_
            intro u48 v2 hV hgr
            have HV2 := Lib.hid (show OwnK _ _ _ _ _ (cellsJ js) from hV); clear hV
            have hbl : Below w4.heap.size _ v2 := grown_base hgr hS1.size (by intro kk ee; cases ee; exact hg46')
            clear HE1 hgr
            refine hK.out _ _ (hS1.trans hbl) (fun hS2 => ?_)
            clear hK K
            try simp only [Act.put, List.getElem_toArray, List.getElem_cons_zero, List.getElem_cons_succ, List.setIfInBounds_toArray, List.set_cons_zero, List.set_cons_succ]
            refine wpAnyH_ready (rs := [4, 12]) (by kernel_rfl) (by simp) ?_
            refine (AllReadyH.cons rfl (fun K hK => ?_) (AllReadyH.cons rfl (fun K hK => ?_) AllReadyH.nil))
            · refine one_op 49 #[.string ⟨#[]⟩, .string nm, .int .i64 0, .int .i64 d, .int .i64 e, .int .i64 f, .slice none 0 0, .string ⟨#[]⟩, .string ⟨#[]⟩, .int .i64 0, .int .i64 0, .string ⟨#[]⟩, .int .i64 0] rfl rfl rfl ?_
              intro g50 v3 hg50 hF hbl
              have HF3 := Lib.hid hF; clear hF hg50
              have HV3 := Lib.hid (HV2.out.below hbl); clear HV2
              refine hK.out _ _ (hS2.trans (hbl.mono hS2.size)) (fun hS3 => ?_)
              clear hK K
              try simp only [Act.put, List.getElem_toArray, List.getElem_cons_zero, List.getElem_cons_succ, List.setIfInBounds_toArray, List.set_cons_zero, List.set_cons_succ]
              refine wpAnyH_ready (rs := [5, 12]) (by kernel_rfl) (by simp) ?_
              refine (AllReadyH.cons rfl (fun K hK => ?_) (AllReadyH.cons rfl (fun K hK => ?_) AllReadyH.nil))
              · refine append_k_op _ (.tmp 48) (.tmp 50) 22 rfl w4.heap.size 41 _ 13 160 Try.underlying22 infoJ rfl (by omega) u48 (cellsJ js) rfl HV3.out ⟨g50, 0, none⟩ 1 1 (cellsJ [jbOf nm (d, e, f)]) rfl (RdK.of_bk HF3.out) (cellsJ_k _) (cellsJ_one _) rfl (by simp [cellsJ, maxLen]; omega) (by simp [cellsJ, maxLen]; omega) hS3.size ?_
                intro u51 v4 hO hgr
                rw [← cellsJ_append] at hO
                obtain ⟨A2, c2, hv2, hr2, hc3, hc4⟩ := hO.rdj
                rw [← HM2.out] at hv2 hc3
                subst hv2
                have HR4 := Lib.hid hr2; clear hr2 hO
                have hbl : Below w4.heap.size _ v4 := grown_base hgr hS3.size HV3.out.block
                clear HV3 HF3 hgr
                refine hK.out _ _ (hS3.trans hbl) (fun hS4 => ?_)
                clear hK K
                try simp only [Act.put, List.getElem_toArray, List.getElem_cons_zero, List.getElem_cons_succ, List.setIfInBounds_toArray, List.set_cons_zero, List.set_cons_succ]
                refine wpAnyH_ready (rs := [8, 12]) (by kernel_rfl) (by simp) ?_
                refine (AllReadyH.cons rfl (fun K hK => ?_) (AllReadyH.cons rfl (fun K hK => ?_) AllReadyH.nil))
                · go_simp
                  refine (used_any A2 m2 c2 (js ++ [jbOf nm (d, e, f)]) nm _ HM2 (by omega) HR4 x2 y2 z2 f2 HU2).mono ?_
                  rintro r v5 ⟨rfl, hbl⟩
                  go_simp
                  clear HR4
                  refine hK.out _ _ (hS4.trans (hbl.mono hS4.size)) (fun hS5 => ?_)
                  clear hK K
                  try simp only [Act.put, List.getElem_toArray, List.getElem_cons_zero, List.getElem_cons_succ, List.setIfInBounds_toArray, List.set_cons_zero, List.set_cons_succ]
                  refine wpAnyH_take (i := 9) (v := ?_) rfl (by kernel_rfl) (by kernel_rfl) (by kernel_rfl) (fun _ _ _ h => h) (Or.inl ⟨by rfl, ?_⟩) hS5 ?_
                  rotate_left
                  · intro W _; go_simp; try with_reducible rfl
                  try simp only [Act.put, List.getElem_toArray, List.getElem_cons_zero, List.getElem_cons_succ, List.setIfInBounds_toArray, List.set_cons_zero, List.set_cons_succ]
                  refine wpAnyH_take (i := 10) (v := ?_) rfl (by kernel_rfl) (by kernel_rfl) (by kernel_rfl) (fun _ _ _ h => h) (Or.inl ⟨by rfl, ?_⟩) hS5 ?_
                  rotate_left
                  · intro W _; go_simp; try with_reducible rfl
                  try simp only [Act.put, List.getElem_toArray, List.getElem_cons_zero, List.getElem_cons_succ, List.setIfInBounds_toArray, List.set_cons_zero, List.set_cons_succ]
                  refine wpAnyH_take (i := 11) (v := ?_) rfl (by kernel_rfl) (by kernel_rfl) (by kernel_rfl) (fun _ _ _ h => h) (Or.inl ⟨by rfl, ?_⟩) hS5 ?_
                  rotate_left
                  · intro W _; go_simp; try with_reducible rfl
                  try simp only [Act.put, List.getElem_toArray, List.getElem_cons_zero, List.getElem_cons_succ, List.setIfInBounds_toArray, List.set_cons_zero, List.set_cons_succ]
                  refine wpAnyH_ready (rs := [12]) (by kernel_rfl) (by simp) ?_
                  refine (AllReadyH.cons rfl (fun K hK => ?_) AllReadyH.nil)
                  refine cell_op rfl ?_
                  intro g9 v6 hg9 hZ hbl
                  have hg9' : w4.heap.size ≤ g9 := by have := hS5.size; omega
                  have HZ6 := Lib.hid hZ; clear hZ hg9
                  refine hK.out _ _ (hS5.trans (hbl.mono hS5.size)) (fun hS6 => ?_)
                  clear hK K
                  try simp only [Act.put, List.getElem_toArray, List.getElem_cons_zero, List.getElem_cons_succ, List.setIfInBounds_toArray, List.set_cons_zero, List.set_cons_succ]
                  refine wpAnyH_ready (rs := [13]) (by kernel_rfl) (by simp) ?_
                  refine (AllReadyH.cons rfl (fun K hK => ?_) AllReadyH.nil)
                  refine store_bk_op 24 (.tmp 9) (.tmp 55) rfl g9 0 #[.int .i64 x2, .int .i64 y2, .int .i64 z2] rfl rfl 24 #[.int .i64 0, .int .i64 0, .int .i64 0] #[.int .i64 x2, .int .i64 y2, .int .i64 z2] HZ6.out (by kernel_rfl) (by simp) (by kernel_rfl) rfl ?_
                  intro v7 hX hgr hs
                  have HX := Lib.hid hX; clear hX hs
                  have hbl : Below w4.heap.size _ v7 := grown_base hgr hS6.size (by intro kk ee; cases ee; exact hg9')
                  clear HZ6 hgr
                  refine hK.out _ _ (hS6.trans hbl) (fun hS7 => ?_)
                  clear hK K
                  try simp only [Act.put, List.getElem_toArray, List.getElem_cons_zero, List.getElem_cons_succ, List.setIfInBounds_toArray, List.set_cons_zero, List.set_cons_succ]
                  refine wpAnyH_take (i := 14) (v := ?_) rfl (by kernel_rfl) (by kernel_rfl) (by kernel_rfl) (fun _ _ _ h => h) (Or.inl ⟨by rfl, ?_⟩) hS7 ?_
                  rotate_left
                  · intro W _; go_simp; try with_reducible rfl
                  try simp only [Act.put, List.getElem_toArray, List.getElem_cons_zero, List.getElem_cons_succ, List.setIfInBounds_toArray, List.set_cons_zero, List.set_cons_succ]
                  refine wpAnyH_done (by kernel_rfl) ?_ _
                  go_wp2_with fail
                  go_meet
                  exact ⟨g9, rfl, rfl, hS7, HX.out⟩
                · refine cell_op rfl ?_
                  intro g9 v5 hg9 hZ hbl
                  have hg9' : w4.heap.size ≤ g9 := by have := hS4.size; omega
                  have HZ5 := Lib.hid hZ; clear hZ hg9
                  have HR5 := Lib.hid (HR4.out.later hbl); clear HR4
                  refine hK.out _ _ (hS4.trans (hbl.mono hS4.size)) (fun hS5 => ?_)
                  clear hK K
                  try simp only [Act.put, List.getElem_toArray, List.getElem_cons_zero, List.getElem_cons_succ, List.setIfInBounds_toArray, List.set_cons_zero, List.set_cons_succ]
                  refine wpAnyH_ready (rs := [8]) (by kernel_rfl) (by simp) ?_
                  refine (AllReadyH.cons rfl (fun K hK => ?_) AllReadyH.nil)
                  go_simp
                  refine (used_any A2 m2 c2 (js ++ [jbOf nm (d, e, f)]) nm _ HM2 (by omega) HR5 x2 y2 z2 f2 HU2).mono ?_
                  rintro r v6 ⟨rfl, hbl⟩
                  go_simp
                  have HZ6 := Lib.hid (HZ5.out.later hbl); clear HZ5
                  clear HR5
                  refine hK.out _ _ (hS5.trans (hbl.mono hS5.size)) (fun hS6 => ?_)
                  clear hK K
                  try simp only [Act.put, List.getElem_toArray, List.getElem_cons_zero, List.getElem_cons_succ, List.setIfInBounds_toArray, List.set_cons_zero, List.set_cons_succ]
                  refine wpAnyH_take (i := 9) (v := ?_) rfl (by kernel_rfl) (by kernel_rfl) (by kernel_rfl) (fun _ _ _ h => h) (Or.inl ⟨by rfl, ?_⟩) hS6 ?_
                  rotate_left
                  · intro W _; go_simp; try with_reducible rfl
                  try simp only [Act.put, List.getElem_toArray, List.getElem_cons_zero, List.getElem_cons_succ, List.setIfInBounds_toArray, List.set_cons_zero, List.set_cons_succ]
                  refine wpAnyH_take (i := 10) (v := ?_) rfl (by kernel_rfl) (by kernel_rfl) (by kernel_rfl) (fun _ _ _ h => h) (Or.inl ⟨by rfl, ?_⟩) hS6 ?_
                  rotate_left
                  · intro W _; go_simp; try with_reducible rfl
                  try simp only [Act.put, List.getElem_toArray, List.getElem_cons_zero, List.getElem_cons_succ, List.setIfInBounds_toArray, List.set_cons_zero, List.set_cons_succ]
                  refine wpAnyH_take (i := 11) (v := ?_) rfl (by kernel_rfl) (by kernel_rfl) (by kernel_rfl) (fun _ _ _ h => h) (Or.inl ⟨by rfl, ?_⟩) hS6 ?_
                  rotate_left
                  · intro W _; go_simp; try with_reducible rfl
                  try simp only [Act.put, List.getElem_toArray, List.getElem_cons_zero, List.getElem_cons_succ, List.setIfInBounds_toArray, List.set_cons_zero, List.set_cons_succ]
                  refine wpAnyH_ready (rs := [13]) (by kernel_rfl) (by simp) ?_
                  refine (AllReadyH.cons rfl (fun K hK => ?_) AllReadyH.nil)
                  refine store_bk_op 24 (.tmp 9) (.tmp 55) rfl g9 0 #[.int .i64 x2, .int .i64 y2, .int .i64 z2] rfl rfl 24 #[.int .i64 0, .int .i64 0, .int .i64 0] #[.int .i64 x2, .int .i64 y2, .int .i64 z2] HZ6.out (by kernel_rfl) (by simp) (by kernel_rfl) rfl ?_
                  intro v7 hX hgr hs
                  have HX := Lib.hid hX; clear hX hs
                  have hbl : Below w4.heap.size _ v7 := grown_base hgr hS6.size (by intro kk ee; cases ee; exact hg9')
                  clear HZ6 hgr
                  refine hK.out _ _ (hS6.trans hbl) (fun hS7 => ?_)
                  clear hK K
                  try simp only [Act.put, List.getElem_toArray, List.getElem_cons_zero, List.getElem_cons_succ, List.setIfInBounds_toArray, List.set_cons_zero, List.set_cons_succ]
                  refine wpAnyH_take (i := 14) (v := ?_) rfl (by kernel_rfl) (by kernel_rfl) (by kernel_rfl) (fun _ _ _ h => h) (Or.inl ⟨by rfl, ?_⟩) hS7 ?_
                  rotate_left
                  · intro W _; go_simp; try with_reducible rfl
                  try simp only [Act.put, List.getElem_toArray, List.getElem_cons_zero, List.getElem_cons_succ, List.setIfInBounds_toArray, List.set_cons_zero, List.set_cons_succ]
                  refine wpAnyH_done (by kernel_rfl) ?_ _
                  go_wp2_with fail
                  go_meet
                  exact ⟨g9, rfl, rfl, hS7, HX.out⟩
              · refine cell_op rfl ?_
                intro g9 v4 hg9 hZ hbl
                have hg9' : w4.heap.size ≤ g9 := by have := hS3.size; omega
                have HZ4 := Lib.hid hZ; clear hZ hg9
                have HV4 := Lib.hid (HV3.out.below hbl); clear HV3
                have HF4 := Lib.hid (HF3.out.later hbl); clear HF3
                refine hK.out _ _ (hS3.trans (hbl.mono hS3.size)) (fun hS4 => ?_)
                clear hK K
                try simp only [Act.put, List.getElem_toArray, List.getElem_cons_zero, List.getElem_cons_succ, List.setIfInBounds_toArray, List.set_cons_zero, List.set_cons_succ]
                refine wpAnyH_ready (rs := [5]) (by kernel_rfl) (by simp) ?_
                refine (AllReadyH.cons rfl (fun K hK => ?_) AllReadyH.nil)
                refine append_k_op _ (.tmp 48) (.tmp 50) 22 rfl w4.heap.size 41 _ 13 160 Try.underlying22 infoJ rfl (by omega) u48 (cellsJ js) rfl HV4.out ⟨g50, 0, none⟩ 1 1 (cellsJ [jbOf nm (d, e, f)]) rfl (RdK.of_bk HF4.out) (cellsJ_k _) (cellsJ_one _) rfl (by simp [cellsJ, maxLen]; omega) (by simp [cellsJ, maxLen]; omega) hS4.size ?_
                intro u51 v5 hO hgr
                rw [← cellsJ_append] at hO
                obtain ⟨A2, c2, hv2, hr2, hc3, hc4⟩ := hO.rdj
                rw [← HM2.out] at hv2 hc3
                subst hv2
                have HR5 := Lib.hid hr2; clear hr2 hO
                have HZ5 := Lib.hid (HZ4.out.stays hgr (HV4.out.ne HZ4.out (by decide))); clear HZ4
                have hbl : Below w4.heap.size _ v5 := grown_base hgr hS4.size HV4.out.block
                clear HV4 HF4 hgr
                refine hK.out _ _ (hS4.trans hbl) (fun hS5 => ?_)
                clear hK K
                try simp only [Act.put, List.getElem_toArray, List.getElem_cons_zero, List.getElem_cons_succ, List.setIfInBounds_toArray, List.set_cons_zero, List.set_cons_succ]
                refine wpAnyH_ready (rs := [8]) (by kernel_rfl) (by simp) ?_
                refine (AllReadyH.cons rfl (fun K hK => ?_) AllReadyH.nil)
                go_simp
                refine (used_any A2 m2 c2 (js ++ [jbOf nm (d, e, f)]) nm _ HM2 (by omega) HR5 x2 y2 z2 f2 HU2).mono ?_
                rintro r v6 ⟨rfl, hbl⟩
                go_simp
                have HZ6 := Lib.hid (HZ5.out.later hbl); clear HZ5
                clear HR5
                refine hK.out _ _ (hS5.trans (hbl.mono hS5.size)) (fun hS6 => ?_)
                clear hK K
                try simp only [Act.put, List.getElem_toArray, List.getElem_cons_zero, List.getElem_cons_succ, List.setIfInBounds_toArray, List.set_cons_zero, List.set_cons_succ]
                refine wpAnyH_take (i := 9) (v := ?_) rfl (by kernel_rfl) (by kernel_rfl) (by kernel_rfl) (fun _ _ _ h => h) (Or.inl ⟨by rfl, ?_⟩) hS6 ?_
                rotate_left
                · intro W _; go_simp; try with_reducible rfl
                try simp only [Act.put, List.getElem_toArray, List.getElem_cons_zero, List.getElem_cons_succ, List.setIfInBounds_toArray, List.set_cons_zero, List.set_cons_succ]
                refine wpAnyH_take (i := 10) (v := ?_) rfl (by kernel_rfl) (by kernel_rfl) (by kernel_rfl) (fun _ _ _ h => h) (Or.inl ⟨by rfl, ?_⟩) hS6 ?_
                rotate_left
                · intro W _; go_simp; try with_reducible rfl
                try simp only [Act.put, List.getElem_toArray, List.getElem_cons_zero, List.getElem_cons_succ, List.setIfInBounds_toArray, List.set_cons_zero, List.set_cons_succ]
                refine wpAnyH_take (i := 11) (v := ?_) rfl (by kernel_rfl) (by kernel_rfl) (by kernel_rfl) (fun _ _ _ h => h) (Or.inl ⟨by rfl, ?_⟩) hS6 ?_
                rotate_left
                · intro W _; go_simp; try with_reducible rfl
                try simp only [Act.put, List.getElem_toArray, List.getElem_cons_zero, List.getElem_cons_succ, List.setIfInBounds_toArray, List.set_cons_zero, List.set_cons_succ]
                refine wpAnyH_ready (rs := [13]) (by kernel_rfl) (by simp) ?_
                refine (AllReadyH.cons rfl (fun K hK => ?_) AllReadyH.nil)
                refine store_bk_op 24 (.tmp 9) (.tmp 55) rfl g9 0 #[.int .i64 x2, .int .i64 y2, .int .i64 z2] rfl rfl 24 #[.int .i64 0, .int .i64 0, .int .i64 0] #[.int .i64 x2, .int .i64 y2, .int .i64 z2] HZ6.out (by kernel_rfl) (by simp) (by kernel_rfl) rfl ?_
                intro v7 hX hgr hs
                have HX := Lib.hid hX; clear hX hs
                have hbl : Below w4.heap.size _ v7 := grown_base hgr hS6.size (by intro kk ee; cases ee; exact hg9')
                clear HZ6 hgr
                refine hK.out _ _ (hS6.trans hbl) (fun hS7 => ?_)
                clear hK K
                try simp only [Act.put, List.getElem_toArray, List.getElem_cons_zero, List.getElem_cons_succ, List.setIfInBounds_toArray, List.set_cons_zero, List.set_cons_succ]
                refine wpAnyH_take (i := 14) (v := ?_) rfl (by kernel_rfl) (by kernel_rfl) (by kernel_rfl) (fun _ _ _ h => h) (Or.inl ⟨by rfl, ?_⟩) hS7 ?_
                rotate_left
                · intro W _; go_simp; try with_reducible rfl
                try simp only [Act.put, List.getElem_toArray, List.getElem_cons_zero, List.getElem_cons_succ, List.setIfInBounds_toArray, List.set_cons_zero, List.set_cons_succ]
                refine wpAnyH_done (by kernel_rfl) ?_ _
                go_wp2_with fail
                go_meet
                exact ⟨g9, rfl, rfl, hS7, HX.out⟩
            · refine cell_op rfl ?_
              intro g9 v3 hg9 hZ hbl
              have hg9' : w4.heap.size ≤ g9 := by have := hS2.size; omega
              have HZ3 := Lib.hid hZ; clear hZ hg9
              have HV3 := Lib.hid (HV2.out.below hbl); clear HV2
              refine hK.out _ _ (hS2.trans (hbl.mono hS2.size)) (fun hS3 => ?_)
              clear hK K
              try simp only [Act.put, List.getElem_toArray, List.getElem_cons_zero, List.getElem_cons_succ, List.setIfInBounds_toArray, List.set_cons_zero, List.set_cons_succ]
              refine wpAnyH_ready (rs := [4]) (by kernel_rfl) (by simp) ?_
              refine (AllReadyH.cons rfl (fun K hK => ?_) AllReadyH.nil)
              refine one_op 49 #[.string ⟨#[]⟩, .string nm, .int .i64 0, .int .i64 d, .int .i64 e, .int .i64 f, .slice none 0 0, .string ⟨#[]⟩, .string ⟨#[]⟩, .int .i64 0, .int .i64 0, .string ⟨#[]⟩, .int .i64 0] rfl rfl rfl ?_
              intro g50 v4 hg50 hF hbl
              have HF4 := Lib.hid hF; clear hF hg50
              have HV4 := Lib.hid (HV3.out.below hbl); clear HV3
              have HZ4 := Lib.hid (HZ3.out.later hbl); clear HZ3
              refine hK.out _ _ (hS3.trans (hbl.mono hS3.size)) (fun hS4 => ?_)
              clear hK K
              try simp only [Act.put, List.getElem_toArray, List.getElem_cons_zero, List.getElem_cons_succ, List.setIfInBounds_toArray, List.set_cons_zero, List.set_cons_succ]
              refine wpAnyH_ready (rs := [5]) (by kernel_rfl) (by simp) ?_
              refine (AllReadyH.cons rfl (fun K hK => ?_) AllReadyH.nil)
              refine append_k_op _ (.tmp 48) (.tmp 50) 22 rfl w4.heap.size 41 _ 13 160 Try.underlying22 infoJ rfl (by omega) u48 (cellsJ js) rfl HV4.out ⟨g50, 0, none⟩ 1 1 (cellsJ [jbOf nm (d, e, f)]) rfl (RdK.of_bk HF4.out) (cellsJ_k _) (cellsJ_one _) rfl (by simp [cellsJ, maxLen]; omega) (by simp [cellsJ, maxLen]; omega) hS4.size ?_
              intro u51 v5 hO hgr
              rw [← cellsJ_append] at hO
              obtain ⟨A2, c2, hv2, hr2, hc3, hc4⟩ := hO.rdj
              rw [← HM2.out] at hv2 hc3
              subst hv2
              have HR5 := Lib.hid hr2; clear hr2 hO
              have HZ5 := Lib.hid (HZ4.out.stays hgr (HV4.out.ne HZ4.out (by decide))); clear HZ4
              have hbl : Below w4.heap.size _ v5 := grown_base hgr hS4.size HV4.out.block
              clear HV4 HF4 hgr
              refine hK.out _ _ (hS4.trans hbl) (fun hS5 => ?_)
              clear hK K
              try simp only [Act.put, List.getElem_toArray, List.getElem_cons_zero, List.getElem_cons_succ, List.setIfInBounds_toArray, List.set_cons_zero, List.set_cons_succ]
              refine wpAnyH_ready (rs := [8]) (by kernel_rfl) (by simp) ?_
              refine (AllReadyH.cons rfl (fun K hK => ?_) AllReadyH.nil)
              go_simp
              refine (used_any A2 m2 c2 (js ++ [jbOf nm (d, e, f)]) nm _ HM2 (by omega) HR5 x2 y2 z2 f2 HU2).mono ?_
              rintro r v6 ⟨rfl, hbl⟩
              go_simp
              have HZ6 := Lib.hid (HZ5.out.later hbl); clear HZ5
              clear HR5
              refine hK.out _ _ (hS5.trans (hbl.mono hS5.size)) (fun hS6 => ?_)
              clear hK K
              try simp only [Act.put, List.getElem_toArray, List.getElem_cons_zero, List.getElem_cons_succ, List.setIfInBounds_toArray, List.set_cons_zero, List.set_cons_succ]
              refine wpAnyH_take (i := 9) (v := ?_) rfl (by kernel_rfl) (by kernel_rfl) (by kernel_rfl) (fun _ _ _ h => h) (Or.inl ⟨by rfl, ?_⟩) hS6 ?_
              rotate_left
              · intro W _; go_simp; try with_reducible rfl
              try simp only [Act.put, List.getElem_toArray, List.getElem_cons_zero, List.getElem_cons_succ, List.setIfInBounds_toArray, List.set_cons_zero, List.set_cons_succ]
              refine wpAnyH_take (i := 10) (v := ?_) rfl (by kernel_rfl) (by kernel_rfl) (by kernel_rfl) (fun _ _ _ h => h) (Or.inl ⟨by rfl, ?_⟩) hS6 ?_
              rotate_left
              · intro W _; go_simp; try with_reducible rfl
              try simp only [Act.put, List.getElem_toArray, List.getElem_cons_zero, List.getElem_cons_succ, List.setIfInBounds_toArray, List.set_cons_zero, List.set_cons_succ]
              refine wpAnyH_take (i := 11) (v := ?_) rfl (by kernel_rfl) (by kernel_rfl) (by kernel_rfl) (fun _ _ _ h => h) (Or.inl ⟨by rfl, ?_⟩) hS6 ?_
              rotate_left
              · intro W _; go_simp; try with_reducible rfl
              try simp only [Act.put, List.getElem_toArray, List.getElem_cons_zero, List.getElem_cons_succ, List.setIfInBounds_toArray, List.set_cons_zero, List.set_cons_succ]
              refine wpAnyH_ready (rs := [13]) (by kernel_rfl) (by simp) ?_
              refine (AllReadyH.cons rfl (fun K hK => ?_) AllReadyH.nil)
              refine store_bk_op 24 (.tmp 9) (.tmp 55) rfl g9 0 #[.int .i64 x2, .int .i64 y2, .int .i64 z2] rfl rfl 24 #[.int .i64 0, .int .i64 0, .int .i64 0] #[.int .i64 x2, .int .i64 y2, .int .i64 z2] HZ6.out (by kernel_rfl) (by simp) (by kernel_rfl) rfl ?_
              intro v7 hX hgr hs
              have HX := Lib.hid hX; clear hX hs
              have hbl : Below w4.heap.size _ v7 := grown_base hgr hS6.size (by intro kk ee; cases ee; exact hg9')
              clear HZ6 hgr
              refine hK.out _ _ (hS6.trans hbl) (fun hS7 => ?_)
              clear hK K
              try simp only [Act.put, List.getElem_toArray, List.getElem_cons_zero, List.getElem_cons_succ, List.setIfInBounds_toArray, List.set_cons_zero, List.set_cons_succ]
              refine wpAnyH_take (i := 14) (v := ?_) rfl (by kernel_rfl) (by kernel_rfl) (by kernel_rfl) (fun _ _ _ h => h) (Or.inl ⟨by rfl, ?_⟩) hS7 ?_
              rotate_left
              · intro W _; go_simp; try with_reducible rfl
              try simp only [Act.put, List.getElem_toArray, List.getElem_cons_zero, List.getElem_cons_succ, List.setIfInBounds_toArray, List.set_cons_zero, List.set_cons_succ]
              refine wpAnyH_done (by kernel_rfl) ?_ _
              go_wp2_with fail
              go_meet
              exact ⟨g9, rfl, rfl, hS7, HX.out⟩
          · refine one_op 49 #[.string ⟨#[]⟩, .string nm, .int .i64 0, .int .i64 d, .int .i64 e, .int .i64 f, .slice none 0 0, .string ⟨#[]⟩, .string ⟨#[]⟩, .int .i64 0, .int .i64 0, .string ⟨#[]⟩, .int .i64 0] rfl rfl rfl ?_
            intro g50 v2 hg50 hF hbl
            have HF2 := Lib.hid hF; clear hF hg50
            have HE2 := Lib.hid (HE1.out.later hbl); clear HE1
            refine hK.out _ _ (hS1.trans (hbl.mono hS1.size)) (fun hS2 => ?_)
            clear hK K
            try simp only [Act.put, List.getElem_toArray, List.getElem_cons_zero, List.getElem_cons_succ, List.setIfInBounds_toArray, List.set_cons_zero, List.set_cons_succ]
            refine wpAnyH_ready (rs := [2, 12]) (by kernel_rfl) (by simp) ?_
            refine (AllReadyH.cons rfl (fun K hK => ?_) (AllReadyH.cons rfl (fun K hK => ?_) AllReadyH.nil))
            · refine append_kn_op _ (.tmp 46) (.tmp 47) 22 rfl w4.heap.size 41 _ 13 160 Try.underlying22 infoJ rfl (by omega) (.slice (some ⟨g46, 0, none⟩) 0 0) [] rfl (OwnK.of_empty HE2.out hg46') A' c' m (cellsJ js) rfl (RdK.later HJS.out hS2) (cellsJ_k _) (cellsJ_one _) HMJ.out (by simp [cellsJ, maxLen]; omega) (by simp [cellsJ, maxLen]; omega) hS2.size ?_
              intro u48 v3 hV hgr
              have HV3 := Lib.hid (show OwnK _ _ _ _ _ (cellsJ js) from hV); clear hV
              have HF3 := Lib.hid (HF2.out.stays hgr (by intro ee; exact Bk.ne HF2.out HE2.out (by simp) (Option.some.inj ee))); clear HF2
              have hbl : Below w4.heap.size _ v3 := grown_base hgr hS2.size (by intro kk ee; cases ee; exact hg46')
              clear HE2 hgr
              refine hK.out _ _ (hS2.trans hbl) (fun hS3 => ?_)
              clear hK K
              try simp only [Act.put, List.getElem_toArray, List.getElem_cons_zero, List.getElem_cons_succ, List.setIfInBounds_toArray, List.set_cons_zero, List.set_cons_succ]
              refine wpAnyH_ready (rs := [5, 12]) (by kernel_rfl) (by simp) ?_
              refine (AllReadyH.cons rfl (fun K hK => ?_) (AllReadyH.cons rfl (fun K hK => ?_) AllReadyH.nil))
              · refine append_k_op _ (.tmp 48) (.tmp 50) 22 rfl w4.heap.size 41 _ 13 160 Try.underlying22 infoJ rfl (by omega) u48 (cellsJ js) rfl HV3.out ⟨g50, 0, none⟩ 1 1 (cellsJ [jbOf nm (d, e, f)]) rfl (RdK.of_bk HF3.out) (cellsJ_k _) (cellsJ_one _) rfl (by simp [cellsJ, maxLen]; omega) (by simp [cellsJ, maxLen]; omega) hS3.size ?_
                intro u51 v4 hO hgr
                rw [← cellsJ_append] at hO
                obtain ⟨A2, c2, hv2, hr2, hc3, hc4⟩ := hO.rdj
                rw [← HM2.out] at hv2 hc3
                subst hv2
                have HR4 := Lib.hid hr2; clear hr2 hO
                have hbl : Below w4.heap.size _ v4 := grown_base hgr hS3.size HV3.out.block
                clear HV3 HF3 hgr
                refine hK.out _ _ (hS3.trans hbl) (fun hS4 => ?_)
                clear hK K
                try simp only [Act.put, List.getElem_toArray, List.getElem_cons_zero, List.getElem_cons_succ, List.setIfInBounds_toArray, List.set_cons_zero, List.set_cons_succ]
                refine wpAnyH_ready (rs := [8, 12]) (by kernel_rfl) (by simp) ?_
                refine (AllReadyH.cons rfl (fun K hK => ?_) (AllReadyH.cons rfl (fun K hK => ?_) AllReadyH.nil))
                · go_simp
                  refine (used_any A2 m2 c2 (js ++ [jbOf nm (d, e, f)]) nm _ HM2 (by omega) HR4 x2 y2 z2 f2 HU2).mono ?_
                  rintro r v5 ⟨rfl, hbl⟩
                  go_simp
                  clear HR4
                  refine hK.out _ _ (hS4.trans (hbl.mono hS4.size)) (fun hS5 => ?_)
                  clear hK K
                  try simp only [Act.put, List.getElem_toArray, List.getElem_cons_zero, List.getElem_cons_succ, List.setIfInBounds_toArray, List.set_cons_zero, List.set_cons_succ]
                  refine wpAnyH_take (i := 9) (v := ?_) rfl (by kernel_rfl) (by kernel_rfl) (by kernel_rfl) (fun _ _ _ h => h) (Or.inl ⟨by rfl, ?_⟩) hS5 ?_
                  rotate_left
                  · intro W _; go_simp; try with_reducible rfl
                  try simp only [Act.put, List.getElem_toArray, List.getElem_cons_zero, List.getElem_cons_succ, List.setIfInBounds_toArray, List.set_cons_zero, List.set_cons_succ]
                  refine wpAnyH_take (i := 10) (v := ?_) rfl (by kernel_rfl) (by kernel_rfl) (by kernel_rfl) (fun _ _ _ h => h) (Or.inl ⟨by rfl, ?_⟩) hS5 ?_
                  rotate_left
                  · intro W _; go_simp; try with_reducible rfl
                  try simp only [Act.put, List.getElem_toArray, List.getElem_cons_zero, List.getElem_cons_succ, List.setIfInBounds_toArray, List.set_cons_zero, List.set_cons_succ]
                  refine wpAnyH_take (i := 11) (v := ?_) rfl (by kernel_rfl) (by kernel_rfl) (by kernel_rfl) (fun _ _ _ h => h) (Or.inl ⟨by rfl, ?_⟩) hS5 ?_
                  rotate_left
                  · intro W _; go_simp; try with_reducible rfl
                  try simp only [Act.put, List.getElem_toArray, List.getElem_cons_zero, List.getElem_cons_succ, List.setIfInBounds_toArray, List.set_cons_zero, List.set_cons_succ]
                  refine wpAnyH_ready (rs := [12]) (by kernel_rfl) (by simp) ?_
                  refine (AllReadyH.cons rfl (fun K hK => ?_) AllReadyH.nil)
                  refine cell_op rfl ?_
                  intro g9 v6 hg9 hZ hbl
                  have hg9' : w4.heap.size ≤ g9 := by have := hS5.size; omega
                  have HZ6 := Lib.hid hZ; clear hZ hg9
                  refine hK.out _ _ (hS5.trans (hbl.mono hS5.size)) (fun hS6 => ?_)
                  clear hK K
                  try simp only [Act.put, List.getElem_toArray, List.getElem_cons_zero, List.getElem_cons_succ, List.setIfInBounds_toArray, List.set_cons_zero, List.set_cons_succ]
                  refine wpAnyH_ready (rs := [13]) (by kernel_rfl) (by simp) ?_
                  refine (AllReadyH.cons rfl (fun K hK => ?_) AllReadyH.nil)
                  refine store_bk_op 24 (.tmp 9) (.tmp 55) rfl g9 0 #[.int .i64 x2, .int .i64 y2, .int .i64 z2] rfl rfl 24 #[.int .i64 0, .int .i64 0, .int .i64 0] #[.int .i64 x2, .int .i64 y2, .int .i64 z2] HZ6.out (by kernel_rfl) (by simp) (by kernel_rfl) rfl ?_
                  intro v7 hX hgr hs
                  have HX := Lib.hid hX; clear hX hs
                  have hbl : Below w4.heap.size _ v7 := grown_base hgr hS6.size (by intro kk ee; cases ee; exact hg9')
                  clear HZ6 hgr
                  refine hK.out _ _ (hS6.trans hbl) (fun hS7 => ?_)
                  clear hK K
                  try simp only [Act.put, List.getElem_toArray, List.getElem_cons_zero, List.getElem_cons_succ, List.setIfInBounds_toArray, List.set_cons_zero, List.set_cons_succ]
                  refine wpAnyH_take (i := 14) (v := ?_) rfl (by kernel_rfl) (by kernel_rfl) (by kernel_rfl) (fun _ _ _ h => h) (Or.inl ⟨by rfl, ?_⟩) hS7 ?_
                  rotate_left
                  · intro W _; go_simp; try with_reducible rfl
                  try simp only [Act.put, List.getElem_toArray, List.getElem_cons_zero, List.getElem_cons_succ, List.setIfInBounds_toArray, List.set_cons_zero, List.set_cons_succ]
                  refine wpAnyH_done (by kernel_rfl) ?_ _
                  go_wp2_with fail
                  go_meet
                  exact ⟨g9, rfl, rfl, hS7, HX.out⟩
                · refine cell_op rfl ?_
                  intro g9 v5 hg9 hZ hbl
                  have hg9' : w4.heap.size ≤ g9 := by have := hS4.size; omega
                  have HZ5 := Lib.hid hZ; clear hZ hg9
                  have HR5 := Lib.hid (HR4.out.later hbl); clear HR4
                  refine hK.out _ _ (hS4.trans (hbl.mono hS4.size)) (fun hS5 => ?_)
                  clear hK K
                  try simp only [Act.put, List.getElem_toArray, List.getElem_cons_zero, List.getElem_cons_succ, List.setIfInBounds_toArray, List.set_cons_zero, List.set_cons_succ]
                  refine wpAnyH_ready (rs := [8]) (by kernel_rfl) (by simp) ?_
                  refine (AllReadyH.cons rfl (fun K hK => ?_) AllReadyH.nil)
                  go_simp
                  refine (used_any A2 m2 c2 (js ++ [jbOf nm (d, e, f)]) nm _ HM2 (by omega) HR5 x2 y2 z2 f2 HU2).mono ?_
                  rintro r v6 ⟨rfl, hbl⟩
                  go_simp
                  have HZ6 := Lib.hid (HZ5.out.later hbl); clear HZ5
                  clear HR5
                  refine hK.out _ _ (hS5.trans (hbl.mono hS5.size)) (fun hS6 => ?_)
                  clear hK K
                  try simp only [Act.put, List.getElem_toArray, List.getElem_cons_zero, List.getElem_cons_succ, List.setIfInBounds_toArray, List.set_cons_zero, List.set_cons_succ]
                  refine wpAnyH_take (i := 9) (v := ?_) rfl (by kernel_rfl) (by kernel_rfl) (by kernel_rfl) (fun _ _ _ h => h) (Or.inl ⟨by rfl, ?_⟩) hS6 ?_
                  rotate_left
                  · intro W _; go_simp; try with_reducible rfl
                  try simp only [Act.put, List.getElem_toArray, List.getElem_cons_zero, List.getElem_cons_succ, List.setIfInBounds_toArray, List.set_cons_zero, List.set_cons_succ]
                  refine wpAnyH_take (i := 10) (v := ?_) rfl (by kernel_rfl) (by kernel_rfl) (by kernel_rfl) (fun _ _ _ h => h) (Or.inl ⟨by rfl, ?_⟩) hS6 ?_
                  rotate_left
                  · intro W _; go_simp; try with_reducible rfl
                  try simp only [Act.put, List.getElem_toArray, List.getElem_cons_zero, List.getElem_cons_succ, List.setIfInBounds_toArray, List.set_cons_zero, List.set_cons_succ]
                  refine wpAnyH_take (i := 11) (v := ?_) rfl (by kernel_rfl) (by kernel_rfl) (by kernel_rfl) (fun _ _ _ h => h) (Or.inl ⟨by rfl, ?_⟩) hS6 ?_
                  rotate_left
                  · intro W _; go_simp; try with_reducible rfl
                  try simp only [Act.put, List.getElem_toArray, List.getElem_cons_zero, List.getElem_cons_succ, List.setIfInBounds_toArray, List.set_cons_zero, List.set_cons_succ]
                  refine wpAnyH_ready (rs := [13]) (by kernel_rfl) (by simp) ?_
                  refine (AllReadyH.cons rfl (fun K hK => ?_) AllReadyH.nil)
                  refine store_bk_op 24 (.tmp 9) (.tmp 55) rfl g9 0 #[.int .i64 x2, .int .i64 y2, .int .i64 z2] rfl rfl 24 #[.int .i64 0, .int .i64 0, .int .i64 0] #[.int .i64 x2, .int .i64 y2, .int .i64 z2] HZ6.out (by kernel_rfl) (by simp) (by kernel_rfl) rfl ?_
                  intro v7 hX hgr hs
                  have HX := Lib.hid hX; clear hX hs
                  have hbl : Below w4.heap.size _ v7 := grown_base hgr hS6.size (by intro kk ee; cases ee; exact hg9')
                  clear HZ6 hgr
                  refine hK.out _ _ (hS6.trans hbl) (fun hS7 => ?_)
                  clear hK K
                  try simp only [Act.put, List.getElem_toArray, List.getElem_cons_zero, List.getElem_cons_succ, List.setIfInBounds_toArray, List.set_cons_zero, List.set_cons_succ]
                  refine wpAnyH_take (i := 14) (v := ?_) rfl (by kernel_rfl) (by kernel_rfl) (by kernel_rfl) (fun _ _ _ h => h) (Or.inl ⟨by rfl, ?_⟩) hS7 ?_
                  rotate_left
                  · intro W _; go_simp; try with_reducible rfl
                  try simp only [Act.put, List.getElem_toArray, List.getElem_cons_zero, List.getElem_cons_succ, List.setIfInBounds_toArray, List.set_cons_zero, List.set_cons_succ]
                  refine wpAnyH_done (by kernel_rfl) ?_ _
                  go_wp2_with fail
                  go_meet
                  exact ⟨g9, rfl, rfl, hS7, HX.out⟩
              · refine cell_op rfl ?_
                intro g9 v4 hg9 hZ hbl
                have hg9' : w4.heap.size ≤ g9 := by have := hS3.size; omega
                have HZ4 := Lib.hid hZ; clear hZ hg9
                have HV4 := Lib.hid (HV3.out.below hbl); clear HV3
                have HF4 := Lib.hid (HF3.out.later hbl); clear HF3
                refine hK.out _ _ (hS3.trans (hbl.mono hS3.size)) (fun hS4 => ?_)
                clear hK K
                try simp only [Act.put, List.getElem_toArray, List.getElem_cons_zero, List.getElem_cons_succ, List.setIfInBounds_toArray, List.set_cons_zero, List.set_cons_succ]
                refine wpAnyH_ready (rs := [5]) (by kernel_rfl) (by simp) ?_
                refine (AllReadyH.cons rfl (fun K hK => ?_) AllReadyH.nil)
                refine append_k_op _ (.tmp 48) (.tmp 50) 22 rfl w4.heap.size 41 _ 13 160 Try.underlying22 infoJ rfl (by omega) u48 (cellsJ js) rfl HV4.out ⟨g50, 0, none⟩ 1 1 (cellsJ [jbOf nm (d, e, f)]) rfl (RdK.of_bk HF4.out) (cellsJ_k _) (cellsJ_one _) rfl (by simp [cellsJ, maxLen]; omega) (by simp [cellsJ, maxLen]; omega) hS4.size ?_
                intro u51 v5 hO hgr
                rw [← cellsJ_append] at hO
                obtain ⟨A2, c2, hv2, hr2, hc3, hc4⟩ := hO.rdj
                rw [← HM2.out] at hv2 hc3
                subst hv2
                have HR5 := Lib.hid hr2; clear hr2 hO
                have HZ5 := Lib.hid (HZ4.out.stays hgr (HV4.out.ne HZ4.out (by decide))); clear HZ4
                have hbl : Below w4.heap.size _ v5 := grown_base hgr hS4.size HV4.out.block
                clear HV4 HF4 hgr
                refine hK.out _ _ (hS4.trans hbl) (fun hS5 => ?_)
                clear hK K
                try simp only [Act.put, List.getElem_toArray, List.getElem_cons_zero, List.getElem_cons_succ, List.setIfInBounds_toArray, List.set_cons_zero, List.set_cons_succ]
                refine wpAnyH_ready (rs := [8]) (by kernel_rfl) (by simp) ?_
                refine (AllReadyH.cons rfl (fun K hK => ?_) AllReadyH.nil)
                go_simp
                refine (used_any A2 m2 c2 (js ++ [jbOf nm (d, e, f)]) nm _ HM2 (by omega) HR5 x2 y2 z2 f2 HU2).mono ?_
                rintro r v6 ⟨rfl, hbl⟩
                go_simp
                have HZ6 := Lib.hid (HZ5.out.later hbl); clear HZ5
                clear HR5
                refine hK.out _ _ (hS5.trans (hbl.mono hS5.size)) (fun hS6 => ?_)
                clear hK K
                try simp only [Act.put, List.getElem_toArray, List.getElem_cons_zero, List.getElem_cons_succ, List.setIfInBounds_toArray, List.set_cons_zero, List.set_cons_succ]
                refine wpAnyH_take (i := 9) (v := ?_) rfl (by kernel_rfl) (by kernel_rfl) (by kernel_rfl) (fun _ _ _ h => h) (Or.inl ⟨by rfl, ?_⟩) hS6 ?_
                rotate_left
                · intro W _; go_simp; try with_reducible rfl
                try simp only [Act.put, List.getElem_toArray, List.getElem_cons_zero, List.getElem_cons_succ, List.setIfInBounds_toArray, List.set_cons_zero, List.set_cons_succ]
                refine wpAnyH_take (i := 10) (v := ?_) rfl (by kernel_rfl) (by kernel_rfl) (by kernel_rfl) (fun _ _ _ h => h) (Or.inl ⟨by rfl, ?_⟩) hS6 ?_
                rotate_left
                · intro W _; go_simp; try with_reducible rfl
                try simp only [Act.put, List.getElem_toArray, List.getElem_cons_zero, List.getElem_cons_succ, List.setIfInBounds_toArray, List.set_cons_zero, List.set_cons_succ]
                refine wpAnyH_take (i := 11) (v := ?_) rfl (by kernel_rfl) (by kernel_rfl) (by kernel_rfl) (fun _ _ _ h => h) (Or.inl ⟨by rfl, ?_⟩) hS6 ?_
                rotate_left
                · intro W _; go_simp; try with_reducible rfl
                try simp only [Act.put, List.getElem_toArray, List.getElem_cons_zero, List.getElem_cons_succ, List.setIfInBounds_toArray, List.set_cons_zero, List.set_cons_succ]
                refine wpAnyH_ready (rs := [13]) (by kernel_rfl) (by simp) ?_
                refine (AllReadyH.cons rfl (fun K hK => ?_) AllReadyH.nil)
                refine store_bk_op 24 (.tmp 9) (.tmp 55) rfl g9 0 #[.int .i64 x2, .int .i64 y2, .int .i64 z2] rfl rfl 24 #[.int .i64 0, .int .i64 0, .int .i64 0] #[.int .i64 x2, .int .i64 y2, .int .i64 z2] HZ6.out (by kernel_rfl) (by simp) (by kernel_rfl) rfl ?_
                intro v7 hX hgr hs
                have HX := Lib.hid hX; clear hX hs
                have hbl : Below w4.heap.size _ v7 := grown_base hgr hS6.size (by intro kk ee; cases ee; exact hg9')
                clear HZ6 hgr
                refine hK.out _ _ (hS6.trans hbl) (fun hS7 => ?_)
                clear hK K
                try simp only [Act.put, List.getElem_toArray, List.getElem_cons_zero, List.getElem_cons_succ, List.setIfInBounds_toArray, List.set_cons_zero, List.set_cons_succ]
                refine wpAnyH_take (i := 14) (v := ?_) rfl (by kernel_rfl) (by kernel_rfl) (by kernel_rfl) (fun _ _ _ h => h) (Or.inl ⟨by rfl, ?_⟩) hS7 ?_
                rotate_left
                · intro W _; go_simp; try with_reducible rfl
                try simp only [Act.put, List.getElem_toArray, List.getElem_cons_zero, List.getElem_cons_succ, List.setIfInBounds_toArray, List.set_cons_zero, List.set_cons_succ]
                refine wpAnyH_done (by kernel_rfl) ?_ _
                go_wp2_with fail
                go_meet
                exact ⟨g9, rfl, rfl, hS7, HX.out⟩
            · refine cell_op rfl ?_
              intro g9 v3 hg9 hZ hbl
              have hg9' : w4.heap.size ≤ g9 := by have := hS2.size; omega
              have HZ3 := Lib.hid hZ; clear hZ hg9
              have HE3 := Lib.hid (HE2.out.later hbl); clear HE2
              have HF3 := Lib.hid (HF2.out.later hbl); clear HF2
              refine hK.out _ _ (hS2.trans (hbl.mono hS2.size)) (fun hS3 => ?_)
              clear hK K
              try simp only [Act.put, List.getElem_toArray, List.getElem_cons_zero, List.getElem_cons_succ, List.setIfInBounds_toArray, List.set_cons_zero, List.set_cons_succ]
              refine wpAnyH_ready (rs := [2]) (by kernel_rfl) (by simp) ?_
              refine (AllReadyH.cons rfl (fun K hK => ?_) AllReadyH.nil)
              refine append_kn_op _ (.tmp 46) (.tmp 47) 22 rfl w4.heap.size 41 _ 13 160 Try.underlying22 infoJ rfl (by omega) (.slice (some ⟨g46, 0, none⟩) 0 0) [] rfl (OwnK.of_empty HE3.out hg46') A' c' m (cellsJ js) rfl (RdK.later HJS.out hS3) (cellsJ_k _) (cellsJ_one _) HMJ.out (by simp [cellsJ, maxLen]; omega) (by simp [cellsJ, maxLen]; omega) hS3.size ?_
              intro u48 v4 hV hgr
              have HV4 := Lib.hid (show OwnK _ _ _ _ _ (cellsJ js) from hV); clear hV
              have HF4 := Lib.hid (HF3.out.stays hgr (by intro ee; exact Bk.ne HF3.out HE3.out (by simp) (Option.some.inj ee))); clear HF3
              have HZ4 := Lib.hid (HZ3.out.stays hgr (by intro ee; exact Bk.ne HZ3.out HE3.out (by simp) (Option.some.inj ee))); clear HZ3
              have hbl : Below w4.heap.size _ v4 := grown_base hgr hS3.size (by intro kk ee; cases ee; exact hg46')
              clear HE3 hgr
              refine hK.out _ _ (hS3.trans hbl) (fun hS4 => ?_)
              clear hK K
              try simp only [Act.put, List.getElem_toArray, List.getElem_cons_zero, List.getElem_cons_succ, List.setIfInBounds_toArray, List.set_cons_zero, List.set_cons_succ]
              refine wpAnyH_ready (rs := [5]) (by kernel_rfl) (by simp) ?_
              refine (AllReadyH.cons rfl (fun K hK => ?_) AllReadyH.nil)
              refine append_k_op _ (.tmp 48) (.tmp 50) 22 rfl w4.heap.size 41 _ 13 160 Try.underlying22 infoJ rfl (by omega) u48 (cellsJ js) rfl HV4.out ⟨g50, 0, none⟩ 1 1 (cellsJ [jbOf nm (d, e, f)]) rfl (RdK.of_bk HF4.out) (cellsJ_k _) (cellsJ_one _) rfl (by simp [cellsJ, maxLen]; omega) (by simp [cellsJ, maxLen]; omega) hS4.size ?_
              intro u51 v5 hO hgr
              rw [← cellsJ_append] at hO
              obtain ⟨A2, c2, hv2, hr2, hc3, hc4⟩ := hO.rdj
              rw [← HM2.out] at hv2 hc3
              subst hv2
              have HR5 := Lib.hid hr2; clear hr2 hO
              have HZ5 := Lib.hid (HZ4.out.stays hgr (HV4.out.ne HZ4.out (by decide))); clear HZ4
              have hbl : Below w4.heap.size _ v5 := grown_base hgr hS4.size HV4.out.block
              clear HV4 HF4 hgr
              refine hK.out _ _ (hS4.trans hbl) (fun hS5 => ?_)
              clear hK K
              try simp only [Act.put, List.getElem_toArray, List.getElem_cons_zero, List.getElem_cons_succ, List.setIfInBounds_toArray, List.set_cons_zero, List.set_cons_succ]
              refine wpAnyH_ready (rs := [8]) (by kernel_rfl) (by simp) ?_
              refine (AllReadyH.cons rfl (fun K hK => ?_) AllReadyH.nil)
              go_simp
              refine (used_any A2 m2 c2 (js ++ [jbOf nm (d, e, f)]) nm _ HM2 (by omega) HR5 x2 y2 z2 f2 HU2).mono ?_
              rintro r v6 ⟨rfl, hbl⟩
              go_simp
              have HZ6 := Lib.hid (HZ5.out.later hbl); clear HZ5
              clear HR5
              refine hK.out _ _ (hS5.trans (hbl.mono hS5.size)) (fun hS6 => ?_)
              clear hK K
              try simp only [Act.put, List.getElem_toArray, List.getElem_cons_zero, List.getElem_cons_succ, List.setIfInBounds_toArray, List.set_cons_zero, List.set_cons_succ]
              refine wpAnyH_take (i := 9) (v := ?_) rfl (by kernel_rfl) (by kernel_rfl) (by kernel_rfl) (fun _ _ _ h => h) (Or.inl ⟨by rfl, ?_⟩) hS6 ?_
              rotate_left
              · intro W _; go_simp; try with_reducible rfl
              try simp only [Act.put, List.getElem_toArray, List.getElem_cons_zero, List.getElem_cons_succ, List.setIfInBounds_toArray, List.set_cons_zero, List.set_cons_succ]
              refine wpAnyH_take (i := 10) (v := ?_) rfl (by kernel_rfl) (by kernel_rfl) (by kernel_rfl) (fun _ _ _ h => h) (Or.inl ⟨by rfl, ?_⟩) hS6 ?_
              rotate_left
              · intro W _; go_simp; try with_reducible rfl
              try simp only [Act.put, List.getElem_toArray, List.getElem_cons_zero, List.getElem_cons_succ, List.setIfInBounds_toArray, List.set_cons_zero, List.set_cons_succ]
              refine wpAnyH_take (i := 11) (v := ?_) rfl (by kernel_rfl) (by kernel_rfl) (by kernel_rfl) (fun _ _ _ h => h) (Or.inl ⟨by rfl, ?_⟩) hS6 ?_
              rotate_left
              · intro W _; go_simp; try with_reducible rfl
              try simp only [Act.put, List.getElem_toArray, List.getElem_cons_zero, List.getElem_cons_succ, List.setIfInBounds_toArray, List.set_cons_zero, List.set_cons_succ]
              refine wpAnyH_ready (rs := [13]) (by kernel_rfl) (by simp) ?_
              refine (AllReadyH.cons rfl (fun K hK => ?_) AllReadyH.nil)
              refine store_bk_op 24 (.tmp 9) (.tmp 55) rfl g9 0 #[.int .i64 x2, .int .i64 y2, .int .i64 z2] rfl rfl 24 #[.int .i64 0, .int .i64 0, .int .i64 0] #[.int .i64 x2, .int .i64 y2, .int .i64 z2] HZ6.out (by kernel_rfl) (by simp) (by kernel_rfl) rfl ?_
              intro v7 hX hgr hs
              have HX := Lib.hid hX; clear hX hs
              have hbl : Below w4.heap.size _ v7 := grown_base hgr hS6.size (by intro kk ee; cases ee; exact hg9')
              clear HZ6 hgr
              refine hK.out _ _ (hS6.trans hbl) (fun hS7 => ?_)
              clear hK K
              try simp only [Act.put, List.getElem_toArray, List.getElem_cons_zero, List.getElem_cons_succ, List.setIfInBounds_toArray, List.set_cons_zero, List.set_cons_succ]
              refine wpAnyH_take (i := 14) (v := ?_) rfl (by kernel_rfl) (by kernel_rfl) (by kernel_rfl) (fun _ _ _ h => h) (Or.inl ⟨by rfl, ?_⟩) hS7 ?_
              rotate_left
              · intro W _; go_simp; try with_reducible rfl
              try simp only [Act.put, List.getElem_toArray, List.getElem_cons_zero, List.getElem_cons_succ, List.setIfInBounds_toArray, List.set_cons_zero, List.set_cons_succ]
              refine wpAnyH_done (by kernel_rfl) ?_ _
              go_wp2_with fail
              go_meet
              exact ⟨g9, rfl, rfl, hS7, HX.out⟩
          · refine cell_op rfl ?_
            intro g9 v2 hg9 hZ hbl
            have hg9' : w4.heap.size ≤ g9 := by have := hS1.size; omega
            have HZ2 := Lib.hid hZ; clear hZ hg9
            have HE2 := Lib.hid (HE1.out.later hbl); clear HE1
            refine hK.out _ _ (hS1.trans (hbl.mono hS1.size)) (fun hS2 => ?_)
            clear hK K
            try simp only [Act.put, List.getElem_toArray, List.getElem_cons_zero, List.getElem_cons_succ, List.setIfInBounds_toArray, List.set_cons_zero, List.set_cons_succ]
            refine wpAnyH_ready (rs := [2, 4]) (by kernel_rfl) (by simp) ?_
            refine (AllReadyH.cons rfl (fun K hK => ?_) (AllReadyH.cons rfl (fun K hK => ?_) AllReadyH.nil))
            · refine append_kn_op _ (.tmp 46) (.tmp 47) 22 rfl w4.heap.size 41 _ 13 160 Try.underlying22 infoJ rfl (by omega) (.slice (some ⟨g46, 0, none⟩) 0 0) [] rfl (OwnK.of_empty HE2.out hg46') A' c' m (cellsJ js) rfl (RdK.later HJS.out hS2) (cellsJ_k _) (cellsJ_one _) HMJ.out (by simp [cellsJ, maxLen]; omega) (by simp [cellsJ, maxLen]; omega) hS2.size ?_
              intro u48 v3 hV hgr
              have HV3 := Lib.hid (show OwnK _ _ _ _ _ (cellsJ js) from hV); clear hV
              have HZ3 := Lib.hid (HZ2.out.stays hgr (by intro ee; exact Bk.ne HZ2.out HE2.out (by simp) (Option.some.inj ee))); clear HZ2
              have hbl : Below w4.heap.size _ v3 := grown_base hgr hS2.size (by intro kk ee; cases ee; exact hg46')
              clear HE2 hgr
              refine hK.out _ _ (hS2.trans hbl) (fun hS3 => ?_)
              clear hK K
              try simp only [Act.put, List.getElem_toArray, List.getElem_cons_zero, List.getElem_cons_succ, List.setIfInBounds_toArray, List.set_cons_zero, List.set_cons_succ]
              refine wpAnyH_ready (rs := [4]) (by kernel_rfl) (by simp) ?_
              refine (AllReadyH.cons rfl (fun K hK => ?_) AllReadyH.nil)
              refine one_op 49 #[.string ⟨#[]⟩, .string nm, .int .i64 0, .int .i64 d, .int .i64 e, .int .i64 f, .slice none 0 0, .string ⟨#[]⟩, .string ⟨#[]⟩, .int .i64 0, .int .i64 0, .string ⟨#[]⟩, .int .i64 0] rfl rfl rfl ?_
              intro g50 v4 hg50 hF hbl
              have HF4 := Lib.hid hF; clear hF hg50
              have HV4 := Lib.hid (HV3.out.below hbl); clear HV3
              have HZ4 := Lib.hid (HZ3.out.later hbl); clear HZ3
              refine hK.out _ _ (hS3.trans (hbl.mono hS3.size)) (fun hS4 => ?_)
              clear hK K
              try simp only [Act.put, List.getElem_toArray, List.getElem_cons_zero, List.getElem_cons_succ, List.setIfInBounds_toArray, List.set_cons_zero, List.set_cons_succ]
              refine wpAnyH_ready (rs := [5]) (by kernel_rfl) (by simp) ?_
              refine (AllReadyH.cons rfl (fun K hK => ?_) AllReadyH.nil)
              refine append_k_op _ (.tmp 48) (.tmp 50) 22 rfl w4.heap.size 41 _ 13 160 Try.underlying22 infoJ rfl (by omega) u48 (cellsJ js) rfl HV4.out ⟨g50, 0, none⟩ 1 1 (cellsJ [jbOf nm (d, e, f)]) rfl (RdK.of_bk HF4.out) (cellsJ_k _) (cellsJ_one _) rfl (by simp [cellsJ, maxLen]; omega) (by simp [cellsJ, maxLen]; omega) hS4.size ?_
              intro u51 v5 hO hgr
              rw [← cellsJ_append] at hO
              obtain ⟨A2, c2, hv2, hr2, hc3, hc4⟩ := hO.rdj
              rw [← HM2.out] at hv2 hc3
              subst hv2
              have HR5 := Lib.hid hr2; clear hr2 hO
              have HZ5 := Lib.hid (HZ4.out.stays hgr (HV4.out.ne HZ4.out (by decide))); clear HZ4
              have hbl : Below w4.heap.size _ v5 := grown_base hgr hS4.size HV4.out.block
              clear HV4 HF4 hgr
              refine hK.out _ _ (hS4.trans hbl) (fun hS5 => ?_)
              clear hK K
              try simp only [Act.put, List.getElem_toArray, List.getElem_cons_zero, List.getElem_cons_succ, List.setIfInBounds_toArray, List.set_cons_zero, List.set_cons_succ]
              refine wpAnyH_ready (rs := [8]) (by kernel_rfl) (by simp) ?_
              refine (AllReadyH.cons rfl (fun K hK => ?_) AllReadyH.nil)
              go_simp
              refine (used_any A2 m2 c2 (js ++ [jbOf nm (d, e, f)]) nm _ HM2 (by omega) HR5 x2 y2 z2 f2 HU2).mono ?_
              rintro r v6 ⟨rfl, hbl⟩
              go_simp
              have HZ6 := Lib.hid (HZ5.out.later hbl); clear HZ5
              clear HR5
              refine hK.out _ _ (hS5.trans (hbl.mono hS5.size)) (fun hS6 => ?_)
              clear hK K
              try simp only [Act.put, List.getElem_toArray, List.getElem_cons_zero, List.getElem_cons_succ, List.setIfInBounds_toArray, List.set_cons_zero, List.set_cons_succ]
              refine wpAnyH_take (i := 9) (v := ?_) rfl (by kernel_rfl) (by kernel_rfl) (by kernel_rfl) (fun _ _ _ h => h) (Or.inl ⟨by rfl, ?_⟩) hS6 ?_
              rotate_left
              · intro W _; go_simp; try with_reducible rfl
              try simp only [Act.put, List.getElem_toArray, List.getElem_cons_zero, List.getElem_cons_succ, List.setIfInBounds_toArray, List.set_cons_zero, List.set_cons_succ]
              refine wpAnyH_take (i := 10) (v := ?_) rfl (by kernel_rfl) (by kernel_rfl) (by kernel_rfl) (fun _ _ _ h => h) (Or.inl ⟨by rfl, ?_⟩) hS6 ?_
              rotate_left
              · intro W _; go_simp; try with_reducible rfl
              try simp only [Act.put, List.getElem_toArray, List.getElem_cons_zero, List.getElem_cons_succ, List.setIfInBounds_toArray, List.set_cons_zero, List.set_cons_succ]
              refine wpAnyH_take (i := 11) (v := ?_) rfl (by kernel_rfl) (by kernel_rfl) (by kernel_rfl) (fun _ _ _ h => h) (Or.inl ⟨by rfl, ?_⟩) hS6 ?_
              rotate_left
              · intro W _; go_simp; try with_reducible rfl
              try simp only [Act.put, List.getElem_toArray, List.getElem_cons_zero, List.getElem_cons_succ, List.setIfInBounds_toArray, List.set_cons_zero, List.set_cons_succ]
              refine wpAnyH_ready (rs := [13]) (by kernel_rfl) (by simp) ?_
              refine (AllReadyH.cons rfl (fun K hK => ?_) AllReadyH.nil)
              refine store_bk_op 24 (.tmp 9) (.tmp 55) rfl g9 0 #[.int .i64 x2, .int .i64 y2, .int .i64 z2] rfl rfl 24 #[.int .i64 0, .int .i64 0, .int .i64 0] #[.int .i64 x2, .int .i64 y2, .int .i64 z2] HZ6.out (by kernel_rfl) (by simp) (by kernel_rfl) rfl ?_
              intro v7 hX hgr hs
              have HX := Lib.hid hX; clear hX hs
              have hbl : Below w4.heap.size _ v7 := grown_base hgr hS6.size (by intro kk ee; cases ee; exact hg9')
              clear HZ6 hgr
              refine hK.out _ _ (hS6.trans hbl) (fun hS7 => ?_)
              clear hK K
              try simp only [Act.put, List.getElem_toArray, List.getElem_cons_zero, List.getElem_cons_succ, List.setIfInBounds_toArray, List.set_cons_zero, List.set_cons_succ]
              refine wpAnyH_take (i := 14) (v := ?_) rfl (by kernel_rfl) (by kernel_rfl) (by kernel_rfl) (fun _ _ _ h => h) (Or.inl ⟨by rfl, ?_⟩) hS7 ?_
              rotate_left
              · intro W _; go_simp; try with_reducible rfl
              try simp only [Act.put, List.getElem_toArray, List.getElem_cons_zero, List.getElem_cons_succ, List.setIfInBounds_toArray, List.set_cons_zero, List.set_cons_succ]
              refine wpAnyH_done (by kernel_rfl) ?_ _
              go_wp2_with fail
              go_meet
              exact ⟨g9, rfl, rfl, hS7, HX.out⟩
            · refine one_op 49 #[.string ⟨#[]⟩, .string nm, .int .i64 0, .int .i64 d, .int .i64 e, .int .i64 f, .slice none 0 0, .string ⟨#[]⟩, .string ⟨#[]⟩, .int .i64 0, .int .i64 0, .string ⟨#[]⟩, .int .i64 0] rfl rfl rfl ?_
              intro g50 v3 hg50 hF hbl
              have HF3 := Lib.hid hF; clear hF hg50
              have HE3 := Lib.hid (HE2.out.later hbl); clear HE2
              have HZ3 := Lib.hid (HZ2.out.later hbl); clear HZ2
              refine hK.out _ _ (hS2.trans (hbl.mono hS2.size)) (fun hS3 => ?_)
              clear hK K
              try simp only [Act.put, List.getElem_toArray, List.getElem_cons_zero, List.getElem_cons_succ, List.setIfInBounds_toArray, List.set_cons_zero, List.set_cons_succ]
              refine wpAnyH_ready (rs := [2]) (by kernel_rfl) (by simp) ?_
              refine (AllReadyH.cons rfl (fun K hK => ?_) AllReadyH.nil)
              refine append_kn_op _ (.tmp 46) (.tmp 47) 22 rfl w4.heap.size 41 _ 13 160 Try.underlying22 infoJ rfl (by omega) (.slice (some ⟨g46, 0, none⟩) 0 0) [] rfl (OwnK.of_empty HE3.out hg46') A' c' m (cellsJ js) rfl (RdK.later HJS.out hS3) (cellsJ_k _) (cellsJ_one _) HMJ.out (by simp [cellsJ, maxLen]; omega) (by simp [cellsJ, maxLen]; omega) hS3.size ?_
              intro u48 v4 hV hgr
              have HV4 := Lib.hid (show OwnK _ _ _ _ _ (cellsJ js) from hV); clear hV
              have HF4 := Lib.hid (HF3.out.stays hgr (by intro ee; exact Bk.ne HF3.out HE3.out (by simp) (Option.some.inj ee))); clear HF3
              have HZ4 := Lib.hid (HZ3.out.stays hgr (by intro ee; exact Bk.ne HZ3.out HE3.out (by simp) (Option.some.inj ee))); clear HZ3
              have hbl : Below w4.heap.size _ v4 := grown_base hgr hS3.size (by intro kk ee; cases ee; exact hg46')
              clear HE3 hgr
              refine hK.out _ _ (hS3.trans hbl) (fun hS4 => ?_)
              clear hK K
              try simp only [Act.put, List.getElem_toArray, List.getElem_cons_zero, List.getElem_cons_succ, List.setIfInBounds_toArray, List.set_cons_zero, List.set_cons_succ]
              refine wpAnyH_ready (rs := [5]) (by kernel_rfl) (by simp) ?_
              refine (AllReadyH.cons rfl (fun K hK => ?_) AllReadyH.nil)
              refine append_k_op _ (.tmp 48) (.tmp 50) 22 rfl w4.heap.size 41 _ 13 160 Try.underlying22 infoJ rfl (by omega) u48 (cellsJ js) rfl HV4.out ⟨g50, 0, none⟩ 1 1 (cellsJ [jbOf nm (d, e, f)]) rfl (RdK.of_bk HF4.out) (cellsJ_k _) (cellsJ_one _) rfl (by simp [cellsJ, maxLen]; omega) (by simp [cellsJ, maxLen]; omega) hS4.size ?_
              intro u51 v5 hO hgr
              rw [← cellsJ_append] at hO
              obtain ⟨A2, c2, hv2, hr2, hc3, hc4⟩ := hO.rdj
              rw [← HM2.out] at hv2 hc3
              subst hv2
              have HR5 := Lib.hid hr2; clear hr2 hO
              have HZ5 := Lib.hid (HZ4.out.stays hgr (HV4.out.ne HZ4.out (by decide))); clear HZ4
              have hbl : Below w4.heap.size _ v5 := grown_base hgr hS4.size HV4.out.block
              clear HV4 HF4 hgr
              refine hK.out _ _ (hS4.trans hbl) (fun hS5 => ?_)
              clear hK K
              try simp only [Act.put, List.getElem_toArray, List.getElem_cons_zero, List.getElem_cons_succ, List.setIfInBounds_toArray, List.set_cons_zero, List.set_cons_succ]
              refine wpAnyH_ready (rs := [8]) (by kernel_rfl) (by simp) ?_
              refine (AllReadyH.cons rfl (fun K hK => ?_) AllReadyH.nil)
              go_simp
              refine (used_any A2 m2 c2 (js ++ [jbOf nm (d, e, f)]) nm _ HM2 (by omega) HR5 x2 y2 z2 f2 HU2).mono ?_
              rintro r v6 ⟨rfl, hbl⟩
              go_simp
              have HZ6 := Lib.hid (HZ5.out.later hbl); clear HZ5
              clear HR5
              refine hK.out _ _ (hS5.trans (hbl.mono hS5.size)) (fun hS6 => ?_)
              clear hK K
              try simp only [Act.put, List.getElem_toArray, List.getElem_cons_zero, List.getElem_cons_succ, List.setIfInBounds_toArray, List.set_cons_zero, List.set_cons_succ]
              refine wpAnyH_take (i := 9) (v := ?_) rfl (by kernel_rfl) (by kernel_rfl) (by kernel_rfl) (fun _ _ _ h => h) (Or.inl ⟨by rfl, ?_⟩) hS6 ?_
              rotate_left
              · intro W _; go_simp; try with_reducible rfl
              try simp only [Act.put, List.getElem_toArray, List.getElem_cons_zero, List.getElem_cons_succ, List.setIfInBounds_toArray, List.set_cons_zero, List.set_cons_succ]
              refine wpAnyH_take (i := 10) (v := ?_) rfl (by kernel_rfl) (by kernel_rfl) (by kernel_rfl) (fun _ _ _ h => h) (Or.inl ⟨by rfl, ?_⟩) hS6 ?_
              rotate_left
              · intro W _; go_simp; try with_reducible rfl
              try simp only [Act.put, List.getElem_toArray, List.getElem_cons_zero, List.getElem_cons_succ, List.setIfInBounds_toArray, List.set_cons_zero, List.set_cons_succ]
              refine wpAnyH_take (i := 11) (v := ?_) rfl (by kernel_rfl) (by kernel_rfl) (by kernel_rfl) (fun _ _ _ h => h) (Or.inl ⟨by rfl, ?_⟩) hS6 ?_
              rotate_left
              · intro W _; go_simp; try with_reducible rfl
              try simp only [Act.put, List.getElem_toArray, List.getElem_cons_zero, List.getElem_cons_succ, List.setIfInBounds_toArray, List.set_cons_zero, List.set_cons_succ]
              refine wpAnyH_ready (rs := [13]) (by kernel_rfl) (by simp) ?_
              refine (AllReadyH.cons rfl (fun K hK => ?_) AllReadyH.nil)
              refine store_bk_op 24 (.tmp 9) (.tmp 55) rfl g9 0 #[.int .i64 x2, .int .i64 y2, .int .i64 z2] rfl rfl 24 #[.int .i64 0, .int .i64 0, .int .i64 0] #[.int .i64 x2, .int .i64 y2, .int .i64 z2] HZ6.out (by kernel_rfl) (by simp) (by kernel_rfl) rfl ?_
              intro v7 hX hgr hs
              have HX := Lib.hid hX; clear hX hs
              have hbl : Below w4.heap.size _ v7 := grown_base hgr hS6.size (by intro kk ee; cases ee; exact hg9')
              clear HZ6 hgr
              refine hK.out _ _ (hS6.trans hbl) (fun hS7 => ?_)
              clear hK K
              try simp only [Act.put, List.getElem_toArray, List.getElem_cons_zero, List.getElem_cons_succ, List.setIfInBounds_toArray, List.set_cons_zero, List.set_cons_succ]
              refine wpAnyH_take (i := 14) (v := ?_) rfl (by kernel_rfl) (by kernel_rfl) (by kernel_rfl) (fun _ _ _ h => h) (Or.inl ⟨by rfl, ?_⟩) hS7 ?_
              rotate_left
              · intro W _; go_simp; try with_reducible rfl
              try simp only [Act.put, List.getElem_toArray, List.getElem_cons_zero, List.getElem_cons_succ, List.setIfInBounds_toArray, List.set_cons_zero, List.set_cons_succ]
              refine wpAnyH_done (by kernel_rfl) ?_ _
              go_wp2_with fail
              go_meet
              exact ⟨g9, rfl, rfl, hS7, HX.out⟩
        · refine one_op 49 #[.string ⟨#[]⟩, .string nm, .int .i64 0, .int .i64 d, .int .i64 e, .int .i64 f, .slice none 0 0, .string ⟨#[]⟩, .string ⟨#[]⟩, .int .i64 0, .int .i64 0, .string ⟨#[]⟩, .int .i64 0] rfl rfl rfl ?_
          intro g50 v1 hg50 hF hbl
          have HF1 := Lib.hid hF; clear hF hg50
          refine hK.out _ _ (hS0.trans (hbl.mono hS0.size)) (fun hS1 => ?_)
          clear hK K
          try simp only [Act.put, List.getElem_toArray, List.getElem_cons_zero, List.getElem_cons_succ, List.setIfInBounds_toArray, List.set_cons_zero, List.set_cons_succ]
          refine wpAnyH_ready (rs := [0, 12]) (by kernel_rfl) (by simp) ?_
          refine (AllReadyH.cons rfl (fun K hK => ?_) (AllReadyH.cons rfl (fun K hK => ?_) AllReadyH.nil))
          · refine none_op rfl ?_
            intro g46 v2 hg46 hE hbl
            have hg46' : w4.heap.size ≤ g46 := by have := hS1.size; omega
            have HE2 := Lib.hid hE; clear hE hg46
            have HF2 := Lib.hid (HF1.out.later hbl); clear HF1
            refine hK.out _ _ (hS1.trans (hbl.mono hS1.size)) (fun hS2 => ?_)
            clear hK K
            try simp only [Act.put, List.getElem_toArray, List.getElem_cons_zero, List.getElem_cons_succ, List.setIfInBounds_toArray, List.set_cons_zero, List.set_cons_succ]
            refine wpAnyH_ready (rs := [2, 12]) (by kernel_rfl) (by simp) ?_
            refine (AllReadyH.cons rfl (fun K hK => ?_) (AllReadyH.cons rfl (fun K hK => ?_) AllReadyH.nil))
            · refine append_kn_op _ (.tmp 46) (.tmp 47) 22 rfl w4.heap.size 41 _ 13 160 Try.underlying22 infoJ rfl (by omega) (.slice (some ⟨g46, 0, none⟩) 0 0) [] rfl (OwnK.of_empty HE2.out hg46') A' c' m (cellsJ js) rfl (RdK.later HJS.out hS2) (cellsJ_k _) (cellsJ_one _) HMJ.out (by simp [cellsJ, maxLen]; omega) (by simp [cellsJ, maxLen]; omega) hS2.size ?_
              intro u48 v3 hV hgr
              have HV3 := Lib.hid (show OwnK _ _ _ _ _ (cellsJ js) from hV); clear hV
              have HF3 := Lib.hid (HF2.out.stays hgr (by intro ee; exact Bk.ne HF2.out HE2.out (by simp) (Option.some.inj ee))); clear HF2
              have hbl : Below w4.heap.size _ v3 := grown_base hgr hS2.size (by intro kk ee; cases ee; exact hg46')
              clear HE2 hgr
              refine hK.out _ _ (hS2.trans hbl) (fun hS3 => ?_)
              clear hK K
              try simp only [Act.put, List.getElem_toArray, List.getElem_cons_zero, List.getElem_cons_succ, List.setIfInBounds_toArray, List.set_cons_zero, List.set_cons_succ]
              refine wpAnyH_ready (rs := [5, 12]) (by kernel_rfl) (by simp) ?_
              refine (AllReadyH.cons rfl (fun K hK => ?_) (AllReadyH.cons rfl (fun K hK => ?_) AllReadyH.nil))
              · refine append_k_op _ (.tmp 48) (.tmp 50) 22 rfl w4.heap.size 41 _ 13 160 Try.underlying22 infoJ rfl (by omega) u48 (cellsJ js) rfl HV3.out ⟨g50, 0, none⟩ 1 1 (cellsJ [jbOf nm (d, e, f)]) rfl (RdK.of_bk HF3.out) (cellsJ_k _) (cellsJ_one _) rfl (by simp [cellsJ, maxLen]; omega) (by simp [cellsJ, maxLen]; omega) hS3.size ?_
                intro u51 v4 hO hgr
                rw [← cellsJ_append] at hO
                obtain ⟨A2, c2, hv2, hr2, hc3, hc4⟩ := hO.rdj
                rw [← HM2.out] at hv2 hc3
                subst hv2
                have HR4 := Lib.hid hr2; clear hr2 hO
                have hbl : Below w4.heap.size _ v4 := grown_base hgr hS3.size HV3.out.block
                clear HV3 HF3 hgr
                refine hK.out _ _ (hS3.trans hbl) (fun hS4 => ?_)
                clear hK K
                try simp only [Act.put, List.getElem_toArray, List.getElem_cons_zero, List.getElem_cons_succ, List.setIfInBounds_toArray, List.set_cons_zero, List.set_cons_succ]
                refine wpAnyH_ready (rs := [8, 12]) (by kernel_rfl) (by simp) ?_
                refine (AllReadyH.cons rfl (fun K hK => ?_) (AllReadyH.cons rfl (fun K hK => ?_) AllReadyH.nil))
                · go_simp
                  refine (used_any A2 m2 c2 (js ++ [jbOf nm (d, e, f)]) nm _ HM2 (by omega) HR4 x2 y2 z2 f2 HU2).mono ?_
                  rintro r v5 ⟨rfl, hbl⟩
                  go_simp
                  clear HR4
                  refine hK.out _ _ (hS4.trans (hbl.mono hS4.size)) (fun hS5 => ?_)
                  clear hK K
                  try simp only [Act.put, List.getElem_toArray, List.getElem_cons_zero, List.getElem_cons_succ, List.setIfInBounds_toArray, List.set_cons_zero, List.set_cons_succ]
                  refine wpAnyH_take (i := 9) (v := ?_) rfl (by kernel_rfl) (by kernel_rfl) (by kernel_rfl) (fun _ _ _ h => h) (Or.inl ⟨by rfl, ?_⟩) hS5 ?_
                  rotate_left
                  · intro W _; go_simp; try with_reducible rfl
                  try simp only [Act.put, List.getElem_toArray, List.getElem_cons_zero, List.getElem_cons_succ, List.setIfInBounds_toArray, List.set_cons_zero, List.set_cons_succ]
                  refine wpAnyH_take (i := 10) (v := ?_) rfl (by kernel_rfl) (by kernel_rfl) (by kernel_rfl) (fun _ _ _ h => h) (Or.inl ⟨by rfl, ?_⟩) hS5 ?_
                  rotate_left
                  · intro W _; go_simp; try with_reducible rfl
                  try simp only [Act.put, List.getElem_toArray, List.getElem_cons_zero, List.getElem_cons_succ, List.setIfInBounds_toArray, List.set_cons_zero, List.set_cons_succ]
                  refine wpAnyH_take (i := 11) (v := ?_) rfl (by kernel_rfl) (by kernel_rfl) (by kernel_rfl) (fun _ _ _ h => h) (Or.inl ⟨by rfl, ?_⟩) hS5 ?_
                  rotate_left
                  · intro W _; go_simp; try with_reducible rfl
                  try simp only [Act.put, List.getElem_toArray, List.getElem_cons_zero, List.getElem_cons_succ, List.setIfInBounds_toArray, List.set_cons_zero, List.set_cons_succ]
                  refine wpAnyH_ready (rs := [12]) (by kernel_rfl) (by simp) ?_
                  refine (AllReadyH.cons rfl (fun K hK => ?_) AllReadyH.nil)
                  refine cell_op rfl ?_
                  intro g9 v6 hg9 hZ hbl
                  have hg9' : w4.heap.size ≤ g9 := by have := hS5.size; omega
                  have HZ6 := Lib.hid hZ; clear hZ hg9
                  refine hK.out _ _ (hS5.trans (hbl.mono hS5.size)) (fun hS6 => ?_)
                  clear hK K
                  try simp only [Act.put, List.getElem_toArray, List.getElem_cons_zero, List.getElem_cons_succ, List.setIfInBounds_toArray, List.set_cons_zero, List.set_cons_succ]
                  refine wpAnyH_ready (rs := [13]) (by kernel_rfl) (by simp) ?_
                  refine (AllReadyH.cons rfl (fun K hK => ?_) AllReadyH.nil)
                  refine store_bk_op 24 (.tmp 9) (.tmp 55) rfl g9 0 #[.int .i64 x2, .int .i64 y2, .int .i64 z2] rfl rfl 24 #[.int .i64 0, .int .i64 0, .int .i64 0] #[.int .i64 x2, .int .i64 y2, .int .i64 z2] HZ6.out (by kernel_rfl) (by simp) (by kernel_rfl) rfl ?_
                  intro v7 hX hgr hs
                  have HX := Lib.hid hX; clear hX hs
                  have hbl : Below w4.heap.size _ v7 := grown_base hgr hS6.size (by intro kk ee; cases ee; exact hg9')
                  clear HZ6 hgr
                  refine hK.out _ _ (hS6.trans hbl) (fun hS7 => ?_)
                  clear hK K
                  try simp only [Act.put, List.getElem_toArray, List.getElem_cons_zero, List.getElem_cons_succ, List.setIfInBounds_toArray, List.set_cons_zero, List.set_cons_succ]
                  refine wpAnyH_take (i := 14) (v := ?_) rfl (by kernel_rfl) (by kernel_rfl) (by kernel_rfl) (fun _ _ _ h => h) (Or.inl ⟨by rfl, ?_⟩) hS7 ?_
                  rotate_left
                  · intro W _; go_simp; try with_reducible rfl
                  try simp only [Act.put, List.getElem_toArray, List.getElem_cons_zero, List.getElem_cons_succ, List.setIfInBounds_toArray, List.set_cons_zero, List.set_cons_succ]
                  refine wpAnyH_done (by kernel_rfl) ?_ _
                  go_wp2_with fail
                  go_meet
                  exact ⟨g9, rfl, rfl, hS7, HX.out⟩
                · refine cell_op rfl ?_
                  intro g9 v5 hg9 hZ hbl
                  have hg9' : w4.heap.size ≤ g9 := by have := hS4.size; omega
                  have HZ5 := Lib.hid hZ; clear hZ hg9
                  have HR5 := Lib.hid (HR4.out.later hbl); clear HR4
                  refine hK.out _ _ (hS4.trans (hbl.mono hS4.size)) (fun hS5 => ?_)
                  clear hK K
                  try simp only [Act.put, List.getElem_toArray, List.getElem_cons_zero, List.getElem_cons_succ, List.setIfInBounds_toArray, List.set_cons_zero, List.set_cons_succ]
                  refine wpAnyH_ready (rs := [8]) (by kernel_rfl) (by simp) ?_
                  refine (AllReadyH.cons rfl (fun K hK => ?_) AllReadyH.nil)
                  go_simp
                  refine (used_any A2 m2 c2 (js ++ [jbOf nm (d, e, f)]) nm _ HM2 (by omega) HR5 x2 y2 z2 f2 HU2).mono ?_
                  rintro r v6 ⟨rfl, hbl⟩
                  go_simp
                  have HZ6 := Lib.hid (HZ5.out.later hbl); clear HZ5
                  clear HR5
                  refine hK.out _ _ (hS5.trans (hbl.mono hS5.size)) (fun hS6 => ?_)
                  clear hK K
                  try simp only [Act.put, List.getElem_toArray, List.getElem_cons_zero, List.getElem_cons_succ, List.setIfInBounds_toArray, List.set_cons_zero, List.set_cons_succ]
                  refine wpAnyH_take (i := 9) (v := ?_) rfl (by kernel_rfl) (by kernel_rfl) (by kernel_rfl) (fun _ _ _ h => h) (Or.inl ⟨by rfl, ?_⟩) hS6 ?_
                  rotate_left
                  · intro W _; go_simp; try with_reducible rfl
                  try simp only [Act.put, List.getElem_toArray, List.getElem_cons_zero, List.getElem_cons_succ, List.setIfInBounds_toArray, List.set_cons_zero, List.set_cons_succ]
                  refine wpAnyH_take (i := 10) (v := ?_) rfl (by kernel_rfl) (by kernel_rfl) (by kernel_rfl) (fun _ _ _ h => h) (Or.inl ⟨by rfl, ?_⟩) hS6 ?_
                  rotate_left
                  · intro W _; go_simp; try with_reducible rfl
                  try simp only [Act.put, List.getElem_toArray, List.getElem_cons_zero, List.getElem_cons_succ, List.setIfInBounds_toArray, List.set_cons_zero, List.set_cons_succ]
                  refine wpAnyH_take (i := 11) (v := ?_) rfl (by kernel_rfl) (by kernel_rfl) (by kernel_rfl) (fun _ _ _ h => h) (Or.inl ⟨by rfl, ?_⟩) hS6 ?_
                  rotate_left
                  · intro W _; go_simp; try with_reducible rfl
                  try simp only [Act.put, List.getElem_toArray, List.getElem_cons_zero, List.getElem_cons_succ, List.setIfInBounds_toArray, List.set_cons_zero, List.set_cons_succ]
                  refine wpAnyH_ready (rs := [13]) (by kernel_rfl) (by simp) ?_
                  refine (AllReadyH.cons rfl (fun K hK => ?_) AllReadyH.nil)
                  refine store_bk_op 24 (.tmp 9) (.tmp 55) rfl g9 0 #[.int .i64 x2, .int .i64 y2, .int .i64 z2] rfl rfl 24 #[.int .i64 0, .int .i64 0, .int .i64 0] #[.int .i64 x2, .int .i64 y2, .int .i64 z2] HZ6.out (by kernel_rfl) (by simp) (by kernel_rfl) rfl ?_
                  intro v7 hX hgr hs
                  have HX := Lib.hid hX; clear hX hs
                  have hbl : Below w4.heap.size _ v7 := grown_base hgr hS6.size (by intro kk ee; cases ee; exact hg9')
                  clear HZ6 hgr
                  refine hK.out _ _ (hS6.trans hbl) (fun hS7 => ?_)
                  clear hK K
                  try simp only [Act.put, List.getElem_toArray, List.getElem_cons_zero, List.getElem_cons_succ, List.setIfInBounds_toArray, List.set_cons_zero, List.set_cons_succ]
                  refine wpAnyH_take (i := 14) (v := ?_) rfl (by kernel_rfl) (by kernel_rfl) (by kernel_rfl) (fun _ _ _ h => h) (Or.inl ⟨by rfl, ?_⟩) hS7 ?_
                  rotate_left
                  · intro W _; go_simp; try with_reducible rfl
                  try simp only [Act.put, List.getElem_toArray, List.getElem_cons_zero, List.getElem_cons_succ, List.setIfInBounds_toArray, List.set_cons_zero, List.set_cons_succ]
                  refine wpAnyH_done (by kernel_rfl) ?_ _
                  go_wp2_with fail
                  go_meet
                  exact ⟨g9, rfl, rfl, hS7, HX.out⟩
              · refine cell_op rfl ?_
                intro g9 v4 hg9 hZ hbl
                have hg9' : w4.heap.size ≤ g9 := by have := hS3.size; omega
                have HZ4 := Lib.hid hZ; clear hZ hg9
                have HV4 := Lib.hid (HV3.out.below hbl); clear HV3
                have HF4 := Lib.hid (HF3.out.later hbl); clear HF3
                refine hK.out _ _ (hS3.trans (hbl.mono hS3.size)) (fun hS4 => ?_)
                clear hK K
                try simp only [Act.put, List.getElem_toArray, List.getElem_cons_zero, List.getElem_cons_succ, List.setIfInBounds_toArray, List.set_cons_zero, List.set_cons_succ]
                refine wpAnyH_ready (rs := [5]) (by kernel_rfl) (by simp) ?_
                refine (AllReadyH.cons rfl (fun K hK => ?_) AllReadyH.nil)
                refine append_k_op _ (.tmp 48) (.tmp 50) 22 rfl w4.heap.size 41 _ 13 160 Try.underlying22 infoJ rfl (by omega) u48 (cellsJ js) rfl HV4.out ⟨g50, 0, none⟩ 1 1 (cellsJ [jbOf nm (d, e, f)]) rfl (RdK.of_bk HF4.out) (cellsJ_k _) (cellsJ_one _) rfl (by simp [cellsJ, maxLen]; omega) (by simp [cellsJ, maxLen]; omega) hS4.size ?_
                intro u51 v5 hO hgr
                rw [← cellsJ_append] at hO
                obtain ⟨A2, c2, hv2, hr2, hc3, hc4⟩ := hO.rdj
                rw [← HM2.out] at hv2 hc3
                subst hv2
                have HR5 := Lib.hid hr2; clear hr2 hO
                have HZ5 := Lib.hid (HZ4.out.stays hgr (HV4.out.ne HZ4.out (by decide))); clear HZ4
                have hbl : Below w4.heap.size _ v5 := grown_base hgr hS4.size HV4.out.block
                clear HV4 HF4 hgr
                refine hK.out _ _ (hS4.trans hbl) (fun hS5 => ?_)
                clear hK K
                try simp only [Act.put, List.getElem_toArray, List.getElem_cons_zero, List.getElem_cons_succ, List.setIfInBounds_toArray, List.set_cons_zero, List.set_cons_succ]
                refine wpAnyH_ready (rs := [8]) (by kernel_rfl) (by simp) ?_
                refine (AllReadyH.cons rfl (fun K hK => ?_) AllReadyH.nil)
                go_simp
                refine (used_any A2 m2 c2 (js ++ [jbOf nm (d, e, f)]) nm _ HM2 (by omega) HR5 x2 y2 z2 f2 HU2).mono ?_
                rintro r v6 ⟨rfl, hbl⟩
                go_simp
                have HZ6 := Lib.hid (HZ5.out.later hbl); clear HZ5
                clear HR5
                refine hK.out _ _ (hS5.trans (hbl.mono hS5.size)) (fun hS6 => ?_)
                clear hK K
                try simp only [Act.put, List.getElem_toArray, List.getElem_cons_zero, List.getElem_cons_succ, List.setIfInBounds_toArray, List.set_cons_zero, List.set_cons_succ]
                refine wpAnyH_take (i := 9) (v := ?_) rfl (by kernel_rfl) (by kernel_rfl) (by kernel_rfl) (fun _ _ _ h => h) (Or.inl ⟨by rfl, ?_⟩) hS6 ?_
                rotate_left
                · intro W _; go_simp; try with_reducible rfl
                try simp only [Act.put, List.getElem_toArray, List.getElem_cons_zero, List.getElem_cons_succ, List.setIfInBounds_toArray, List.set_cons_zero, List.set_cons_succ]
                refine wpAnyH_take (i := 10) (v := ?_) rfl (by kernel_rfl) (by kernel_rfl) (by kernel_rfl) (fun _ _ _ h => h) (Or.inl ⟨by rfl, ?_⟩) hS6 ?_
                rotate_left
                · intro W _; go_simp; try with_reducible rfl
                try simp only [Act.put, List.getElem_toArray, List.getElem_cons_zero, List.getElem_cons_succ, List.setIfInBounds_toArray, List.set_cons_zero, List.set_cons_succ]
                refine wpAnyH_take (i := 11) (v := ?_) rfl (by kernel_rfl) (by kernel_rfl) (by kernel_rfl) (fun _ _ _ h => h) (Or.inl ⟨by rfl, ?_⟩) hS6 ?_
                rotate_left
                · intro W _; go_simp; try with_reducible rfl
                try simp only [Act.put, List.getElem_toArray, List.getElem_cons_zero, List.getElem_cons_succ, List.setIfInBounds_toArray, List.set_cons_zero, List.set_cons_succ]
                refine wpAnyH_ready (rs := [13]) (by kernel_rfl) (by simp) ?_
                refine (AllReadyH.cons rfl (fun K hK => ?_) AllReadyH.nil)
                refine store_bk_op 24 (.tmp 9) (.tmp 55) rfl g9 0 #[.int .i64 x2, .int .i64 y2, .int .i64 z2] rfl rfl 24 #[.int .i64 0, .int .i64 0, .int .i64 0] #[.int .i64 x2, .int .i64 y2, .int .i64 z2] HZ6.out (by kernel_rfl) (by simp) (by kernel_rfl) rfl ?_
                intro v7 hX hgr hs
                have HX := Lib.hid hX; clear hX hs
                have hbl : Below w4.heap.size _ v7 := grown_base hgr hS6.size (by intro kk ee; cases ee; exact hg9')
                clear HZ6 hgr
                refine hK.out _ _ (hS6.trans hbl) (fun hS7 => ?_)
                clear hK K
                try simp only [Act.put, List.getElem_toArray, List.getElem_cons_zero, List.getElem_cons_succ, List.setIfInBounds_toArray, List.set_cons_zero, List.set_cons_succ]
                refine wpAnyH_take (i := 14) (v := ?_) rfl (by kernel_rfl) (by kernel_rfl) (by kernel_rfl) (fun _ _ _ h => h) (Or.inl ⟨by rfl, ?_⟩) hS7 ?_
                rotate_left
                · intro W _; go_simp; try with_reducible rfl
                try simp only [Act.put, List.getElem_toArray, List.getElem_cons_zero, List.getElem_cons_succ, List.setIfInBounds_toArray, List.set_cons_zero, List.set_cons_succ]
                refine wpAnyH_done (by kernel_rfl) ?_ _
                go_wp2_with fail
                go_meet
                exact ⟨g9, rfl, rfl, hS7, HX.out⟩
            · refine cell_op rfl ?_
              intro g9 v3 hg9 hZ hbl
              have hg9' : w4.heap.size ≤ g9 := by have := hS2.size; omega
              have HZ3 := Lib.hid hZ; clear hZ hg9
              have HE3 := Lib.hid (HE2.out.later hbl); clear HE2
              have HF3 := Lib.hid (HF2.out.later hbl); clear HF2
              refine hK.out _ _ (hS2.trans (hbl.mono hS2.size)) (fun hS3 => ?_)
              clear hK K
              try simp only [Act.put, List.getElem_toArray, List.getElem_cons_zero, List.getElem_cons_succ, List.setIfInBounds_toArray, List.set_cons_zero, List.set_cons_succ]
              refine wpAnyH_ready (rs := [2]) (by kernel_rfl) (by simp) ?_
              refine (AllReadyH.cons rfl (fun K hK => ?_) AllReadyH.nil)
              refine append_kn_op _ (.tmp 46) (.tmp 47) 22 rfl w4.heap.size 41 _ 13 160 Try.underlying22 infoJ rfl (by omega) (.slice (some ⟨g46, 0, none⟩) 0 0) [] rfl (OwnK.of_empty HE3.out hg46') A' c' m (cellsJ js) rfl (RdK.later HJS.out hS3) (cellsJ_k _) (cellsJ_one _) HMJ.out (by simp [cellsJ, maxLen]; omega) (by simp [cellsJ, maxLen]; omega) hS3.size ?_
              intro u48 v4 hV hgr
              have HV4 := Lib.hid (show OwnK _ _ _ _ _ (cellsJ js) from hV); clear hV
              have HF4 := Lib.hid (HF3.out.stays hgr (by intro ee; exact Bk.ne HF3.out HE3.out (by simp) (Option.some.inj ee))); clear HF3
              have HZ4 := Lib.hid (HZ3.out.stays hgr (by intro ee; exact Bk.ne HZ3.out HE3.out (by simp) (Option.some.inj ee))); clear HZ3
              have hbl : Below w4.heap.size _ v4 := grown_base hgr hS3.size (by intro kk ee; cases ee; exact hg46')
              clear HE3 hgr
              refine hK.out _ _ (hS3.trans hbl) (fun hS4 => ?_)
              clear hK K
              try simp only [Act.put, List.getElem_toArray, List.getElem_cons_zero, List.getElem_cons_succ, List.setIfInBounds_toArray, List.set_cons_zero, List.set_cons_succ]
              refine wpAnyH_ready (rs := [5]) (by kernel_rfl) (by simp) ?_
              refine (AllReadyH.cons rfl (fun K hK => ?_) AllReadyH.nil)
              refine append_k_op _ (.tmp 48) (.tmp 50) 22 rfl w4.heap.size 41 _ 13 160 Try.underlying22 infoJ rfl (by omega) u48 (cellsJ js) rfl HV4.out ⟨g50, 0, none⟩ 1 1 (cellsJ [jbOf nm (d, e, f)]) rfl (RdK.of_bk HF4.out) (cellsJ_k _) (cellsJ_one _) rfl (by simp [cellsJ, maxLen]; omega) (by simp [cellsJ, maxLen]; omega) hS4.size ?_
              intro u51 v5 hO hgr
              rw [← cellsJ_append] at hO
              obtain ⟨A2, c2, hv2, hr2, hc3, hc4⟩ := hO.rdj
              rw [← HM2.out] at hv2 hc3
              subst hv2
              have HR5 := Lib.hid hr2; clear hr2 hO
              have HZ5 := Lib.hid (HZ4.out.stays hgr (HV4.out.ne HZ4.out (by decide))); clear HZ4
              have hbl : Below w4.heap.size _ v5 := grown_base hgr hS4.size HV4.out.block
              clear HV4 HF4 hgr
              refine hK.out _ _ (hS4.trans hbl) (fun hS5 => ?_)
              clear hK K
              try simp only [Act.put, List.getElem_toArray, List.getElem_cons_zero, List.getElem_cons_succ, List.setIfInBounds_toArray, List.set_cons_zero, List.set_cons_succ]
              refine wpAnyH_ready (rs := [8]) (by kernel_rfl) (by simp) ?_
              refine (AllReadyH.cons rfl (fun K hK => ?_) AllReadyH.nil)
              go_simp
              refine (used_any A2 m2 c2 (js ++ [jbOf nm (d, e, f)]) nm _ HM2 (by omega) HR5 x2 y2 z2 f2 HU2).mono ?_
              rintro r v6 ⟨rfl, hbl⟩
              go_simp
              have HZ6 := Lib.hid (HZ5.out.later hbl); clear HZ5
              clear HR5
              refine hK.out _ _ (hS5.trans (hbl.mono hS5.size)) (fun hS6 => ?_)
              clear hK K
              try simp only [Act.put, List.getElem_toArray, List.getElem_cons_zero, List.getElem_cons_succ, List.setIfInBounds_toArray, List.set_cons_zero, List.set_cons_succ]
              refine wpAnyH_take (i := 9) (v := ?_) rfl (by kernel_rfl) (by kernel_rfl) (by kernel_rfl) (fun _ _ _ h => h) (Or.inl ⟨by rfl, ?_⟩) hS6 ?_
              rotate_left
              · intro W _; go_simp; try with_reducible rfl
              try simp only [Act.put, List.getElem_toArray, List.getElem_cons_zero, List.getElem_cons_succ, List.setIfInBounds_toArray, List.set_cons_zero, List.set_cons_succ]
              refine wpAnyH_take (i := 10) (v := ?_) rfl (by kernel_rfl) (by kernel_rfl) (by kernel_rfl) (fun _ _ _ h => h) (Or.inl ⟨by rfl, ?_⟩) hS6 ?_
              rotate_left
              · intro W _; go_simp; try with_reducible rfl
              try simp only [Act.put, List.getElem_toArray, List.getElem_cons_zero, List.getElem_cons_succ, List.setIfInBounds_toArray, List.set_cons_zero, List.set_cons_succ]
              refine wpAnyH_take (i := 11) (v := ?_) rfl (by kernel_rfl) (by kernel_rfl) (by kernel_rfl) (fun _ _ _ h => h) (Or.inl ⟨by rfl, ?_⟩) hS6 ?_
              rotate_left
              · intro W _; go_simp; try with_reducible rfl
              try simp only [Act.put, List.getElem_toArray, List.getElem_cons_zero, List.getElem_cons_succ, List.setIfInBounds_toArray, List.set_cons_zero, List.set_cons_succ]
              refine wpAnyH_ready (rs := [13]) (by kernel_rfl) (by simp) ?_
              refine (AllReadyH.cons rfl (fun K hK => ?_) AllReadyH.nil)
              refine store_bk_op 24 (.tmp 9) (.tmp 55) rfl g9 0 #[.int .i64 x2, .int .i64 y2, .int .i64 z2] rfl rfl 24 #[.int .i64 0, .int .i64 0, .int .i64 0] #[.int .i64 x2, .int .i64 y2, .int .i64 z2] HZ6.out (by kernel_rfl) (by simp) (by kernel_rfl) rfl ?_
              intro v7 hX hgr hs
              have HX := Lib.hid hX; clear hX hs
              have hbl : Below w4.heap.size _ v7 := grown_base hgr hS6.size (by intro kk ee; cases ee; exact hg9')
              clear HZ6 hgr
              refine hK.out _ _ (hS6.trans hbl) (fun hS7 => ?_)
              clear hK K
              try simp only [Act.put, List.getElem_toArray, List.getElem_cons_zero, List.getElem_cons_succ, List.setIfInBounds_toArray, List.set_cons_zero, List.set_cons_succ]
              refine wpAnyH_take (i := 14) (v := ?_) rfl (by kernel_rfl) (by kernel_rfl) (by kernel_rfl) (fun _ _ _ h => h) (Or.inl ⟨by rfl, ?_⟩) hS7 ?_
              rotate_left
              · intro W _; go_simp; try with_reducible rfl
              try simp only [Act.put, List.getElem_toArray, List.getElem_cons_zero, List.getElem_cons_succ, List.setIfInBounds_toArray, List.set_cons_zero, List.set_cons_succ]
              refine wpAnyH_done (by kernel_rfl) ?_ _
              go_wp2_with fail
              go_meet
              exact ⟨g9, rfl, rfl, hS7, HX.out⟩
          · refine cell_op rfl ?_
            intro g9 v2 hg9 hZ hbl
            have hg9' : w4.heap.size ≤ g9 := by have := hS1.size; omega
            have HZ2 := Lib.hid hZ; clear hZ hg9
            have HF2 := Lib.hid (HF1.out.later hbl); clear HF1
            refine hK.out _ _ (hS1.trans (hbl.mono hS1.size)) (fun hS2 => ?_)
            clear hK K
            try simp only [Act.put, List.getElem_toArray, List.getElem_cons_zero, List.getElem_cons_succ, List.setIfInBounds_toArray, List.set_cons_zero, List.set_cons_succ]
            refine wpAnyH_ready (rs := [0]) (by kernel_rfl) (by simp) ?_
            refine (AllReadyH.cons rfl (fun K hK => ?_) AllReadyH.nil)
            refine none_op rfl ?_
            intro g46 v3 hg46 hE hbl
            have hg46' : w4.heap.size ≤ g46 := by have := hS2.size; omega
            have HE3 := Lib.hid hE; clear hE hg46
            have HF3 := Lib.hid (HF2.out.later hbl); clear HF2
            have HZ3 := Lib.hid (HZ2.out.later hbl); clear HZ2
            refine hK.out _ _ (hS2.trans (hbl.mono hS2.size)) (fun hS3 => ?_)
            clear hK K
            try simp only [Act.put, List.getElem_toArray, List.getElem_cons_zero, List.getElem_cons_succ, List.setIfInBounds_toArray, List.set_cons_zero, List.set_cons_succ]
            refine wpAnyH_ready (rs := [2]) (by kernel_rfl) (by simp) ?_
            refine (AllReadyH.cons rfl (fun K hK => ?_) AllReadyH.nil)
            refine append_kn_op _ (.tmp 46) (.tmp 47) 22 rfl w4.heap.size 41 _ 13 160 Try.underlying22 infoJ rfl (by omega) (.slice (some ⟨g46, 0, none⟩) 0 0) [] rfl (OwnK.of_empty HE3.out hg46') A' c' m (cellsJ js) rfl (RdK.later HJS.out hS3) (cellsJ_k _) (cellsJ_one _) HMJ.out (by simp [cellsJ, maxLen]; omega) (by simp [cellsJ, maxLen]; omega) hS3.size ?_
            intro u48 v4 hV hgr
            have HV4 := Lib.hid (show OwnK _ _ _ _ _ (cellsJ js) from hV); clear hV
            have HF4 := Lib.hid (HF3.out.stays hgr (by intro ee; exact Bk.ne HF3.out HE3.out (by simp) (Option.some.inj ee))); clear HF3
            have HZ4 := Lib.hid (HZ3.out.stays hgr (by intro ee; exact Bk.ne HZ3.out HE3.out (by simp) (Option.some.inj ee))); clear HZ3
            have hbl : Below w4.heap.size _ v4 := grown_base hgr hS3.size (by intro kk ee; cases ee; exact hg46')
            clear HE3 hgr
            refine hK.out _ _ (hS3.trans hbl) (fun hS4 => ?_)
            clear hK K
            try simp only [Act.put, List.getElem_toArray, List.getElem_cons_zero, List.getElem_cons_succ, List.setIfInBounds_toArray, List.set_cons_zero, List.set_cons_succ]
            refine wpAnyH_ready (rs := [5]) (by kernel_rfl) (by simp) ?_
            refine (AllReadyH.cons rfl (fun K hK => ?_) AllReadyH.nil)
            refine append_k_op _ (.tmp 48) (.tmp 50) 22 rfl w4.heap.size 41 _ 13 160 Try.underlying22 infoJ rfl (by omega) u48 (cellsJ js) rfl HV4.out ⟨g50, 0, none⟩ 1 1 (cellsJ [jbOf nm (d, e, f)]) rfl (RdK.of_bk HF4.out) (cellsJ_k _) (cellsJ_one _) rfl (by simp [cellsJ, maxLen]; omega) (by simp [cellsJ, maxLen]; omega) hS4.size ?_
            intro u51 v5 hO hgr
            rw [← cellsJ_append] at hO
            obtain ⟨A2, c2, hv2, hr2, hc3, hc4⟩ := hO.rdj
            rw [← HM2.out] at hv2 hc3
            subst hv2
            have HR5 := Lib.hid hr2; clear hr2 hO
            have HZ5 := Lib.hid (HZ4.out.stays hgr (HV4.out.ne HZ4.out (by decide))); clear HZ4
            have hbl : Below w4.heap.size _ v5 := grown_base hgr hS4.size HV4.out.block
            clear HV4 HF4 hgr
            refine hK.out _ _ (hS4.trans hbl) (fun hS5 => ?_)
            clear hK K
            try simp only [Act.put, List.getElem_toArray, List.getElem_cons_zero, List.getElem_cons_succ, List.setIfInBounds_toArray, List.set_cons_zero, List.set_cons_succ]
            refine wpAnyH_ready (rs := [8]) (by kernel_rfl) (by simp) ?_
            refine (AllReadyH.cons rfl (fun K hK => ?_) AllReadyH.nil)
            go_simp
            refine (used_any A2 m2 c2 (js ++ [jbOf nm (d, e, f)]) nm _ HM2 (by omega) HR5 x2 y2 z2 f2 HU2).mono ?_
            rintro r v6 ⟨rfl, hbl⟩
            go_simp
            have HZ6 := Lib.hid (HZ5.out.later hbl); clear HZ5
            clear HR5
            refine hK.out _ _ (hS5.trans (hbl.mono hS5.size)) (fun hS6 => ?_)
            clear hK K
            try simp only [Act.put, List.getElem_toArray, List.getElem_cons_zero, List.getElem_cons_succ, List.setIfInBounds_toArray, List.set_cons_zero, List.set_cons_succ]
            refine wpAnyH_take (i := 9) (v := ?_) rfl (by kernel_rfl) (by kernel_rfl) (by kernel_rfl) (fun _ _ _ h => h) (Or.inl ⟨by rfl, ?_⟩) hS6 ?_
            rotate_left
            · intro W _; go_simp; try with_reducible rfl
            try simp only [Act.put, List.getElem_toArray, List.getElem_cons_zero, List.getElem_cons_succ, List.setIfInBounds_toArray, List.set_cons_zero, List.set_cons_succ]
            refine wpAnyH_take (i := 10) (v := ?_) rfl (by kernel_rfl) (by kernel_rfl) (by kernel_rfl) (fun _ _ _ h => h) (Or.inl ⟨by rfl, ?_⟩) hS6 ?_
            rotate_left
            · intro W _; go_simp; try with_reducible rfl
            try simp only [Act.put, List.getElem_toArray, List.getElem_cons_zero, List.getElem_cons_succ, List.setIfInBounds_toArray, List.set_cons_zero, List.set_cons_succ]
            refine wpAnyH_take (i := 11) (v := ?_) rfl (by kernel_rfl) (by kernel_rfl) (by kernel_rfl) (fun _ _ _ h => h) (Or.inl ⟨by rfl, ?_⟩) hS6 ?_
            rotate_left
            · intro W _; go_simp; try with_reducible rfl
            try simp only [Act.put, List.getElem_toArray, List.getElem_cons_zero, List.getElem_cons_succ, List.setIfInBounds_toArray, List.set_cons_zero, List.set_cons_succ]
            refine wpAnyH_ready (rs := [13]) (by kernel_rfl) (by simp) ?_
            refine (AllReadyH.cons rfl (fun K hK => ?_) AllReadyH.nil)
            refine store_bk_op 24 (.tmp 9) (.tmp 55) rfl g9 0 #[.int .i64 x2, .int .i64 y2, .int .i64 z2] rfl rfl 24 #[.int .i64 0, .int .i64 0, .int .i64 0] #[.int .i64 x2, .int .i64 y2, .int .i64 z2] HZ6.out (by kernel_rfl) (by simp) (by kernel_rfl) rfl ?_
            intro v7 hX hgr hs
            have HX := Lib.hid hX; clear hX hs
            have hbl : Below w4.heap.size _ v7 := grown_base hgr hS6.size (by intro kk ee; cases ee; exact hg9')
            clear HZ6 hgr
            refine hK.out _ _ (hS6.trans hbl) (fun hS7 => ?_)
            clear hK K
            try simp only [Act.put, List.getElem_toArray, List.getElem_cons_zero, List.getElem_cons_succ, List.setIfInBounds_toArray, List.set_cons_zero, List.set_cons_succ]
            refine wpAnyH_take (i := 14) (v := ?_) rfl (by kernel_rfl) (by kernel_rfl) (by kernel_rfl) (fun _ _ _ h => h) (Or.inl ⟨by rfl, ?_⟩) hS7 ?_
            rotate_left
            · intro W _; go_simp; try with_reducible rfl
            try simp only [Act.put, List.getElem_toArray, List.getElem_cons_zero, List.getElem_cons_succ, List.setIfInBounds_toArray, List.set_cons_zero, List.set_cons_succ]
            refine wpAnyH_done (by kernel_rfl) ?_ _
            go_wp2_with fail
            go_meet
            exact ⟨g9, rfl, rfl, hS7, HX.out⟩
        · refine cell_op rfl ?_
          intro g9 v1 hg9 hZ hbl
          have hg9' : w4.heap.size ≤ g9 := by have := hS0.size; omega
          have HZ1 := Lib.hid hZ; clear hZ hg9
          refine hK.out _ _ (hS0.trans (hbl.mono hS0.size)) (fun hS1 => ?_)
          clear hK K
          try simp only [Act.put, List.getElem_toArray, List.getElem_cons_zero, List.getElem_cons_succ, List.setIfInBounds_toArray, List.set_cons_zero, List.set_cons_succ]
          refine wpAnyH_ready (rs := [0, 4]) (by kernel_rfl) (by simp) ?_
          refine (AllReadyH.cons rfl (fun K hK => ?_) (AllReadyH.cons rfl (fun K hK => ?_) AllReadyH.nil))
          · refine none_op rfl ?_
            intro g46 v2 hg46 hE hbl
            have hg46' : w4.heap.size ≤ g46 := by have := hS1.size; omega
            have HE2 := Lib.hid hE; clear hE hg46
            have HZ2 := Lib.hid (HZ1.out.later hbl); clear HZ1
            refine hK.out _ _ (hS1.trans (hbl.mono hS1.size)) (fun hS2 => ?_)
            clear hK K
            try simp only [Act.put, List.getElem_toArray, List.getElem_cons_zero, List.getElem_cons_succ, List.setIfInBounds_toArray, List.set_cons_zero, List.set_cons_succ]
            refine wpAnyH_ready (rs := [2, 4]) (by kernel_rfl) (by simp) ?_
            refine (AllReadyH.cons rfl (fun K hK => ?_) (AllReadyH.cons rfl (fun K hK => ?_) AllReadyH.nil))
            · refine append_kn_op _ (.tmp 46) (.tmp 47) 22 rfl w4.heap.size 41 _ 13 160 Try.underlying22 infoJ rfl (by omega) (.slice (some ⟨g46, 0, none⟩) 0 0) [] rfl (OwnK.of_empty HE2.out hg46') A' c' m (cellsJ js) rfl (RdK.later HJS.out hS2) (cellsJ_k _) (cellsJ_one _) HMJ.out (by simp [cellsJ, maxLen]; omega) (by simp [cellsJ, maxLen]; omega) hS2.size ?_
              intro u48 v3 hV hgr
              have HV3 := Lib.hid (show OwnK _ _ _ _ _ (cellsJ js) from hV); clear hV
              have HZ3 := Lib.hid (HZ2.out.stays hgr (by intro ee; exact Bk.ne HZ2.out HE2.out (by simp) (Option.some.inj ee))); clear HZ2
              have hbl : Below w4.heap.size _ v3 := grown_base hgr hS2.size (by intro kk ee; cases ee; exact hg46')
              clear HE2 hgr
              refine hK.out _ _ (hS2.trans hbl) (fun hS3 => ?_)
              clear hK K
              try simp only [Act.put, List.getElem_toArray, List.getElem_cons_zero, List.getElem_cons_succ, List.setIfInBounds_toArray, List.set_cons_zero, List.set_cons_succ]
              refine wpAnyH_ready (rs := [4]) (by kernel_rfl) (by simp) ?_
              refine (AllReadyH.cons rfl (fun K hK => ?_) AllReadyH.nil)
              refine one_op 49 #[.string ⟨#[]⟩, .string nm, .int .i64 0, .int .i64 d, .int .i64 e, .int .i64 f, .slice none 0 0, .string ⟨#[]⟩, .string ⟨#[]⟩, .int .i64 0, .int .i64 0, .string ⟨#[]⟩, .int .i64 0] rfl rfl rfl ?_
              intro g50 v4 hg50 hF hbl
              have HF4 := Lib.hid hF; clear hF hg50
              have HV4 := Lib.hid (HV3.out.below hbl); clear HV3
              have HZ4 := Lib.hid (HZ3.out.later hbl); clear HZ3
              refine hK.out _ _ (hS3.trans (hbl.mono hS3.size)) (fun hS4 => ?_)
              clear hK K
              try simp only [Act.put, List.getElem_toArray, List.getElem_cons_zero, List.getElem_cons_succ, List.setIfInBounds_toArray, List.set_cons_zero, List.set_cons_succ]
              refine wpAnyH_ready (rs := [5]) (by kernel_rfl) (by simp) ?_
              refine (AllReadyH.cons rfl (fun K hK => ?_) AllReadyH.nil)
              refine append_k_op _ (.tmp 48) (.tmp 50) 22 rfl w4.heap.size 41 _ 13 160 Try.underlying22 infoJ rfl (by omega) u48 (cellsJ js) rfl HV4.out ⟨g50, 0, none⟩ 1 1 (cellsJ [jbOf nm (d, e, f)]) rfl (RdK.of_bk HF4.out) (cellsJ_k _) (cellsJ_one _) rfl (by simp [cellsJ, maxLen]; omega) (by simp [cellsJ, maxLen]; omega) hS4.size ?_
              intro u51 v5 hO hgr
              rw [← cellsJ_append] at hO
              obtain ⟨A2, c2, hv2, hr2, hc3, hc4⟩ := hO.rdj
              rw [← HM2.out] at hv2 hc3
              subst hv2
              have HR5 := Lib.hid hr2; clear hr2 hO
              have HZ5 := Lib.hid (HZ4.out.stays hgr (HV4.out.ne HZ4.out (by decide))); clear HZ4
              have hbl : Below w4.heap.size _ v5 := grown_base hgr hS4.size HV4.out.block
              clear HV4 HF4 hgr
              refine hK.out _ _ (hS4.trans hbl) (fun hS5 => ?_)
              clear hK K
              try simp only [Act.put, List.getElem_toArray, List.getElem_cons_zero, List.getElem_cons_succ, List.setIfInBounds_toArray, List.set_cons_zero, List.set_cons_succ]
              refine wpAnyH_ready (rs := [8]) (by kernel_rfl) (by simp) ?_
              refine (AllReadyH.cons rfl (fun K hK => ?_) AllReadyH.nil)
              go_simp
              refine (used_any A2 m2 c2 (js ++ [jbOf nm (d, e, f)]) nm _ HM2 (by omega) HR5 x2 y2 z2 f2 HU2).mono ?_
              rintro r v6 ⟨rfl, hbl⟩
              go_simp
              have HZ6 := Lib.hid (HZ5.out.later hbl); clear HZ5
              clear HR5
              refine hK.out _ _ (hS5.trans (hbl.mono hS5.size)) (fun hS6 => ?_)
              clear hK K
              try simp only [Act.put, List.getElem_toArray, List.getElem_cons_zero, List.getElem_cons_succ, List.setIfInBounds_toArray, List.set_cons_zero, List.set_cons_succ]
              refine wpAnyH_take (i := 9) (v := ?_) rfl (by kernel_rfl) (by kernel_rfl) (by kernel_rfl) (fun _ _ _ h => h) (Or.inl ⟨by rfl, ?_⟩) hS6 ?_
              rotate_left
              · intro W _; go_simp; try with_reducible rfl
              try simp only [Act.put, List.getElem_toArray, List.getElem_cons_zero, List.getElem_cons_succ, List.setIfInBounds_toArray, List.set_cons_zero, List.set_cons_succ]
              refine wpAnyH_take (i := 10) (v := ?_) rfl (by kernel_rfl) (by kernel_rfl) (by kernel_rfl) (fun _ _ _ h => h) (Or.inl ⟨by rfl, ?_⟩) hS6 ?_
              rotate_left
              · intro W _; go_simp; try with_reducible rfl
              try simp only [Act.put, List.getElem_toArray, List.getElem_cons_zero, List.getElem_cons_succ, List.setIfInBounds_toArray, List.set_cons_zero, List.set_cons_succ]
              refine wpAnyH_take (i := 11) (v := ?_) rfl (by kernel_rfl) (by kernel_rfl) (by kernel_rfl) (fun _ _ _ h => h) (Or.inl ⟨by rfl, ?_⟩) hS6 ?_
              rotate_left
              · intro W _; go_simp; try with_reducible rfl
              try simp only [Act.put, List.getElem_toArray, List.getElem_cons_zero, List.getElem_cons_succ, List.setIfInBounds_toArray, List.set_cons_zero, List.set_cons_succ]
              refine wpAnyH_ready (rs := [13]) (by kernel_rfl) (by simp) ?_
              refine (AllReadyH.cons rfl (fun K hK => ?_) AllReadyH.nil)
              refine store_bk_op 24 (.tmp 9) (.tmp 55) rfl g9 0 #[.int .i64 x2, .int .i64 y2, .int .i64 z2] rfl rfl 24 #[.int .i64 0, .int .i64 0, .int .i64 0] #[.int .i64 x2, .int .i64 y2, .int .i64 z2] HZ6.out (by kernel_rfl) (by simp) (by kernel_rfl) rfl ?_
              intro v7 hX hgr hs
              have HX := Lib.hid hX; clear hX hs
              have hbl : Below w4.heap.size _ v7 := grown_base hgr hS6.size (by intro kk ee; cases ee; exact hg9')
              clear HZ6 hgr
              refine hK.out _ _ (hS6.trans hbl) (fun hS7 => ?_)
              clear hK K
              try simp only [Act.put, List.getElem_toArray, List.getElem_cons_zero, List.getElem_cons_succ, List.setIfInBounds_toArray, List.set_cons_zero, List.set_cons_succ]
              refine wpAnyH_take (i := 14) (v := ?_) rfl (by kernel_rfl) (by kernel_rfl) (by kernel_rfl) (fun _ _ _ h => h) (Or.inl ⟨by rfl, ?_⟩) hS7 ?_
              rotate_left
              · intro W _; go_simp; try with_reducible rfl
              try simp only [Act.put, List.getElem_toArray, List.getElem_cons_zero, List.getElem_cons_succ, List.setIfInBounds_toArray, List.set_cons_zero, List.set_cons_succ]
              refine wpAnyH_done (by kernel_rfl) ?_ _
              go_wp2_with fail
              go_meet
              exact ⟨g9, rfl, rfl, hS7, HX.out⟩
            · refine one_op 49 #[.string ⟨#[]⟩, .string nm, .int .i64 0, .int .i64 d, .int .i64 e, .int .i64 f, .slice none 0 0, .string ⟨#[]⟩, .string ⟨#[]⟩, .int .i64 0, .int .i64 0, .string ⟨#[]⟩, .int .i64 0] rfl rfl rfl ?_
              intro g50 v3 hg50 hF hbl
              have HF3 := Lib.hid hF; clear hF hg50
              have HE3 := Lib.hid (HE2.out.later hbl); clear HE2
              have HZ3 := Lib.hid (HZ2.out.later hbl); clear HZ2
              refine hK.out _ _ (hS2.trans (hbl.mono hS2.size)) (fun hS3 => ?_)
              clear hK K
              try simp only [Act.put, List.getElem_toArray, List.getElem_cons_zero, List.getElem_cons_succ, List.setIfInBounds_toArray, List.set_cons_zero, List.set_cons_succ]
              refine wpAnyH_ready (rs := [2]) (by kernel_rfl) (by simp) ?_
              refine (AllReadyH.cons rfl (fun K hK => ?_) AllReadyH.nil)
              refine append_kn_op _ (.tmp 46) (.tmp 47) 22 rfl w4.heap.size 41 _ 13 160 Try.underlying22 infoJ rfl (by omega) (.slice (some ⟨g46, 0, none⟩) 0 0) [] rfl (OwnK.of_empty HE3.out hg46') A' c' m (cellsJ js) rfl (RdK.later HJS.out hS3) (cellsJ_k _) (cellsJ_one _) HMJ.out (by simp [cellsJ, maxLen]; omega) (by simp [cellsJ, maxLen]; omega) hS3.size ?_
              intro u48 v4 hV hgr
              have HV4 := Lib.hid (show OwnK _ _ _ _ _ (cellsJ js) from hV); clear hV
              have HF4 := Lib.hid (HF3.out.stays hgr (by intro ee; exact Bk.ne HF3.out HE3.out (by simp) (Option.some.inj ee))); clear HF3
              have HZ4 := Lib.hid (HZ3.out.stays hgr (by intro ee; exact Bk.ne HZ3.out HE3.out (by simp) (Option.some.inj ee))); clear HZ3
              have hbl : Below w4.heap.size _ v4 := grown_base hgr hS3.size (by intro kk ee; cases ee; exact hg46')
              clear HE3 hgr
              refine hK.out _ _ (hS3.trans hbl) (fun hS4 => ?_)
              clear hK K
              try simp only [Act.put, List.getElem_toArray, List.getElem_cons_zero, List.getElem_cons_succ, List.setIfInBounds_toArray, List.set_cons_zero, List.set_cons_succ]
              refine wpAnyH_ready (rs := [5]) (by kernel_rfl) (by simp) ?_
              refine (AllReadyH.cons rfl (fun K hK => ?_) AllReadyH.nil)
              refine append_k_op _ (.tmp 48) (.tmp 50) 22 rfl w4.heap.size 41 _ 13 160 Try.underlying22 infoJ rfl (by omega) u48 (cellsJ js) rfl HV4.out ⟨g50, 0, none⟩ 1 1 (cellsJ [jbOf nm (d, e, f)]) rfl (RdK.of_bk HF4.out) (cellsJ_k _) (cellsJ_one _) rfl (by simp [cellsJ, maxLen]; omega) (by simp [cellsJ, maxLen]; omega) hS4.size ?_
              intro u51 v5 hO hgr
              rw [← cellsJ_append] at hO
              obtain ⟨A2, c2, hv2, hr2, hc3, hc4⟩ := hO.rdj
              rw [← HM2.out] at hv2 hc3
              subst hv2
              have HR5 := Lib.hid hr2; clear hr2 hO
              have HZ5 := Lib.hid (HZ4.out.stays hgr (HV4.out.ne HZ4.out (by decide))); clear HZ4
              have hbl : Below w4.heap.size _ v5 := grown_base hgr hS4.size HV4.out.block
              clear HV4 HF4 hgr
              refine hK.out _ _ (hS4.trans hbl) (fun hS5 => ?_)
              clear hK K
              try simp only [Act.put, List.getElem_toArray, List.getElem_cons_zero, List.getElem_cons_succ, List.setIfInBounds_toArray, List.set_cons_zero, List.set_cons_succ]
              refine wpAnyH_ready (rs := [8]) (by kernel_rfl) (by simp) ?_
              refine (AllReadyH.cons rfl (fun K hK => ?_) AllReadyH.nil)
              go_simp
              refine (used_any A2 m2 c2 (js ++ [jbOf nm (d, e, f)]) nm _ HM2 (by omega) HR5 x2 y2 z2 f2 HU2).mono ?_
              rintro r v6 ⟨rfl, hbl⟩
              go_simp
              have HZ6 := Lib.hid (HZ5.out.later hbl); clear HZ5
              clear HR5
              refine hK.out _ _ (hS5.trans (hbl.mono hS5.size)) (fun hS6 => ?_)
              clear hK K
              try simp only [Act.put, List.getElem_toArray, List.getElem_cons_zero, List.getElem_cons_succ, List.setIfInBounds_toArray, List.set_cons_zero, List.set_cons_succ]
              refine wpAnyH_take (i := 9) (v := ?_) rfl (by kernel_rfl) (by kernel_rfl) (by kernel_rfl) (fun _ _ _ h => h) (Or.inl ⟨by rfl, ?_⟩) hS6 ?_
              rotate_left
              · intro W _; go_simp; try with_reducible rfl
              try simp only [Act.put, List.getElem_toArray, List.getElem_cons_zero, List.getElem_cons_succ, List.setIfInBounds_toArray, List.set_cons_zero, List.set_cons_succ]
              refine wpAnyH_take (i := 10) (v := ?_) rfl (by kernel_rfl) (by kernel_rfl) (by kernel_rfl) (fun _ _ _ h => h) (Or.inl ⟨by rfl, ?_⟩) hS6 ?_
              rotate_left
              · intro W _; go_simp; try with_reducible rfl
              try simp only [Act.put, List.getElem_toArray, List.getElem_cons_zero, List.getElem_cons_succ, List.setIfInBounds_toArray, List.set_cons_zero, List.set_cons_succ]
              refine wpAnyH_take (i := 11) (v := ?_) rfl (by kernel_rfl) (by kernel_rfl) (by kernel_rfl) (fun _ _ _ h => h) (Or.inl ⟨by rfl, ?_⟩) hS6 ?_
              rotate_left
              · intro W _; go_simp; try with_reducible rfl
              try simp only [Act.put, List.getElem_toArray, List.getElem_cons_zero, List.getElem_cons_succ, List.setIfInBounds_toArray, List.set_cons_zero, List.set_cons_succ]
              refine wpAnyH_ready (rs := [13]) (by kernel_rfl) (by simp) ?_
              refine (AllReadyH.cons rfl (fun K hK => ?_) AllReadyH.nil)
              refine store_bk_op 24 (.tmp 9) (.tmp 55) rfl g9 0 #[.int .i64 x2, .int .i64 y2, .int .i64 z2] rfl rfl 24 #[.int .i64 0, .int .i64 0, .int .i64 0] #[.int .i64 x2, .int .i64 y2, .int .i64 z2] HZ6.out (by kernel_rfl) (by simp) (by kernel_rfl) rfl ?_
              intro v7 hX hgr hs
              have HX := Lib.hid hX; clear hX hs
              have hbl : Below w4.heap.size _ v7 := grown_base hgr hS6.size (by intro kk ee; cases ee; exact hg9')
              clear HZ6 hgr
              refine hK.out _ _ (hS6.trans hbl) (fun hS7 => ?_)
              clear hK K
              try simp only [Act.put, List.getElem_toArray, List.getElem_cons_zero, List.getElem_cons_succ, List.setIfInBounds_toArray, List.set_cons_zero, List.set_cons_succ]
              refine wpAnyH_take (i := 14) (v := ?_) rfl (by kernel_rfl) (by kernel_rfl) (by kernel_rfl) (fun _ _ _ h => h) (Or.inl ⟨by rfl, ?_⟩) hS7 ?_
              rotate_left
              · intro W _; go_simp; try with_reducible rfl
              try simp only [Act.put, List.getElem_toArray, List.getElem_cons_zero, List.getElem_cons_succ, List.setIfInBounds_toArray, List.set_cons_zero, List.set_cons_succ]
              refine wpAnyH_done (by kernel_rfl) ?_ _
              go_wp2_with fail
              go_meet
              exact ⟨g9, rfl, rfl, hS7, HX.out⟩
          · refine one_op 49 #[.string ⟨#[]⟩, .string nm, .int .i64 0, .int .i64 d, .int .i64 e, .int .i64 f, .slice none 0 0, .string ⟨#[]⟩, .string ⟨#[]⟩, .int .i64 0, .int .i64 0, .string ⟨#[]⟩, .int .i64 0] rfl rfl rfl ?_
            intro g50 v2 hg50 hF hbl
            have HF2 := Lib.hid hF; clear hF hg50
            have HZ2 := Lib.hid (HZ1.out.later hbl); clear HZ1
            refine hK.out _ _ (hS1.trans (hbl.mono hS1.size)) (fun hS2 => ?_)
            clear hK K
            try simp only [Act.put, List.getElem_toArray, List.getElem_cons_zero, List.getElem_cons_succ, List.setIfInBounds_toArray, List.set_cons_zero, List.set_cons_succ]
            refine wpAnyH_ready (rs := [0]) (by kernel_rfl) (by simp) ?_
            refine (AllReadyH.cons rfl (fun K hK => ?_) AllReadyH.nil)
            refine none_op rfl ?_
            intro g46 v3 hg46 hE hbl
            have hg46' : w4.heap.size ≤ g46 := by have := hS2.size; omega
            have HE3 := Lib.hid hE; clear hE hg46
            have HF3 := Lib.hid (HF2.out.later hbl); clear HF2
            have HZ3 := Lib.hid (HZ2.out.later hbl); clear HZ2
            refine hK.out _ _ (hS2.trans (hbl.mono hS2.size)) (fun hS3 => ?_)
            clear hK K
            try simp only [Act.put, List.getElem_toArray, List.getElem_cons_zero, List.getElem_cons_succ, List.setIfInBounds_toArray, List.set_cons_zero, List.set_cons_succ]
            refine wpAnyH_ready (rs := [2]) (by kernel_rfl) (by simp) ?_
            refine (AllReadyH.cons rfl (fun K hK => ?_) AllReadyH.nil)
            refine append_kn_op _ (.tmp 46) (.tmp 47) 22 rfl w4.heap.size 41 _ 13 160 Try.underlying22 infoJ rfl (by omega) (.slice (some ⟨g46, 0, none⟩) 0 0) [] rfl (OwnK.of_empty HE3.out hg46') A' c' m (cellsJ js) rfl (RdK.later HJS.out hS3) (cellsJ_k _) (cellsJ_one _) HMJ.out (by simp [cellsJ, maxLen]; omega) (by simp [cellsJ, maxLen]; omega) hS3.size ?_
            intro u48 v4 hV hgr
            have HV4 := Lib.hid (show OwnK _ _ _ _ _ (cellsJ js) from hV); clear hV
            have HF4 := Lib.hid (HF3.out.stays hgr (by intro ee; exact Bk.ne HF3.out HE3.out (by simp) (Option.some.inj ee))); clear HF3
            have HZ4 := Lib.hid (HZ3.out.stays hgr (by intro ee; exact Bk.ne HZ3.out HE3.out (by simp) (Option.some.inj ee))); clear HZ3
            have hbl : Below w4.heap.size _ v4 := grown_base hgr hS3.size (by intro kk ee; cases ee; exact hg46')
            clear HE3 hgr
            refine hK.out _ _ (hS3.trans hbl) (fun hS4 => ?_)
            clear hK K
            try simp only [Act.put, List.getElem_toArray, List.getElem_cons_zero, List.getElem_cons_succ, List.setIfInBounds_toArray, List.set_cons_zero, List.set_cons_succ]
            refine wpAnyH_ready (rs := [5]) (by kernel_rfl) (by simp) ?_
            refine (AllReadyH.cons rfl (fun K hK => ?_) AllReadyH.nil)
            refine append_k_op _ (.tmp 48) (.tmp 50) 22 rfl w4.heap.size 41 _ 13 160 Try.underlying22 infoJ rfl (by omega) u48 (cellsJ js) rfl HV4.out ⟨g50, 0, none⟩ 1 1 (cellsJ [jbOf nm (d, e, f)]) rfl (RdK.of_bk HF4.out) (cellsJ_k _) (cellsJ_one _) rfl (by simp [cellsJ, maxLen]; omega) (by simp [cellsJ, maxLen]; omega) hS4.size ?_
            intro u51 v5 hO hgr
            rw [← cellsJ_append] at hO
            obtain ⟨A2, c2, hv2, hr2, hc3, hc4⟩ := hO.rdj
            rw [← HM2.out] at hv2 hc3
            subst hv2
            have HR5 := Lib.hid hr2; clear hr2 hO
            have HZ5 := Lib.hid (HZ4.out.stays hgr (HV4.out.ne HZ4.out (by decide))); clear HZ4
            have hbl : Below w4.heap.size _ v5 := grown_base hgr hS4.size HV4.out.block
            clear HV4 HF4 hgr
            refine hK.out _ _ (hS4.trans hbl) (fun hS5 => ?_)
            clear hK K
            try simp only [Act.put, List.getElem_toArray, List.getElem_cons_zero, List.getElem_cons_succ, List.setIfInBounds_toArray, List.set_cons_zero, List.set_cons_succ]
            refine wpAnyH_ready (rs := [8]) (by kernel_rfl) (by simp) ?_
            refine (AllReadyH.cons rfl (fun K hK => ?_) AllReadyH.nil)
            go_simp
            refine (used_any A2 m2 c2 (js ++ [jbOf nm (d, e, f)]) nm _ HM2 (by omega) HR5 x2 y2 z2 f2 HU2).mono ?_
            rintro r v6 ⟨rfl, hbl⟩
            go_simp
            have HZ6 := Lib.hid (HZ5.out.later hbl); clear HZ5
            clear HR5
            refine hK.out _ _ (hS5.trans (hbl.mono hS5.size)) (fun hS6 => ?_)
            clear hK K
            try simp only [Act.put, List.getElem_toArray, List.getElem_cons_zero, List.getElem_cons_succ, List.setIfInBounds_toArray, List.set_cons_zero, List.set_cons_succ]
            refine wpAnyH_take (i := 9) (v := ?_) rfl (by kernel_rfl) (by kernel_rfl) (by kernel_rfl) (fun _ _ _ h => h) (Or.inl ⟨by rfl, ?_⟩) hS6 ?_
            rotate_left
            · intro W _; go_simp; try with_reducible rfl
            try simp only [Act.put, List.getElem_toArray, List.getElem_cons_zero, List.getElem_cons_succ, List.setIfInBounds_toArray, List.set_cons_zero, List.set_cons_succ]
            refine wpAnyH_take (i := 10) (v := ?_) rfl (by kernel_rfl) (by kernel_rfl) (by kernel_rfl) (fun _ _ _ h => h) (Or.inl ⟨by rfl, ?_⟩) hS6 ?_
            rotate_left
            · intro W _; go_simp; try with_reducible rfl
            try simp only [Act.put, List.getElem_toArray, List.getElem_cons_zero, List.getElem_cons_succ, List.setIfInBounds_toArray, List.set_cons_zero, List.set_cons_succ]
            refine wpAnyH_take (i := 11) (v := ?_) rfl (by kernel_rfl) (by kernel_rfl) (by kernel_rfl) (fun _ _ _ h => h) (Or.inl ⟨by rfl, ?_⟩) hS6 ?_
            rotate_left
            · intro W _; go_simp; try with_reducible rfl
            try simp only [Act.put, List.getElem_toArray, List.getElem_cons_zero, List.getElem_cons_succ, List.setIfInBounds_toArray, List.set_cons_zero, List.set_cons_succ]
            refine wpAnyH_ready (rs := [13]) (by kernel_rfl) (by simp) ?_
            refine (AllReadyH.cons rfl (fun K hK => ?_) AllReadyH.nil)
            refine store_bk_op 24 (.tmp 9) (.tmp 55) rfl g9 0 #[.int .i64 x2, .int .i64 y2, .int .i64 z2] rfl rfl 24 #[.int .i64 0, .int .i64 0, .int .i64 0] #[.int .i64 x2, .int .i64 y2, .int .i64 z2] HZ6.out (by kernel_rfl) (by simp) (by kernel_rfl) rfl ?_
            intro v7 hX hgr hs
            have HX := Lib.hid hX; clear hX hs
            have hbl : Below w4.heap.size _ v7 := grown_base hgr hS6.size (by intro kk ee; cases ee; exact hg9')
            clear HZ6 hgr
            refine hK.out _ _ (hS6.trans hbl) (fun hS7 => ?_)
            clear hK K
            try simp only [Act.put, List.getElem_toArray, List.getElem_cons_zero, List.getElem_cons_succ, List.setIfInBounds_toArray, List.set_cons_zero, List.set_cons_succ]
            refine wpAnyH_take (i := 14) (v := ?_) rfl (by kernel_rfl) (by kernel_rfl) (by kernel_rfl) (fun _ _ _ h => h) (Or.inl ⟨by rfl, ?_⟩) hS7 ?_
            rotate_left
            · intro W _; go_simp; try with_reducible rfl
            try simp only [Act.put, List.getElem_toArray, List.getElem_cons_zero, List.getElem_cons_succ, List.setIfInBounds_toArray, List.set_cons_zero, List.set_cons_succ]
            refine wpAnyH_done (by kernel_rfl) ?_ _
            go_wp2_with fail
            go_meet
            exact ⟨g9, rfl, rfl, hS7, HX.out⟩
      case rest =>
        obtain ⟨g9, rfl, rfl, hbc, hX⟩ := hcut
        have HX := Lib.hid hX; clear hX
        have hB5 : Below w.heap.size w wc := hB4.trans (hbc.mono hB4.size)
        have HQ5 := Lib.hid (HQ4.out.later hbc)
        have HO5 := Lib.hid (((HOJ.out.below hb2).below hb4).below hbc)
        have HJ5 := Lib.hid (HJ8.out.later hbc)
        clear cnm lt4 HQ4 HJ8 hbc hb4 hb2 HJ0 HJS HU1 HU2
        rcases HC.out with ⟨rfl, rfl, hf⟩ | ⟨rfl, rfl, hf⟩ | ⟨rfl, hf2⟩ | rfl
        · have k3 := fun W => fits_any x2 y2 z2 a b c W
          rw [hf] at k3
          have K3 := Lib.hid k3; clear k3 hf
          go_wp2_with (first | (with_reducible refine load_bk rfl 24 _ rfl g9 0 rfl 24 #[.int .i64 x2, .int .i64 y2, .int .i64 z2] #[.int .i64 x2, .int .i64 y2, .int .i64 z2] _ HX.out (Part.whole _) Try.underlying24 rfl (by kernel_rfl) ?_) | (with_reducible refine load_bk rfl 24 _ rfl w.heap.size 1 rfl 26 #[.string nm, .int .i64 a, .int .i64 b, .int .i64 c] #[.int .i64 a, .int .i64 b, .int .i64 c] _ HQ5.out (Part.of rfl) Try.underlying24 rfl (by kernel_rfl) ?_))
          refine (K3.out _).mono ?_; rintro r w5 ⟨rfl, hb5⟩
          have hB6 : Below w.heap.size w w5 := hB5.trans (hb5.mono hB5.size)
          have HQ6 := Lib.hid (HQ5.out.later hb5)
          have HO6 := Lib.hid (HO5.out.below hb5)
          have HJ6 := Lib.hid (HJ5.out.later hb5)
          have hF : RdK (w5.alloc (.cells #[.string ⟨#[]⟩, .string nm, .int .i64 0, .int .i64 d, .int .i64 e, .int .i64 f, .slice none 0 0, .string ⟨#[]⟩, .string ⟨#[]⟩, .int .i64 0, .int .i64 0, .string ⟨#[]⟩, .int .i64 0] 41)) 13 (some ⟨w5.heap.size, 0, none⟩) (cellsJ [jbOf nm (d, e, f)]) := fresh_k w5 13 (jbOf nm (d, e, f)).cells _ rfl
          go_wp2_with (first | (with_reducible refine load_bk rfl 41 _ rfl g8 0 rfl 41 #[.string ⟨#[]⟩, .string nm, .int .i64 0, .int .i64 d, .int .i64 e, .int .i64 f, .slice none 0 0, .string ⟨#[]⟩, .string ⟨#[]⟩, .int .i64 0, .int .i64 0, .string ⟨#[]⟩, .int .i64 0] #[.string ⟨#[]⟩, .string nm, .int .i64 0, .int .i64 d, .int .i64 e, .int .i64 f, .slice none 0 0, .string ⟨#[]⟩, .string ⟨#[]⟩, .int .i64 0, .int .i64 0, .string ⟨#[]⟩, .int .i64 0] _ HJ6.out (Part.whole _) Try.underlying41 rfl (by kernel_rfl) ?_) | ((with_reducible refine append_k _ rfl (.tmp 71) (.tmp 73) 22 rfl (w.heap.size + 1) 41 _ 13 160 Try.underlying22 infoJ rfl (by omega) (.slice A' m c') (cellsJ js) rfl (HO6.out.alloc _) ⟨w5.heap.size, 0, none⟩ 1 1 (cellsJ [jbOf nm (d, e, f)]) rfl hF (cellsJ_k _) (cellsJ_one _) rfl (by simp [cellsJ, maxLen]; omega) (by simp [cellsJ, maxLen]; omega) (by have := HQ6.out.here; simp; omega) ?_); intro u5' w7 hO7 hg7))
          have hown := HO6.out.block
          go_round
          case rel => exact ⟨k + 1, M ++ [(d, e, f)], x2, y2, z2, by omega, by go_num, by simp; omega, HUM.out, (by show OwnK _ _ _ _ _ _; rw [List.map_append, ← HJS0.out, cellsJ_append]; exact hO7), (HQ6.out.later ((Below.refl _ _).alloc (Nat.le_refl _) _)).stays hg7 (fun ee => by have := hown _ ee.symm; omega), (hB6.alloc hB6.size _).grown hg7 (by have := hB6.size; simp; omega) (fun g ee => by have := hown _ ee; omega)⟩
          case measure => simp [intOf]; omega
        · have k3 := fun W => fits_any x2 y2 z2 a b c W
          rw [hf] at k3
          have K3 := Lib.hid k3; clear k3 hf
          go_wp2_with (first | (with_reducible refine load_bk rfl 24 _ rfl g9 0 rfl 24 #[.int .i64 x2, .int .i64 y2, .int .i64 z2] #[.int .i64 x2, .int .i64 y2, .int .i64 z2] _ HX.out (Part.whole _) Try.underlying24 rfl (by kernel_rfl) ?_) | (with_reducible refine load_bk rfl 24 _ rfl w.heap.size 1 rfl 26 #[.string nm, .int .i64 a, .int .i64 b, .int .i64 c] #[.int .i64 a, .int .i64 b, .int .i64 c] _ HQ5.out (Part.of rfl) Try.underlying24 rfl (by kernel_rfl) ?_))
          refine (K3.out _).mono ?_; rintro r w5 ⟨rfl, hb5⟩
          have hB6 : Below w.heap.size w w5 := hB5.trans (hb5.mono hB5.size)
          go_wp2_with fail
          go_round
          case rel => exact ⟨k + 1, M, x, y, z, by omega, by go_num, by omega, HS, (by show OwnK _ _ _ _ _ _; rw [← HJS0.out]; exact HO5.out.below hb5), HQ5.out.later hb5, hB6⟩
          case measure => simp [intOf]; omega
        · rcases hf2 with rfl | rfl
          all_goals
            go_wp2_with fail
            go_round
            case rel => exact ⟨k + 1, M, x, y, z, by omega, by go_num, by omega, HS, (by show OwnK _ _ _ _ _ _; rw [← HJS0.out]; exact HO5.out), HQ5, hB5⟩
            case measure => simp [intOf]; omega
        · go_wp2_with fail
          go_round
          case rel => exact ⟨k + 1, M, x, y, z, by omega, by go_num, by omega, HS, (by show OwnK _ _ _ _ _ _; rw [← HJS0.out]; exact HO5.out), HQ5, hB5⟩
          case measure => simp [intOf]; omega
    · have hk' : k = n := by omega
      subst hk'
      go_wp2_with fail
      go_ret
      exact ⟨rfl, hb⟩
end quotaHolds
end Go.Proofs.Ytblmjaidonopeaa
