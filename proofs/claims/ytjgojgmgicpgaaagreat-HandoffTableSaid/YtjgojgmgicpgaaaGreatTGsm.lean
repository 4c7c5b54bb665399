/- The document's Same says of states that are alike that they are. Condition: what is handed in reads as states. -/
import Derived.Test.YtjgojgmgicpgaaaGreatTGsa
import Derived.Test.YtjgojgmgicpgaaaGreatTSmb
namespace Go.Proofs.YtjgojgmgicpgaaaGreat
open Go.RowKit
set_option linter.unusedSimpArgs false
set_option linter.unusedVariables false

theorem alike_at {α β : Type} {f : α → β} {L M : List α} (h : L.map f = M.map f) {k : Nat} (h1 : k < L.length) (h2 : k < M.length) : f L[k] = f M[k] := by
  have := congrArg (fun l => l[k]?) h
  simpa [h1, h2] using this
theorem sameNodeB_refl (nm : ByteArray) (a b c : Int) (l : List Lb) : sameNodeB nm a b c l nm a b c l = true := by
  unfold sameNodeB; simp [sE_refl, eq3, sameB]
theorem sameTaskB_refl (nm qu : ByteArray) (pr a b c : Int) (l : List Lb) (ap ga : ByteArray) (sz : Int) : sameTaskB nm qu pr a b c l ap ga sz nm qu pr a b c l ap ga sz = true := by
  unfold sameTaskB; simp [sE_refl, eq3, sameB]
theorem run_guardQ15 (op : BinOp) (x y : Operand) (xs ys : Array Value) (w : World) : (eqGuard op 55 x y (.agg xs) (.agg ys)).run Tryz.prog w = .ok () w := run_eqGuard_agg w op 55 x y xs ys (by kernel_rfl)

set_option maxHeartbeats 25600000 in
set_option maxRecDepth 100000 in
theorem same15_yes (v u : Sv) (S T : Sg) (w : World) (hS : Hid (RdSt w v S)) (hT : Hid (RdSt w u T)) (hE : S.bare = T.bare) :
    Calls Tryz.prog 21 #[.agg v.arr, .agg u.arr] w fun e w' => e = .returned (.bool true) ∧ Below w.heap.size w w' := by
  obtain ⟨ck, nx, A, N, cA, B, K0, cB, C, n, cC⟩ := v
  obtain ⟨ck2, nx2, A2, N2, cA2, B2, K2, cB2, C2, n2, cC2⟩ := u
  have hM : S.M.map bX = T.M.map bX := congrArg Sg.M hE
  have hJ : S.J.map bY = T.J.map bY := congrArg Sg.J hE
  have hQ : S.Q = T.Q := (congrArg Sg.Q hE : S.bare.Q = T.bare.Q)
  have hNl := hS.out.N; have hNt := hT.out.N; have hKl := hS.out.K; have hKt := hT.out.K; have hnl := hS.out.n; have hnt := hT.out.n
  simp only at hNl hNt hKl hKt hnl hnt
  have e1 : ck = ck2 := hS.out.ck.trans ((congrArg Sg.ck hE).trans hT.out.ck.symm)
  have e2 : nx = nx2 := hS.out.nx.trans ((congrArg Sg.nx hE).trans hT.out.nx.symm)
  have e3 : N = N2 := by rw [hNl, hNt]; have := congrArg List.length hM; simpa using this
  have e4 : K0 = K2 := by rw [hKl, hKt, hQ]
  have e5 : n = n2 := by rw [hnl, hnt]; have := congrArg List.length hJ; simpa using this
  subst e1 e2 e3 e4 e5
  have HNl := Lib.hid hNl; have HNt := Lib.hid hNt; have HKl := Lib.hid hKl; have HKt := Lib.hid hKt; have Hnl := Lib.hid hnl; have Hnt := Lib.hid hnt
  have HM := Lib.hid hM; have HJ := Lib.hid hJ; have HQ := Lib.hid hQ
  have hNc : N ≤ cA := hS.out.cA
  have hNc2 : cA ≤ 9223372036854775807 := hS.out.cA2
  have hKc : K0 ≤ cB := hS.out.cB
  have hKc2 : cB ≤ 9223372036854775807 := hS.out.cB2
  have hnc : n ≤ cC := hS.out.cC
  have hnc2 : cC ≤ 9223372036854775807 := hS.out.cC2
  clear hM hJ hQ hE hNl hNt hKl hKt hnl hnt
  obtain ⟨W0, hW0⟩ : ∃ W0, W0 = (w.alloc (.cells #[.int .i64 ck, .int .i64 nx, .slice A N cA, .slice B K0 cB, .slice C n cC] 26)).alloc (.cells #[.int .i64 ck, .int .i64 nx, .slice A2 N cA2, .slice B2 K0 cB2, .slice C2 n cC2] 26) := ⟨_, rfl⟩
  have HA0 : Hid (Bk W0 w.heap.size 26 #[.int .i64 ck, .int .i64 nx, .slice A N cA, .slice B K0 cB, .slice C n cC]) := by rw [hW0]; exact (Bk.fresh w _ _).later ((Below.refl _ _).alloc (Nat.le_refl _) _)
  have HB0 : Hid (Bk W0 (w.heap.size + 1) 26 #[.int .i64 ck, .int .i64 nx, .slice A2 N cA2, .slice B2 K0 cB2, .slice C2 n cC2]) := by rw [hW0]; exact Bk.freshAt _ _ _ (by simp)
  have hb0 : Below w.heap.size w W0 := by rw [hW0]; exact ((Below.refl _ _).alloc (Nat.le_refl _) _).alloc (by simp) _
  subst hW0
  go_enter Tryz.func21, Tryz.ntmps21
  go_wp2_with fail
  go_loopw [54] (fun i wr => ∃ k : Nat, k ≤ N ∧ i = .int .i64 k ∧ Hid (Bk wr w.heap.size 26 #[.int .i64 ck, .int .i64 nx, .slice A N cA, .slice B K0 cB, .slice C n cC]) ∧ Hid (Bk wr (w.heap.size + 1) 26 #[.int .i64 ck, .int .i64 nx, .slice A2 N cA2, .slice B2 K0 cB2, .slice C2 n cC2]) ∧ Below w.heap.size w wr) (fun i wr => N - (intOf i).toNat)
  case atStart => exact ⟨0, Nat.zero_le _, rfl, HA0, HB0, hb0⟩
  case round =>
    clear HA0 HB0 hb0
    obtain ⟨k, hk, rfl, HA, HB, hb⟩ := hrel
    have lt1 : w.heap.size + 1 < wr.heap.size := HB.out.here
    by_cases hlt : k < N
    · have hl1 : k < S.M.length := by have := HNl.out; omega
      have hl2 : k < T.M.length := by have := HNt.out; omega
      obtain ⟨g, o, hAe, hg, hm⟩ := (hS.out.M.later hb).at (i := k) (by simpa using hl1)
      obtain ⟨g2, o2, hAe2, hg2, hm2⟩ := (hT.out.M.later hb).at (i := k) (by simpa using hl2)
      subst hAe hAe2
      rw [mcs_at hl1] at hm
      rw [mcs_at hl2] at hm2
      have ho1 := (hS.out.oM.at hl1).later hb
      have ho2 := (hT.out.oM.at hl2).later hb
      have hxy := alike_at HM.out hl1 hl2
      obtain ⟨x, hx⟩ : ∃ x, x = S.M[k] := ⟨_, rfl⟩
      obtain ⟨y, hy⟩ : ∃ y, y = T.M[k] := ⟨_, rfl⟩
      rw [← hx] at hm ho1 hxy
      rw [← hy] at hm2 ho2 hxy
      obtain ⟨⟨a0, a1, a2, a3, a4, a5, a6, a7, a8⟩, xl⟩ := x
      obtain ⟨⟨y0, y1, y2, y3, y4, y5, y6, y7, y8⟩, yl⟩ := y
      clear hx hy
      have q0 : a0 = y0 := congrArg (fun z : Ml => z.1.nm) hxy
      have q1 : a1 = y1 := congrArg (fun z : Ml => z.1.a) hxy
      have q2 : a2 = y2 := congrArg (fun z : Ml => z.1.b) hxy
      have q3 : a3 = y3 := congrArg (fun z : Ml => z.1.c) hxy
      have q7 : a7 = y7 := congrArg (fun z : Ml => z.1.up) hxy
      have q8 : a8 = y8 := congrArg (fun z : Ml => z.1.un) hxy
      have q9 : xl = yl := congrArg (fun z : Ml => z.2) hxy
      subst q0 q1 q2 q3 q7 q8 q9
      clear hxy
      have HM1 := Lib.hid hm; have HM2 := Lib.hid hm2; have HO1 := Lib.hid ho1; have HO2 := Lib.hid ho2
      clear hm hm2 ho1 ho2 hl1 hl2
      have ca : wr.cell? ⟨w.heap.size, 2, none⟩ = some (.slice (some ⟨g, o, none⟩) N cA) := HA.out.cellAt 2
      have cb : wr.cell? ⟨w.heap.size + 1, 2, none⟩ = some (.slice (some ⟨g2, o2, none⟩) N cA2) := HB.out.cellAt 2
      have CA := Lib.hid ca; have CB := Lib.hid cb; clear ca cb
      have ks := fun (W : World) (h1 : McOk W ⟨a0, a1, a2, a3, a4, a5, a6, a7, a8⟩ xl) (h2 : McOk W ⟨a0, a1, a2, a3, y4, y5, y6, a7, a8⟩ xl) => (sameNodeB_refl a0 a1 a2 a3 xl ▸ sameNode_any a0 a1 a2 a3 a4 a5 a6 xl a0 a1 a2 a3 y4 y5 y6 xl W h1.lb.len h1.lb.rd h1.lb.cap h1.lb.cap2 h2.lb.len h2.lb.rd h2.lb.cap h2.lb.cap2 : Calls Tryz.prog 60 #[.agg #[.string a0, .int .i64 a1, .int .i64 a2, .int .i64 a3, .slice a4 a5 a6], .agg #[.string a0, .int .i64 a1, .int .i64 a2, .int .i64 a3, .slice y4 y5 y6]] W fun e w' => e = .returned (.bool true) ∧ Below W.heap.size W w')
      have KS := Lib.hid ks; clear ks
      go_wp2_with fail
      obtain ⟨W5, hW5⟩ : ∃ W, W = ((wr.alloc (.cells #[.string ⟨#[]⟩, .int .i64 0, .int .i64 0, .int .i64 0, .slice none 0 0, .bool false, .int .i64 0] 93)).alloc (.cells #[.string ⟨#[]⟩, .int .i64 0, .int .i64 0, .int .i64 0, .slice none 0 0, .bool false, .int .i64 0] 93)).drew := ⟨_, rfl⟩
      have HZ0 : Hid (Bk W5 wr.heap.size 93 #[.string ⟨#[]⟩, .int .i64 0, .int .i64 0, .int .i64 0, .slice none 0 0, .bool false, .int .i64 0]) := by rw [hW5]; exact ((Bk.fresh wr _ _).later ((Below.refl _ _).alloc (Nat.le_refl _) _)).drewB
      have HZ1 : Hid (Bk W5 (wr.heap.size + 1) 93 #[.string ⟨#[]⟩, .int .i64 0, .int .i64 0, .int .i64 0, .slice none 0 0, .bool false, .int .i64 0]) := by rw [hW5]; exact (Bk.freshAt _ _ _ (by simp)).drewB
      have HB5 : Hid (Below wr.heap.size wr W5) := by rw [hW5]; exact Below.drew (((Below.refl _ _).alloc (Nat.le_refl _) _).alloc (by simp) _)
      have HW5 := Lib.hid hW5; clear hW5
      refine wp_region_held_drew (S := fun W => Below wr.heap.size wr W) (by kernel_rfl) (Below.drew (Below.refl _ _)) (fun hS0 => ?_)
      refine wpAnyH_take (i := 0) (v := ?_) rfl (by kernel_rfl) (by kernel_rfl) (by kernel_rfl) (fun _ _ _ h => h) (Or.inl ⟨by rfl, ?_⟩) hS0 ?_
      rotate_left
      · intro W _; go_simp; try with_reducible rfl
      try simp only [Act.put, List.getElem_toArray, List.getElem_cons_zero, List.setIfInBounds_toArray, List.set_cons_zero, List.set_cons_succ]
      refine wpAnyH_take (i := 1) (v := ?_) rfl (by kernel_rfl) (by kernel_rfl) (by kernel_rfl) (fun _ _ _ h => h) (Or.inl ⟨by rfl, ?_⟩) hS0 ?_
      rotate_left
      · intro W hSW; have hx := (hSW.cell (p := ⟨w.heap.size, 2, none⟩) (by show w.heap.size < wr.heap.size; omega)).trans CA.out; go_simp; try with_reducible rfl
      try simp only [Act.put, List.getElem_toArray, List.getElem_cons_zero, List.getElem_cons_succ, List.setIfInBounds_toArray, List.set_cons_zero, List.set_cons_succ]
      refine wpAnyH_take (i := 2) (v := ?_) rfl (by kernel_rfl) (by kernel_rfl) (by kernel_rfl) (fun _ _ _ h => h) (Or.inl ⟨by rfl, ?_⟩) hS0 ?_
      rotate_left
      · intro W _; go_simp; try with_reducible rfl
      try simp only [Act.put, List.getElem_toArray, List.getElem_cons_zero, List.getElem_cons_succ, List.setIfInBounds_toArray, List.set_cons_zero, List.set_cons_succ]
      refine wpAnyH_take (i := 3) (v := ?_) rfl (by kernel_rfl) (by kernel_rfl) (by kernel_rfl) (fun _ _ _ h => h) (Or.inl ⟨by rfl, ?_⟩) hS0 ?_
      rotate_left
      · intro W _; go_simp; try with_reducible rfl
      try simp only [Act.put, List.getElem_toArray, List.getElem_cons_zero, List.getElem_cons_succ, List.setIfInBounds_toArray, List.set_cons_zero, List.set_cons_succ]
      refine wpAnyH_take (i := 4) (v := .agg #[.string a0, .int .i64 a1, .int .i64 a2, .int .i64 a3, .slice a4 a5 a6, .bool a7, .int .i64 a8]) rfl (by kernel_rfl) (by kernel_rfl) (by kernel_rfl) (fun _ _ _ h => h) (yields_rg (by rfl) 93 _ rfl g (o + k * 7) rfl #[.string a0, .int .i64 a1, .int .i64 a2, .int .i64 a3, .slice a4 a5 a6, .bool a7, .int .i64 a8] _ (fun W hW => range_keep HM1.out.rg hW) Tryz.underlying93 rfl (by kernel_rfl)) hS0 ?_
      try simp only [Act.put, List.getElem_toArray, List.getElem_cons_zero, List.getElem_cons_succ, List.setIfInBounds_toArray, List.set_cons_zero, List.set_cons_succ]
      refine wpAnyH_take (i := 5) (v := ?_) rfl (by kernel_rfl) (by kernel_rfl) (by kernel_rfl) (fun _ _ _ h => h) (Or.inl ⟨by rfl, ?_⟩) hS0 ?_
      rotate_left
      · intro W _; go_simp; try with_reducible rfl
      try simp only [Act.put, List.getElem_toArray, List.getElem_cons_zero, List.getElem_cons_succ, List.setIfInBounds_toArray, List.set_cons_zero, List.set_cons_succ]
      refine wpAnyH_take (i := 6) (v := ?_) rfl (by kernel_rfl) (by kernel_rfl) (by kernel_rfl) (fun _ _ _ h => h) (Or.inl ⟨by rfl, ?_⟩) hS0 ?_
      rotate_left
      · intro W hSW; have hx := (hSW.cell (p := ⟨w.heap.size + 1, 2, none⟩) lt1).trans CB.out; go_simp; try with_reducible rfl
      try simp only [Act.put, List.getElem_toArray, List.getElem_cons_zero, List.getElem_cons_succ, List.setIfInBounds_toArray, List.set_cons_zero, List.set_cons_succ]
      refine wpAnyH_take (i := 7) (v := ?_) rfl (by kernel_rfl) (by kernel_rfl) (by kernel_rfl) (fun _ _ _ h => h) (Or.inl ⟨by rfl, ?_⟩) hS0 ?_
      rotate_left
      · intro W _; go_simp; try with_reducible rfl
      try simp only [Act.put, List.getElem_toArray, List.getElem_cons_zero, List.getElem_cons_succ, List.setIfInBounds_toArray, List.set_cons_zero, List.set_cons_succ]
      refine wpAnyH_take (i := 8) (v := ?_) rfl (by kernel_rfl) (by kernel_rfl) (by kernel_rfl) (fun _ _ _ h => h) (Or.inl ⟨by rfl, ?_⟩) hS0 ?_
      rotate_left
      · intro W _; go_simp; try with_reducible rfl
      try simp only [Act.put, List.getElem_toArray, List.getElem_cons_zero, List.getElem_cons_succ, List.setIfInBounds_toArray, List.set_cons_zero, List.set_cons_succ]
      refine wpAnyH_take (i := 9) (v := .agg #[.string a0, .int .i64 a1, .int .i64 a2, .int .i64 a3, .slice y4 y5 y6, .bool a7, .int .i64 a8]) rfl (by kernel_rfl) (by kernel_rfl) (by kernel_rfl) (fun _ _ _ h => h) (yields_rg (by rfl) 93 _ rfl g2 (o2 + k * 7) rfl #[.string a0, .int .i64 a1, .int .i64 a2, .int .i64 a3, .slice y4 y5 y6, .bool a7, .int .i64 a8] _ (fun W hW => range_keep HM2.out.rg hW) Tryz.underlying93 rfl (by kernel_rfl)) hS0 ?_
      try simp only [Act.put, List.getElem_toArray, List.getElem_cons_zero, List.getElem_cons_succ, List.setIfInBounds_toArray, List.set_cons_zero, List.set_cons_succ]
      refine wpAnyH_ready (rs := [10, 11]) (by kernel_rfl) (by simp) ?_
      refine (AllReadyH.cons rfl (fun K hK => ?_) (AllReadyH.cons rfl (fun K hK => ?_) AllReadyH.nil))
      · go_simp
        refine hK.out _ _ (Below.drew ((Below.refl _ _).alloc (Nat.le_refl _) _)) (fun hS1 => ?_)
        clear hK K
        try simp only [Act.put, List.getElem_toArray, List.getElem_cons_zero, List.getElem_cons_succ, List.setIfInBounds_toArray, List.set_cons_zero, List.set_cons_succ]
        refine wpAnyH_ready (rs := [11]) (by kernel_rfl) (by simp) ?_
        refine AllReadyH.cons rfl (fun K hK => ?_) AllReadyH.nil
        go_simp
        rw [← HW5.out]
        refine hK.out _ _ (HB5.out) (fun hS2 => ?_)
        clear hK K
        try simp only [Act.put, List.getElem_toArray, List.getElem_cons_zero, List.getElem_cons_succ, List.setIfInBounds_toArray, List.set_cons_zero, List.set_cons_succ]
        refine wpAnyH_ready (rs := [12]) (by kernel_rfl) (by simp) ?_
        refine AllReadyH.cons rfl (fun K hK => ?_) AllReadyH.nil
        rw [if_pos (by rfl)]
        refine store_bk_op 93 (.tmp 6) (.tmp 61) rfl wr.heap.size 0 #[.string a0, .int .i64 a1, .int .i64 a2, .int .i64 a3, .slice a4 a5 a6, .bool a7, .int .i64 a8] rfl rfl 93 #[.string ⟨#[]⟩, .int .i64 0, .int .i64 0, .int .i64 0, .slice none 0 0, .bool false, .int .i64 0] #[.string a0, .int .i64 a1, .int .i64 a2, .int .i64 a3, .slice a4 a5 a6, .bool a7, .int .i64 a8] HZ0.out (by kernel_rfl) (by simp) (by kernel_rfl) rfl ?_
        intro w6 hB6 hg6 hs6
        have HA6 := Lib.hid hB6; have HZ6 := Lib.hid (HZ1.out.stays hg6 (by simp))
        have hb6 : Below wr.heap.size wr w6 := HB5.out.grown hg6 HB5.out.size (fun q e => by injection e with e; omega)
        clear hB6 hg6 hs6
        refine hK.out _ _ (hb6) (fun hS3 => ?_)
        clear hK K
        try simp only [Act.put, List.getElem_toArray, List.getElem_cons_zero, List.getElem_cons_succ, List.setIfInBounds_toArray, List.set_cons_zero, List.set_cons_succ]
        refine wpAnyH_ready (rs := [13]) (by kernel_rfl) (by simp) ?_
        refine AllReadyH.cons rfl (fun K hK => ?_) AllReadyH.nil
        rw [if_pos (by rfl)]
        refine store_bk_op 93 (.tmp 7) (.tmp 66) rfl (wr.heap.size + 1) 0 #[.string a0, .int .i64 a1, .int .i64 a2, .int .i64 a3, .slice y4 y5 y6, .bool a7, .int .i64 a8] rfl rfl 93 #[.string ⟨#[]⟩, .int .i64 0, .int .i64 0, .int .i64 0, .slice none 0 0, .bool false, .int .i64 0] #[.string a0, .int .i64 a1, .int .i64 a2, .int .i64 a3, .slice y4 y5 y6, .bool a7, .int .i64 a8] HZ6.out (by kernel_rfl) (by simp) (by kernel_rfl) rfl ?_
        intro w7 hB7 hg7 hs7
        have HY7 := Lib.hid hB7; have HX7 := Lib.hid (HA6.out.stays hg7 (by simp))
        have hb7 : Below wr.heap.size wr w7 := hb6.grown hg7 hb6.size (fun q e => by injection e with e; omega)
        clear hB7 hg7 hs7 HA6 HZ6
        refine hK.out _ _ (hb7) (fun hS4 => ?_)
        clear hK K
        try simp only [Act.put, List.getElem_toArray, List.getElem_cons_zero, List.getElem_cons_succ, List.setIfInBounds_toArray, List.set_cons_zero, List.set_cons_succ]
        refine wpAnyH_done (by kernel_rfl) ?_ _
        clear hS0 HZ0 HZ1 HB5 HW5
        have c1 : w7.cell? ⟨wr.heap.size, 5, none⟩ = some (.bool a7) := HX7.out.cellAt 5
        have c2 : w7.cell? ⟨(wr.heap.size + 1), 5, none⟩ = some (.bool a7) := HY7.out.cellAt 5
        have c3 : w7.cell? ⟨wr.heap.size, 6, none⟩ = some (.int .i64 a8) := HX7.out.cellAt 6
        have c4 : w7.cell? ⟨(wr.heap.size + 1), 6, none⟩ = some (.int .i64 a8) := HY7.out.cellAt 6
        have lt7 : wr.heap.size + 1 < w7.heap.size := by have h1 := HX7.out.here; have h2 := HY7.out.here; omega
        go_wp2_with (first | (with_reducible refine load_bk rfl 53 _ rfl wr.heap.size 0 rfl 93 #[.string a0, .int .i64 a1, .int .i64 a2, .int .i64 a3, .slice a4 a5 a6, .bool a7, .int .i64 a8] #[.string a0, .int .i64 a1, .int .i64 a2, .int .i64 a3, .slice a4 a5 a6] _ HX7.out (Part.of rfl) Tryz.underlying53 rfl (by kernel_rfl) ?_) | (with_reducible refine load_bk rfl 53 _ rfl (wr.heap.size + 1) 0 rfl 93 #[.string a0, .int .i64 a1, .int .i64 a2, .int .i64 a3, .slice y4 y5 y6, .bool a7, .int .i64 a8] #[.string a0, .int .i64 a1, .int .i64 a2, .int .i64 a3, .slice y4 y5 y6] _ HY7.out (Part.of rfl) Tryz.underlying53 rfl (by kernel_rfl) ?_))
        refine (KS.out w7 (HO1.out.later hb7) (HO2.out.later hb7)).mono ?_; rintro e w8 ⟨rfl, hb8⟩
        have hc1 := (hb8.cell (p := ⟨wr.heap.size, 5, none⟩) (by first | exact HX7.out.here | exact HY7.out.here)).trans c1
        have hc2 := (hb8.cell (p := ⟨(wr.heap.size + 1), 5, none⟩) (by first | exact HX7.out.here | exact HY7.out.here)).trans c2
        have hc3 := (hb8.cell (p := ⟨wr.heap.size, 6, none⟩) (by first | exact HX7.out.here | exact HY7.out.here)).trans c3
        have hc4 := (hb8.cell (p := ⟨(wr.heap.size + 1), 6, none⟩) (by first | exact HX7.out.here | exact HY7.out.here)).trans c4
        clear c1 c2 c3 c4
        go_wp2_with fail
        have hb9 : Below wr.heap.size wr w8 := hb7.trans (hb8.mono hb7.size)
        go_round
        case rel => exact ⟨k + 1, by omega, by go_num, HA.out.later hb9, HB.out.later hb9, hb.trans (hb9.mono hb.size)⟩
        case measure => simp [intOf]; omega
      · go_simp
        refine hK.out _ _ (Below.drew ((Below.refl _ _).alloc (Nat.le_refl _) _)) (fun hS1 => ?_)
        clear hK K
        try simp only [Act.put, List.getElem_toArray, List.getElem_cons_zero, List.getElem_cons_succ, List.setIfInBounds_toArray, List.set_cons_zero, List.set_cons_succ]
        refine wpAnyH_ready (rs := [10]) (by kernel_rfl) (by simp) ?_
        refine AllReadyH.cons rfl (fun K hK => ?_) AllReadyH.nil
        go_simp
        rw [← HW5.out]
        refine hK.out _ _ (HB5.out) (fun hS2 => ?_)
        clear hK K
        try simp only [Act.put, List.getElem_toArray, List.getElem_cons_zero, List.getElem_cons_succ, List.setIfInBounds_toArray, List.set_cons_zero, List.set_cons_succ]
        refine wpAnyH_ready (rs := [12]) (by kernel_rfl) (by simp) ?_
        refine AllReadyH.cons rfl (fun K hK => ?_) AllReadyH.nil
        rw [if_pos (by rfl)]
        refine store_bk_op 93 (.tmp 6) (.tmp 61) rfl (wr.heap.size + 1) 0 #[.string a0, .int .i64 a1, .int .i64 a2, .int .i64 a3, .slice a4 a5 a6, .bool a7, .int .i64 a8] rfl rfl 93 #[.string ⟨#[]⟩, .int .i64 0, .int .i64 0, .int .i64 0, .slice none 0 0, .bool false, .int .i64 0] #[.string a0, .int .i64 a1, .int .i64 a2, .int .i64 a3, .slice a4 a5 a6, .bool a7, .int .i64 a8] HZ1.out (by kernel_rfl) (by simp) (by kernel_rfl) rfl ?_
        intro w6 hB6 hg6 hs6
        have HA6 := Lib.hid hB6; have HZ6 := Lib.hid (HZ0.out.stays hg6 (by simp))
        have hb6 : Below wr.heap.size wr w6 := HB5.out.grown hg6 HB5.out.size (fun q e => by injection e with e; omega)
        clear hB6 hg6 hs6
        refine hK.out _ _ (hb6) (fun hS3 => ?_)
        clear hK K
        try simp only [Act.put, List.getElem_toArray, List.getElem_cons_zero, List.getElem_cons_succ, List.setIfInBounds_toArray, List.set_cons_zero, List.set_cons_succ]
        refine wpAnyH_ready (rs := [13]) (by kernel_rfl) (by simp) ?_
        refine AllReadyH.cons rfl (fun K hK => ?_) AllReadyH.nil
        rw [if_pos (by rfl)]
        refine store_bk_op 93 (.tmp 7) (.tmp 66) rfl wr.heap.size 0 #[.string a0, .int .i64 a1, .int .i64 a2, .int .i64 a3, .slice y4 y5 y6, .bool a7, .int .i64 a8] rfl rfl 93 #[.string ⟨#[]⟩, .int .i64 0, .int .i64 0, .int .i64 0, .slice none 0 0, .bool false, .int .i64 0] #[.string a0, .int .i64 a1, .int .i64 a2, .int .i64 a3, .slice y4 y5 y6, .bool a7, .int .i64 a8] HZ6.out (by kernel_rfl) (by simp) (by kernel_rfl) rfl ?_
        intro w7 hB7 hg7 hs7
        have HY7 := Lib.hid hB7; have HX7 := Lib.hid (HA6.out.stays hg7 (by simp))
        have hb7 : Below wr.heap.size wr w7 := hb6.grown hg7 hb6.size (fun q e => by injection e with e; omega)
        clear hB7 hg7 hs7 HA6 HZ6
        refine hK.out _ _ (hb7) (fun hS4 => ?_)
        clear hK K
        try simp only [Act.put, List.getElem_toArray, List.getElem_cons_zero, List.getElem_cons_succ, List.setIfInBounds_toArray, List.set_cons_zero, List.set_cons_succ]
        refine wpAnyH_done (by kernel_rfl) ?_ _
        clear hS0 HZ0 HZ1 HB5 HW5
        have c1 : w7.cell? ⟨(wr.heap.size + 1), 5, none⟩ = some (.bool a7) := HX7.out.cellAt 5
        have c2 : w7.cell? ⟨wr.heap.size, 5, none⟩ = some (.bool a7) := HY7.out.cellAt 5
        have c3 : w7.cell? ⟨(wr.heap.size + 1), 6, none⟩ = some (.int .i64 a8) := HX7.out.cellAt 6
        have c4 : w7.cell? ⟨wr.heap.size, 6, none⟩ = some (.int .i64 a8) := HY7.out.cellAt 6
        have lt7 : wr.heap.size + 1 < w7.heap.size := by have h1 := HX7.out.here; have h2 := HY7.out.here; omega
        go_wp2_with (first | (with_reducible refine load_bk rfl 53 _ rfl (wr.heap.size + 1) 0 rfl 93 #[.string a0, .int .i64 a1, .int .i64 a2, .int .i64 a3, .slice a4 a5 a6, .bool a7, .int .i64 a8] #[.string a0, .int .i64 a1, .int .i64 a2, .int .i64 a3, .slice a4 a5 a6] _ HX7.out (Part.of rfl) Tryz.underlying53 rfl (by kernel_rfl) ?_) | (with_reducible refine load_bk rfl 53 _ rfl wr.heap.size 0 rfl 93 #[.string a0, .int .i64 a1, .int .i64 a2, .int .i64 a3, .slice y4 y5 y6, .bool a7, .int .i64 a8] #[.string a0, .int .i64 a1, .int .i64 a2, .int .i64 a3, .slice y4 y5 y6] _ HY7.out (Part.of rfl) Tryz.underlying53 rfl (by kernel_rfl) ?_))
        refine (KS.out w7 (HO1.out.later hb7) (HO2.out.later hb7)).mono ?_; rintro e w8 ⟨rfl, hb8⟩
        have hc1 := (hb8.cell (p := ⟨(wr.heap.size + 1), 5, none⟩) (by first | exact HX7.out.here | exact HY7.out.here)).trans c1
        have hc2 := (hb8.cell (p := ⟨wr.heap.size, 5, none⟩) (by first | exact HX7.out.here | exact HY7.out.here)).trans c2
        have hc3 := (hb8.cell (p := ⟨(wr.heap.size + 1), 6, none⟩) (by first | exact HX7.out.here | exact HY7.out.here)).trans c3
        have hc4 := (hb8.cell (p := ⟨wr.heap.size, 6, none⟩) (by first | exact HX7.out.here | exact HY7.out.here)).trans c4
        clear c1 c2 c3 c4
        go_wp2_with fail
        have hb9 : Below wr.heap.size wr w8 := hb7.trans (hb8.mono hb7.size)
        go_round
        case rel => exact ⟨k + 1, by omega, by go_num, HA.out.later hb9, HB.out.later hb9, hb.trans (hb9.mono hb.size)⟩
        case measure => simp [intOf]; omega
    · have hk' : N = k := by omega
      subst hk'
      clear hk hlt
      have cs : wr.cell? ⟨w.heap.size, 3, none⟩ = some (.slice B K0 cB) := HA.out.cellAt 3
      go_wp2_with fail
      clear cs
      go_loopw [91] (fun i wr => ∃ k : Nat, k ≤ K0 ∧ i = .int .i64 k ∧ Hid (Bk wr w.heap.size 26 #[.int .i64 ck, .int .i64 nx, .slice A N cA, .slice B K0 cB, .slice C n cC]) ∧ Hid (Bk wr (w.heap.size + 1) 26 #[.int .i64 ck, .int .i64 nx, .slice A2 N cA2, .slice B2 K0 cB2, .slice C2 n cC2]) ∧ Below w.heap.size w wr) (fun i wr => K0 - (intOf i).toNat)
      case atStart => exact ⟨0, Nat.zero_le _, rfl, HA, HB, hb⟩
      case round =>
        clear HA HB hb
        obtain ⟨k, hk, rfl, HA, HB, hb⟩ := hrel
        have lt1 : w.heap.size + 1 < wr.heap.size := HB.out.here
        by_cases hlt : k < K0
        · have hl1 : k < S.Q.length := by have := HKl.out; omega
          have hl2 : k < T.Q.length := by have := HKt.out; omega
          obtain ⟨g, o, hAe, hg, hm⟩ := (hS.out.Q.later hb).at (i := k) hl1
          obtain ⟨g2, o2, hAe2, hg2, hm2⟩ := (hT.out.Q.later hb).at (i := k) hl2
          subst hAe hAe2
          have hxy : S.Q[k] = T.Q[k] := by have := HQ.out; simp only [this]
          rw [← hxy] at hm2
          obtain ⟨x, hx⟩ : ∃ x, x = S.Q[k] := ⟨_, rfl⟩
          rw [← hx] at hm hm2
          obtain ⟨q0, q1, q2, q3⟩ := x
          have HM1 := Lib.hid hm; have HM2 := Lib.hid hm2
          clear hx hxy hm hm2 hl1 hl2
          have ca : wr.cell? ⟨w.heap.size, 3, none⟩ = some (.slice (some ⟨g, o, none⟩) K0 cB) := HA.out.cellAt 3
          have cb : wr.cell? ⟨w.heap.size + 1, 3, none⟩ = some (.slice (some ⟨g2, o2, none⟩) K0 cB2) := HB.out.cellAt 3
          have CA := Lib.hid ca; have CB := Lib.hid cb; clear ca cb
          have hne := neq_queue_any q0 q0 q1 q2 q3 q1 q2 q3
          have hse : (sE q0 q0 && eq3 q1 q2 q3 q1 q2 q3) = true := by simp [sE_refl, eq3]
          rw [hse] at hne
          have HNE := Lib.hid hne; have hgq := run_guardQ15; have HGQ := Lib.hid hgq; clear hne hse hgq
          go_wp2_with fail
          refine wp_region_held_drew (S := fun W => Below wr.heap.size wr W) (by kernel_rfl) (Below.drew (Below.refl _ _)) (fun hS0 => ?_)
          refine wpAnyH_take (i := 0) (v := ?_) rfl (by kernel_rfl) (by kernel_rfl) (by kernel_rfl) (fun _ _ _ h => h) (Or.inl ⟨by rfl, ?_⟩) hS0 ?_
          rotate_left
          · intro W _; go_simp; try with_reducible rfl
          try simp only [Act.put, List.getElem_toArray, List.getElem_cons_zero, List.setIfInBounds_toArray, List.set_cons_zero, List.set_cons_succ]
          refine wpAnyH_take (i := 1) (v := ?_) rfl (by kernel_rfl) (by kernel_rfl) (by kernel_rfl) (fun _ _ _ h => h) (Or.inl ⟨by rfl, ?_⟩) hS0 ?_
          rotate_left
          · intro W hSW; have hx := (hSW.cell (p := ⟨w.heap.size, 3, none⟩) (by show w.heap.size < wr.heap.size; omega)).trans CA.out; go_simp; try with_reducible rfl
          try simp only [Act.put, List.getElem_toArray, List.getElem_cons_zero, List.getElem_cons_succ, List.setIfInBounds_toArray, List.set_cons_zero, List.set_cons_succ]
          refine wpAnyH_take (i := 2) (v := ?_) rfl (by kernel_rfl) (by kernel_rfl) (by kernel_rfl) (fun _ _ _ h => h) (Or.inl ⟨by rfl, ?_⟩) hS0 ?_
          rotate_left
          · intro W _; go_simp; try with_reducible rfl
          try simp only [Act.put, List.getElem_toArray, List.getElem_cons_zero, List.getElem_cons_succ, List.setIfInBounds_toArray, List.set_cons_zero, List.set_cons_succ]
          refine wpAnyH_take (i := 3) (v := ?_) rfl (by kernel_rfl) (by kernel_rfl) (by kernel_rfl) (fun _ _ _ h => h) (Or.inl ⟨by rfl, ?_⟩) hS0 ?_
          rotate_left
          · intro W _; go_simp; try with_reducible rfl
          try simp only [Act.put, List.getElem_toArray, List.getElem_cons_zero, List.getElem_cons_succ, List.setIfInBounds_toArray, List.set_cons_zero, List.set_cons_succ]
          refine wpAnyH_take (i := 4) (v := .agg #[.string q0, .int .i64 q1, .int .i64 q2, .int .i64 q3]) rfl (by kernel_rfl) (by kernel_rfl) (by kernel_rfl) (fun _ _ _ h => h) (yields_rg (by rfl) 55 _ rfl g (o + k * 4) rfl #[.string q0, .int .i64 q1, .int .i64 q2, .int .i64 q3] _ (fun W hW => range_keep HM1.out.rg hW) Tryz.underlying55 rfl (by kernel_rfl)) hS0 ?_
          try simp only [Act.put, List.getElem_toArray, List.getElem_cons_zero, List.getElem_cons_succ, List.setIfInBounds_toArray, List.set_cons_zero, List.set_cons_succ]
          refine wpAnyH_take (i := 5) (v := ?_) rfl (by kernel_rfl) (by kernel_rfl) (by kernel_rfl) (fun _ _ _ h => h) (Or.inl ⟨by rfl, ?_⟩) hS0 ?_
          rotate_left
          · intro W _; go_simp; try with_reducible rfl
          try simp only [Act.put, List.getElem_toArray, List.getElem_cons_zero, List.getElem_cons_succ, List.setIfInBounds_toArray, List.set_cons_zero, List.set_cons_succ]
          refine wpAnyH_take (i := 6) (v := ?_) rfl (by kernel_rfl) (by kernel_rfl) (by kernel_rfl) (fun _ _ _ h => h) (Or.inl ⟨by rfl, ?_⟩) hS0 ?_
          rotate_left
          · intro W hSW; have hx := (hSW.cell (p := ⟨w.heap.size + 1, 3, none⟩) lt1).trans CB.out; go_simp; try with_reducible rfl
          try simp only [Act.put, List.getElem_toArray, List.getElem_cons_zero, List.getElem_cons_succ, List.setIfInBounds_toArray, List.set_cons_zero, List.set_cons_succ]
          refine wpAnyH_take (i := 7) (v := ?_) rfl (by kernel_rfl) (by kernel_rfl) (by kernel_rfl) (fun _ _ _ h => h) (Or.inl ⟨by rfl, ?_⟩) hS0 ?_
          rotate_left
          · intro W _; go_simp; try with_reducible rfl
          try simp only [Act.put, List.getElem_toArray, List.getElem_cons_zero, List.getElem_cons_succ, List.setIfInBounds_toArray, List.set_cons_zero, List.set_cons_succ]
          refine wpAnyH_take (i := 8) (v := ?_) rfl (by kernel_rfl) (by kernel_rfl) (by kernel_rfl) (fun _ _ _ h => h) (Or.inl ⟨by rfl, ?_⟩) hS0 ?_
          rotate_left
          · intro W _; go_simp; try with_reducible rfl
          try simp only [Act.put, List.getElem_toArray, List.getElem_cons_zero, List.getElem_cons_succ, List.setIfInBounds_toArray, List.set_cons_zero, List.set_cons_succ]
          refine wpAnyH_take (i := 9) (v := .agg #[.string q0, .int .i64 q1, .int .i64 q2, .int .i64 q3]) rfl (by kernel_rfl) (by kernel_rfl) (by kernel_rfl) (fun _ _ _ h => h) (yields_rg (by rfl) 55 _ rfl g2 (o2 + k * 4) rfl #[.string q0, .int .i64 q1, .int .i64 q2, .int .i64 q3] _ (fun W hW => range_keep HM2.out.rg hW) Tryz.underlying55 rfl (by kernel_rfl)) hS0 ?_
          try simp only [Act.put, List.getElem_toArray, List.getElem_cons_zero, List.getElem_cons_succ, List.setIfInBounds_toArray, List.set_cons_zero, List.set_cons_succ]
          refine wpAnyH_ready (rs := [10]) (by kernel_rfl) (by simp) ?_
          refine AllReadyH.cons rfl (fun K hK => ?_) AllReadyH.nil
          have hne := HNE.out
          have hgq := HGQ.out
          go_simp
          clear hne hgq
          refine hK.out _ _ (hS0) (fun hS1 => ?_)
          clear hK K
          try simp only [Act.put, List.getElem_toArray, List.getElem_cons_zero, List.getElem_cons_succ, List.setIfInBounds_toArray, List.set_cons_zero, List.set_cons_succ]
          refine wpAnyH_done (by kernel_rfl) ?_ _
          have hb9 : Below w.heap.size w wr.drew := Below.drew hb
          go_wp2_with fail
          go_round
          case rel => exact ⟨k + 1, by omega, by go_num, HA.out.drewB, HB.out.drewB, hb9⟩
          case measure => simp [intOf]; omega
        · have hk' : K0 = k := by omega
          subst hk'
          clear hk hlt
          have cs : wr.cell? ⟨w.heap.size, 4, none⟩ = some (.slice C n cC) := HA.out.cellAt 4
          go_wp2_with fail
          clear cs
          go_loopw [109] (fun i wr => ∃ k : Nat, k ≤ n ∧ i = .int .i64 k ∧ Hid (Bk wr w.heap.size 26 #[.int .i64 ck, .int .i64 nx, .slice A N cA, .slice B K0 cB, .slice C n cC]) ∧ Hid (Bk wr (w.heap.size + 1) 26 #[.int .i64 ck, .int .i64 nx, .slice A2 N cA2, .slice B2 K0 cB2, .slice C2 n cC2]) ∧ Below w.heap.size w wr) (fun i wr => n - (intOf i).toNat)
          case atStart => exact ⟨0, Nat.zero_le _, rfl, HA, HB, hb⟩
          case round =>
            clear HA HB hb
            obtain ⟨k, hk, rfl, HA, HB, hb⟩ := hrel
            have lt1 : w.heap.size + 1 < wr.heap.size := HB.out.here
            by_cases hlt : k < n
            · have hl1 : k < S.J.length := by have := Hnl.out; omega
              have hl2 : k < T.J.length := by have := Hnt.out; omega
              obtain ⟨g, o, hAe, hg, hm⟩ := (hS.out.J.later hb).at (i := k) (by simpa using hl1)
              obtain ⟨g2, o2, hAe2, hg2, hm2⟩ := (hT.out.J.later hb).at (i := k) (by simpa using hl2)
              subst hAe hAe2
              rw [jbs_at hl1] at hm
              rw [jbs_at hl2] at hm2
              have ho1 := (hS.out.oJ.at hl1).later hb
              have ho2 := (hT.out.oJ.at hl2).later hb
              have hxy := alike_at HJ.out hl1 hl2
              obtain ⟨x, hx⟩ : ∃ x, x = S.J[k] := ⟨_, rfl⟩
              obtain ⟨y, hy⟩ : ∃ y, y = T.J[k] := ⟨_, rfl⟩
              rw [← hx] at hm ho1 hxy
              rw [← hy] at hm2 ho2 hxy
              obtain ⟨⟨a0, a1, a2, a3, a4, a5, a6, a7, a8, a9, b0, b1, b2, b3, b4⟩, xl⟩ := x
              obtain ⟨⟨y0, y1, y2, y3, y4, y5, y6, y7, y8, y9, z0, z1, z2, z3, z4⟩, yl⟩ := y
              clear hx hy
              have q0 : a0 = y0 := congrArg (fun z : Jl => z.1.nm) hxy
              have q1 : a1 = y1 := congrArg (fun z : Jl => z.1.qu) hxy
              have q2 : a2 = y2 := congrArg (fun z : Jl => z.1.pr) hxy
              have q3 : a3 = y3 := congrArg (fun z : Jl => z.1.a) hxy
              have q4 : a4 = y4 := congrArg (fun z : Jl => z.1.b) hxy
              have q5 : a5 = y5 := congrArg (fun z : Jl => z.1.c) hxy
              have q6 : a9 = y9 := congrArg (fun z : Jl => z.1.ap) hxy
              have q7 : b0 = z0 := congrArg (fun z : Jl => z.1.ga) hxy
              have q8 : b1 = z1 := congrArg (fun z : Jl => z.1.sz) hxy
              have q9 : b2 = z2 := congrArg (fun z : Jl => z.1.sq) hxy
              have q10 : b3 = z3 := congrArg (fun z : Jl => z.1.nd) hxy
              have q11 : b4 = z4 := congrArg (fun z : Jl => z.1.bo) hxy
              have qq : xl = yl := congrArg (fun z : Jl => z.2) hxy
              subst q0 q1 q2 q3 q4 q5 q6 q7 q8 q9 q10 q11 qq
              clear hxy
              have HM1 := Lib.hid hm; have HM2 := Lib.hid hm2; have HO1 := Lib.hid ho1; have HO2 := Lib.hid ho2
              clear hm hm2 ho1 ho2 hl1 hl2
              have ca : wr.cell? ⟨w.heap.size, 4, none⟩ = some (.slice (some ⟨g, o, none⟩) n cC) := HA.out.cellAt 4
              have cb : wr.cell? ⟨w.heap.size + 1, 4, none⟩ = some (.slice (some ⟨g2, o2, none⟩) n cC2) := HB.out.cellAt 4
              have CA := Lib.hid ca; have CB := Lib.hid cb; clear ca cb
              have ks := fun (W : World) (h1 : KtOk W ⟨a0, a1, a2, a3, a4, a5, a6, a7, a8, a9, b0, b1⟩ xl) (h2 : KtOk W ⟨a0, a1, a2, a3, a4, a5, y6, y7, y8, a9, b0, b1⟩ xl) => (sameTaskB_refl a0 a1 a2 a3 a4 a5 xl a9 b0 b1 ▸ sameTask_any a0 a1 a2 a3 a4 a5 a6 a7 a8 xl a9 b0 b1 a0 a1 a2 a3 a4 a5 y6 y7 y8 xl a9 b0 b1 W h1.lb.len h1.lb.rd h1.lb.cap h1.lb.cap2 h2.lb.len h2.lb.rd h2.lb.cap h2.lb.cap2 : Calls Tryz.prog 61 #[.agg #[.string a0, .string a1, .int .i64 a2, .int .i64 a3, .int .i64 a4, .int .i64 a5, .slice a6 a7 a8, .string a9, .string b0, .int .i64 b1], .agg #[.string a0, .string a1, .int .i64 a2, .int .i64 a3, .int .i64 a4, .int .i64 a5, .slice y6 y7 y8, .string a9, .string b0, .int .i64 b1]] W fun e w' => e = .returned (.bool true) ∧ Below W.heap.size W w')
              have KS := Lib.hid ks; clear ks
              go_wp2_with fail
              obtain ⟨W5, hW5⟩ : ∃ W, W = ((wr.alloc (.cells #[.string ⟨#[]⟩, .string ⟨#[]⟩, .int .i64 0, .int .i64 0, .int .i64 0, .int .i64 0, .slice none 0 0, .string ⟨#[]⟩, .string ⟨#[]⟩, .int .i64 0, .int .i64 0, .string ⟨#[]⟩, .int .i64 0] 95)).alloc (.cells #[.string ⟨#[]⟩, .string ⟨#[]⟩, .int .i64 0, .int .i64 0, .int .i64 0, .int .i64 0, .slice none 0 0, .string ⟨#[]⟩, .string ⟨#[]⟩, .int .i64 0, .int .i64 0, .string ⟨#[]⟩, .int .i64 0] 95)).drew := ⟨_, rfl⟩
              have HZ0 : Hid (Bk W5 wr.heap.size 95 #[.string ⟨#[]⟩, .string ⟨#[]⟩, .int .i64 0, .int .i64 0, .int .i64 0, .int .i64 0, .slice none 0 0, .string ⟨#[]⟩, .string ⟨#[]⟩, .int .i64 0, .int .i64 0, .string ⟨#[]⟩, .int .i64 0]) := by rw [hW5]; exact ((Bk.fresh wr _ _).later ((Below.refl _ _).alloc (Nat.le_refl _) _)).drewB
              have HZ1 : Hid (Bk W5 (wr.heap.size + 1) 95 #[.string ⟨#[]⟩, .string ⟨#[]⟩, .int .i64 0, .int .i64 0, .int .i64 0, .int .i64 0, .slice none 0 0, .string ⟨#[]⟩, .string ⟨#[]⟩, .int .i64 0, .int .i64 0, .string ⟨#[]⟩, .int .i64 0]) := by rw [hW5]; exact (Bk.freshAt _ _ _ (by simp)).drewB
              have HB5 : Hid (Below wr.heap.size wr W5) := by rw [hW5]; exact Below.drew (((Below.refl _ _).alloc (Nat.le_refl _) _).alloc (by simp) _)
              have HW5 := Lib.hid hW5; clear hW5
              refine wp_region_held_drew (S := fun W => Below wr.heap.size wr W) (by kernel_rfl) (Below.drew (Below.refl _ _)) (fun hS0 => ?_)
              refine wpAnyH_take (i := 0) (v := ?_) rfl (by kernel_rfl) (by kernel_rfl) (by kernel_rfl) (fun _ _ _ h => h) (Or.inl ⟨by rfl, ?_⟩) hS0 ?_
              rotate_left
              · intro W _; go_simp; try with_reducible rfl
              try simp only [Act.put, List.getElem_toArray, List.getElem_cons_zero, List.setIfInBounds_toArray, List.set_cons_zero, List.set_cons_succ]
              refine wpAnyH_take (i := 1) (v := ?_) rfl (by kernel_rfl) (by kernel_rfl) (by kernel_rfl) (fun _ _ _ h => h) (Or.inl ⟨by rfl, ?_⟩) hS0 ?_
              rotate_left
              · intro W hSW; have hx := (hSW.cell (p := ⟨w.heap.size, 4, none⟩) (by show w.heap.size < wr.heap.size; omega)).trans CA.out; go_simp; try with_reducible rfl
              try simp only [Act.put, List.getElem_toArray, List.getElem_cons_zero, List.getElem_cons_succ, List.setIfInBounds_toArray, List.set_cons_zero, List.set_cons_succ]
              refine wpAnyH_take (i := 2) (v := ?_) rfl (by kernel_rfl) (by kernel_rfl) (by kernel_rfl) (fun _ _ _ h => h) (Or.inl ⟨by rfl, ?_⟩) hS0 ?_
              rotate_left
              · intro W _; go_simp; try with_reducible rfl
              try simp only [Act.put, List.getElem_toArray, List.getElem_cons_zero, List.getElem_cons_succ, List.setIfInBounds_toArray, List.set_cons_zero, List.set_cons_succ]
              refine wpAnyH_take (i := 3) (v := ?_) rfl (by kernel_rfl) (by kernel_rfl) (by kernel_rfl) (fun _ _ _ h => h) (Or.inl ⟨by rfl, ?_⟩) hS0 ?_
              rotate_left
              · intro W _; go_simp; try with_reducible rfl
              try simp only [Act.put, List.getElem_toArray, List.getElem_cons_zero, List.getElem_cons_succ, List.setIfInBounds_toArray, List.set_cons_zero, List.set_cons_succ]
              refine wpAnyH_take (i := 4) (v := .agg #[.string a0, .string a1, .int .i64 a2, .int .i64 a3, .int .i64 a4, .int .i64 a5, .slice a6 a7 a8, .string a9, .string b0, .int .i64 b1, .int .i64 b2, .string b3, .int .i64 b4]) rfl (by kernel_rfl) (by kernel_rfl) (by kernel_rfl) (fun _ _ _ h => h) (yields_rg (by rfl) 95 _ rfl g (o + k * 13) rfl #[.string a0, .string a1, .int .i64 a2, .int .i64 a3, .int .i64 a4, .int .i64 a5, .slice a6 a7 a8, .string a9, .string b0, .int .i64 b1, .int .i64 b2, .string b3, .int .i64 b4] _ (fun W hW => range_keep HM1.out.rg hW) Tryz.underlying95 rfl (by kernel_rfl)) hS0 ?_
              try simp only [Act.put, List.getElem_toArray, List.getElem_cons_zero, List.getElem_cons_succ, List.setIfInBounds_toArray, List.set_cons_zero, List.set_cons_succ]
              refine wpAnyH_take (i := 5) (v := ?_) rfl (by kernel_rfl) (by kernel_rfl) (by kernel_rfl) (fun _ _ _ h => h) (Or.inl ⟨by rfl, ?_⟩) hS0 ?_
              rotate_left
              · intro W _; go_simp; try with_reducible rfl
              try simp only [Act.put, List.getElem_toArray, List.getElem_cons_zero, List.getElem_cons_succ, List.setIfInBounds_toArray, List.set_cons_zero, List.set_cons_succ]
              refine wpAnyH_take (i := 6) (v := ?_) rfl (by kernel_rfl) (by kernel_rfl) (by kernel_rfl) (fun _ _ _ h => h) (Or.inl ⟨by rfl, ?_⟩) hS0 ?_
              rotate_left
              · intro W hSW; have hx := (hSW.cell (p := ⟨w.heap.size + 1, 4, none⟩) lt1).trans CB.out; go_simp; try with_reducible rfl
              try simp only [Act.put, List.getElem_toArray, List.getElem_cons_zero, List.getElem_cons_succ, List.setIfInBounds_toArray, List.set_cons_zero, List.set_cons_succ]
              refine wpAnyH_take (i := 7) (v := ?_) rfl (by kernel_rfl) (by kernel_rfl) (by kernel_rfl) (fun _ _ _ h => h) (Or.inl ⟨by rfl, ?_⟩) hS0 ?_
              rotate_left
              · intro W _; go_simp; try with_reducible rfl
              try simp only [Act.put, List.getElem_toArray, List.getElem_cons_zero, List.getElem_cons_succ, List.setIfInBounds_toArray, List.set_cons_zero, List.set_cons_succ]
              refine wpAnyH_take (i := 8) (v := ?_) rfl (by kernel_rfl) (by kernel_rfl) (by kernel_rfl) (fun _ _ _ h => h) (Or.inl ⟨by rfl, ?_⟩) hS0 ?_
              rotate_left
              · intro W _; go_simp; try with_reducible rfl
              try simp only [Act.put, List.getElem_toArray, List.getElem_cons_zero, List.getElem_cons_succ, List.setIfInBounds_toArray, List.set_cons_zero, List.set_cons_succ]
              refine wpAnyH_take (i := 9) (v := .agg #[.string a0, .string a1, .int .i64 a2, .int .i64 a3, .int .i64 a4, .int .i64 a5, .slice y6 y7 y8, .string a9, .string b0, .int .i64 b1, .int .i64 b2, .string b3, .int .i64 b4]) rfl (by kernel_rfl) (by kernel_rfl) (by kernel_rfl) (fun _ _ _ h => h) (yields_rg (by rfl) 95 _ rfl g2 (o2 + k * 13) rfl #[.string a0, .string a1, .int .i64 a2, .int .i64 a3, .int .i64 a4, .int .i64 a5, .slice y6 y7 y8, .string a9, .string b0, .int .i64 b1, .int .i64 b2, .string b3, .int .i64 b4] _ (fun W hW => range_keep HM2.out.rg hW) Tryz.underlying95 rfl (by kernel_rfl)) hS0 ?_
              try simp only [Act.put, List.getElem_toArray, List.getElem_cons_zero, List.getElem_cons_succ, List.setIfInBounds_toArray, List.set_cons_zero, List.set_cons_succ]
              refine wpAnyH_ready (rs := [10, 11]) (by kernel_rfl) (by simp) ?_
              refine (AllReadyH.cons rfl (fun K hK => ?_) (AllReadyH.cons rfl (fun K hK => ?_) AllReadyH.nil))
              · go_simp
                refine hK.out _ _ (Below.drew ((Below.refl _ _).alloc (Nat.le_refl _) _)) (fun hS1 => ?_)
                clear hK K
                try simp only [Act.put, List.getElem_toArray, List.getElem_cons_zero, List.getElem_cons_succ, List.setIfInBounds_toArray, List.set_cons_zero, List.set_cons_succ]
                refine wpAnyH_ready (rs := [11]) (by kernel_rfl) (by simp) ?_
                refine AllReadyH.cons rfl (fun K hK => ?_) AllReadyH.nil
                go_simp
                rw [← HW5.out]
                refine hK.out _ _ (HB5.out) (fun hS2 => ?_)
                clear hK K
                try simp only [Act.put, List.getElem_toArray, List.getElem_cons_zero, List.getElem_cons_succ, List.setIfInBounds_toArray, List.set_cons_zero, List.set_cons_succ]
                refine wpAnyH_ready (rs := [12]) (by kernel_rfl) (by simp) ?_
                refine AllReadyH.cons rfl (fun K hK => ?_) AllReadyH.nil
                rw [if_pos (by rfl)]
                refine store_bk_op 95 (.tmp 10) (.tmp 116) rfl wr.heap.size 0 #[.string a0, .string a1, .int .i64 a2, .int .i64 a3, .int .i64 a4, .int .i64 a5, .slice a6 a7 a8, .string a9, .string b0, .int .i64 b1, .int .i64 b2, .string b3, .int .i64 b4] rfl rfl 95 #[.string ⟨#[]⟩, .string ⟨#[]⟩, .int .i64 0, .int .i64 0, .int .i64 0, .int .i64 0, .slice none 0 0, .string ⟨#[]⟩, .string ⟨#[]⟩, .int .i64 0, .int .i64 0, .string ⟨#[]⟩, .int .i64 0] #[.string a0, .string a1, .int .i64 a2, .int .i64 a3, .int .i64 a4, .int .i64 a5, .slice a6 a7 a8, .string a9, .string b0, .int .i64 b1, .int .i64 b2, .string b3, .int .i64 b4] HZ0.out (by kernel_rfl) (by simp) (by kernel_rfl) rfl ?_
                intro w6 hB6 hg6 hs6
                have HA6 := Lib.hid hB6; have HZ6 := Lib.hid (HZ1.out.stays hg6 (by simp))
                have hb6 : Below wr.heap.size wr w6 := HB5.out.grown hg6 HB5.out.size (fun q e => by injection e with e; omega)
                clear hB6 hg6 hs6
                refine hK.out _ _ (hb6) (fun hS3 => ?_)
                clear hK K
                try simp only [Act.put, List.getElem_toArray, List.getElem_cons_zero, List.getElem_cons_succ, List.setIfInBounds_toArray, List.set_cons_zero, List.set_cons_succ]
                refine wpAnyH_ready (rs := [13]) (by kernel_rfl) (by simp) ?_
                refine AllReadyH.cons rfl (fun K hK => ?_) AllReadyH.nil
                rw [if_pos (by rfl)]
                refine store_bk_op 95 (.tmp 11) (.tmp 121) rfl (wr.heap.size + 1) 0 #[.string a0, .string a1, .int .i64 a2, .int .i64 a3, .int .i64 a4, .int .i64 a5, .slice y6 y7 y8, .string a9, .string b0, .int .i64 b1, .int .i64 b2, .string b3, .int .i64 b4] rfl rfl 95 #[.string ⟨#[]⟩, .string ⟨#[]⟩, .int .i64 0, .int .i64 0, .int .i64 0, .int .i64 0, .slice none 0 0, .string ⟨#[]⟩, .string ⟨#[]⟩, .int .i64 0, .int .i64 0, .string ⟨#[]⟩, .int .i64 0] #[.string a0, .string a1, .int .i64 a2, .int .i64 a3, .int .i64 a4, .int .i64 a5, .slice y6 y7 y8, .string a9, .string b0, .int .i64 b1, .int .i64 b2, .string b3, .int .i64 b4] HZ6.out (by kernel_rfl) (by simp) (by kernel_rfl) rfl ?_
                intro w7 hB7 hg7 hs7
                have HY7 := Lib.hid hB7; have HX7 := Lib.hid (HA6.out.stays hg7 (by simp))
                have hb7 : Below wr.heap.size wr w7 := hb6.grown hg7 hb6.size (fun q e => by injection e with e; omega)
                clear hB7 hg7 hs7 HA6 HZ6
                refine hK.out _ _ (hb7) (fun hS4 => ?_)
                clear hK K
                try simp only [Act.put, List.getElem_toArray, List.getElem_cons_zero, List.getElem_cons_succ, List.setIfInBounds_toArray, List.set_cons_zero, List.set_cons_succ]
                refine wpAnyH_done (by kernel_rfl) ?_ _
                clear hS0 HZ0 HZ1 HB5 HW5
                have c1 : w7.cell? ⟨wr.heap.size, 10, none⟩ = some (.int .i64 b2) := HX7.out.cellAt 10
                have c2 : w7.cell? ⟨(wr.heap.size + 1), 10, none⟩ = some (.int .i64 b2) := HY7.out.cellAt 10
                have c3 : w7.cell? ⟨wr.heap.size, 11, none⟩ = some (.string b3) := HX7.out.cellAt 11
                have c4 : w7.cell? ⟨(wr.heap.size + 1), 11, none⟩ = some (.string b3) := HY7.out.cellAt 11
                have c5 : w7.cell? ⟨wr.heap.size, 12, none⟩ = some (.int .i64 b4) := HX7.out.cellAt 12
                have c6 : w7.cell? ⟨(wr.heap.size + 1), 12, none⟩ = some (.int .i64 b4) := HY7.out.cellAt 12
                have lt7 : wr.heap.size + 1 < w7.heap.size := by have h1 := HX7.out.here; have h2 := HY7.out.here; omega
                go_wp2_with (first | (with_reducible refine load_bk rfl 57 _ rfl wr.heap.size 0 rfl 95 #[.string a0, .string a1, .int .i64 a2, .int .i64 a3, .int .i64 a4, .int .i64 a5, .slice a6 a7 a8, .string a9, .string b0, .int .i64 b1, .int .i64 b2, .string b3, .int .i64 b4] #[.string a0, .string a1, .int .i64 a2, .int .i64 a3, .int .i64 a4, .int .i64 a5, .slice a6 a7 a8, .string a9, .string b0, .int .i64 b1] _ HX7.out (Part.of rfl) Tryz.underlying57 rfl (by kernel_rfl) ?_) | (with_reducible refine load_bk rfl 57 _ rfl (wr.heap.size + 1) 0 rfl 95 #[.string a0, .string a1, .int .i64 a2, .int .i64 a3, .int .i64 a4, .int .i64 a5, .slice y6 y7 y8, .string a9, .string b0, .int .i64 b1, .int .i64 b2, .string b3, .int .i64 b4] #[.string a0, .string a1, .int .i64 a2, .int .i64 a3, .int .i64 a4, .int .i64 a5, .slice y6 y7 y8, .string a9, .string b0, .int .i64 b1] _ HY7.out (Part.of rfl) Tryz.underlying57 rfl (by kernel_rfl) ?_))
                refine (KS.out w7 (HO1.out.later hb7) (HO2.out.later hb7)).mono ?_; rintro e w8 ⟨rfl, hb8⟩
                have hc1 := (hb8.cell (p := ⟨wr.heap.size, 10, none⟩) (by first | exact HX7.out.here | exact HY7.out.here)).trans c1
                have hc2 := (hb8.cell (p := ⟨(wr.heap.size + 1), 10, none⟩) (by first | exact HX7.out.here | exact HY7.out.here)).trans c2
                have hc3 := (hb8.cell (p := ⟨wr.heap.size, 11, none⟩) (by first | exact HX7.out.here | exact HY7.out.here)).trans c3
                have hc4 := (hb8.cell (p := ⟨(wr.heap.size + 1), 11, none⟩) (by first | exact HX7.out.here | exact HY7.out.here)).trans c4
                have hc5 := (hb8.cell (p := ⟨wr.heap.size, 12, none⟩) (by first | exact HX7.out.here | exact HY7.out.here)).trans c5
                have hc6 := (hb8.cell (p := ⟨(wr.heap.size + 1), 12, none⟩) (by first | exact HX7.out.here | exact HY7.out.here)).trans c6
                clear c1 c2 c3 c4 c5 c6
                go_wp2_with fail
                have hb9 : Below wr.heap.size wr w8 := hb7.trans (hb8.mono hb7.size)
                go_round
                case rel => exact ⟨k + 1, by omega, by go_num, HA.out.later hb9, HB.out.later hb9, hb.trans (hb9.mono hb.size)⟩
                case measure => simp [intOf]; omega
              · go_simp
                refine hK.out _ _ (Below.drew ((Below.refl _ _).alloc (Nat.le_refl _) _)) (fun hS1 => ?_)
                clear hK K
                try simp only [Act.put, List.getElem_toArray, List.getElem_cons_zero, List.getElem_cons_succ, List.setIfInBounds_toArray, List.set_cons_zero, List.set_cons_succ]
                refine wpAnyH_ready (rs := [10]) (by kernel_rfl) (by simp) ?_
                refine AllReadyH.cons rfl (fun K hK => ?_) AllReadyH.nil
                go_simp
                rw [← HW5.out]
                refine hK.out _ _ (HB5.out) (fun hS2 => ?_)
                clear hK K
                try simp only [Act.put, List.getElem_toArray, List.getElem_cons_zero, List.getElem_cons_succ, List.setIfInBounds_toArray, List.set_cons_zero, List.set_cons_succ]
                refine wpAnyH_ready (rs := [12]) (by kernel_rfl) (by simp) ?_
                refine AllReadyH.cons rfl (fun K hK => ?_) AllReadyH.nil
                rw [if_pos (by rfl)]
                refine store_bk_op 95 (.tmp 10) (.tmp 116) rfl (wr.heap.size + 1) 0 #[.string a0, .string a1, .int .i64 a2, .int .i64 a3, .int .i64 a4, .int .i64 a5, .slice a6 a7 a8, .string a9, .string b0, .int .i64 b1, .int .i64 b2, .string b3, .int .i64 b4] rfl rfl 95 #[.string ⟨#[]⟩, .string ⟨#[]⟩, .int .i64 0, .int .i64 0, .int .i64 0, .int .i64 0, .slice none 0 0, .string ⟨#[]⟩, .string ⟨#[]⟩, .int .i64 0, .int .i64 0, .string ⟨#[]⟩, .int .i64 0] #[.string a0, .string a1, .int .i64 a2, .int .i64 a3, .int .i64 a4, .int .i64 a5, .slice a6 a7 a8, .string a9, .string b0, .int .i64 b1, .int .i64 b2, .string b3, .int .i64 b4] HZ1.out (by kernel_rfl) (by simp) (by kernel_rfl) rfl ?_
                intro w6 hB6 hg6 hs6
                have HA6 := Lib.hid hB6; have HZ6 := Lib.hid (HZ0.out.stays hg6 (by simp))
                have hb6 : Below wr.heap.size wr w6 := HB5.out.grown hg6 HB5.out.size (fun q e => by injection e with e; omega)
                clear hB6 hg6 hs6
                refine hK.out _ _ (hb6) (fun hS3 => ?_)
                clear hK K
                try simp only [Act.put, List.getElem_toArray, List.getElem_cons_zero, List.getElem_cons_succ, List.setIfInBounds_toArray, List.set_cons_zero, List.set_cons_succ]
                refine wpAnyH_ready (rs := [13]) (by kernel_rfl) (by simp) ?_
                refine AllReadyH.cons rfl (fun K hK => ?_) AllReadyH.nil
                rw [if_pos (by rfl)]
                refine store_bk_op 95 (.tmp 11) (.tmp 121) rfl wr.heap.size 0 #[.string a0, .string a1, .int .i64 a2, .int .i64 a3, .int .i64 a4, .int .i64 a5, .slice y6 y7 y8, .string a9, .string b0, .int .i64 b1, .int .i64 b2, .string b3, .int .i64 b4] rfl rfl 95 #[.string ⟨#[]⟩, .string ⟨#[]⟩, .int .i64 0, .int .i64 0, .int .i64 0, .int .i64 0, .slice none 0 0, .string ⟨#[]⟩, .string ⟨#[]⟩, .int .i64 0, .int .i64 0, .string ⟨#[]⟩, .int .i64 0] #[.string a0, .string a1, .int .i64 a2, .int .i64 a3, .int .i64 a4, .int .i64 a5, .slice y6 y7 y8, .string a9, .string b0, .int .i64 b1, .int .i64 b2, .string b3, .int .i64 b4] HZ6.out (by kernel_rfl) (by simp) (by kernel_rfl) rfl ?_
                intro w7 hB7 hg7 hs7
                have HY7 := Lib.hid hB7; have HX7 := Lib.hid (HA6.out.stays hg7 (by simp))
                have hb7 : Below wr.heap.size wr w7 := hb6.grown hg7 hb6.size (fun q e => by injection e with e; omega)
                clear hB7 hg7 hs7 HA6 HZ6
                refine hK.out _ _ (hb7) (fun hS4 => ?_)
                clear hK K
                try simp only [Act.put, List.getElem_toArray, List.getElem_cons_zero, List.getElem_cons_succ, List.setIfInBounds_toArray, List.set_cons_zero, List.set_cons_succ]
                refine wpAnyH_done (by kernel_rfl) ?_ _
                clear hS0 HZ0 HZ1 HB5 HW5
                have c1 : w7.cell? ⟨(wr.heap.size + 1), 10, none⟩ = some (.int .i64 b2) := HX7.out.cellAt 10
                have c2 : w7.cell? ⟨wr.heap.size, 10, none⟩ = some (.int .i64 b2) := HY7.out.cellAt 10
                have c3 : w7.cell? ⟨(wr.heap.size + 1), 11, none⟩ = some (.string b3) := HX7.out.cellAt 11
                have c4 : w7.cell? ⟨wr.heap.size, 11, none⟩ = some (.string b3) := HY7.out.cellAt 11
                have c5 : w7.cell? ⟨(wr.heap.size + 1), 12, none⟩ = some (.int .i64 b4) := HX7.out.cellAt 12
                have c6 : w7.cell? ⟨wr.heap.size, 12, none⟩ = some (.int .i64 b4) := HY7.out.cellAt 12
                have lt7 : wr.heap.size + 1 < w7.heap.size := by have h1 := HX7.out.here; have h2 := HY7.out.here; omega
                go_wp2_with (first | (with_reducible refine load_bk rfl 57 _ rfl (wr.heap.size + 1) 0 rfl 95 #[.string a0, .string a1, .int .i64 a2, .int .i64 a3, .int .i64 a4, .int .i64 a5, .slice a6 a7 a8, .string a9, .string b0, .int .i64 b1, .int .i64 b2, .string b3, .int .i64 b4] #[.string a0, .string a1, .int .i64 a2, .int .i64 a3, .int .i64 a4, .int .i64 a5, .slice a6 a7 a8, .string a9, .string b0, .int .i64 b1] _ HX7.out (Part.of rfl) Tryz.underlying57 rfl (by kernel_rfl) ?_) | (with_reducible refine load_bk rfl 57 _ rfl wr.heap.size 0 rfl 95 #[.string a0, .string a1, .int .i64 a2, .int .i64 a3, .int .i64 a4, .int .i64 a5, .slice y6 y7 y8, .string a9, .string b0, .int .i64 b1, .int .i64 b2, .string b3, .int .i64 b4] #[.string a0, .string a1, .int .i64 a2, .int .i64 a3, .int .i64 a4, .int .i64 a5, .slice y6 y7 y8, .string a9, .string b0, .int .i64 b1] _ HY7.out (Part.of rfl) Tryz.underlying57 rfl (by kernel_rfl) ?_))
                refine (KS.out w7 (HO1.out.later hb7) (HO2.out.later hb7)).mono ?_; rintro e w8 ⟨rfl, hb8⟩
                have hc1 := (hb8.cell (p := ⟨(wr.heap.size + 1), 10, none⟩) (by first | exact HX7.out.here | exact HY7.out.here)).trans c1
                have hc2 := (hb8.cell (p := ⟨wr.heap.size, 10, none⟩) (by first | exact HX7.out.here | exact HY7.out.here)).trans c2
                have hc3 := (hb8.cell (p := ⟨(wr.heap.size + 1), 11, none⟩) (by first | exact HX7.out.here | exact HY7.out.here)).trans c3
                have hc4 := (hb8.cell (p := ⟨wr.heap.size, 11, none⟩) (by first | exact HX7.out.here | exact HY7.out.here)).trans c4
                have hc5 := (hb8.cell (p := ⟨(wr.heap.size + 1), 12, none⟩) (by first | exact HX7.out.here | exact HY7.out.here)).trans c5
                have hc6 := (hb8.cell (p := ⟨wr.heap.size, 12, none⟩) (by first | exact HX7.out.here | exact HY7.out.here)).trans c6
                clear c1 c2 c3 c4 c5 c6
                go_wp2_with fail
                have hb9 : Below wr.heap.size wr w8 := hb7.trans (hb8.mono hb7.size)
                go_round
                case rel => exact ⟨k + 1, by omega, by go_num, HA.out.later hb9, HB.out.later hb9, hb.trans (hb9.mono hb.size)⟩
                case measure => simp [intOf]; omega
            · have hk' : n = k := by omega
              subst hk'
              clear hk hlt
              go_wp2_with fail
              go_ret
              exact ⟨rfl, hb⟩
end Go.Proofs.YtjgojgmgicpgaaaGreat
