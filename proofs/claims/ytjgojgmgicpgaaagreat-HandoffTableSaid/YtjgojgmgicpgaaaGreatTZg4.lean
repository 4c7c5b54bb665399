/- gen2's State of a blank scheduler. No condition. -/
import Derived.Test.YtjgojgmgicpgaaaGreatTZg3
import Derived.Test.YtjgojgmgicpgaaaGreatTZit
import Derived.Test.YtjgojgmgicpgaaaGreatTQ09
import Derived.Test.YtjgojgmgicpgaaaGreatTZha
namespace Go.Proofs.YtjgojgmgicpgaaaGreat
open Go.RowKit
set_option linter.unusedSimpArgs false
set_option linter.unusedVariables false

set_option maxHeartbeats 12800000 in
set_option maxRecDepth 100000 in
theorem insT_zz (A : Option Addr) (c : Nat) (w : World) : Calls Tryz.prog 335 #[.slice A 0 c, .int .i64 0, .int .i64 0] w fun e w' => e = .returned (.tuple #[]) ∧ w = w' := by
  go_enter Tryz.func335, Tryz.ntmps335
  go_wp2_with fail
  refine wp_loop_rounds 1 ?_
  rw [rounds_succ]
  go_wp2_with fail
  first | go_end0 | go_ret | go_returns
  exact ⟨rfl, rfl⟩
set_option maxHeartbeats 12800000 in
set_option maxRecDepth 100000 in
theorem pdqT_zz (A : Option Addr) (c : Nat) (k : Int) (w : World) : Calls Tryz.prog 269 #[.slice A 0 c, .int .i64 0, .int .i64 0, .int .i64 k] w fun e w' => e = .returned (.tuple #[]) ∧ w = w' := by
  have K := Lib.hid (insT_zz A c w)
  go_enter Tryz.func269, Tryz.ntmps269
  go_wp2_with fail
  refine wp_loop_rounds 1 ?_
  rw [rounds_succ]
  go_wp2_with fail
  refine K.out.mono ?_
  rintro e w' ⟨rfl, rfl⟩
  go_wp2_with fail
  first | go_end0 | go_ret | go_returns
  exact ⟨rfl, rfl⟩
set_option maxHeartbeats 12800000 in
set_option maxRecDepth 100000 in
theorem sortT_zz (A : Option Addr) (c : Nat) (w : World) : Calls Tryz.prog 176 #[.slice A 0 c] w fun e w' => e = .returned (.tuple #[]) ∧ w = w' := by
  have kL : ∀ W, Calls Tryz.prog 270 #[.int .u64 0] W fun e w' => e = .returned (.int .i64 (Lib.bitLen (0 : Int).toNat)) ∧ W = w' := fun W => by
    have K := Lib.hid (len64_any 0 W (by decide) (by decide))
    go_enter Tryz.func270, Tryz.ntmps270
    go_wp2_with fail
    refine K.out.mono ?_
    rintro e w' ⟨rfl, rfl⟩
    go_wp2_with fail
    go_ret
    exact ⟨rfl, rfl⟩
  have KL := Lib.hid kL
  have KP := Lib.hid (fun (k : Int) (W : World) => pdqT_zz A c k W)
  clear kL
  go_enter Tryz.func176, Tryz.ntmps176
  go_wp2_with fail
  refine (KL.out _).mono ?_
  rintro e w1 ⟨rfl, rfl⟩
  go_wp2_with fail
  refine (KP.out _ _).mono ?_
  rintro e w2 ⟨rfl, rfl⟩
  go_wp2_with fail
  first | go_end0 | go_ret | go_returns
  exact ⟨rfl, rfl⟩
set_option maxHeartbeats 12800000 in
set_option maxRecDepth 100000 in
theorem insP_zz (A : Option Addr) (c : Nat) (fn : Value) (w : World) : Calls Tryz.prog 396 #[.slice A 0 c, .int .i64 0, .int .i64 0, fn] w fun e w' => e = .returned (.tuple #[]) ∧ w = w' := by
  go_enter Tryz.func396, Tryz.ntmps396
  go_wp2_with fail
  refine wp_loop_rounds 1 ?_
  rw [rounds_succ]
  go_wp2_with fail
  first | go_end0 | go_ret | go_returns
  exact ⟨rfl, rfl⟩
set_option maxHeartbeats 12800000 in
set_option maxRecDepth 100000 in
theorem pdqP_zz (A : Option Addr) (c : Nat) (fn : Value) (k : Int) (w : World) : Calls Tryz.prog 346 #[.slice A 0 c, .int .i64 0, .int .i64 0, .int .i64 k, fn] w fun e w' => e = .returned (.tuple #[]) ∧ w = w' := by
  have K := Lib.hid (insP_zz A c fn w)
  go_enter Tryz.func346, Tryz.ntmps346
  go_wp2_with fail
  refine wp_loop_rounds 1 ?_
  rw [rounds_succ]
  go_wp2_with fail
  refine K.out.mono ?_
  rintro e w' ⟨rfl, rfl⟩
  go_wp2_with fail
  first | go_end0 | go_ret | go_returns
  exact ⟨rfl, rfl⟩
set_option maxHeartbeats 12800000 in
set_option maxRecDepth 100000 in
theorem sortP_zz (A : Option Addr) (c : Nat) (fn : Value) (w : World) : Calls Tryz.prog 272 #[.slice A 0 c, fn] w fun e w' => e = .returned (.tuple #[]) ∧ w = w' := by
  have kL : ∀ W, Calls Tryz.prog 270 #[.int .u64 0] W fun e w' => e = .returned (.int .i64 (Lib.bitLen (0 : Int).toNat)) ∧ W = w' := fun W => by
    have K := Lib.hid (len64_any 0 W (by decide) (by decide))
    go_enter Tryz.func270, Tryz.ntmps270
    go_wp2_with fail
    refine K.out.mono ?_
    rintro e w' ⟨rfl, rfl⟩
    go_wp2_with fail
    go_ret
    exact ⟨rfl, rfl⟩
  have KL := Lib.hid kL
  have KP := Lib.hid (fun (k : Int) (W : World) => pdqP_zz A c fn k W)
  clear kL
  go_enter Tryz.func272, Tryz.ntmps272
  go_wp2_with fail
  refine (KL.out _).mono ?_
  rintro e w1 ⟨rfl, rfl⟩
  go_wp2_with fail
  refine (KP.out _ _).mono ?_
  rintro e w2 ⟨rfl, rfl⟩
  go_wp2_with fail
  first | go_end0 | go_ret | go_returns
  exact ⟨rfl, rfl⟩
set_option maxHeartbeats 12800000 in
set_option maxRecDepth 100000 in
theorem sortedM_z (Bm m : Nat) (w : World) (hm : Hid (w.cell? ⟨Bm, 0, none⟩ = some (.map (some m)))) (hown : Hid (MapG (κ := ByteArray) Value.string w m [])) :
    Calls Tryz.prog 73 #[.func (.func 177) #[] #[.pointer (some ⟨Bm, 0, none⟩)]] w fun e w' => (∃ A c, e = .returned (.slice A 0 c)) ∧ Below w.heap.size w w' := by
  have KC := Lib.hid (collectS_any 177 #[.pointer (some ⟨Bm, 0, none⟩)] (enters_of Tryz.func177 (by kernel_rfl) rfl) (fun xs => ∃ ps : EntG ByteArray, ps.Perm [] ∧ xs = ps.map Prod.fst) (fun _ => True) 0 (by decide) w
      (fun n w' h1 hb => keysM_stops Fence.wide n trivial rfl h1 Bm (some m) [] trivial w' ((hb.cell (World.block_lt_of_cell? w _ hm.out)).trans hm.out) (.inr ⟨m, rfl, hown.out.later hb⟩)))
  go_enter Tryz.func73, Tryz.ntmps73
  go_wp2_with fail
  refine KC.out.mono ?_
  rintro e w1 ⟨v, xs, rfl, ⟨ps, hps, hxs⟩, ho, hb⟩
  have hp0 : ps = [] := List.perm_nil.1 hps
  subst hp0
  have hx0 : xs = [] := hxs
  subst hx0
  obtain ⟨A, c, hv, _, _, _, _⟩ := OwnK.sl ho
  have hv' : v = .slice A 0 c := hv
  subst hv'
  have HB := Lib.hid hb
  clear ho hb hxs hps KC hv
  go_wp2_with fail
  refine (sortT_zz A c w1).mono ?_
  rintro e w2 ⟨rfl, rfl⟩
  go_wp2_with fail
  go_ret
  exact ⟨⟨_, _, rfl⟩, HB.out⟩
set_option maxHeartbeats 12800000 in
set_option maxRecDepth 100000 in
theorem sortedQ_z (Bm m : Nat) (w : World) (hm : Hid (w.cell? ⟨Bm, 0, none⟩ = some (.map (some m)))) (hown : Hid (MapG (κ := ByteArray) Value.string w m [])) :
    Calls Tryz.prog 73 #[.func (.func 178) #[] #[.pointer (some ⟨Bm, 0, none⟩)]] w fun e w' => (∃ A c, e = .returned (.slice A 0 c)) ∧ Below w.heap.size w w' := by
  have KC := Lib.hid (collectS_any 178 #[.pointer (some ⟨Bm, 0, none⟩)] (enters_of Tryz.func178 (by kernel_rfl) rfl) (fun xs => ∃ ps : EntG ByteArray, ps.Perm [] ∧ xs = ps.map Prod.fst) (fun _ => True) 0 (by decide) w
      (fun n w' h1 hb => keysQ_stops Fence.wide n trivial rfl h1 Bm (some m) [] trivial w' ((hb.cell (World.block_lt_of_cell? w _ hm.out)).trans hm.out) (.inr ⟨m, rfl, hown.out.later hb⟩)))
  go_enter Tryz.func73, Tryz.ntmps73
  go_wp2_with fail
  refine KC.out.mono ?_
  rintro e w1 ⟨v, xs, rfl, ⟨ps, hps, hxs⟩, ho, hb⟩
  have hp0 : ps = [] := List.perm_nil.1 hps
  subst hp0
  have hx0 : xs = [] := hxs
  subst hx0
  obtain ⟨A, c, hv, _, _, _, _⟩ := OwnK.sl ho
  have hv' : v = .slice A 0 c := hv
  subst hv'
  have HB := Lib.hid hb
  clear ho hb hxs hps KC hv
  go_wp2_with fail
  refine (sortT_zz A c w1).mono ?_
  rintro e w2 ⟨rfl, rfl⟩
  go_wp2_with fail
  go_ret
  exact ⟨⟨_, _, rfl⟩, HB.out⟩
set_option maxHeartbeats 12800000 in
set_option maxRecDepth 100000 in
theorem sortedP_z (Bm m : Nat) (fn : Value) (w : World) (hm : Hid (w.cell? ⟨Bm, 0, none⟩ = some (.map (some m)))) (hown : Hid (MapG (κ := ByteArray) Value.string w m [])) :
    Calls Tryz.prog 179 #[.func (.func 273) #[] #[.pointer (some ⟨Bm, 0, none⟩)], fn] w fun e w' => (∃ A c, e = .returned (.slice A 0 c)) ∧ Below w.heap.size w w' := by
  have KC := Lib.hid (collectP_any 273 #[.pointer (some ⟨Bm, 0, none⟩)] (enters_of Tryz.func273 (by kernel_rfl) rfl) (fun xs => ∃ ps : EntG ByteArray, ps.Perm [] ∧ ps.map Prod.snd = xs.map Value.pointer) (fun _ => True) 0 (by decide) w
      (fun n w' h1 hb => values_stops Fence.wide n trivial rfl h1 Bm (some m) [] (fun p hp => by cases hp) w' ((hb.cell (World.block_lt_of_cell? w _ hm.out)).trans hm.out) (.inr ⟨m, rfl, hown.out.later hb⟩)))
  go_enter Tryz.func179, Tryz.ntmps179
  go_wp2_with fail
  refine KC.out.mono ?_
  rintro e w1 ⟨v, xs, rfl, ⟨ps, hps, hxs⟩, ho, hb⟩
  have hp0 : ps = [] := List.perm_nil.1 hps
  subst hp0
  have hx0 : xs = [] := by cases xs with | nil => rfl | cons a l => simp at hxs
  subst hx0
  obtain ⟨A, c, hv, _, _, _, _⟩ := OwnK.sl ho
  have hv' : v = .slice A 0 c := hv
  subst hv'
  have HB := Lib.hid hb
  clear ho hb hxs hps KC hv
  go_wp2_with fail
  refine (sortP_zz A c fn w1).mono ?_
  rintro e w2 ⟨rfl, rfl⟩
  go_wp2_with fail
  go_ret
  exact ⟨⟨_, _, rfl⟩, HB.out⟩
set_option maxHeartbeats 12800000 in
set_option maxRecDepth 100000 in
theorem bySeq_z (m : Nat) (w : World) (hown : Hid (MapG (κ := ByteArray) Value.string w m [])) : Calls Tryz.prog 76 #[.map (some m)] w fun e w' => (∃ A c, e = .returned (.slice A 0 c)) ∧ Below w.heap.size w w' := by
  have hL : Below w.heap.size w (w.alloc (.cells #[.map (some m)] 120)) := (Below.refl _ _).alloc (Nat.le_refl _) _
  have KS := Lib.hid (fun fn => sortedP_z w.heap.size m fn (w.alloc (.cells #[.map (some m)] 120)) (Lib.hid ((Bk.fresh w 120 #[.map (some m)]).cellAt 0)) (Lib.hid (hown.out.later hL)))
  have HL := Lib.hid hL
  clear hL
  go_enter Tryz.func76, Tryz.ntmps76
  go_wp2_with fail
  refine (values_any (some m) w).mono ?_
  rintro e w1 ⟨rfl, rfl⟩
  go_wp2_with fail
  refine (KS.out _).mono ?_
  rintro e w2 ⟨⟨A, c, rfl⟩, hb2⟩
  have HB := Lib.hid (bclose HL.out hb2)
  clear hb2 KS HL
  go_wp2_with fail
  go_ret
  exact ⟨⟨_, _, rfl⟩, HB.out⟩
set_option maxHeartbeats 12800000 in
set_option maxRecDepth 100000 in
theorem next_z (g m1 m2 m3 m4 : Nat) (p1 p2 p3 : Option Addr) (w : World) (h : Bk w g 126 #[.int .i64 0, .int .i64 0, .map (some m1), .map (some m2), .map (some m3), .map (some m4), .pointer p1, .pointer p2, .pointer p3]) : Calls Tryz.prog 72 #[.pointer (some ⟨g, 0, none⟩)] w fun e w' => e = .returned (.int .i64 1) ∧ Below w.heap.size w w' := by
  have d1 : w.cell? ⟨g, 1, none⟩ = some (.int .i64 0) := h.cellAt 1
  clear h
  go_enter Tryz.func72, Tryz.ntmps72
  go_wp2
  go_ret
  exact ⟨rfl, Below.refl _ _⟩
section
variable {o : Oper} {a : Act} {w : World} {K : Act → World → Prop} {Q : Exit → Act → World → Prop}
theorem scellz_op (ho : o.op = .alloc 26) (h : ∀ g w', g = w.heap.size → Bk w' g 26 #[.int .i64 0, .int .i64 0, .slice none 0 0, .slice none 0 0, .slice none 0 0] → Below w.heap.size w w' → K (a.put o.dst (.pointer (some ⟨g, 0, none⟩))) w') : o.wp Tryz.prog a w K Q := by
  unfold Oper.wp execOp
  simp only [ho]
  go_simp
  exact h _ _ rfl (Bk.fresh w _ _) ((Below.refl _ _).alloc (Nat.le_refl _) _)
end
set_option maxHeartbeats 12800000 in
set_option maxRecDepth 100000 in
theorem g2state_z (b g : Nat) (w : World) (h : Z2 w b g) : Calls Tryz.prog 29 #[.pointer (some ⟨g, 0, none⟩)] w fun e w' => (∃ v', e = .returned v' ∧ ZSt v') ∧ Below w.heap.size w w' := by
  obtain ⟨_, m1, m2, m3, m4, p1, p2, p3, hG, hM, _⟩ := h
  obtain ⟨w0, hw0⟩ : ∃ W, W = w.alloc (.cells #[.int .i64 0, .int .i64 0, .slice none 0 0, .slice none 0 0, .slice none 0 0] 26) := ⟨_, rfl⟩
  have hb0 : Below w.heap.size w w0 := by rw [hw0]; exact (Below.refl _ _).alloc (Nat.le_refl _) _
  have HQ0 : Hid (Bk w0 w.heap.size 26 #[.int .i64 0, .int .i64 0, .slice none 0 0, .slice none 0 0, .slice none 0 0]) := by rw [hw0]; exact Bk.fresh _ _ _
  have HG0 := Lib.hid (hG.later hb0); have HMx := Lib.hid (hM.later hb0); have Hb0 := Lib.hid hb0
  clear hG hM hb0
  go_enter Tryz.func29, Tryz.ntmps29
  go_wp2_with fail
  rw [← hw0]
  clear hw0
  refine wp_region_held_drew (S := fun W => Bk W g 126 #[.int .i64 0, .int .i64 0, .map (some m1), .map (some m2), .map (some m3), .map (some m4), .pointer p1, .pointer p2, .pointer p3] ∧ NoMaps W b m1 m2 m3 ∧ Bk W w.heap.size 26 #[.int .i64 0, .int .i64 0, .slice none 0 0, .slice none 0 0, .slice none 0 0] ∧ Below w0.heap.size w0 W) (by kernel_rfl) (⟨HG0.out.drewB, HMx.out.later (Below.drew (Below.refl _ _)), HQ0.out.drewB, Below.drew (Below.refl _ _)⟩) (fun hS0 => ?_)
  refine wpAnyH_take (i := 0) (v := ?_) rfl (by kernel_rfl) (by kernel_rfl) (by kernel_rfl) (fun _ _ _ h => h) (Or.inl ⟨by rfl, ?_⟩) hS0 ?_
  rotate_left
  · intro W _; go_simp; try with_reducible rfl
  try simp only [Act.put, List.getElem_toArray, List.getElem_cons_zero, List.setIfInBounds_toArray, List.set_cons_zero, List.set_cons_succ]
  refine wpAnyH_take (i := 1) (v := ?_) rfl (by kernel_rfl) (by kernel_rfl) (by kernel_rfl) (fun _ _ _ h => h) (Or.inl ⟨by rfl, ?_⟩) hS0 ?_
  rotate_left
  · intro W _; go_simp; try with_reducible rfl
  try simp only [Act.put, List.getElem_toArray, List.getElem_cons_zero, List.getElem_cons_succ, List.setIfInBounds_toArray, List.set_cons_zero, List.set_cons_succ]
  refine wpAnyH_take (i := 2) (v := ?_) rfl (by kernel_rfl) (by kernel_rfl) (by kernel_rfl) (fun _ _ _ h => h) (Or.inl ⟨by rfl, ?_⟩) hS0 ?_
  rotate_left
  · intro W _; go_simp; try with_reducible rfl
  try simp only [Act.put, List.getElem_toArray, List.getElem_cons_zero, List.getElem_cons_succ, List.setIfInBounds_toArray, List.set_cons_zero, List.set_cons_succ]
  refine wpAnyH_take (i := 3) (v := ?_) rfl (by kernel_rfl) (by kernel_rfl) (by kernel_rfl) (fun _ _ _ h => h) (Or.inl ⟨by rfl, ?_⟩) hS0 ?_
  rotate_left
  · intro W hSW; have hx := hSW.1.cellAt 0; go_simp; try with_reducible rfl
  try simp only [Act.put, List.getElem_toArray, List.getElem_cons_zero, List.getElem_cons_succ, List.setIfInBounds_toArray, List.set_cons_zero, List.set_cons_succ]
  refine wpAnyH_take (i := 4) (v := ?_) rfl (by kernel_rfl) (by kernel_rfl) (by kernel_rfl) (fun _ _ _ h => h) (Or.inl ⟨by rfl, ?_⟩) hS0 ?_
  rotate_left
  · intro W _; go_simp; try with_reducible rfl
  try simp only [Act.put, List.getElem_toArray, List.getElem_cons_zero, List.getElem_cons_succ, List.setIfInBounds_toArray, List.set_cons_zero, List.set_cons_succ]
  refine wpAnyH_ready (rs := [5, 7]) (by kernel_rfl) (by simp) ?_
  refine (AllReadyH.cons rfl (fun K hK => ?_) (AllReadyH.cons rfl (fun K hK => ?_) AllReadyH.nil))
  · go_simp
    refine (next_z g m1 m2 m3 m4 p1 p2 p3 _ hS0.1).mono ?_
    rintro e y1 ⟨rfl, hb1⟩
    skip
    go_simp
    refine hK.out _ _ (⟨hS0.1.later hb1, hS0.2.1.later hb1, hS0.2.2.1.later hb1, bclose hS0.2.2.2 hb1⟩) (fun hS1 => ?_)
    clear hK K
    try simp only [Act.put, List.getElem_toArray, List.getElem_cons_zero, List.getElem_cons_succ, List.setIfInBounds_toArray, List.set_cons_zero, List.set_cons_succ]
    refine wpAnyH_take (i := 6) (v := ?_) rfl (by kernel_rfl) (by kernel_rfl) (by kernel_rfl) (fun _ _ _ h => h) (Or.inl ⟨by rfl, ?_⟩) hS1 ?_
    rotate_left
    · intro W _; go_simp; try with_reducible rfl
    try simp only [Act.put, List.getElem_toArray, List.getElem_cons_zero, List.getElem_cons_succ, List.setIfInBounds_toArray, List.set_cons_zero, List.set_cons_succ]
    refine wpAnyH_ready (rs := [7]) (by kernel_rfl) (by simp) ?_
    refine AllReadyH.cons rfl (fun K hK => ?_) AllReadyH.nil
    simp only [if_pos, Region.wanted]
    refine scellz_op rfl ?_
    intro pa ya hpa hA hb2
    have HA1 := Lib.hid hA
    have HPA : Hid (w0.heap.size ≤ pa) := by rw [hpa]; exact hS1.2.2.2.size
    clear hpa hA
    refine hK.out _ _ (⟨hS1.1.later hb2, hS1.2.1.later hb2, hS1.2.2.1.later hb2, bclose hS1.2.2.2 hb2⟩) (fun hS2 => ?_)
    clear hK K
    try simp only [Act.put, List.getElem_toArray, List.getElem_cons_zero, List.getElem_cons_succ, List.setIfInBounds_toArray, List.set_cons_zero, List.set_cons_succ]
    refine wpAnyH_ready (rs := [8]) (by kernel_rfl) (by simp) ?_
    refine AllReadyH.cons rfl (fun K hK => ?_) AllReadyH.nil
    simp only [if_pos, Region.wanted]
    refine store_bk_op 26 (.tmp 3) (.tmp 20) rfl pa 0 #[.int .i64 0, .int .i64 1, .slice none 0 0, .slice none 0 0, .slice none 0 0] rfl rfl 26 #[.int .i64 0, .int .i64 0, .slice none 0 0, .slice none 0 0, .slice none 0 0] #[.int .i64 0, .int .i64 1, .slice none 0 0, .slice none 0 0, .slice none 0 0] HA1.out (by kernel_rfl) (by simp) (by kernel_rfl) rfl ?_
    intro w5 hX hgr hs9
    have HA5 := Lib.hid hX
    clear hX hs9 HA1
    refine hK.out _ _ (⟨hS2.1.stays hgr (by intro e; injection e with e; have h1 := HPA.out; have h2 := HG0.out.here; omega), hS2.2.1.kept hgr (by have h1 := HPA.out; have h2 := HMx.out.1.1.lt; have h3 := HMx.out.1.2.1.lt; have h4 := HMx.out.1.2.2.lt; omega), hS2.2.2.1.stays hgr (by intro e; injection e with e; have h1 := HPA.out; have h2 := HQ0.out.here; omega), hS2.2.2.2.grown hgr (Below.size hS2.2.2.2) (fun k e => by injection e with e; subst e; exact HPA.out)⟩) (fun hS3 => ?_)
    clear hK K
    try simp only [Act.put, List.getElem_toArray, List.getElem_cons_zero, List.getElem_cons_succ, List.setIfInBounds_toArray, List.set_cons_zero, List.set_cons_succ]
    refine wpAnyH_done (by kernel_rfl) ?_ _
    have HGw5 := Lib.hid hS3.1; have HMw5 := Lib.hid hS3.2.1; have HQw5 := Lib.hid hS3.2.2.1; have Hbw5 := Lib.hid (bclose Hb0.out hS3.2.2.2); have HAw5 := Lib.hid HA5.out
    clear HA5 HPA
    have d2 : w5.cell? ⟨g, 2, none⟩ = some (.map (some m1)) := HGw5.out.cellAt 2
    go_wp2_with fail
    refine (keysM_any (some m1) _).mono ?_
    rintro e w6a ⟨rfl, hwa⟩
    have HLa : Hid (Below w5.heap.size w5 w6a) := by rw [hwa]; exact (Below.refl _ _).alloc (Nat.le_refl _) _
    have HCa : Hid (w6a.cell? ⟨w5.heap.size, 0, none⟩ = some (.map (some m1))) := by rw [hwa]; exact (Bk.fresh w5 117 #[.map (some m1)]).cellAt 0
    clear hwa d2
    go_wp2_with fail
    refine (sortedM_z w5.heap.size m1 _ HCa (Lib.hid ((HMw5.out.1.1).later HLa.out))).mono ?_
    rintro e w6 ⟨⟨A2, c2, rfl⟩, hbn⟩
    have HLw6 := Lib.hid (bclose HLa.out hbn)
    have HGw6 := Lib.hid (HGw5.out.later HLw6.out); have HMw6 := Lib.hid (HMw5.out.later HLw6.out); have HQw6 := Lib.hid (HQw5.out.later HLw6.out); have HAw6 := Lib.hid (HAw5.out.later HLw6.out); have Hbw6 := Lib.hid (bclose Hbw5.out HLw6.out)
    clear hbn HLa HCa HLw6 HGw5 HMw5 HQw5 HAw5 Hbw5
    go_wp2_with fail
    refine wp_loop_rounds 1 ?_
    rw [rounds_succ]
    have d3 : w6.cell? ⟨g, 3, none⟩ = some (.map (some m2)) := HGw6.out.cellAt 3
    go_wp2_with fail
    refine (keysQ_any (some m2) _).mono ?_
    rintro e w7a ⟨rfl, hwa⟩
    have HLa : Hid (Below w6.heap.size w6 w7a) := by rw [hwa]; exact (Below.refl _ _).alloc (Nat.le_refl _) _
    have HCa : Hid (w7a.cell? ⟨w6.heap.size, 0, none⟩ = some (.map (some m2))) := by rw [hwa]; exact (Bk.fresh w6 118 #[.map (some m2)]).cellAt 0
    clear hwa d3
    go_wp2_with fail
    refine (sortedQ_z w6.heap.size m2 _ HCa (Lib.hid ((HMw6.out.1.2.1).later HLa.out))).mono ?_
    rintro e w7 ⟨⟨A3, c3, rfl⟩, hbn⟩
    have HLw7 := Lib.hid (bclose HLa.out hbn)
    have HGw7 := Lib.hid (HGw6.out.later HLw7.out); have HMw7 := Lib.hid (HMw6.out.later HLw7.out); have HQw7 := Lib.hid (HQw6.out.later HLw7.out); have HAw7 := Lib.hid (HAw6.out.later HLw7.out); have Hbw7 := Lib.hid (bclose Hbw6.out HLw7.out)
    clear hbn HLa HCa HLw7 HGw6 HMw6 HQw6 HAw6 Hbw6
    go_wp2_with fail
    refine wp_loop_rounds 1 ?_
    rw [rounds_succ]
    have d4 : w7.cell? ⟨g, 4, none⟩ = some (.map (some m3)) := HGw7.out.cellAt 4
    go_wp2_with fail
    refine (bySeq_z m3 _ (Lib.hid HMw7.out.1.2.2)).mono ?_
    rintro e w8 ⟨⟨A8, c8, rfl⟩, hb8⟩
    have HQ8 := Lib.hid (HQw7.out.later hb8); have HA8 := Lib.hid (HAw7.out.later hb8); have Hb8 := Lib.hid (bclose Hbw7.out hb8)
    clear hb8 d4 HGw7 HMw7 HQw7 HAw7 Hbw7
    go_wp2_with fail
    refine wp_loop_rounds 1 ?_
    rw [rounds_succ]
    go_wp2_with (with_reducible refine load_bk rfl 26 _ rfl pa 0 rfl 26 #[.int .i64 0, .int .i64 1, .slice none 0 0, .slice none 0 0, .slice none 0 0] #[.int .i64 0, .int .i64 1, .slice none 0 0, .slice none 0 0, .slice none 0 0] _ HA8.out (Part.whole _) Tryz.underlying26 rfl (by kernel_rfl) ?_)
    refine (copy_z ZSt.nil _).mono ?_
    rintro e w9 ⟨⟨v9, rfl, hz⟩, hb9⟩
    obtain ⟨A9, a9, B9, b9, C9, c9, rfl, ha, hb, hc⟩ := hz
    have HZ9 : Hid (ZSt (.agg (zV A9 a9 B9 b9 C9 c9))) := ⟨A9, a9, B9, b9, C9, c9, rfl, ha, hb, hc⟩
    have HQ9 := Lib.hid (HQ8.out.later hb9); have Hb9 := Lib.hid (bclose Hb8.out hb9)
    clear ha hb hc hb9 HQ8 HA8 Hb8
    go_wp2_with ((with_reducible refine store_bk rfl 26 (.tmp 2) (.tmp 93) rfl w.heap.size 0 (zV A9 a9 B9 b9 C9 c9) rfl rfl 26 #[.int .i64 0, .int .i64 0, .slice none 0 0, .slice none 0 0, .slice none 0 0] (zV A9 a9 B9 b9 C9 c9) HQ9.out (by kernel_rfl) (by simp) (by kernel_rfl) rfl ?_); intro wz hB hG hs)
    exact bodyPost_ret (v := .agg (zV A9 a9 B9 b9 C9 c9)) (results_bk1 Tryz.results29 _ _ w.heap.size 26 _ _ rfl hB Tryz.underlying26 rfl (by kernel_rfl)) rfl ⟨⟨_, rfl, HZ9.out⟩, Hb9.out.grown hG Hb9.out.size (fun q e => by injection e with e; omega)⟩
  · simp only [if_pos, Region.wanted]
    refine scellz_op rfl ?_
    intro pa ya hpa hA hb2
    have HA1 := Lib.hid hA
    have HPA : Hid (w0.heap.size ≤ pa) := by rw [hpa]; exact hS0.2.2.2.size
    clear hpa hA
    refine hK.out _ _ (⟨hS0.1.later hb2, hS0.2.1.later hb2, hS0.2.2.1.later hb2, bclose hS0.2.2.2 hb2⟩) (fun hS1 => ?_)
    clear hK K
    try simp only [Act.put, List.getElem_toArray, List.getElem_cons_zero, List.getElem_cons_succ, List.setIfInBounds_toArray, List.set_cons_zero, List.set_cons_succ]
    refine wpAnyH_ready (rs := [5]) (by kernel_rfl) (by simp) ?_
    refine AllReadyH.cons rfl (fun K hK => ?_) AllReadyH.nil
    go_simp
    refine (next_z g m1 m2 m3 m4 p1 p2 p3 _ hS1.1).mono ?_
    rintro e y1 ⟨rfl, hb1⟩
    have HA2 := Lib.hid (HA1.out.later hb1); clear HA1; have HA1 := HA2; clear HA2
    go_simp
    refine hK.out _ _ (⟨hS1.1.later hb1, hS1.2.1.later hb1, hS1.2.2.1.later hb1, bclose hS1.2.2.2 hb1⟩) (fun hS2 => ?_)
    clear hK K
    try simp only [Act.put, List.getElem_toArray, List.getElem_cons_zero, List.getElem_cons_succ, List.setIfInBounds_toArray, List.set_cons_zero, List.set_cons_succ]
    refine wpAnyH_take (i := 6) (v := ?_) rfl (by kernel_rfl) (by kernel_rfl) (by kernel_rfl) (fun _ _ _ h => h) (Or.inl ⟨by rfl, ?_⟩) hS2 ?_
    rotate_left
    · intro W _; go_simp; try with_reducible rfl
    try simp only [Act.put, List.getElem_toArray, List.getElem_cons_zero, List.getElem_cons_succ, List.setIfInBounds_toArray, List.set_cons_zero, List.set_cons_succ]
    refine wpAnyH_ready (rs := [8]) (by kernel_rfl) (by simp) ?_
    refine AllReadyH.cons rfl (fun K hK => ?_) AllReadyH.nil
    simp only [if_pos, Region.wanted]
    refine store_bk_op 26 (.tmp 3) (.tmp 20) rfl pa 0 #[.int .i64 0, .int .i64 1, .slice none 0 0, .slice none 0 0, .slice none 0 0] rfl rfl 26 #[.int .i64 0, .int .i64 0, .slice none 0 0, .slice none 0 0, .slice none 0 0] #[.int .i64 0, .int .i64 1, .slice none 0 0, .slice none 0 0, .slice none 0 0] HA1.out (by kernel_rfl) (by simp) (by kernel_rfl) rfl ?_
    intro w5 hX hgr hs9
    have HA5 := Lib.hid hX
    clear hX hs9 HA1
    refine hK.out _ _ (⟨hS2.1.stays hgr (by intro e; injection e with e; have h1 := HPA.out; have h2 := HG0.out.here; omega), hS2.2.1.kept hgr (by have h1 := HPA.out; have h2 := HMx.out.1.1.lt; have h3 := HMx.out.1.2.1.lt; have h4 := HMx.out.1.2.2.lt; omega), hS2.2.2.1.stays hgr (by intro e; injection e with e; have h1 := HPA.out; have h2 := HQ0.out.here; omega), hS2.2.2.2.grown hgr (Below.size hS2.2.2.2) (fun k e => by injection e with e; subst e; exact HPA.out)⟩) (fun hS3 => ?_)
    clear hK K
    try simp only [Act.put, List.getElem_toArray, List.getElem_cons_zero, List.getElem_cons_succ, List.setIfInBounds_toArray, List.set_cons_zero, List.set_cons_succ]
    refine wpAnyH_done (by kernel_rfl) ?_ _
    have HGw5 := Lib.hid hS3.1; have HMw5 := Lib.hid hS3.2.1; have HQw5 := Lib.hid hS3.2.2.1; have Hbw5 := Lib.hid (bclose Hb0.out hS3.2.2.2); have HAw5 := Lib.hid HA5.out
    clear HA5 HPA
    have d2 : w5.cell? ⟨g, 2, none⟩ = some (.map (some m1)) := HGw5.out.cellAt 2
    go_wp2_with fail
    refine (keysM_any (some m1) _).mono ?_
    rintro e w6a ⟨rfl, hwa⟩
    have HLa : Hid (Below w5.heap.size w5 w6a) := by rw [hwa]; exact (Below.refl _ _).alloc (Nat.le_refl _) _
    have HCa : Hid (w6a.cell? ⟨w5.heap.size, 0, none⟩ = some (.map (some m1))) := by rw [hwa]; exact (Bk.fresh w5 117 #[.map (some m1)]).cellAt 0
    clear hwa d2
    go_wp2_with fail
    refine (sortedM_z w5.heap.size m1 _ HCa (Lib.hid ((HMw5.out.1.1).later HLa.out))).mono ?_
    rintro e w6 ⟨⟨A2, c2, rfl⟩, hbn⟩
    have HLw6 := Lib.hid (bclose HLa.out hbn)
    have HGw6 := Lib.hid (HGw5.out.later HLw6.out); have HMw6 := Lib.hid (HMw5.out.later HLw6.out); have HQw6 := Lib.hid (HQw5.out.later HLw6.out); have HAw6 := Lib.hid (HAw5.out.later HLw6.out); have Hbw6 := Lib.hid (bclose Hbw5.out HLw6.out)
    clear hbn HLa HCa HLw6 HGw5 HMw5 HQw5 HAw5 Hbw5
    go_wp2_with fail
    refine wp_loop_rounds 1 ?_
    rw [rounds_succ]
    have d3 : w6.cell? ⟨g, 3, none⟩ = some (.map (some m2)) := HGw6.out.cellAt 3
    go_wp2_with fail
    refine (keysQ_any (some m2) _).mono ?_
    rintro e w7a ⟨rfl, hwa⟩
    have HLa : Hid (Below w6.heap.size w6 w7a) := by rw [hwa]; exact (Below.refl _ _).alloc (Nat.le_refl _) _
    have HCa : Hid (w7a.cell? ⟨w6.heap.size, 0, none⟩ = some (.map (some m2))) := by rw [hwa]; exact (Bk.fresh w6 118 #[.map (some m2)]).cellAt 0
    clear hwa d3
    go_wp2_with fail
    refine (sortedQ_z w6.heap.size m2 _ HCa (Lib.hid ((HMw6.out.1.2.1).later HLa.out))).mono ?_
    rintro e w7 ⟨⟨A3, c3, rfl⟩, hbn⟩
    have HLw7 := Lib.hid (bclose HLa.out hbn)
    have HGw7 := Lib.hid (HGw6.out.later HLw7.out); have HMw7 := Lib.hid (HMw6.out.later HLw7.out); have HQw7 := Lib.hid (HQw6.out.later HLw7.out); have HAw7 := Lib.hid (HAw6.out.later HLw7.out); have Hbw7 := Lib.hid (bclose Hbw6.out HLw7.out)
    clear hbn HLa HCa HLw7 HGw6 HMw6 HQw6 HAw6 Hbw6
    go_wp2_with fail
    refine wp_loop_rounds 1 ?_
    rw [rounds_succ]
    have d4 : w7.cell? ⟨g, 4, none⟩ = some (.map (some m3)) := HGw7.out.cellAt 4
    go_wp2_with fail
    refine (bySeq_z m3 _ (Lib.hid HMw7.out.1.2.2)).mono ?_
    rintro e w8 ⟨⟨A8, c8, rfl⟩, hb8⟩
    have HQ8 := Lib.hid (HQw7.out.later hb8); have HA8 := Lib.hid (HAw7.out.later hb8); have Hb8 := Lib.hid (bclose Hbw7.out hb8)
    clear hb8 d4 HGw7 HMw7 HQw7 HAw7 Hbw7
    go_wp2_with fail
    refine wp_loop_rounds 1 ?_
    rw [rounds_succ]
    go_wp2_with (with_reducible refine load_bk rfl 26 _ rfl pa 0 rfl 26 #[.int .i64 0, .int .i64 1, .slice none 0 0, .slice none 0 0, .slice none 0 0] #[.int .i64 0, .int .i64 1, .slice none 0 0, .slice none 0 0, .slice none 0 0] _ HA8.out (Part.whole _) Tryz.underlying26 rfl (by kernel_rfl) ?_)
    refine (copy_z ZSt.nil _).mono ?_
    rintro e w9 ⟨⟨v9, rfl, hz⟩, hb9⟩
    obtain ⟨A9, a9, B9, b9, C9, c9, rfl, ha, hb, hc⟩ := hz
    have HZ9 : Hid (ZSt (.agg (zV A9 a9 B9 b9 C9 c9))) := ⟨A9, a9, B9, b9, C9, c9, rfl, ha, hb, hc⟩
    have HQ9 := Lib.hid (HQ8.out.later hb9); have Hb9 := Lib.hid (bclose Hb8.out hb9)
    clear ha hb hc hb9 HQ8 HA8 Hb8
    go_wp2_with ((with_reducible refine store_bk rfl 26 (.tmp 2) (.tmp 93) rfl w.heap.size 0 (zV A9 a9 B9 b9 C9 c9) rfl rfl 26 #[.int .i64 0, .int .i64 0, .slice none 0 0, .slice none 0 0, .slice none 0 0] (zV A9 a9 B9 b9 C9 c9) HQ9.out (by kernel_rfl) (by simp) (by kernel_rfl) rfl ?_); intro wz hB hG hs)
    exact bodyPost_ret (v := .agg (zV A9 a9 B9 b9 C9 c9)) (results_bk1 Tryz.results29 _ _ w.heap.size 26 _ _ rfl hB Tryz.underlying26 rfl (by kernel_rfl)) rfl ⟨⟨_, rfl, HZ9.out⟩, Hb9.out.grown hG Hb9.out.size (fun q e => by injection e with e; omega)⟩
end Go.Proofs.YtjgojgmgicpgaaaGreat
