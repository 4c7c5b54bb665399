/- The contract of gen1.Copy. Condition: what is handed in reads as a state, of lists of at most 1000. -/
import Derived.Test.YtjgojgmgicpgaaaGreatTQ04
import Derived.Test.YtjgojgmgicpgaaaGreatTRge
import Derived.Deep.RegionHeld3
namespace Go.Proofs.YtjgojgmgicpgaaaGreat
open Go.RowKit
set_option linter.unusedSimpArgs false
set_option linter.unusedVariables false

theorem OwnK.somes {w : World} {b k : Nat} {e : TypeId} {v : Value} {l : List (List Value)} (h : OwnK w b e k v l) (hl : 0 < l.length) : ∃ g c, v = .slice (some ⟨g, 0, none⟩) l.length c ∧ b ≤ g ∧ g < w.heap.size ∧ l.length ≤ c ∧ c ≤ 9223372036854775807 := by
  rcases h.2.2 with ⟨_, h0⟩ | ⟨g, cap, cur, hv, hb, hg, hn, hm, _⟩
  · omega
  · exact ⟨g, cap, hv, hb, h.lt (by rw [hv]; rfl), hn, by unfold maxLen at hm; omega⟩
/-- A machine, a job whose labels lie elsewhere. -/
def Ml.relab (x : Ml) (A : Option Addr) (n c : Nat) : Ml := ({ x.1 with A := A, n := n, cp := c }, x.2)
def Jl.relab (x : Jl) (A : Option Addr) (n c : Nat) : Jl := ({ x.1 with A := A, n := n, cp := c }, x.2)
theorem bX_relab (x : Ml) (A : Option Addr) (n c : Nat) : bX (x.relab A n c) = bX x := rfl
theorem bY_relab (x : Jl) (A : Option Addr) (n c : Nat) : bY (x.relab A n c) = bY x := rfl
/-- The first ones anew, the rest as they were: one more is anew. -/
theorem mid_get {α : Type} {D L : List α} {k : Nat} (hD : D.length = k) (hk : k < L.length) : (D ++ L.drop k)[k]? = some L[k] := by
  rw [List.getElem?_append_right (by omega), hD, Nat.sub_self, List.getElem?_drop, Nat.add_zero, List.getElem?_eq_getElem hk]
theorem mid_set {α β : Type} {f : α → β} {D L : List α} {k : Nat} (hD : D.length = k) (hk : k < L.length) (y : α) : ((D ++ L.drop k).map f).set k (f y) = ((D ++ [y]) ++ L.drop (k + 1)).map f := by
  rw [List.map_append, List.set_append_right _ _ (by simp; omega), List.length_map, hD, Nat.sub_self, List.drop_eq_getElem_cons hk, List.map_cons, List.set_cons_zero, List.map_append, List.map_append, List.append_assoc]
  simp

set_option maxHeartbeats 12800000 in
set_option maxRecDepth 100000 in
theorem copy_any (v : Sv) (S : Sg) (w : World) (hS : Hid (RdSt w v S)) (hN : v.N ≤ 1000) (hK : v.K ≤ 1000) (hn : v.n ≤ 1000) (hlM : Hid (∀ x ∈ S.M, x.2.length ≤ 1000)) (hlJ : Hid (∀ x ∈ S.J, x.2.length ≤ 1000)) :
    Calls Tryz.prog 64 #[.agg v.arr] w fun e w' => (∃ vM vQ vJ S', e = .returned (.agg #[.int .i64 S.ck, .int .i64 S.nx, vM, vQ, vJ]) ∧ OwnS w' w.heap.size vM vQ vJ S' ∧ S'.bare = S.bare) ∧ Below w.heap.size w w' := by
  obtain ⟨ck, nx, A, N, cA, B, K0, cB, C, n, cC⟩ := v
  have e1 : ck = S.ck := hS.out.ck
  have e2 : nx = S.nx := hS.out.nx
  rw [← e1, ← e2]
  have km := fun (W : World) (h : RdM W A (mcs S.M)) => cloneM_any A N cA (mcs S.M) W (show _ = _ by rw [List.length_map]; exact hS.out.N) h hN
  have kq := fun (W : World) (h : RdQ W B S.Q) => cloneQ_any B K0 cB S.Q W (show _ = _ from hS.out.K) h hK
  have kj := fun (W : World) (h : RdJ W C (jbs S.J)) => cloneJ_any C n cC (jbs S.J) W (show _ = _ by rw [List.length_map]; exact hS.out.n) h hn
  have hNl : N = S.M.length := hS.out.N
  have hnl : n = S.J.length := hS.out.n
  have KM := Lib.hid km; have KQ := Lib.hid kq; have KJ := Lib.hid kj; have HE1 := Lib.hid e1; have HE2 := Lib.hid e2; have HNl := Lib.hid hNl; have Hnl := Lib.hid hnl
  clear km kq kj e1 e2 hNl hnl
  have kl := fun (A : Option Addr) (m c : Nat) (l : List Lb) (W : World) (h1 : LbOk W A m c l) (h2 : l.length ≤ 1000) => cloneL_any A m c l W (show m = _ from h1.len) (show RdK _ _ _ _ from h1.rd.rdk) (by have := h1.len; omega)
  have KL := Lib.hid kl; clear kl
  go_enter Tryz.func64, Tryz.ntmps64
  obtain ⟨W0, hW0⟩ : ∃ W0, W0 = (w.alloc (.cells #[.int .i64 ck, .int .i64 nx, .slice A N cA, .slice B K0 cB, .slice C n cC] 26)).alloc (.cells #[.int .i64 0, .int .i64 0, .slice none 0 0, .slice none 0 0, .slice none 0 0] 26) := ⟨_, rfl⟩
  have HS0 : Hid (Bk W0 w.heap.size 26 #[.int .i64 ck, .int .i64 nx, .slice A N cA, .slice B K0 cB, .slice C n cC]) := by rw [hW0]; exact (Bk.fresh w _ _).later ((Below.refl _ _).alloc (Nat.le_refl _) _)
  have HR0 : Hid (Bk W0 (w.heap.size + 1) 26 #[.int .i64 0, .int .i64 0, .slice none 0 0, .slice none 0 0, .slice none 0 0]) := by rw [hW0]; exact Bk.freshAt _ _ _ (by simp)
  have hB0 : Below w.heap.size w W0 := by rw [hW0]; exact ((Below.refl _ _).alloc (Nat.le_refl _) _).alloc (by simp) _
  go_wp2_with fail
  rw [← hW0]
  clear hW0
  refine wp_region_E (S := fun W => Bk W w.heap.size 26 #[.int .i64 ck, .int .i64 nx, .slice A N cA, .slice B K0 cB, .slice C n cC] ∧ Bk W (w.heap.size + 1) 26 #[.int .i64 0, .int .i64 0, .slice none 0 0, .slice none 0 0, .slice none 0 0] ∧ Below w.heap.size w W) 10 (by kernel_rfl) (⟨(HS0.out).drewB, (HR0.out).drewB, Below.drew hB0⟩) (fun hS0 => ?_)
  refine wpAnyE_take (i := 0) (v := ?_) rfl (by kernel_rfl) (by kernel_rfl) (by kernel_rfl) (by kernel_rfl) (by kernel_rfl) (fun _ _ _ h => h) (Or.inl ⟨by rfl, ?_⟩) hS0 ?_
  rotate_left
  · intro W _; go_simp; try with_reducible rfl
  try simp only [Act.put, List.getElem_toArray, List.getElem_cons_zero, List.setIfInBounds_toArray, List.set_cons_zero, List.set_cons_succ]
  refine wpAnyE_take (i := 1) (v := ?_) rfl (by kernel_rfl) (by kernel_rfl) (by kernel_rfl) (by kernel_rfl) (by kernel_rfl) (fun _ _ _ h => h) (Or.inl ⟨by rfl, ?_⟩) hS0 ?_
  rotate_left
  · intro W hSW; have hx := hSW.1.cellAt 2; go_simp; try with_reducible rfl
  try simp only [Act.put, List.getElem_toArray, List.getElem_cons_zero, List.getElem_cons_succ, List.setIfInBounds_toArray, List.set_cons_zero, List.set_cons_succ]
  refine wpAnyE_take (i := 3) (v := ?_) rfl (by kernel_rfl) (by kernel_rfl) (by kernel_rfl) (by kernel_rfl) (by kernel_rfl) (fun _ _ _ h => h) (Or.inl ⟨by rfl, ?_⟩) hS0 ?_
  rotate_left
  · intro W _; go_simp; try with_reducible rfl
  try simp only [Act.put, List.getElem_toArray, List.getElem_cons_zero, List.getElem_cons_succ, List.setIfInBounds_toArray, List.set_cons_zero, List.set_cons_succ]
  refine wpAnyE_take (i := 4) (v := ?_) rfl (by kernel_rfl) (by kernel_rfl) (by kernel_rfl) (by kernel_rfl) (by kernel_rfl) (fun _ _ _ h => h) (Or.inl ⟨by rfl, ?_⟩) hS0 ?_
  rotate_left
  · intro W hSW; have hx := hSW.1.cellAt 3; go_simp; try with_reducible rfl
  try simp only [Act.put, List.getElem_toArray, List.getElem_cons_zero, List.getElem_cons_succ, List.setIfInBounds_toArray, List.set_cons_zero, List.set_cons_succ]
  refine wpAnyE_take (i := 6) (v := ?_) rfl (by kernel_rfl) (by kernel_rfl) (by kernel_rfl) (by kernel_rfl) (by kernel_rfl) (fun _ _ _ h => h) (Or.inl ⟨by rfl, ?_⟩) hS0 ?_
  rotate_left
  · intro W _; go_simp; try with_reducible rfl
  try simp only [Act.put, List.getElem_toArray, List.getElem_cons_zero, List.getElem_cons_succ, List.setIfInBounds_toArray, List.set_cons_zero, List.set_cons_succ]
  refine wpAnyE_take (i := 7) (v := ?_) rfl (by kernel_rfl) (by kernel_rfl) (by kernel_rfl) (by kernel_rfl) (by kernel_rfl) (fun _ _ _ h => h) (Or.inl ⟨by rfl, ?_⟩) hS0 ?_
  rotate_left
  · intro W hSW; have hx := hSW.1.cellAt 4; go_simp; try with_reducible rfl
  try simp only [Act.put, List.getElem_toArray, List.getElem_cons_zero, List.getElem_cons_succ, List.setIfInBounds_toArray, List.set_cons_zero, List.set_cons_succ]
  have hSZ := hS0.2.1.here
  refine wpAnyE_ready (rs := [2]) (by kernel_rfl) (by simp) ?_
  refine AllReadyE.cons rfl (fun K hK => ?_) AllReadyE.nil
  go_simp
  refine (KM.out _ (hS.out.M.later hS0.2.2)).mono ?_
  rintro e wa ⟨vM, rfl, hom, hbwa⟩
  have HOM := Lib.hid (hom.base (b' := w.heap.size + 2) hSZ); clear hom
  go_simp
  refine hK.out _ _ (⟨hS0.1.later hbwa, hS0.2.1.later hbwa, hS0.2.2.trans (hbwa.mono hS0.2.2.size)⟩) (fun hS1 => ?_)
  clear hK K
  try simp only [Act.put, List.getElem_toArray, List.getElem_cons_zero, List.getElem_cons_succ, List.setIfInBounds_toArray, List.set_cons_zero, List.set_cons_succ]
  clear hSZ; have hSZ := hS1.2.1.here
  refine wpAnyE_take (i := 9) (v := ?_) rfl (by kernel_rfl) (by kernel_rfl) (by kernel_rfl) (by kernel_rfl) (by kernel_rfl) (fun _ _ _ h => h) (Or.inl ⟨by rfl, ?_⟩) hS1 ?_
  rotate_left
  · intro W _; go_simp; try with_reducible rfl
  try simp only [Act.put, List.getElem_toArray, List.getElem_cons_zero, List.getElem_cons_succ, List.setIfInBounds_toArray, List.set_cons_zero, List.set_cons_succ]
  refine wpAnyE_up (S' := fun W => (Bk W w.heap.size 26 #[.int .i64 ck, .int .i64 nx, .slice A N cA, .slice B K0 cB, .slice C n cC] ∧ Bk W (w.heap.size + 1) 26 #[.int .i64 0, .int .i64 0, .slice none 0 0, .slice none 0 0, .slice none 0 0] ∧ Below w.heap.size w W) ∧ OwnK W (w.heap.size + 2) 93 7 vM (cellsM (mcs S.M))) (fun W hW => hW.1) _ _ _ _ ?_
  have hS2 : (fun W => (Bk W w.heap.size 26 #[.int .i64 ck, .int .i64 nx, .slice A N cA, .slice B K0 cB, .slice C n cC] ∧ Bk W (w.heap.size + 1) 26 #[.int .i64 0, .int .i64 0, .slice none 0 0, .slice none 0 0, .slice none 0 0] ∧ Below w.heap.size w W) ∧ OwnK W (w.heap.size + 2) 93 7 vM (cellsM (mcs S.M))) _ := ⟨hS1, HOM.out⟩
  refine wpAnyE_ready (rs := [5]) (by kernel_rfl) (by simp) ?_
  refine AllReadyE.cons rfl (fun K hK => ?_) AllReadyE.nil
  go_simp
  refine (KQ.out _ (hS.out.Q.later hS2.1.2.2)).mono ?_
  rintro e wb ⟨vQ, rfl, hoq, hbwb⟩
  have HOQ := Lib.hid (hoq.base (b' := w.heap.size + 2) hSZ); clear hoq
  go_simp
  refine hK.out _ _ (⟨⟨hS2.1.1.later hbwb, hS2.1.2.1.later hbwb, hS2.1.2.2.trans (hbwb.mono hS2.1.2.2.size)⟩, hS2.2.below hbwb⟩) (fun hS3 => ?_)
  clear hK K
  try simp only [Act.put, List.getElem_toArray, List.getElem_cons_zero, List.getElem_cons_succ, List.setIfInBounds_toArray, List.set_cons_zero, List.set_cons_succ]
  clear hSZ; have hSZ := hS3.1.2.1.here
  refine wpAnyE_up (S' := fun W => ((Bk W w.heap.size 26 #[.int .i64 ck, .int .i64 nx, .slice A N cA, .slice B K0 cB, .slice C n cC] ∧ Bk W (w.heap.size + 1) 26 #[.int .i64 0, .int .i64 0, .slice none 0 0, .slice none 0 0, .slice none 0 0] ∧ Below w.heap.size w W) ∧ OwnK W (w.heap.size + 2) 93 7 vM (cellsM (mcs S.M))) ∧ OwnK W (w.heap.size + 2) 55 4 vQ (cellsQ S.Q)) (fun W hW => hW.1) _ _ _ _ ?_
  have hS4 : (fun W => ((Bk W w.heap.size 26 #[.int .i64 ck, .int .i64 nx, .slice A N cA, .slice B K0 cB, .slice C n cC] ∧ Bk W (w.heap.size + 1) 26 #[.int .i64 0, .int .i64 0, .slice none 0 0, .slice none 0 0, .slice none 0 0] ∧ Below w.heap.size w W) ∧ OwnK W (w.heap.size + 2) 93 7 vM (cellsM (mcs S.M))) ∧ OwnK W (w.heap.size + 2) 55 4 vQ (cellsQ S.Q)) _ := ⟨hS3, HOQ.out⟩
  refine wpAnyE_ready (rs := [8]) (by kernel_rfl) (by simp) ?_
  refine AllReadyE.cons rfl (fun K hK => ?_) AllReadyE.nil
  go_simp
  refine (KJ.out _ (hS.out.J.later hS4.1.1.2.2)).mono ?_
  rintro e wc ⟨vJ, rfl, hoj, hbwc⟩
  have HOJ := Lib.hid (hoj.base (b' := w.heap.size + 2) hSZ); clear hoj
  go_simp
  refine hK.out _ _ (⟨⟨⟨hS4.1.1.1.later hbwc, hS4.1.1.2.1.later hbwc, hS4.1.1.2.2.trans (hbwc.mono hS4.1.1.2.2.size)⟩, hS4.1.2.below hbwc⟩, hS4.2.below hbwc⟩) (fun hS5 => ?_)
  clear hK K
  try simp only [Act.put, List.getElem_toArray, List.getElem_cons_zero, List.getElem_cons_succ, List.setIfInBounds_toArray, List.set_cons_zero, List.set_cons_succ]
  clear hSZ
  obtain ⟨⟨⟨hst, hrt, hbt⟩, how⟩, hoq⟩ := hS5
  obtain ⟨aM, xM, evM, _, _, _, _⟩ := how.sl
  obtain ⟨aQ, xQ, evQ, _, _, _, _⟩ := hoq.sl
  obtain ⟨aJ, xJ, evJ, _, _, _, _⟩ := HOJ.out.sl
  rw [cellsM_length, List.length_map, ← HNl.out] at evM
  rw [cellsQ_length] at evQ
  rw [cellsJ_length, List.length_map, ← Hnl.out] at evJ
  generalize hKq : S.Q.length = kq at evQ
  have HKq := Lib.hid hKq; clear hKq
  subst evM evQ evJ
  have OM := Lib.hid how; have OQ := Lib.hid hoq; have OJ := Lib.hid HOJ.out
  have HST := Lib.hid hst; have HRT := Lib.hid hrt
  have cst : wc.cell? ⟨w.heap.size, 2, none⟩ = some (.slice A N cA) := hst.cellAt 2
  have fst : wc.frozen? ⟨w.heap.size, 2, none⟩ = false := hst.free 2
  clear how hoq HOJ HOM HOQ hS0 hS1 hS2 hS3 hS4 hbwa hbwb hbwc hst hrt KM KQ KJ
  refine wpAnyE_ready (rs := [10]) (by kernel_rfl) (by simp) ?_
  refine AllReadyE.last rfl (by kernel_rfl) (fun K hK => ?_) AllReadyE.nil
  go_simp
  refine hK.out _ _ ?_
  clear hK K
  try simp only [Act.put, List.getElem_toArray, List.getElem_cons_zero, List.getElem_cons_succ, List.setIfInBounds_toArray, List.set_cons_zero, List.set_cons_succ]
  refine wpAny_of_held (S := fun _ => True) _ _ _ _ ?_
  refine wpAnyH_take (i := 11) (v := ?_) rfl (by kernel_rfl) (by kernel_rfl) (by kernel_rfl) (fun _ _ _ h => h) (Or.inl ⟨by rfl, ?_⟩) trivial ?_
  rotate_left
  · intro W _; go_simp; try with_reducible rfl
  try simp only [Act.put, List.getElem_toArray, List.getElem_cons_zero, List.getElem_cons_succ, List.setIfInBounds_toArray, List.set_cons_zero, List.set_cons_succ]
  have HST1 : Hid (Bk (wc.setCell ⟨w.heap.size, 2, none⟩ (.slice aM N xM)) w.heap.size 26 #[.int .i64 ck, .int .i64 nx, .slice aM N xM, .slice B K0 cB, .slice C n cC]) := HST.out.put 2 _
  have cst3 : (wc.setCell ⟨w.heap.size, 2, none⟩ (.slice aM N xM)).cell? ⟨w.heap.size, 3, none⟩ = some (.slice B K0 cB) := HST1.out.cellAt 3
  have fst3 : (wc.setCell ⟨w.heap.size, 2, none⟩ (.slice aM N xM)).frozen? ⟨w.heap.size, 3, none⟩ = false := HST1.out.free 3
  refine wpAnyH_ready (rs := [12]) (by kernel_rfl) (by simp) ?_
  refine AllReadyH.cons rfl (fun K hK => ?_) AllReadyH.nil
  go_simp
  refine hK.out _ _ (trivial) (fun _ => ?_)
  clear hK K
  try simp only [Act.put, List.getElem_toArray, List.getElem_cons_zero, List.getElem_cons_succ, List.setIfInBounds_toArray, List.set_cons_zero, List.set_cons_succ]
  refine wpAnyH_take (i := 13) (v := ?_) rfl (by kernel_rfl) (by kernel_rfl) (by kernel_rfl) (fun _ _ _ h => h) (Or.inl ⟨by rfl, ?_⟩) trivial ?_
  rotate_left
  · intro W _; go_simp; try with_reducible rfl
  try simp only [Act.put, List.getElem_toArray, List.getElem_cons_zero, List.getElem_cons_succ, List.setIfInBounds_toArray, List.set_cons_zero, List.set_cons_succ]
  have HST2 : Hid (Bk ((wc.setCell ⟨w.heap.size, 2, none⟩ (.slice aM N xM)).setCell ⟨w.heap.size, 3, none⟩ (.slice aQ kq xQ)) w.heap.size 26 #[.int .i64 ck, .int .i64 nx, .slice aM N xM, .slice aQ kq xQ, .slice C n cC]) := HST1.out.put 3 _
  have cst4 : ((wc.setCell ⟨w.heap.size, 2, none⟩ (.slice aM N xM)).setCell ⟨w.heap.size, 3, none⟩ (.slice aQ kq xQ)).cell? ⟨w.heap.size, 4, none⟩ = some (.slice C n cC) := HST2.out.cellAt 4
  have fst4 : ((wc.setCell ⟨w.heap.size, 2, none⟩ (.slice aM N xM)).setCell ⟨w.heap.size, 3, none⟩ (.slice aQ kq xQ)).frozen? ⟨w.heap.size, 4, none⟩ = false := HST2.out.free 4
  refine wpAnyH_ready (rs := [14]) (by kernel_rfl) (by simp) ?_
  refine AllReadyH.cons rfl (fun K hK => ?_) AllReadyH.nil
  go_simp
  refine hK.out _ _ (trivial) (fun _ => ?_)
  clear hK K
  try simp only [Act.put, List.getElem_toArray, List.getElem_cons_zero, List.getElem_cons_succ, List.setIfInBounds_toArray, List.set_cons_zero, List.set_cons_succ]
  refine wpAnyH_done (by kernel_rfl) ?_ _
  have HST3 : Hid (Bk (((wc.setCell ⟨w.heap.size, 2, none⟩ (.slice aM N xM)).setCell ⟨w.heap.size, 3, none⟩ (.slice aQ kq xQ)).setCell ⟨w.heap.size, 4, none⟩ (.slice aJ n xJ)) w.heap.size 26 #[.int .i64 ck, .int .i64 nx, .slice aM N xM, .slice aQ kq xQ, .slice aJ n xJ]) := HST2.out.put 4 _
  have HRT3 : Hid (Bk (((wc.setCell ⟨w.heap.size, 2, none⟩ (.slice aM N xM)).setCell ⟨w.heap.size, 3, none⟩ (.slice aQ kq xQ)).setCell ⟨w.heap.size, 4, none⟩ (.slice aJ n xJ)) (w.heap.size + 1) 26 #[.int .i64 0, .int .i64 0, .slice none 0 0, .slice none 0 0, .slice none 0 0]) := ((HRT.out.other (by simp) _).other (by simp) _).other (by simp) _
  have OM3 : Hid (OwnK (((wc.setCell ⟨w.heap.size, 2, none⟩ (.slice aM N xM)).setCell ⟨w.heap.size, 3, none⟩ (.slice aQ kq xQ)).setCell ⟨w.heap.size, 4, none⟩ (.slice aJ n xJ)) (w.heap.size + 2) 93 7 (.slice aM N xM) (cellsM (mcs S.M))) := ((OM.out.far (by simp) _).far (by simp) _).far (by simp) _
  have OQ3 : Hid (OwnK (((wc.setCell ⟨w.heap.size, 2, none⟩ (.slice aM N xM)).setCell ⟨w.heap.size, 3, none⟩ (.slice aQ kq xQ)).setCell ⟨w.heap.size, 4, none⟩ (.slice aJ n xJ)) (w.heap.size + 2) 55 4 (.slice aQ kq xQ) (cellsQ S.Q)) := ((OQ.out.far (by simp) _).far (by simp) _).far (by simp) _
  have OJ3 : Hid (OwnK (((wc.setCell ⟨w.heap.size, 2, none⟩ (.slice aM N xM)).setCell ⟨w.heap.size, 3, none⟩ (.slice aQ kq xQ)).setCell ⟨w.heap.size, 4, none⟩ (.slice aJ n xJ)) (w.heap.size + 2) 95 13 (.slice aJ n xJ) (cellsJ (jbs S.J))) := ((OJ.out.far (by simp) _).far (by simp) _).far (by simp) _
  have hb3 : Below w.heap.size w (((wc.setCell ⟨w.heap.size, 2, none⟩ (.slice aM N xM)).setCell ⟨w.heap.size, 3, none⟩ (.slice aQ kq xQ)).setCell ⟨w.heap.size, 4, none⟩ (.slice aJ n xJ)) := ((hbt.setCell (Nat.le_refl _) _).setCell (Nat.le_refl _) _).setCell (Nat.le_refl _) _
  clear HST HRT OM OQ OJ cst fst cst3 fst3 cst4 fst4 HST1 HST2 hbt
  generalize (((wc.setCell ⟨w.heap.size, 2, none⟩ (.slice aM N xM)).setCell ⟨w.heap.size, 3, none⟩ (.slice aQ kq xQ)).setCell ⟨w.heap.size, 4, none⟩ (.slice aJ n xJ)) = w3 at *
  have ch : w3.cell? ⟨w.heap.size, 2, none⟩ = some (.slice aM N xM) := HST3.out.cellAt 2
  go_wp2_with fail
  clear ch
  go_loopw [22] (fun i wr => ∃ k : Nat, k ≤ N ∧ i = .int .i64 k ∧ (∃ D : List Ml, D.length = k ∧ Hid (bM D = bM (S.M.take k)) ∧ Hid (∀ x ∈ D, LbNew wr (w.heap.size + 2) x.1.A x.1.n x.1.cp x.2) ∧ Hid (OwnK wr (w.heap.size + 2) 93 7 (.slice aM N xM) (cellsM (mcs (D ++ S.M.drop k))))) ∧ Hid (OwnK wr (w.heap.size + 2) 55 4 (.slice aQ kq xQ) (cellsQ S.Q)) ∧ Hid (OwnK wr (w.heap.size + 2) 95 13 (.slice aJ n xJ) (cellsJ (jbs S.J))) ∧ Hid (Bk wr w.heap.size 26 #[.int .i64 ck, .int .i64 nx, .slice aM N xM, .slice aQ kq xQ, .slice aJ n xJ]) ∧ Hid (Bk wr (w.heap.size + 1) 26 #[.int .i64 0, .int .i64 0, .slice none 0 0, .slice none 0 0, .slice none 0 0]) ∧ Below w.heap.size w wr) (fun i wr => N - (intOf i).toNat)
  case atStart => exact ⟨0, Nat.zero_le _, rfl, ⟨[], rfl, (show _ = _ from rfl), (show ∀ x ∈ ([] : List Ml), _ from fun x hx => by cases hx), OM3⟩, OQ3, OJ3, HST3, HRT3, hb3⟩
  case round =>
    clear OM3 HST3 HRT3 hb3 OQ3 OJ3
    obtain ⟨k, hk, rfl, ⟨D, hDk, HBD, HLD, HO⟩, HQ, HJ, HST, HRT, hb⟩ := hrel
    have lt1 : w.heap.size + 1 < wr.heap.size := HRT.out.here
    by_cases hlt : k < N
    · have hlk : k < S.M.length := by have := HNl.out; omega
      obtain ⟨g, c, hv, hg1, hg2, hg3, hg4⟩ := HO.out.somes (by rw [cellsM_length, List.length_map, List.length_append, List.length_drop]; omega)
      injection hv with hv1 hv2 hv3
      subst hv1 hv3
      obtain ⟨x, hx⟩ : ∃ x, x = S.M[k] := ⟨_, rfl⟩
      have hget : (cellsM (mcs (D ++ S.M.drop k)))[k]? = some x.1.cells := by
        rw [cellsM, List.getElem?_map, List.getElem?_map, mid_get hDk hlk, ← hx]; rfl
      obtain ⟨hpk, hgk⟩ := List.getElem?_eq_some_iff.1 hget
      have hrg := HO.out.range hpk
      rw [hgk] at hrg
      have c2 : wr.cell? ⟨w.heap.size, 2, none⟩ = some (.slice (some ⟨g, 0, none⟩) N xM) := HST.out.cellAt 2
      have c4 : wr.cell? ⟨g, k * 7 + 4, none⟩ = some (.slice x.1.A x.1.n x.1.cp) := hrg 4 _ rfl
      have hxo : LbOk wr x.1.A x.1.n x.1.cp x.2 := by rw [hx]; exact ((hS.out.oM.at hlk).lb).later hb
      have hxl : x.2.length ≤ 1000 := by rw [hx]; exact hlM.out _ (List.getElem_mem hlk)
      have kl := KL.out x.1.A x.1.n x.1.cp x.2 wr hxo hxl
      have HKL := Lib.hid kl; have HX := Lib.hid hx; have HGK := Lib.hid hgk
      have HSZ := Lib.hid hxo.sz
      clear kl hx hgk hxo hrg hget hv2
      go_wp2_with fail
      refine HKL.out.mono ?_; rintro e w4 ⟨v4, rfl, hO4, hb4⟩
      obtain ⟨A4, c4', hv4, _, _, _, _⟩ := hO4.sl
      rw [cellsLb_length] at hv4
      subst hv4
      have HO4 := Lib.hid (hO4.base (b' := w.heap.size + 2) (by omega)); clear hO4
      have HO5 := Lib.hid (HO.out.below hb4)
      clear c2 c4
      have c5 : w4.cell? ⟨w.heap.size, 2, none⟩ = some (.slice (some ⟨g, 0, none⟩) N xM) := (HST.out.later hb4).cellAt 2
      go_wp2_with (first | ((with_reducible refine store_own rfl _ _ _ rfl (k * 7 + 4) (.slice A4 x.2.length c4') rfl rfl HO5.out k 4 rfl hpk (by omega) (by kernel_rfl) rfl rfl ?_); intro w5 hO5 hg5 hs5))
      have HN : Hid (OwnK w5 (w.heap.size + 2) 93 7 (.slice (some ⟨g, 0, none⟩) N xM) (cellsM (mcs ((D ++ [x.relab A4 x.2.length c4']) ++ S.M.drop (k + 1))))) := by
        show OwnK _ _ _ _ _ _
        rw [HGK.out] at hO5
        have e1 : (x.1.cells.set 4 (.slice A4 x.2.length c4')) = (x.relab A4 x.2.length c4').1.cells := rfl
        have e2 := mid_set (f := fun y : Ml => y.1.cells) hDk hlk (x.relab A4 x.2.length c4')
        rw [e1] at hO5
        have e3 : ∀ l : List Ml, cellsM (mcs l) = l.map (fun y : Ml => y.1.cells) := fun l => by unfold cellsM; rw [List.map_map]; rfl
        rw [e3, e2, ← e3] at hO5
        exact hO5
      clear hO5
      have hbw : Below w.heap.size wr w5 := (hb4.mono hb.size).grown hg5 (by have := hb4.size; omega) (fun q e => by injection e with e; omega)
      go_round
      case rel => exact ⟨k + 1, by omega, by go_num, ⟨D ++ [x.relab A4 x.2.length c4'], by rw [List.length_append, hDk]; rfl, (by have hbd := HBD.out; show List.map bX _ = List.map bX _; rw [List.map_append, show List.map bX D = _ from hbd, List.take_succ_eq_append_getElem hlk, List.map_append, ← HX.out]; rfl), (fun y hy => by
        rcases List.mem_append.1 hy with hy | hy
        · exact LbNew.beside ((HLD.out y hy).grp (GrP.ofBelow (p := fun _ => False) hb4) (fun _ _ e => e)) HO5.out (by decide) rfl hg5
        · rw [List.mem_singleton] at hy; subst hy
          exact ⟨HO4.out.beside HO5.out (by decide) rfl hg5, HSZ.out⟩), HN⟩, OwnK.beside (HQ.out.below hb4) HO5.out (by decide) rfl hg5, OwnK.beside (HJ.out.below hb4) HO5.out (by decide) rfl hg5, (HST.out.later hb4).stays hg5 (by simp; omega), (HRT.out.later hb4).stays hg5 (by simp; omega), hb.trans hbw⟩
      case measure => simp [intOf]; omega
    · have hk' : N = k := by omega
      subst hk'
      have hDD : D ++ S.M.drop N = D := by rw [List.drop_eq_nil_of_le (by have := HNl.out; omega), List.append_nil]
      rw [hDD] at HO
      have hBB : bM D = bM S.M := by have := HBD.out; rwa [List.take_of_length_le (by have := HNl.out; omega)] at this
      have HBM := Lib.hid hBB
      clear hDD hBB
      have ch : wr.cell? ⟨w.heap.size, 4, none⟩ = some (.slice aJ n xJ) := HST.out.cellAt 4
      go_wp2_with fail
      clear ch
      go_loopw [42] (fun i wr => ∃ k : Nat, k ≤ n ∧ i = .int .i64 k ∧ (∃ E : List Jl, E.length = k ∧ Hid (bL E = bL (S.J.take k)) ∧ Hid (∀ x ∈ E, LbNew wr (w.heap.size + 2) x.1.A x.1.n x.1.cp x.2) ∧ Hid (OwnK wr (w.heap.size + 2) 95 13 (.slice aJ n xJ) (cellsJ (jbs (E ++ S.J.drop k))))) ∧ Hid (OwnK wr (w.heap.size + 2) 55 4 (.slice aQ kq xQ) (cellsQ S.Q)) ∧ Hid (OwnK wr (w.heap.size + 2) 93 7 (.slice aM N xM) (cellsM (mcs D))) ∧ Hid (∀ x ∈ D, LbNew wr (w.heap.size + 2) x.1.A x.1.n x.1.cp x.2) ∧ Hid (Bk wr w.heap.size 26 #[.int .i64 ck, .int .i64 nx, .slice aM N xM, .slice aQ kq xQ, .slice aJ n xJ]) ∧ Hid (Bk wr (w.heap.size + 1) 26 #[.int .i64 0, .int .i64 0, .slice none 0 0, .slice none 0 0, .slice none 0 0]) ∧ Below w.heap.size w wr) (fun i wr => n - (intOf i).toNat)
      case atStart => exact ⟨0, Nat.zero_le _, rfl, ⟨[], rfl, (show _ = _ from rfl), (show ∀ x ∈ ([] : List Jl), _ from fun x hx => by cases hx), HJ⟩, HQ, HO, HLD, HST, HRT, hb⟩
      case round =>
        clear HJ HST HRT hb HQ HO HLD
        obtain ⟨k, hk, rfl, ⟨E, hEk, HBE, HLE, HP⟩, HQ2, HM2, HLM2, HSU, HRU, hc⟩ := hrel
        have lt2 : w.heap.size + 1 < wr.heap.size := HRU.out.here
        by_cases hlt : k < n
        · have hlk : k < S.J.length := by have := Hnl.out; omega
          obtain ⟨g, c, hv, hg1, hg2, hg3, hg4⟩ := HP.out.somes (by rw [cellsJ_length, List.length_map, List.length_append, List.length_drop]; omega)
          injection hv with hv1 hv2 hv3
          subst hv1 hv3
          obtain ⟨x, hx⟩ : ∃ x, x = S.J[k] := ⟨_, rfl⟩
          have hget : (cellsJ (jbs (E ++ S.J.drop k)))[k]? = some x.1.cells := by
            rw [cellsJ, List.getElem?_map, List.getElem?_map, mid_get hEk hlk, ← hx]; rfl
          obtain ⟨hpk, hgk⟩ := List.getElem?_eq_some_iff.1 hget
          have hrg := HP.out.range hpk
          rw [hgk] at hrg
          have e2 : wr.cell? ⟨w.heap.size, 4, none⟩ = some (.slice (some ⟨g, 0, none⟩) n xJ) := HSU.out.cellAt 4
          have e4 : wr.cell? ⟨g, k * 13 + 6, none⟩ = some (.slice x.1.A x.1.n x.1.cp) := hrg 6 _ rfl
          have hxo : LbOk wr x.1.A x.1.n x.1.cp x.2 := by rw [hx]; exact ((hS.out.oJ.at hlk).lb).later hc
          have hxl : x.2.length ≤ 1000 := by rw [hx]; exact hlJ.out _ (List.getElem_mem hlk)
          have kl := KL.out x.1.A x.1.n x.1.cp x.2 wr hxo hxl
          have HKL := Lib.hid kl; have HX := Lib.hid hx; have HGK := Lib.hid hgk
          have HSZ := Lib.hid hxo.sz
          clear kl hx hgk hxo hrg hget hv2
          go_wp2_with fail
          refine HKL.out.mono ?_; rintro e w6 ⟨v6, rfl, hP4, hb6⟩
          obtain ⟨A6, c6', hv6, _, _, _, _⟩ := hP4.sl
          rw [cellsLb_length] at hv6
          subst hv6
          have HP4 := Lib.hid (hP4.base (b' := w.heap.size + 2) (by omega)); clear hP4
          have HP5 := Lib.hid (HP.out.below hb6)
          clear e2 e4
          have e5 : w6.cell? ⟨w.heap.size, 4, none⟩ = some (.slice (some ⟨g, 0, none⟩) n xJ) := (HSU.out.later hb6).cellAt 4
          go_wp2_with (first | ((with_reducible refine store_own rfl _ _ _ rfl (k * 13 + 6) (.slice A6 x.2.length c6') rfl rfl HP5.out k 6 rfl hpk (by omega) (by kernel_rfl) rfl rfl ?_); intro w7 hP5 hg7 hs7))
          have HNN : Hid (OwnK w7 (w.heap.size + 2) 95 13 (.slice (some ⟨g, 0, none⟩) n xJ) (cellsJ (jbs ((E ++ [x.relab A6 x.2.length c6']) ++ S.J.drop (k + 1))))) := by
            show OwnK _ _ _ _ _ _
            rw [HGK.out] at hP5
            have e1 : (x.1.cells.set 6 (.slice A6 x.2.length c6')) = (x.relab A6 x.2.length c6').1.cells := rfl
            have e2 := mid_set (f := fun y : Jl => y.1.cells) hEk hlk (x.relab A6 x.2.length c6')
            rw [e1] at hP5
            have e3 : ∀ l : List Jl, cellsJ (jbs l) = l.map (fun y : Jl => y.1.cells) := fun l => by unfold cellsJ; rw [List.map_map]; rfl
            rw [e3, e2, ← e3] at hP5
            exact hP5
          clear hP5
          have hbv : Below w.heap.size wr w7 := (hb6.mono hc.size).grown hg7 (by have := hb6.size; omega) (fun q e => by injection e with e; omega)
          go_round
          case rel => exact ⟨k + 1, by omega, by go_num, ⟨E ++ [x.relab A6 x.2.length c6'], by rw [List.length_append, hEk]; rfl, (by have hbd := HBE.out; show List.map bY _ = List.map bY _; rw [List.map_append, show List.map bY E = _ from hbd, List.take_succ_eq_append_getElem hlk, List.map_append, ← HX.out]; rfl), (fun y hy => by
            rcases List.mem_append.1 hy with hy | hy
            · exact LbNew.beside ((HLE.out y hy).grp (GrP.ofBelow (p := fun _ => False) hb6) (fun _ _ e => e)) HP5.out (by decide) rfl hg7
            · rw [List.mem_singleton] at hy; subst hy
              exact ⟨HP4.out.beside HP5.out (by decide) rfl hg7, HSZ.out⟩), HNN⟩, OwnK.beside (HQ2.out.below hb6) HP5.out (by decide) rfl hg7, OwnK.beside (HM2.out.below hb6) HP5.out (by decide) rfl hg7, (fun y hy => LbNew.beside ((HLM2.out y hy).grp (GrP.ofBelow (p := fun _ => False) hb6) (fun _ _ e => e)) HP5.out (by decide) rfl hg7), (HSU.out.later hb6).stays hg7 (by simp; omega), (HRU.out.later hb6).stays hg7 (by simp; omega), hc.trans hbv⟩
          case measure => simp [intOf]; omega
        · have hq' : n = k := by omega
          subst hq'
          have hD : E ++ S.J.drop n = E := by rw [List.drop_eq_nil_of_le (by have := Hnl.out; omega), List.append_nil]
          rw [hD] at HP
          have hBB : bL E = bL S.J := by have := HBE.out; rwa [List.take_of_length_le (by have := Hnl.out; omega)] at this
          have HBJ := Lib.hid hBB
          clear hD hBB
          go_wp2_with (first | (with_reducible refine load_bk rfl 26 _ rfl w.heap.size 0 rfl 26 #[.int .i64 ck, .int .i64 nx, .slice aM N xM, .slice aQ kq xQ, .slice aJ n xJ] #[.int .i64 ck, .int .i64 nx, .slice aM N xM, .slice aQ kq xQ, .slice aJ n xJ] _ HSU.out (Part.whole _) Tryz.underlying26 rfl (by kernel_rfl) ?_) | ((with_reducible refine store_bk rfl 26 (.tmp 2) (.tmp 59) rfl (w.heap.size + 1) 0 #[.int .i64 ck, .int .i64 nx, .slice aM N xM, .slice aQ kq xQ, .slice aJ n xJ] rfl rfl 26 _ #[.int .i64 ck, .int .i64 nx, .slice aM N xM, .slice aQ kq xQ, .slice aJ n xJ] HRU.out (by kernel_rfl) (by simp) (by kernel_rfl) rfl ?_); intro w9 hB9 hg9 hs9))
          have hob : ∀ (e : TypeId) (kk : Nat) (v : Value) (l : List (List Value)), OwnK wr (w.heap.size + 2) e kk v l → OwnK w9 (w.heap.size + 2) e kk v l := fun e kk v l h => h.grp (GrP.of hg9) fun g hg e => by have := h.block g hg; injection e with e; omega
          refine bodyPost_ret (v := .agg #[.int .i64 ck, .int .i64 nx, .slice aM N xM, .slice aQ kq xQ, .slice aJ n xJ]) (results_bk1 Tryz.results64 _ _ (w.heap.size + 1) 26 _ _ rfl hB9 Tryz.underlying26 rfl (by kernel_rfl)) rfl ⟨⟨_, _, _, ⟨S.ck, S.nx, D, S.Q, E⟩, rfl, OwnS.base ⟨hob _ _ _ _ HM2.out, hob _ _ _ _ HQ2.out, hob _ _ _ _ HP.out, fun x hx => ⟨hob _ _ _ _ (HLM2.out x hx).own, (HLM2.out x hx).sz⟩, fun x hx => ⟨hob _ _ _ _ (HLE.out x hx).own, (HLE.out x hx).sz⟩, ?_, hS.out.oQ, ?_⟩ (by omega), ?_⟩, hc.grown hg9 (by omega) (fun q e => by injection e with e; omega)⟩
          · intro x hx
            obtain ⟨y, hy, he⟩ := List.mem_map.1 (show bX x ∈ bM S.M from HBM.out ▸ List.mem_map_of_mem hx)
            have : x.1.nm = y.1.nm := show (bX x).1.nm = (bX y).1.nm by rw [he]
            rw [this]; exact (hS.out.oM y hy).nm
          · intro x hx
            obtain ⟨y, hy, he⟩ := List.mem_map.1 (show bY x ∈ bL S.J from HBJ.out ▸ List.mem_map_of_mem hx)
            have e1 : x.1.nm = y.1.nm := show (bY x).1.nm = (bY y).1.nm by rw [he]
            have e2 : x.1.qu = y.1.qu := show (bY x).1.qu = (bY y).1.qu by rw [he]
            have e3 : x.1.ap = y.1.ap := show (bY x).1.ap = (bY y).1.ap by rw [he]
            have e4 : x.1.ga = y.1.ga := show (bY x).1.ga = (bY y).1.ga by rw [he]
            have e5 : x.1.nd = y.1.nd := show (bY x).1.nd = (bY y).1.nd by rw [he]
            rw [e1, e2, e3, e4, e5]
            have := hS.out.oJ y hy
            exact ⟨this.nm, this.qu, this.ap, this.ga, hS.out.oN y hy⟩
          · show (⟨S.ck, S.nx, bM D, S.Q, bL E⟩ : Sg) = ⟨S.ck, S.nx, bM S.M, S.Q, bL S.J⟩
            rw [HBM.out, HBJ.out]

end Go.Proofs.YtjgojgmgicpgaaaGreat
