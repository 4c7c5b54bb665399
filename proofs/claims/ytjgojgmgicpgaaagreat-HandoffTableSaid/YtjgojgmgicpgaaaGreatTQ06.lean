/- The contracts of slices.Insert at the end of a row that the call owns, at machines and at queues. Condition: the row is of at most 1000 elements. · The contract of Scheduler.addQueue. Condition: the scheduler lies in memory that the call owns; names ascend. -/
import Derived.Test.YtjgojgmgicpgaaaGreatTQ04
import Derived.Test.YtjgojgmgicpgaaaGreatTOmp
import Derived.Test.YtjgojgmgicpgaaaGreatTGsa
import Derived.Test.YtjgojgmgicpgaaaGreatTGfi
namespace Go.Proofs.YtjgojgmgicpgaaaGreat
open Go.RowKit
set_option linter.unusedSimpArgs false
set_option linter.unusedVariables false

set_option maxHeartbeats 3200000 in
set_option maxRecDepth 100000 in
theorem insertQ_end (base : Nat) (v : Value) (L : List Qx) (q : Qx) (ad : Addr) (c n : Nat) (w : World) (hn : Hid (n = L.length)) (hbig : n ≤ 1000) (hO : Hid (OwnK w base 55 4 v (cellsQ L))) (hr : Hid (RdK w 4 (some ad) (cellsQ [q]))) (hb : base ≤ w.heap.size) :
    Calls Tryz.prog 248 #[v, .int .i64 n, .slice (some ad) 1 c] w fun e w' => (∃ v', e = .returned v' ∧ OwnK w' base 55 4 v' (cellsQ (L ++ [q])) ∧ (v'.ownBlock = v.ownBlock ∨ v'.ownBlock = some w.heap.size)) ∧ w.grownBy w' v.ownBlock := by
  obtain ⟨A, cap, hv, _, hc1, hc2, _⟩ := hO.out.sl
  rw [cellsQ_length] at hv hc1
  have hnl := hn.out
  rw [← hnl] at hv hc1
  subst hv
  have hc3 : cap ≤ 9223372036854775807 := by unfold maxLen at hc2; omega
  clear hnl hc2
  have HE : Hid ((cellsQ L).length = n) := by show _ = _; rw [cellsQ_length]; exact hn.out.symm
  have HA : Hid (cellsQ (L ++ [q]) = cellsQ L ++ cellsQ [q]) := cellsQ_append _ _
  go_enter Tryz.func248, Tryz.ntmps248
  go_wp2_with (first | ((with_reducible refine append_ka _ rfl (.tmp 23) (.tmp 24) 23 rfl base 55 _ 4 40 Tryz.underlying23 infoQ15 rfl (by omega) (.slice A n cap) (cellsQ L) rfl hO.out ad c 1 (cellsQ [q]) rfl hr.out (cellsQ_k _) (cellsQ_one _) (by simp [cellsQ]) (by have := HE.out; simp only [cellsQ_length, List.length_singleton, maxLen] at *; omega) (by have := HE.out; simp only [cellsQ_length, List.length_singleton] at *; omega) hb ?_); intro v' w1 hown hgrow hat))
  all_goals go_ret
  all_goals exact ⟨⟨v', rfl, by rw [HA.out]; exact hown, by cases A <;> exact hat⟩, by cases A <;> exact hgrow⟩

set_option maxHeartbeats 3200000 in
set_option maxRecDepth 100000 in
theorem insertM_end (base : Nat) (v : Value) (L : List Mc) (q : Mc) (ad : Addr) (c n : Nat) (w : World) (hn : Hid (n = L.length)) (hbig : n ≤ 1000) (hO : Hid (OwnK w base 93 7 v (cellsM L))) (hr : Hid (RdK w 7 (some ad) (cellsM [q]))) (hb : base ≤ w.heap.size) :
    Calls Tryz.prog 244 #[v, .int .i64 n, .slice (some ad) 1 c] w fun e w' => (∃ v', e = .returned v' ∧ OwnK w' base 93 7 v' (cellsM (L ++ [q])) ∧ (v'.ownBlock = v.ownBlock ∨ v'.ownBlock = some w.heap.size)) ∧ w.grownBy w' v.ownBlock := by
  obtain ⟨A, cap, hv, _, hc1, hc2, _⟩ := hO.out.sl
  rw [cellsM_length] at hv hc1
  have hnl := hn.out
  rw [← hnl] at hv hc1
  subst hv
  have hc3 : cap ≤ 9223372036854775807 := by unfold maxLen at hc2; omega
  clear hnl hc2
  have HE : Hid ((cellsM L).length = n) := by show _ = _; rw [cellsM_length]; exact hn.out.symm
  have HA : Hid (cellsM (L ++ [q]) = cellsM L ++ cellsM [q]) := cellsM_append _ _
  go_enter Tryz.func244, Tryz.ntmps244
  go_wp2_with (first | ((with_reducible refine append_ka _ rfl (.tmp 23) (.tmp 24) 22 rfl base 93 _ 7 80 Tryz.underlying22 infoM15 rfl (by omega) (.slice A n cap) (cellsM L) rfl hO.out ad c 1 (cellsM [q]) rfl hr.out (cellsM_k _) (cellsM_one _) (by simp [cellsM]) (by have := HE.out; simp only [cellsM_length, List.length_singleton, maxLen] at *; omega) (by have := HE.out; simp only [cellsM_length, List.length_singleton] at *; omega) hb ?_); intro v' w1 hown hgrow hat))
  all_goals go_ret
  all_goals exact ⟨⟨v', rfl, by rw [HA.out]; exact hown, by cases A <;> exact hat⟩, by cases A <;> exact hgrow⟩
end Go.Proofs.YtjgojgmgicpgaaaGreat

namespace Go.Proofs.YtjgojgmgicpgaaaGreat
open Go.RowKit
set_option linter.unusedSimpArgs false
set_option linter.unusedVariables false

/-- A scheduler's step: it lies in block g as before, its state is (but for the places of labels) T; nothing but its own blocks has turned; its blocks are elder ones of its own, or new. -/
def Went (w w' : World) (b g : Nat) (vM vQ vJ : Value) (S T : Sg) : Prop :=
  ∃ lst' vM' vQ' vJ' S', Gs w' b g lst' vM' vQ' vJ' S' ∧ S'.bare = T.bare ∧ GrP (blkG g vM vQ vJ S) w w' ∧ ∀ k, blkG g vM' vQ' vJ' S' k → blkG g vM vQ vJ S k ∨ w.heap.size ≤ k
section
variable {w w' : World} {b g : Nat} {lst : Int} {vM vQ vJ : Value} {S T : Sg}
theorem Went.same (h : Gs w b g lst vM vQ vJ S) (hb : Below w.heap.size w w') : Went w w' b g vM vQ vJ S S :=
  ⟨lst, vM, vQ, vJ, S, h.below hb, rfl, GrP.ofBelow hb, fun k hk => .inl hk⟩
end

section
variable {o : Oper} {a : Act} {w : World} {K : Act → World → Prop} {Q : Exit → Act → World → Prop}
theorem qone_op (t : Tmp) (q0 : ByteArray) (q1 q2 q3 : Int) (ho : o.op = .buildSlice 23 1 #[(0, .tmp t)]) (hx : a.tmps[t]?.getD undef = .agg #[.string q0, .int .i64 q1, .int .i64 q2, .int .i64 q3]) (h : ∀ g w', g = w.heap.size → w'.heap.size = w.heap.size + 1 → Bk w' g 55 #[.string q0, .int .i64 q1, .int .i64 q2, .int .i64 q3] → Below w.heap.size w w' → K (a.put o.dst (.slice (some ⟨g, 0, none⟩) 1 1)) w') : o.wp Tryz.prog a w K Q := by
  unfold Oper.wp execOp
  simp only [ho]
  go_simp
  exact h _ _ rfl (by simp) (Bk.fresh w _ _) ((Below.refl _ _).alloc (Nat.le_refl _) _)
end
theorem OwnS.rdQ {w : World} {b : Nat} {vM vJ : Value} {S : Sg} {B : Option Addr} {K0 cB : Nat} (h : OwnS w b vM (.slice B K0 cB) vJ S) : RdQ w B S.Q := by
  obtain ⟨A, c, hv, hr, _⟩ := h.Q.sl
  injection hv with h1; subst h1; exact hr
theorem qrd {w : World} {g : Nat} {t : TypeId} {q : Qx} (h : Bk w g t #[.string q.1, .int .i64 q.2.1, .int .i64 q.2.2.1, .int .i64 q.2.2.2]) : RdK w 4 (some ⟨g, 0, none⟩) (cellsQ [q]) := fun i x hx => by
  match i, hx with
  | 0, hx => simp [cellsQ] at hx; subst hx; exact ⟨g, 0, rfl, h.range (Part.whole _)⟩
  | i + 1, hx => simp [cellsQ] at hx
theorem OwnS.lenQ {w : World} {b : Nat} {vM vJ : Value} {S : Sg} {B : Option Addr} {K0 cB : Nat} (h : OwnS w b vM (.slice B K0 cB) vJ S) : K0 = S.Q.length := by
  obtain ⟨A, c, hv, hr, _⟩ := h.Q.sl
  injection hv with h1 h2; rw [h2, cellsQ_length]
/-- A queue put where its name has its place. -/
def insQ (q : Qx) (Q : List Qx) : List Qx := Q.take (lbK q.1 (Q.map fun q => q.1)) ++ q :: Q.drop (lbK q.1 (Q.map fun q => q.1))
def addQ (S : Sg) (q : Qx) : Sg × An :=
  if hasK q.1 (S.Q.map fun q => q.1) then (S, 8, []) else if 8 ≤ S.Q.length then (S, 10, []) else ({ S with Q := insQ q S.Q }, 0, [])
/-- What Insert does at this place. -/
def InsQ (b : Nat) (vQ : Value) (Q : List Qx) (q : Qx) : Prop := ∀ (ad : Addr) (c : Nat) (w : World), Hid (OwnK w b 55 4 vQ (cellsQ Q)) → Hid (RdK w 4 (some ad) (cellsQ [q])) → b ≤ w.heap.size → ad.block + 1 = w.heap.size → (∃ t cs, Bk w ad.block t cs) → (∀ k, vQ.ownBlock = some k → ad.block ≠ k) →
  Calls Tryz.prog 248 #[vQ, .int .i64 (lbK q.1 (Q.map fun q => q.1)), .slice (some ad) 1 c] w fun e w' => (∃ v', e = .returned v' ∧ OwnK w' b 55 4 v' (cellsQ (insQ q Q)) ∧ (v'.ownBlock = vQ.ownBlock ∨ ∀ k, v'.ownBlock = some k → w.heap.size ≤ k)) ∧ GrP (fun k => vQ.ownBlock = some k) w w'
set_option maxHeartbeats 12800000 in
set_option maxRecDepth 100000 in
theorem addQueue_any (b g : Nat) (lst : Int) (vM vQ vJ : Value) (S : Sg) (q : Qx) (w : World) (hG : Hid (Gs w b g lst vM vQ vJ S)) (hM : Hid (Sm S)) (hA : Hid (AscK (S.Q.map fun q => q.1))) (hq : q.1.size ≤ 140737488351232) (hI : Hid (hasK q.1 (S.Q.map fun q => q.1) = false → InsQ b vQ S.Q q)) :
    Calls Tryz.prog 145 #[.pointer (some ⟨g, 0, none⟩), .agg q.arr] w fun e w' => e = .returned (.int .i64 (addQ S q).2.1) ∧ Went w w' b g vM vQ vJ S (addQ S q).1 := by
  obtain ⟨⟨ck, nx, A, N, cA, B, K0, cB, C, n, cC⟩, hva, hvr⟩ := hG.out.own.rd
  have hv1 : .slice A N cA = vM := congrArg (fun a : Array Value => a.getD 2 undef) hva
  have hv2 : .slice B K0 cB = vQ := congrArg (fun a : Array Value => a.getD 3 undef) hva
  have hv3 : .slice C n cC = vJ := congrArg (fun a : Array Value => a.getD 4 undef) hva
  have e1 : ck = S.ck := hvr.ck
  have e2 : nx = S.nx := hvr.nx
  subst hv1 hv2 hv3 e1 e2
  clear hva hvr
  have hKl : K0 = S.Q.length := hG.out.own.lenQ
  have hKb : K0 ≤ 1000 := by rw [hKl]; exact hM.out.Q
  have kf := fun (W : World) (h : RdQ W B S.Q) => findQ_any B K0 cB S.Q q.1 W hKl h hKb hA
  obtain ⟨p, hp⟩ : ∃ p, p = lbK q.1 (S.Q.map fun q => q.1) := ⟨_, rfl⟩
  obtain ⟨f, hf⟩ : ∃ f, f = hasK q.1 (S.Q.map fun q => q.1) := ⟨_, rfl⟩
  rw [← hp, ← hf] at kf
  obtain ⟨r, hr⟩ : ∃ r, r = addQ S q := ⟨_, rfl⟩
  have hrr := hr
  unfold addQ at hrr
  rw [← hf, ← hKl] at hrr
  rw [← hr]
  have hi := hI.out
  unfold InsQ at hi
  rw [← hp, ← hf] at hi
  have HI0 := Lib.hid hi; clear hi hI
  have KF := Lib.hid kf; have HR := Lib.hid hrr; have HP := Lib.hid hp; have HKl := Lib.hid hKl
  clear kf hrr hr hp hf hKl
  obtain ⟨q0, q1, q2, q3⟩ := q
  obtain ⟨W0, hW0⟩ : ∃ W0, W0 = w.alloc (.cells #[.string q0, .int .i64 q1, .int .i64 q2, .int .i64 q3] 55) := ⟨_, rfl⟩
  have HG0 : Hid (Gs W0 b g lst (.slice A N cA) (.slice B K0 cB) (.slice C n cC) S) := by rw [hW0]; exact hG.out.below ((Below.refl _ _).alloc (Nat.le_refl _) _)
  have HQ0 : Hid (Bk W0 w.heap.size 55 #[.string q0, .int .i64 q1, .int .i64 q2, .int .i64 q3]) := by rw [hW0]; exact Bk.fresh _ _ _
  have hB0 : Below w.heap.size w W0 := by rw [hW0]; exact (Below.refl _ _).alloc (Nat.le_refl _) _
  go_enter Tryz.func145, Tryz.ntmps145
  go_wp2_with fail
  rw [← hW0]
  clear hW0
  refine wp_region_held_drew (S := fun W => Gs W b g lst (.slice A N cA) (.slice B K0 cB) (.slice C n cC) S ∧ Bk W w.heap.size 55 #[.string q0, .int .i64 q1, .int .i64 q2, .int .i64 q3] ∧ Below w.heap.size w W) (by kernel_rfl) (⟨HG0.out.below (Below.drew (Below.refl _ _)), HQ0.out.drewB, Below.drew hB0⟩) (fun hS0 => ?_)
  refine wpAnyH_take (i := 0) (v := ?_) rfl (by kernel_rfl) (by kernel_rfl) (by kernel_rfl) (fun _ _ _ h => h) (Or.inl ⟨by rfl, ?_⟩) hS0 ?_
  rotate_left
  · intro W _; go_simp; try with_reducible rfl
  try simp only [Act.put, List.getElem_toArray, List.getElem_cons_zero, List.setIfInBounds_toArray, List.set_cons_zero, List.set_cons_succ]
  refine wpAnyH_take (i := 1) (v := ?_) rfl (by kernel_rfl) (by kernel_rfl) (by kernel_rfl) (fun _ _ _ h => h) (Or.inl ⟨by rfl, ?_⟩) hS0 ?_
  rotate_left
  · intro W _; go_simp; try with_reducible rfl
  try simp only [Act.put, List.getElem_toArray, List.getElem_cons_zero, List.getElem_cons_succ, List.setIfInBounds_toArray, List.set_cons_zero, List.set_cons_succ]
  refine wpAnyH_take (i := 2) (v := ?_) rfl (by kernel_rfl) (by kernel_rfl) (by kernel_rfl) (fun _ _ _ h => h) (Or.inl ⟨by rfl, ?_⟩) hS0 ?_
  rotate_left
  · intro W _; go_simp; try with_reducible rfl
  try simp only [Act.put, List.getElem_toArray, List.getElem_cons_zero, List.getElem_cons_succ, List.setIfInBounds_toArray, List.set_cons_zero, List.set_cons_succ]
  refine wpAnyH_take (i := 3) (v := ?_) rfl (by kernel_rfl) (by kernel_rfl) (by kernel_rfl) (fun _ _ _ h => h) (Or.inl ⟨by rfl, ?_⟩) hS0 ?_
  rotate_left
  · intro W hSW; have hx := hSW.1.bk.cellAt 3; go_simp; try with_reducible rfl
  try simp only [Act.put, List.getElem_toArray, List.getElem_cons_zero, List.getElem_cons_succ, List.setIfInBounds_toArray, List.set_cons_zero, List.set_cons_succ]
  refine wpAnyH_take (i := 4) (v := ?_) rfl (by kernel_rfl) (by kernel_rfl) (by kernel_rfl) (fun _ _ _ h => h) (Or.inl ⟨by rfl, ?_⟩) hS0 ?_
  rotate_left
  · intro W _; go_simp; try with_reducible rfl
  try simp only [Act.put, List.getElem_toArray, List.getElem_cons_zero, List.getElem_cons_succ, List.setIfInBounds_toArray, List.set_cons_zero, List.set_cons_succ]
  refine wpAnyH_take (i := 5) (v := ?_) rfl (by kernel_rfl) (by kernel_rfl) (by kernel_rfl) (fun _ _ _ h => h) (Or.inl ⟨by rfl, ?_⟩) hS0 ?_
  rotate_left
  · intro W hSW; have hx := hSW.2.1.cellAt 0; go_simp; try with_reducible rfl
  try simp only [Act.put, List.getElem_toArray, List.getElem_cons_zero, List.getElem_cons_succ, List.setIfInBounds_toArray, List.set_cons_zero, List.set_cons_succ]
  refine wpAnyH_ready (rs := [6]) (by kernel_rfl) (by simp) ?_
  refine AllReadyH.cons rfl (fun K hK => ?_) AllReadyH.nil
  go_simp
  refine (KF.out _ (hS0.1.own.rdQ)).mono ?_
  rintro e w1 ⟨rfl, hb1⟩
  go_simp
  refine hK.out _ _ (⟨hS0.1.below hb1, hS0.2.1.later hb1, hS0.2.2.trans (hb1.mono hS0.2.2.size)⟩) (fun hS1 => ?_)
  clear hK K
  try simp only [Act.put, List.getElem_toArray, List.getElem_cons_zero, List.getElem_cons_succ, List.setIfInBounds_toArray, List.set_cons_zero, List.set_cons_succ]
  refine wpAnyH_take (i := 7) (v := ?_) rfl (by kernel_rfl) (by kernel_rfl) (by kernel_rfl) (fun _ _ _ h => h) (Or.inl ⟨by rfl, ?_⟩) hS1 ?_
  rotate_left
  · intro W _; go_simp; try with_reducible rfl
  try simp only [Act.put, List.getElem_toArray, List.getElem_cons_zero, List.getElem_cons_succ, List.setIfInBounds_toArray, List.set_cons_zero, List.set_cons_succ]
  refine wpAnyH_take (i := 8) (v := ?_) rfl (by kernel_rfl) (by kernel_rfl) (by kernel_rfl) (fun _ _ _ h => h) (Or.inl ⟨by rfl, ?_⟩) hS1 ?_
  rotate_left
  · intro W _; go_simp; try with_reducible rfl
  try simp only [Act.put, List.getElem_toArray, List.getElem_cons_zero, List.getElem_cons_succ, List.setIfInBounds_toArray, List.set_cons_zero, List.set_cons_succ]
  refine wpAnyH_take (i := 10) (v := ?_) rfl (by kernel_rfl) (by kernel_rfl) (by kernel_rfl) (fun _ _ _ h => h) (Or.inl ⟨by rfl, ?_⟩) hS1 ?_
  rotate_left
  · intro W _; go_simp; try with_reducible rfl
  try simp only [Act.put, List.getElem_toArray, List.getElem_cons_zero, List.getElem_cons_succ, List.setIfInBounds_toArray, List.set_cons_zero, List.set_cons_succ]
  refine wpAnyH_take (i := 9) (v := ?_) rfl (by kernel_rfl) (by kernel_rfl) (by kernel_rfl) (fun _ _ _ h => h) (Or.inl ⟨by rfl, ?_⟩) hS1 ?_
  rotate_left
  · intro W _; go_simp; try with_reducible rfl
  try simp only [Act.put, List.getElem_toArray, List.getElem_cons_zero, List.getElem_cons_succ, List.setIfInBounds_toArray, List.set_cons_zero, List.set_cons_succ]
  refine wpAnyH_take (i := 11) (v := ?_) rfl (by kernel_rfl) (by kernel_rfl) (by kernel_rfl) (fun _ _ _ h => h) (Or.inl ⟨by rfl, ?_⟩) hS1 ?_
  rotate_left
  · intro W _; go_simp; try with_reducible rfl
  try simp only [Act.put, List.getElem_toArray, List.getElem_cons_zero, List.getElem_cons_succ, List.setIfInBounds_toArray, List.set_cons_zero, List.set_cons_succ]
  refine wpAnyH_done (by kernel_rfl) ?_ _

  obtain ⟨hG1, hQ1, hbb⟩ := hS1
  have HG1 := Lib.hid hG1; have HQ1 := Lib.hid hQ1
  have c3 : w1.cell? ⟨g, 3, none⟩ = some (.slice B K0 cB) := hG1.bk.cellAt 3
  clear hS0 hG1 hQ1 hb1 HG0 HQ0 hB0 KF
  cases f
  case true =>
    have hr : (S, 8, []) = r := HR.out.symm
    subst hr
    go_wp2_with fail
    go_ret
    exact ⟨rfl, Went.same hG.out hbb⟩
  case false =>
    by_cases h8 : 8 ≤ K0
    · have hr : (S, 10, []) = r := by rw [HR.out, if_neg (by simp), if_pos h8]
      subst hr
      have d8 : decide (8 ≤ (K0 : Int)) = true := by rw [decide_eq_true_eq]; omega
      go_wp2_with fail
      go_ret
      exact ⟨rfl, Went.same hG.out hbb⟩
    · have hr : ({ S with Q := insQ (q0, q1, q2, q3) S.Q }, 0, []) = r := by rw [HR.out, if_neg (by simp), if_neg h8]
      subst hr
      have d8 : decide (8 ≤ (K0 : Int)) = false := by rw [decide_eq_false_iff_not]; omega
      clear HR
      have HI := Lib.hid (HI0.out rfl)
      go_wp2_with fail
      refine wp_region_E (S := fun W => Bk W g 111 #[.int .i64 S.ck, .int .i64 lst, .slice A N cA, .slice B K0 cB, .slice C n cC] ∧ Bk W w.heap.size 55 #[.string q0, .int .i64 q1, .int .i64 q2, .int .i64 q3] ∧ GrP (fun k => (Value.slice B K0 cB).ownBlock = some k) w1 W) 11 (by kernel_rfl) (⟨(HG1.out.bk).drewB, HQ1.out.drewB, GrP.ofBelow (Below.drew (Below.refl _ _))⟩) (fun hS0 => ?_)
      refine wpAnyE_take (i := 0) (v := ?_) rfl (by kernel_rfl) (by kernel_rfl) (by kernel_rfl) (by kernel_rfl) (by kernel_rfl) (fun _ _ _ h => h) (Or.inl ⟨by rfl, ?_⟩) hS0 ?_
      rotate_left
      · intro W _; go_simp; try with_reducible rfl
      try simp only [Act.put, List.getElem_toArray, List.getElem_cons_zero, List.setIfInBounds_toArray, List.set_cons_zero, List.set_cons_succ]
      refine wpAnyE_take (i := 1) (v := ?_) rfl (by kernel_rfl) (by kernel_rfl) (by kernel_rfl) (by kernel_rfl) (by kernel_rfl) (fun _ _ _ h => h) (Or.inl ⟨by rfl, ?_⟩) hS0 ?_
      rotate_left
      · intro W _; go_simp; try with_reducible rfl
      try simp only [Act.put, List.getElem_toArray, List.getElem_cons_zero, List.getElem_cons_succ, List.setIfInBounds_toArray, List.set_cons_zero, List.set_cons_succ]
      refine wpAnyE_take (i := 2) (v := ?_) rfl (by kernel_rfl) (by kernel_rfl) (by kernel_rfl) (by kernel_rfl) (by kernel_rfl) (fun _ _ _ h => h) (Or.inl ⟨by rfl, ?_⟩) hS0 ?_
      rotate_left
      · intro W _; go_simp; try with_reducible rfl
      try simp only [Act.put, List.getElem_toArray, List.getElem_cons_zero, List.getElem_cons_succ, List.setIfInBounds_toArray, List.set_cons_zero, List.set_cons_succ]
      refine wpAnyE_take (i := 3) (v := ?_) rfl (by kernel_rfl) (by kernel_rfl) (by kernel_rfl) (by kernel_rfl) (by kernel_rfl) (fun _ _ _ h => h) (Or.inl ⟨by rfl, ?_⟩) hS0 ?_
      rotate_left
      · intro W _; go_simp; try with_reducible rfl
      try simp only [Act.put, List.getElem_toArray, List.getElem_cons_zero, List.getElem_cons_succ, List.setIfInBounds_toArray, List.set_cons_zero, List.set_cons_succ]
      refine wpAnyE_take (i := 4) (v := ?_) rfl (by kernel_rfl) (by kernel_rfl) (by kernel_rfl) (by kernel_rfl) (by kernel_rfl) (fun _ _ _ h => h) (Or.inl ⟨by rfl, ?_⟩) hS0 ?_
      rotate_left
      · intro W hSW; have hx := hSW.1.cellAt 3; go_simp; try with_reducible rfl
      try simp only [Act.put, List.getElem_toArray, List.getElem_cons_zero, List.getElem_cons_succ, List.setIfInBounds_toArray, List.set_cons_zero, List.set_cons_succ]
      refine wpAnyE_take (i := 5) (v := ?_) rfl (by kernel_rfl) (by kernel_rfl) (by kernel_rfl) (by kernel_rfl) (by kernel_rfl) (fun _ _ _ h => h) (Or.inl ⟨by rfl, ?_⟩) hS0 ?_
      rotate_left
      · intro W _; go_simp; try with_reducible rfl
      try simp only [Act.put, List.getElem_toArray, List.getElem_cons_zero, List.getElem_cons_succ, List.setIfInBounds_toArray, List.set_cons_zero, List.set_cons_succ]
      refine wpAnyE_take (i := 6) (v := .agg #[.string q0, .int .i64 q1, .int .i64 q2, .int .i64 q3]) rfl (by kernel_rfl) (by kernel_rfl) (by kernel_rfl) (by kernel_rfl) (by kernel_rfl) (fun _ _ _ h => h) (yields_bk (by rfl) 55 _ rfl w.heap.size 0 rfl 55 #[.string q0, .int .i64 q1, .int .i64 q2, .int .i64 q3] #[.string q0, .int .i64 q1, .int .i64 q2, .int .i64 q3] _ (fun W hW => hW.2.1) (Part.whole _) Tryz.underlying55 rfl (by kernel_rfl)) hS0 ?_
      try simp only [Act.put, List.getElem_toArray, List.getElem_cons_zero, List.getElem_cons_succ, List.setIfInBounds_toArray, List.set_cons_zero, List.set_cons_succ]
      refine wpAnyE_ready (rs := [7]) (by kernel_rfl) (by simp) ?_
      refine AllReadyE.cons rfl (fun K hK => ?_) AllReadyE.nil
      rw [if_pos (by rfl)]
      refine qone_op 32 q0 q1 q2 q3 rfl rfl ?_
      intro g2 w2 hg2 hsz2x hB2 hb2
      refine hK.out _ _ (⟨hS0.1.later hb2, hS0.2.1.later hb2, hS0.2.2.trans (GrP.ofBelow hb2)⟩) (fun hS1 => ?_)
      clear hK K
      try simp only [Act.put, List.getElem_toArray, List.getElem_cons_zero, List.getElem_cons_succ, List.setIfInBounds_toArray, List.set_cons_zero, List.set_cons_succ]
      have HS1 := Lib.hid hS1; have HB2 := Lib.hid hB2; have HSZ2 : Hid (g2 + 1 = w2.heap.size) := (by show _ = _; rw [hg2, hsz2x]); have HGE2 : Hid (w1.heap.size ≤ g2) := (by show w1.heap.size ≤ g2; rw [hg2]; exact Nat.le_refl _); have HBL2 : Hid (Below w1.heap.size w1 w2) := (show Below w1.heap.size w1 w1.drew from Below.drew (Below.refl _ _)).trans hb2; have HQ2 : Hid (OwnK w2 b 55 4 (.slice B K0 cB) (cellsQ S.Q)) := HG1.out.own.Q.below HBL2.out; clear hB2 hg2 hsz2x hb2 hS1 hS0
      refine wpAnyE_ready (rs := [8]) (by kernel_rfl) (by simp) ?_
      refine AllReadyE.cons rfl (fun K hK => ?_) AllReadyE.nil
      go_simp
      refine (HI.out ⟨g2, 0, none⟩ 1 w2 HQ2.out (qrd (q := (q0, q1, q2, q3)) HB2.out) (by have := HG1.out.le; have := HS1.out.1.here; omega) HSZ2.out ⟨_, _, HB2.out⟩ (fun k hk => by have h1 := HGE2.out; have h2 := HG1.out.own.Q.lt hk; show g2 ≠ k; omega)).mono ?_
      rintro e w3 ⟨⟨v3, rfl, hO3, hat3⟩, hgr3⟩
      obtain ⟨aQ, xQ, hv3, _, _, _, _⟩ := hO3.sl
      rw [cellsQ_length] at hv3
      generalize (insQ (q0, q1, q2, q3) S.Q).length = nQ at hv3
      subst hv3
      have HO3 := Lib.hid hO3; have HAT3 := Lib.hid hat3; have HGR3 := Lib.hid hgr3; clear hO3 hat3 hgr3
      go_simp
      refine hK.out _ _ (⟨HS1.out.1.grp HGR3.out (fun e => (HG1.out.ne _ (.inr (.inl e))) rfl), HS1.out.2.1.grp HGR3.out (fun e => by have := (hG.out.own.blk (.inr (.inl e))).2; omega), HS1.out.2.2.trans HGR3.out⟩) (fun hS2 => ?_)
      clear hK K
      try simp only [Act.put, List.getElem_toArray, List.getElem_cons_zero, List.getElem_cons_succ, List.setIfInBounds_toArray, List.set_cons_zero, List.set_cons_succ]
      have HB3 := Lib.hid hS2.1; have HGW := Lib.hid hS2.2.2
      refine wpAnyE_ready (rs := [9]) (by kernel_rfl) (by simp) ?_
      refine AllReadyE.cons rfl (fun K hK => ?_) AllReadyE.nil
      go_simp
      refine hK.out _ _ (hS2) (fun hS3 => ?_)
      clear hK K
      try simp only [Act.put, List.getElem_toArray, List.getElem_cons_zero, List.getElem_cons_succ, List.setIfInBounds_toArray, List.set_cons_zero, List.set_cons_succ]
      refine wpAnyE_take (i := 10) (v := ?_) rfl (by kernel_rfl) (by kernel_rfl) (by kernel_rfl) (by kernel_rfl) (by kernel_rfl) (fun _ _ _ h => h) (Or.inl ⟨by rfl, ?_⟩) hS3 ?_
      rotate_left
      · intro W _; go_simp; try with_reducible rfl
      try simp only [Act.put, List.getElem_toArray, List.getElem_cons_zero, List.getElem_cons_succ, List.setIfInBounds_toArray, List.set_cons_zero, List.set_cons_succ]
      have cst : w3.cell? ⟨g, 3, none⟩ = some (.slice B K0 cB) := HB3.out.cellAt 3; have fst : w3.frozen? ⟨g, 3, none⟩ = false := HB3.out.free 3; clear hS2 hS3
      refine wpAnyE_ready (rs := [11]) (by kernel_rfl) (by simp) ?_
      refine AllReadyE.last rfl (by kernel_rfl) (fun K hK => ?_) AllReadyE.nil
      go_simp
      refine hK.out _ _ ?_
      clear hK K
      try simp only [Act.put, List.getElem_toArray, List.getElem_cons_zero, List.getElem_cons_succ, List.setIfInBounds_toArray, List.set_cons_zero, List.set_cons_succ]
      refine wpAny_of_held (S := fun _ => True) _ _ _ _ ?_
      refine wpAnyH_done (by kernel_rfl) ?_ _

      have hBK : Bk (w3.setCell ⟨g, 3, none⟩ (.slice aQ nQ xQ)) g 111 #[.int .i64 S.ck, .int .i64 lst, .slice A N cA, .slice aQ nQ xQ, .slice C n cC] := HB3.out.put 3 _
      have hG9 : GrP (fun k => (Value.slice B K0 cB).ownBlock = some k ∨ k = g) w1 (w3.setCell ⟨g, 3, none⟩ (.slice aQ nQ xQ)) := (HGW.out.wide (fun _ _ h => .inl h)).set (.inr rfl) _
      have hv9 : ∀ k, (Value.slice aQ nQ xQ).ownBlock = some k → k ≠ g := fun k hk => by
        rcases HAT3.out with e | e
        · exact HG1.out.ne k (.inr (.inl (by rw [← e]; exact hk)))
        · have := e k hk; have := HS1.out.1.here; omega
      have hQ9 : OwnK (w3.setCell ⟨g, 3, none⟩ (.slice aQ nQ xQ)) b 55 4 (.slice aQ nQ xQ) (cellsQ (insQ (q0, q1, q2, q3) S.Q)) :=
        HO3.out.grp ((GrP.refl (fun k => k = g) w3).set rfl _) fun k hk e => hv9 k hk e
      have hM9 := HG1.out.own.M.grp hG9 fun k hk e => e.elim (fun e => HG1.out.own.M.parted HG1.out.own.Q (by decide) hk e) (HG1.out.ne k (.inl hk))
      have hJ9 := HG1.out.own.J.grp hG9 fun k hk e => e.elim (fun e => HG1.out.own.J.parted HG1.out.own.Q (by decide) hk e) (HG1.out.ne k (.inr (.inr (.inl hk))))
      have hlM9 := fun x hx => (HG1.out.own.lM x hx).grp hG9 fun k hk e => e.elim (fun e => (HG1.out.own.lM x hx).off HG1.out.own.Q (by decide) hk e) (HG1.out.ne k (.inr (.inr (.inr (.inl ⟨x, hx, hk⟩)))))
      have hlJ9 := fun x hx => (HG1.out.own.lJ x hx).grp hG9 fun k hk e => e.elim (fun e => (HG1.out.own.lJ x hx).off HG1.out.own.Q (by decide) hk e) (HG1.out.ne k (.inr (.inr (.inr (.inr ⟨x, hx, hk⟩)))))
      have hsz9 : w.heap.size ≤ w2.heap.size := Nat.le_trans hbb.size HBL2.out.size
      have hnew : ∀ k, blkG g (.slice A N cA) (.slice aQ nQ xQ) (.slice C n cC) { S with Q := insQ (q0, q1, q2, q3) S.Q } k → blkG g (.slice A N cA) (.slice B K0 cB) (.slice C n cC) S k ∨ w.heap.size ≤ k := fun k hk => by
        rcases hk with e | e | e | e | e | e
        · exact .inl (.inl e)
        · exact .inl (.inr (.inl e))
        · rcases HAT3.out with h | h
          · exact .inl (.inr (.inr (.inl (by rw [← h]; exact e))))
          · exact .inr (Nat.le_trans hsz9 (h k e))
        · exact .inl (.inr (.inr (.inr (.inl e))))
        · exact .inl (.inr (.inr (.inr (.inr (.inl e)))))
        · exact .inl (.inr (.inr (.inr (.inr (.inr e)))))
      have hne9 : ∀ k, blkS (.slice A N cA) (.slice aQ nQ xQ) (.slice C n cC) { S with Q := insQ (q0, q1, q2, q3) S.Q } k → k ≠ g := fun k hk => by
        rcases hk with e | e | e | e | e
        · exact HG1.out.ne k (.inl e)
        · exact hv9 k e
        · exact HG1.out.ne k (.inr (.inr (.inl e)))
        · exact HG1.out.ne k (.inr (.inr (.inr (.inl e))))
        · exact HG1.out.ne k (.inr (.inr (.inr (.inr e))))
      have hzQ : QsOk (insQ (q0, q1, q2, q3) S.Q) := fun x hx => by
        unfold insQ at hx
        rcases List.mem_append.1 hx with hx | hx
        · exact HG1.out.own.zQ x (List.mem_of_mem_take hx)
        · rcases List.mem_cons.1 hx with rfl | hx
          · exact hq
          · exact HG1.out.own.zQ x (List.mem_of_mem_drop hx)
      have hGr : GrP (blkG g (.slice A N cA) (.slice B K0 cB) (.slice C n cC) S) w (w3.setCell ⟨g, 3, none⟩ (.slice aQ nQ xQ)) := (GrP.ofBelow hbb).trans (hG9.wide fun k _ e => e.elim (fun e => .inr (.inr (.inl e))) .inl)
      have HF : Hid (Went w (w3.setCell ⟨g, 3, none⟩ (.slice aQ nQ xQ)) b g (.slice A N cA) (.slice B K0 cB) (.slice C n cC) S { S with Q := insQ (q0, q1, q2, q3) S.Q }) := ⟨lst, _, _, _, { S with Q := insQ (q0, q1, q2, q3) S.Q }, ⟨hBK, hG.out.nx, ⟨hM9, hQ9, hJ9, hlM9, hlJ9, HG1.out.own.zM, hzQ, HG1.out.own.zJ⟩, HG1.out.le, hne9⟩, rfl, hGr, hnew⟩
      clear hBK hG9 hv9 hQ9 hM9 hJ9 hlM9 hlJ9 hsz9 hnew hne9 hzQ hGr cst fst
      go_wp2_with fail
      go_ret
      exact ⟨rfl, HF.out⟩
end Go.Proofs.YtjgojgmgicpgaaaGreat
