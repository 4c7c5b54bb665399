/- The contracts of Scheduler.leased and Scheduler.addNode. Condition: the scheduler lies in memory that the call owns; names ascend. -/
import Derived.Test.YtjgojgmgicpgaaaGreatTQ06
namespace Go.Proofs.YtjgojgmgicpgaaaGreat
open Go.RowKit
set_option linter.unusedSimpArgs false
set_option linter.unusedVariables false

set_option maxHeartbeats 1600000 in
theorem leased_any (g : Nat) (ck lst : Int) (vM vQ vJ : Value) (w : World) (hB : Hid (Bk w g 111 #[.int .i64 ck, .int .i64 lst, vM, vQ, vJ])) (h1 : 0 ≤ ck ∧ ck ≤ 4611686018427387904) :
    Calls Tryz.prog 245 #[.pointer (some ⟨g, 0, none⟩)] w fun e w' => e = .returned (.int .i64 (ck + 4)) ∧ w = w' := by
  have c1 : w.cell? ⟨g, 0, none⟩ = some (.int .i64 ck) := hB.out.cellAt 0
  go_enter Tryz.func245, Tryz.ntmps245
  go_wp2
  go_ret
  exact ⟨rfl, rfl⟩
abbrev keyM (M : List Ml) : List ByteArray := M.map fun q => q.1.nm
/-- A machine put where its name has its place. -/
def insM (q : Ml) (M : List Ml) : List Ml := M.take (lbK q.1.nm (keyM M)) ++ q :: M.drop (lbK q.1.nm (keyM M))
/-- A node as a new machine. -/
def newM (ck : Int) (nm : ByteArray) (a b c : Int) (A : Option Addr) (n cp : Nat) (l : List Lb) : Ml := (⟨nm, a, b, c, A, n, cp, true, ck + 4⟩, l)
def addN (S : Sg) (nm : ByteArray) (a b c : Int) (l : List Lb) : Sg × An :=
  if hasK nm (keyM S.M) then (S, 8, []) else if 16 ≤ S.M.length then (S, 10, []) else ({ S with M := insM (newM S.ck nm a b c none 0 0 l) S.M }, 0, [])
theorem insM_bare (ck : Int) (nm : ByteArray) (a b c : Int) (A : Option Addr) (n cp : Nat) (l : List Lb) (M : List Ml) : bM (insM (newM ck nm a b c A n cp l) M) = bM (insM (newM ck nm a b c none 0 0 l) M) := by
  unfold insM bM
  rw [List.map_append, List.map_append, List.map_cons, List.map_cons]; rfl
/-- What Insert does at this place. -/
def InsM (b : Nat) (vM : Value) (M : List Ml) (nm : ByteArray) : Prop := ∀ (q : Ml) (ad : Addr) (c : Nat) (w : World), q.1.nm = nm → Hid (OwnK w b 93 7 vM (cellsM (mcs M))) → Hid (RdK w 7 (some ad) (cellsM [q.1])) → b ≤ w.heap.size → ad.block + 1 = w.heap.size → (∃ t cs, Bk w ad.block t cs) → (∀ k, vM.ownBlock = some k → ad.block ≠ k) →
  Calls Tryz.prog 244 #[vM, .int .i64 (lbK nm (keyM M)), .slice (some ad) 1 c] w fun e w' => (∃ v', e = .returned v' ∧ OwnK w' b 93 7 v' (cellsM (mcs (insM q M))) ∧ (v'.ownBlock = vM.ownBlock ∨ ∀ k, v'.ownBlock = some k → w.heap.size ≤ k)) ∧ GrP (fun k => vM.ownBlock = some k) w w'
theorem insM_end {q : Ml} {M : List Ml} (h : lbK q.1.nm (keyM M) = M.length) : insM q M = M ++ [q] := by
  unfold insM
  rw [h, List.take_length, List.drop_length]
/-- Insert at the end. -/
theorem InsM.end {b : Nat} {vM : Value} {M : List Ml} {nm : ByteArray} (h : lbK nm (keyM M) = M.length) (hQ : M.length ≤ 1000) : InsM b vM M nm := by
  intro q ad c w hnm hO hr hb _ _ _
  subst hnm
  rw [insM_end h, h, show mcs (M ++ [q]) = mcs M ++ [q.1] by simp [mcs]]
  refine (insertM_end b vM (mcs M) q.1 ad c M.length w (show _ = _ by rw [List.length_map]) hQ hO hr hb).mono ?_
  rintro e w' ⟨⟨v', rfl, h1, h2⟩, h3⟩
  refine ⟨⟨v', rfl, h1, h2.imp id fun e k hk => ?_⟩, GrP.of h3⟩
  rw [e] at hk; injection hk with hk; omega
theorem mrd {w : World} {g : Nat} {t : TypeId} {q : Mc} (h : Bk w g t q.arr) : RdK w 7 (some ⟨g, 0, none⟩) (cellsM [q]) := fun i x hx => by
  match i, hx with
  | 0, hx => simp [cellsM] at hx; subst hx; exact ⟨g, 0, rfl, h.range (Part.whole _)⟩
  | i + 1, hx => simp [cellsM] at hx
section
variable {o : Oper} {a : Act} {w : World} {K : Act → World → Prop} {Q : Exit → Act → World → Prop}
theorem mone15_op (t : Tmp) (m : Mc) (ho : o.op = .buildSlice 22 1 #[(0, .tmp t)]) (hx : a.tmps[t]?.getD undef = .agg m.arr) (h : ∀ g w', g = w.heap.size → w'.heap.size = w.heap.size + 1 → Bk w' g 93 m.arr → Below w.heap.size w w' → K (a.put o.dst (.slice (some ⟨g, 0, none⟩) 1 1)) w') : o.wp Tryz.prog a w K Q := by
  unfold Oper.wp execOp
  simp only [ho]
  go_simp
  exact h _ _ rfl (by simp) (Bk.fresh w _ _) ((Below.refl _ _).alloc (Nat.le_refl _) _)
end
theorem OwnS.rdMs {w : World} {b : Nat} {vQ vJ : Value} {S : Sg} {A : Option Addr} {N cA : Nat} (h : OwnS w b (.slice A N cA) vQ vJ S) : RdM w A (mcs S.M) := by
  obtain ⟨A', c, hv, hr, _⟩ := h.M.sl
  injection hv with h1; subst h1; exact hr
theorem OwnS.lenM {w : World} {b : Nat} {vQ vJ : Value} {S : Sg} {A : Option Addr} {N cA : Nat} (h : OwnS w b (.slice A N cA) vQ vJ S) : N = S.M.length := by
  obtain ⟨A', c, hv, hr, _⟩ := h.M.sl
  injection hv with h1 h2; rw [h2, cellsM_length, List.length_map]

set_option maxHeartbeats 12800000 in
set_option maxRecDepth 100000 in
theorem addNode_any (b g : Nat) (lst : Int) (vM vQ vJ : Value) (S : Sg) (q0 : ByteArray) (q1 q2 q3 : Int) (qA : Option Addr) (qn qc : Nat) (l : List Lb) (w : World) (hG : Hid (Gs w b g lst vM vQ vJ S)) (hM : Hid (Sm S)) (hA : Hid (AscK (keyM S.M))) (hq : q0.size ≤ 140737488351232) (hl : Hid (LbOk w qA qn qc l)) (hll : l.length ≤ 1000) (hbw : b ≤ w.heap.size) (hI : Hid (hasK q0 (keyM S.M) = false → InsM b vM S.M q0)) :
    Calls Tryz.prog 143 #[.pointer (some ⟨g, 0, none⟩), .agg #[.string q0, .int .i64 q1, .int .i64 q2, .int .i64 q3, .slice qA qn qc]] w fun e w' => e = .returned (.int .i64 (addN S q0 q1 q2 q3 l).2.1) ∧ Went w w' b g vM vQ vJ S (addN S q0 q1 q2 q3 l).1 := by
  obtain ⟨⟨ck, nx, A, N, cA, B, K0, cB, C, n, cC⟩, hva, hvr⟩ := hG.out.own.rd
  have hv1 : .slice A N cA = vM := congrArg (fun a : Array Value => a.getD 2 undef) hva
  have hv2 : .slice B K0 cB = vQ := congrArg (fun a : Array Value => a.getD 3 undef) hva
  have hv3 : .slice C n cC = vJ := congrArg (fun a : Array Value => a.getD 4 undef) hva
  have e1 : ck = S.ck := hvr.ck
  have e2 : nx = S.nx := hvr.nx
  subst hv1 hv2 hv3 e1 e2
  clear hva hvr
  have hKl : N = S.M.length := hG.out.own.lenM
  have hKb : N ≤ 1000 := by rw [hKl]; exact hM.out.M
  have kf := fun (W : World) (h : RdM W A (mcs S.M)) => findM_any A N cA S.M q0 W hKl h hKb hA
  obtain ⟨p, hp⟩ : ∃ p, p = lbK q0 (keyM S.M) := ⟨_, rfl⟩
  obtain ⟨f, hf⟩ : ∃ f, f = hasK q0 (keyM S.M) := ⟨_, rfl⟩
  have kf' : ∀ W, RdM W A (mcs S.M) → Calls Tryz.prog 133 #[.slice A N cA, .string q0, .func (.func 120) #[] #[]] W fun e w' => e = .returned (.tuple #[.int .i64 p, .bool f]) ∧ Below W.heap.size W w' := by rw [hp, hf]; exact kf
  obtain ⟨r, hr⟩ : ∃ r, r = addN S q0 q1 q2 q3 l := ⟨_, rfl⟩
  have hrr := hr
  unfold addN at hrr
  rw [← hf, ← hKl] at hrr
  rw [← hr]
  have hi := hI.out
  unfold InsM at hi
  rw [← hp, ← hf] at hi
  have kc := fun (W : World) (h : LbOk W qA qn qc l) => cloneL_any qA qn qc l W (show qn = _ from h.len) (show RdK _ _ _ _ from h.rd.rdk) (by have := h.len; omega)
  have KC := Lib.hid kc; clear kc
  have HI0 := Lib.hid hi; clear hi hI
  have KF := Lib.hid kf'; have HR := Lib.hid hrr; have HP := Lib.hid hp; have HKl := Lib.hid hKl
  clear kf kf' hrr hr hp hf hKl
  obtain ⟨W0, hW0⟩ : ∃ W0, W0 = w.alloc (.cells #[.string q0, .int .i64 q1, .int .i64 q2, .int .i64 q3, .slice qA qn qc] 53) := ⟨_, rfl⟩
  have HG0 : Hid (Gs W0 b g lst (.slice A N cA) (.slice B K0 cB) (.slice C n cC) S) := by rw [hW0]; exact hG.out.below ((Below.refl _ _).alloc (Nat.le_refl _) _)
  have HQ0 : Hid (Bk W0 w.heap.size 53 #[.string q0, .int .i64 q1, .int .i64 q2, .int .i64 q3, .slice qA qn qc]) := by rw [hW0]; exact Bk.fresh _ _ _
  have hB0 : Below w.heap.size w W0 := by rw [hW0]; exact (Below.refl _ _).alloc (Nat.le_refl _) _
  go_enter Tryz.func143, Tryz.ntmps143
  go_wp2_with fail
  rw [← hW0]
  clear hW0
  refine wp_region_held_drew (S := fun W => Gs W b g lst (.slice A N cA) (.slice B K0 cB) (.slice C n cC) S ∧ Bk W w.heap.size 53 #[.string q0, .int .i64 q1, .int .i64 q2, .int .i64 q3, .slice qA qn qc] ∧ Below w.heap.size w W) (by kernel_rfl) (⟨HG0.out.below (Below.drew (Below.refl _ _)), HQ0.out.drewB, Below.drew hB0⟩) (fun hS0 => ?_)
  refine wpAnyH_take (i := 0) (v := ?_) rfl (by kernel_rfl) (by kernel_rfl) (by kernel_rfl) (fun _ _ _ h => h) (Or.inl ⟨by rfl, ?_⟩) hS0 ?_
  rotate_left
  · intro W _; go_simp; try with_reducible rfl
  try simp only [Act.put, List.getElem_toArray, List.getElem_cons_zero, List.setIfInBounds_toArray, List.set_cons_zero, List.set_cons_succ]
  refine wpAnyH_take (i := 1) (v := ?_) rfl (by kernel_rfl) (by kernel_rfl) (by kernel_rfl) (fun _ _ _ h => h) (Or.inl ⟨by rfl, ?_⟩) hS0 ?_
  rotate_left
  · intro W _; go_simp; try with_reducible rfl
  try simp only [Act.put, List.getElem_toArray, List.getElem_cons_zero, List.getElem_cons_succ, List.setIfInBounds_toArray, List.set_cons_zero, List.set_cons_succ]
  refine wpAnyH_take (i := 2) (v := ?_) rfl (by kernel_rfl) (by kernel_rfl) (by kernel_rfl) (fun _ _ _ h => h) (Or.inl ⟨by rfl, ?_⟩) hS0 ?_
  rotate_left
  · intro W _; go_simp; try with_reducible rfl
  try simp only [Act.put, List.getElem_toArray, List.getElem_cons_zero, List.getElem_cons_succ, List.setIfInBounds_toArray, List.set_cons_zero, List.set_cons_succ]
  refine wpAnyH_take (i := 3) (v := ?_) rfl (by kernel_rfl) (by kernel_rfl) (by kernel_rfl) (fun _ _ _ h => h) (Or.inl ⟨by rfl, ?_⟩) hS0 ?_
  rotate_left
  · intro W hSW; have hx := hSW.1.bk.cellAt 2; go_simp; try with_reducible rfl
  try simp only [Act.put, List.getElem_toArray, List.getElem_cons_zero, List.getElem_cons_succ, List.setIfInBounds_toArray, List.set_cons_zero, List.set_cons_succ]
  refine wpAnyH_take (i := 4) (v := ?_) rfl (by kernel_rfl) (by kernel_rfl) (by kernel_rfl) (fun _ _ _ h => h) (Or.inl ⟨by rfl, ?_⟩) hS0 ?_
  rotate_left
  · intro W _; go_simp; try with_reducible rfl
  try simp only [Act.put, List.getElem_toArray, List.getElem_cons_zero, List.getElem_cons_succ, List.setIfInBounds_toArray, List.set_cons_zero, List.set_cons_succ]
  refine wpAnyH_take (i := 5) (v := ?_) rfl (by kernel_rfl) (by kernel_rfl) (by kernel_rfl) (fun _ _ _ h => h) (Or.inl ⟨by rfl, ?_⟩) hS0 ?_
  rotate_left
  · intro W hSW; have hx := hSW.2.1.cellAt 0; go_simp; try with_reducible rfl
  try simp only [Act.put, List.getElem_toArray, List.getElem_cons_zero, List.getElem_cons_succ, List.setIfInBounds_toArray, List.set_cons_zero, List.set_cons_succ]
  refine wpAnyH_ready (rs := [6]) (by kernel_rfl) (by simp) ?_
  refine AllReadyH.cons rfl (fun K hK => ?_) AllReadyH.nil
  go_simp
  refine (KF.out _ (hS0.1.own.rdMs)).mono ?_
  rintro e w1 ⟨rfl, hb1⟩
  go_simp
  refine hK.out _ _ (⟨hS0.1.below hb1, hS0.2.1.later hb1, hS0.2.2.trans (hb1.mono hS0.2.2.size)⟩) (fun hS1 => ?_)
  clear hK K
  try simp only [Act.put, List.getElem_toArray, List.getElem_cons_zero, List.getElem_cons_succ, List.setIfInBounds_toArray, List.set_cons_zero, List.set_cons_succ]
  refine wpAnyH_take (i := 7) (v := ?_) rfl (by kernel_rfl) (by kernel_rfl) (by kernel_rfl) (fun _ _ _ h => h) (Or.inl ⟨by rfl, ?_⟩) hS1 ?_
  rotate_left
  · intro W _; go_simp; try with_reducible rfl
  try simp only [Act.put, List.getElem_toArray, List.getElem_cons_zero, List.getElem_cons_succ, List.setIfInBounds_toArray, List.set_cons_zero, List.set_cons_succ]
  refine wpAnyH_take (i := 8) (v := ?_) rfl (by kernel_rfl) (by kernel_rfl) (by kernel_rfl) (fun _ _ _ h => h) (Or.inl ⟨by rfl, ?_⟩) hS1 ?_
  rotate_left
  · intro W _; go_simp; try with_reducible rfl
  try simp only [Act.put, List.getElem_toArray, List.getElem_cons_zero, List.getElem_cons_succ, List.setIfInBounds_toArray, List.set_cons_zero, List.set_cons_succ]
  refine wpAnyH_take (i := 10) (v := ?_) rfl (by kernel_rfl) (by kernel_rfl) (by kernel_rfl) (fun _ _ _ h => h) (Or.inl ⟨by rfl, ?_⟩) hS1 ?_
  rotate_left
  · intro W _; go_simp; try with_reducible rfl
  try simp only [Act.put, List.getElem_toArray, List.getElem_cons_zero, List.getElem_cons_succ, List.setIfInBounds_toArray, List.set_cons_zero, List.set_cons_succ]
  refine wpAnyH_take (i := 9) (v := ?_) rfl (by kernel_rfl) (by kernel_rfl) (by kernel_rfl) (fun _ _ _ h => h) (Or.inl ⟨by rfl, ?_⟩) hS1 ?_
  rotate_left
  · intro W _; go_simp; try with_reducible rfl
  try simp only [Act.put, List.getElem_toArray, List.getElem_cons_zero, List.getElem_cons_succ, List.setIfInBounds_toArray, List.set_cons_zero, List.set_cons_succ]
  refine wpAnyH_take (i := 11) (v := ?_) rfl (by kernel_rfl) (by kernel_rfl) (by kernel_rfl) (fun _ _ _ h => h) (Or.inl ⟨by rfl, ?_⟩) hS1 ?_
  rotate_left
  · intro W _; go_simp; try with_reducible rfl
  try simp only [Act.put, List.getElem_toArray, List.getElem_cons_zero, List.getElem_cons_succ, List.setIfInBounds_toArray, List.set_cons_zero, List.set_cons_succ]
  refine wpAnyH_done (by kernel_rfl) ?_ _

  obtain ⟨hG1, hQ1, hbb⟩ := hS1
  have HG1 := Lib.hid hG1; have HQ1 := Lib.hid hQ1
  have c3 : w1.cell? ⟨g, 2, none⟩ = some (.slice A N cA) := hG1.bk.cellAt 2
  clear hS0 hG1 hQ1 hb1 HG0 HQ0 hB0 KF
  cases f
  case true =>
    have hr : (S, 8, []) = r := HR.out.symm
    subst hr
    go_wp2_with fail
    go_ret
    exact ⟨rfl, Went.same hG.out hbb⟩
  case false =>
    by_cases h8 : 16 ≤ N
    · have hr : (S, 10, []) = r := by rw [HR.out, if_neg (by simp), if_pos h8]
      subst hr
      have d8 : decide (16 ≤ (N : Int)) = true := by rw [decide_eq_true_eq]; omega
      go_wp2_with fail
      go_ret
      exact ⟨rfl, Went.same hG.out hbb⟩
    · have hr : ({ S with M := insM (newM S.ck q0 q1 q2 q3 none 0 0 l) S.M }, 0, []) = r := by rw [HR.out, if_neg (by simp), if_neg h8]
      subst hr
      have d8 : decide (16 ≤ (N : Int)) = false := by rw [decide_eq_false_iff_not]; omega
      clear HR
      have HI := Lib.hid (HI0.out rfl)
      have c4 : w1.cell? ⟨w.heap.size, 4, none⟩ = some (.slice qA qn qc) := HQ1.out.cellAt 4
      go_wp2_with fail
      refine (KC.out w1 (hl.out.later hbb)).mono ?_; rintro e w2 ⟨v2, rfl, hO2, hb2⟩
      obtain ⟨A2, c2, hv2, _, _, _, _⟩ := hO2.sl
      rw [cellsLb_length] at hv2
      subst hv2
      have HL2 : Hid (LbNew w2 w1.heap.size A2 l.length c2 l) := ⟨hO2, hl.out.sz⟩
      have HG2 := Lib.hid (HG1.out.below hb2); have HQ2' := Lib.hid (HQ1.out.later hb2)
      have hbb2 : Below w.heap.size w w2 := hbb.trans (hb2.mono hbb.size)
      clear c3 c4 hO2
      have c4 : w2.cell? ⟨w.heap.size, 4, none⟩ = some (.slice qA qn qc) := HQ2'.out.cellAt 4
      have f4 : w2.frozen? ⟨w.heap.size, 4, none⟩ = false := HQ2'.out.free 4
      have hw1 : w.heap.size < w1.heap.size := HQ1.out.here
      obtain ⟨w3, hw3⟩ : ∃ w3, w3 = w2.setCell ⟨w.heap.size, 4, none⟩ (.slice A2 l.length c2) := ⟨_, rfl⟩
      have HN3 : Hid (Bk w3 w.heap.size 53 #[.string q0, .int .i64 q1, .int .i64 q2, .int .i64 q3, .slice A2 l.length c2]) := by rw [hw3]; exact HQ2'.out.put 4 _
      have hgs : GrP (fun k => k = w.heap.size) w2 w3 := by rw [hw3]; exact (GrP.refl (fun k => k = w.heap.size) w2).set rfl _
      have HG3 : Hid (Gs w3 b g lst (.slice A N cA) (.slice B K0 cB) (.slice C n cC) S) := HG2.out.grp hgs fun k hk e => by have := (hG.out.blk hk).2; omega
      have HL3 : Hid (LbNew w3 w1.heap.size A2 l.length c2 l) := HL2.out.grp hgs fun k hk e => by have := (HL2.out.blk hk).1; omega
      have hbb3 : Below w.heap.size w w3 := by rw [hw3]; exact hbb2.setCell (Nat.le_refl _) _
      have hsz3 : w.heap.size ≤ w1.heap.size := hbb.size
      have hsz3' : w.heap.size ≤ w3.heap.size := hbb3.size
      clear HG2 HL2 HQ2' hgs HG1 HQ1 hb2 hbb2
      go_wp2_with fail
      rw [← hw3]
      clear hw3 c4 f4
      refine wp_region_E (S := fun W => Bk W g 111 #[.int .i64 S.ck, .int .i64 lst, .slice A N cA, .slice B K0 cB, .slice C n cC] ∧ Bk W w.heap.size 53 #[.string q0, .int .i64 q1, .int .i64 q2, .int .i64 q3, .slice A2 l.length c2] ∧ GrP (fun k => (Value.slice A N cA).ownBlock = some k) w3 W) 14 (by kernel_rfl) (⟨(HG3.out.bk).drewB, HN3.out.drewB, GrP.ofBelow (Below.drew (Below.refl _ _))⟩) (fun hS0 => ?_)
      refine wpAnyE_take (i := 0) (v := ?_) rfl (by kernel_rfl) (by kernel_rfl) (by kernel_rfl) (by kernel_rfl) (by kernel_rfl) (fun _ _ _ h => h) (Or.inl ⟨by rfl, ?_⟩) hS0 ?_
      rotate_left
      · intro W _; go_simp; try with_reducible rfl
      try simp only [Act.put, List.getElem_toArray, List.getElem_cons_zero, List.setIfInBounds_toArray, List.set_cons_zero, List.set_cons_succ]
      refine wpAnyE_take (i := 1) (v := ?_) rfl (by kernel_rfl) (by kernel_rfl) (by kernel_rfl) (by kernel_rfl) (by kernel_rfl) (fun _ _ _ h => h) (Or.inl ⟨by rfl, ?_⟩) hS0 ?_
      rotate_left
      · intro W _; go_simp; try with_reducible rfl
      try simp only [Act.put, List.getElem_toArray, List.getElem_cons_zero, List.getElem_cons_succ, List.setIfInBounds_toArray, List.set_cons_zero, List.set_cons_succ]
      refine wpAnyE_take (i := 2) (v := ?_) rfl (by kernel_rfl) (by kernel_rfl) (by kernel_rfl) (by kernel_rfl) (by kernel_rfl) (fun _ _ _ h => h) (Or.inl ⟨by rfl, ?_⟩) hS0 ?_
      rotate_left
      · intro W _; go_simp; try with_reducible rfl
      try simp only [Act.put, List.getElem_toArray, List.getElem_cons_zero, List.getElem_cons_succ, List.setIfInBounds_toArray, List.set_cons_zero, List.set_cons_succ]
      refine wpAnyE_take (i := 3) (v := ?_) rfl (by kernel_rfl) (by kernel_rfl) (by kernel_rfl) (by kernel_rfl) (by kernel_rfl) (fun _ _ _ h => h) (Or.inl ⟨by rfl, ?_⟩) hS0 ?_
      rotate_left
      · intro W _; go_simp; try with_reducible rfl
      try simp only [Act.put, List.getElem_toArray, List.getElem_cons_zero, List.getElem_cons_succ, List.setIfInBounds_toArray, List.set_cons_zero, List.set_cons_succ]
      refine wpAnyE_take (i := 4) (v := ?_) rfl (by kernel_rfl) (by kernel_rfl) (by kernel_rfl) (by kernel_rfl) (by kernel_rfl) (fun _ _ _ h => h) (Or.inl ⟨by rfl, ?_⟩) hS0 ?_
      rotate_left
      · intro W hSW; have hx := hSW.1.cellAt 2; go_simp; try with_reducible rfl
      try simp only [Act.put, List.getElem_toArray, List.getElem_cons_zero, List.getElem_cons_succ, List.setIfInBounds_toArray, List.set_cons_zero, List.set_cons_succ]
      refine wpAnyE_take (i := 5) (v := ?_) rfl (by kernel_rfl) (by kernel_rfl) (by kernel_rfl) (by kernel_rfl) (by kernel_rfl) (fun _ _ _ h => h) (Or.inl ⟨by rfl, ?_⟩) hS0 ?_
      rotate_left
      · intro W _; go_simp; try with_reducible rfl
      try simp only [Act.put, List.getElem_toArray, List.getElem_cons_zero, List.getElem_cons_succ, List.setIfInBounds_toArray, List.set_cons_zero, List.set_cons_succ]
      refine wpAnyE_take (i := 6) (v := .agg #[.string q0, .int .i64 q1, .int .i64 q2, .int .i64 q3, .slice A2 l.length c2]) rfl (by kernel_rfl) (by kernel_rfl) (by kernel_rfl) (by kernel_rfl) (by kernel_rfl) (fun _ _ _ h => h) (yields_bk (by rfl) 53 _ rfl w.heap.size 0 rfl 53 #[.string q0, .int .i64 q1, .int .i64 q2, .int .i64 q3, .slice A2 l.length c2] #[.string q0, .int .i64 q1, .int .i64 q2, .int .i64 q3, .slice A2 l.length c2] _ (fun W hW => hW.2.1) (Part.whole _) Tryz.underlying53 rfl (by kernel_rfl)) hS0 ?_
      try simp only [Act.put, List.getElem_toArray, List.getElem_cons_zero, List.getElem_cons_succ, List.setIfInBounds_toArray, List.set_cons_zero, List.set_cons_succ]
      refine wpAnyE_take (i := 7) (v := ?_) rfl (by kernel_rfl) (by kernel_rfl) (by kernel_rfl) (by kernel_rfl) (by kernel_rfl) (fun _ _ _ h => h) (Or.inl ⟨by rfl, ?_⟩) hS0 ?_
      rotate_left
      · intro W _; go_simp; try with_reducible rfl
      try simp only [Act.put, List.getElem_toArray, List.getElem_cons_zero, List.getElem_cons_succ, List.setIfInBounds_toArray, List.set_cons_zero, List.set_cons_succ]
      refine wpAnyE_ready (rs := [8]) (by kernel_rfl) (by simp) ?_
      refine AllReadyE.cons rfl (fun K hK => ?_) AllReadyE.nil
      go_simp
      refine (leased_any g S.ck lst _ _ _ _ hS0.1 hM.out.ck).mono ?_
      rintro e w9 ⟨rfl, rfl⟩
      go_simp
      refine hK.out _ _ (hS0) (fun hS1 => ?_)
      clear hK K
      try simp only [Act.put, List.getElem_toArray, List.getElem_cons_zero, List.getElem_cons_succ, List.setIfInBounds_toArray, List.set_cons_zero, List.set_cons_succ]
      refine wpAnyE_take (i := 9) (v := ?_) rfl (by kernel_rfl) (by kernel_rfl) (by kernel_rfl) (by kernel_rfl) (by kernel_rfl) (fun _ _ _ h => h) (Or.inl ⟨by rfl, ?_⟩) hS1 ?_
      rotate_left
      · intro W _; go_simp; try with_reducible rfl
      try simp only [Act.put, List.getElem_toArray, List.getElem_cons_zero, List.getElem_cons_succ, List.setIfInBounds_toArray, List.set_cons_zero, List.set_cons_succ]
      refine wpAnyE_ready (rs := [10]) (by kernel_rfl) (by simp) ?_
      refine AllReadyE.cons rfl (fun K hK => ?_) AllReadyE.nil
      rw [if_pos (by rfl)]
      refine mone15_op 39 ⟨q0, q1, q2, q3, A2, l.length, c2, true, S.ck + 4⟩ rfl rfl ?_
      intro g2 w4 hg2 hsz2x hB2 hb2
      refine hK.out _ _ (⟨hS1.1.later hb2, hS1.2.1.later hb2, hS1.2.2.trans (GrP.ofBelow hb2)⟩) (fun hS2 => ?_)
      clear hK K
      try simp only [Act.put, List.getElem_toArray, List.getElem_cons_zero, List.getElem_cons_succ, List.setIfInBounds_toArray, List.set_cons_zero, List.set_cons_succ]
      have HS2 := Lib.hid hS2; have HB2 := Lib.hid hB2; have HSZ2 : Hid (g2 + 1 = w4.heap.size) := (by show _ = _; rw [hg2, hsz2x]); have HGE2 : Hid (w3.heap.size ≤ g2) := (by show w3.heap.size ≤ g2; rw [hg2]; exact Nat.le_refl _); have HBL2 : Hid (Below w3.heap.size w3 w4) := (show Below w3.heap.size w3 w3.drew from Below.drew (Below.refl _ _)).trans hb2; have HQ2 : Hid (OwnK w4 b 93 7 (.slice A N cA) (cellsM (mcs S.M))) := HG3.out.own.M.below HBL2.out; clear hB2 hg2 hsz2x hb2 hS0 hS1 hS2
      refine wpAnyE_ready (rs := [11]) (by kernel_rfl) (by simp) ?_
      refine AllReadyE.cons rfl (fun K hK => ?_) AllReadyE.nil
      go_simp
      refine (HI.out (newM S.ck q0 q1 q2 q3 A2 l.length c2 l) ⟨g2, 0, none⟩ 1 w4 rfl HQ2.out (mrd HB2.out) (by have := HG3.out.le; have := HS2.out.1.here; omega) HSZ2.out ⟨_, _, HB2.out⟩ (fun k hk => by have h1 := HGE2.out; have h2 := HG3.out.own.M.lt hk; show g2 ≠ k; omega)).mono ?_
      rintro e w5 ⟨⟨v3, rfl, hO3, hat3⟩, hgr3⟩
      obtain ⟨aQ, xQ, hv3, _, _, _, _⟩ := hO3.sl
      rw [cellsM_length, List.length_map] at hv3
      generalize (insM (newM S.ck q0 q1 q2 q3 A2 l.length c2 l) S.M).length = nQ at hv3
      subst hv3
      have HO3 := Lib.hid hO3; have HAT3 := Lib.hid hat3; have HGR3 := Lib.hid hgr3; clear hO3 hat3 hgr3
      go_simp
      refine hK.out _ _ (⟨HS2.out.1.grp HGR3.out (fun e => (HG3.out.ne _ (.inl e)) rfl), HS2.out.2.1.grp HGR3.out (fun e => by have := (hG.out.own.blk (.inl e)).2; omega), HS2.out.2.2.trans HGR3.out⟩) (fun hS3 => ?_)
      clear hK K
      try simp only [Act.put, List.getElem_toArray, List.getElem_cons_zero, List.getElem_cons_succ, List.setIfInBounds_toArray, List.set_cons_zero, List.set_cons_succ]
      have HB3 := Lib.hid hS3.1; have HGW := Lib.hid hS3.2.2
      refine wpAnyE_ready (rs := [12]) (by kernel_rfl) (by simp) ?_
      refine AllReadyE.cons rfl (fun K hK => ?_) AllReadyE.nil
      go_simp
      refine hK.out _ _ (hS3) (fun hS4 => ?_)
      clear hK K
      try simp only [Act.put, List.getElem_toArray, List.getElem_cons_zero, List.getElem_cons_succ, List.setIfInBounds_toArray, List.set_cons_zero, List.set_cons_succ]
      refine wpAnyE_take (i := 13) (v := ?_) rfl (by kernel_rfl) (by kernel_rfl) (by kernel_rfl) (by kernel_rfl) (by kernel_rfl) (fun _ _ _ h => h) (Or.inl ⟨by rfl, ?_⟩) hS4 ?_
      rotate_left
      · intro W _; go_simp; try with_reducible rfl
      try simp only [Act.put, List.getElem_toArray, List.getElem_cons_zero, List.getElem_cons_succ, List.setIfInBounds_toArray, List.set_cons_zero, List.set_cons_succ]
      have cst : w5.cell? ⟨g, 2, none⟩ = some (.slice A N cA) := HB3.out.cellAt 2; have fst : w5.frozen? ⟨g, 2, none⟩ = false := HB3.out.free 2; clear hS3 hS4
      refine wpAnyE_ready (rs := [14]) (by kernel_rfl) (by simp) ?_
      refine AllReadyE.last rfl (by kernel_rfl) (fun K hK => ?_) AllReadyE.nil
      go_simp
      refine hK.out _ _ ?_
      clear hK K
      try simp only [Act.put, List.getElem_toArray, List.getElem_cons_zero, List.getElem_cons_succ, List.setIfInBounds_toArray, List.set_cons_zero, List.set_cons_succ]
      refine wpAny_of_held (S := fun _ => True) _ _ _ _ ?_
      refine wpAnyH_done (by kernel_rfl) ?_ _

      have hBK : Bk (w5.setCell ⟨g, 2, none⟩ (.slice aQ nQ xQ)) g 111 #[.int .i64 S.ck, .int .i64 lst, .slice aQ nQ xQ, .slice B K0 cB, .slice C n cC] := HB3.out.put 2 _
      have hG9 : GrP (fun k => (Value.slice A N cA).ownBlock = some k ∨ k = g) w3 (w5.setCell ⟨g, 2, none⟩ (.slice aQ nQ xQ)) := (HGW.out.wide (fun _ _ h => .inl h)).set (.inr rfl) _
      have hv9 : ∀ k, (Value.slice aQ nQ xQ).ownBlock = some k → k ≠ g := fun k hk => by
        rcases HAT3.out with e | e
        · exact HG3.out.ne k (.inl (by rw [← e]; exact hk))
        · have := e k hk; have := HS2.out.1.here; omega
      have hM9 : OwnK (w5.setCell ⟨g, 2, none⟩ (.slice aQ nQ xQ)) b 93 7 (.slice aQ nQ xQ) (cellsM (mcs (insM (newM S.ck q0 q1 q2 q3 A2 l.length c2 l) S.M))) :=
        HO3.out.grp ((GrP.refl (fun k => k = g) w5).set rfl _) fun k hk e => hv9 k hk e
      have hQ9 := HG3.out.own.Q.grp hG9 fun k hk e => e.elim (fun e => HG3.out.own.Q.parted HG3.out.own.M (by decide) hk e) (HG3.out.ne k (.inr (.inl hk)))
      have hJ9 := HG3.out.own.J.grp hG9 fun k hk e => e.elim (fun e => HG3.out.own.J.parted HG3.out.own.M (by decide) hk e) (HG3.out.ne k (.inr (.inr (.inl hk))))
      have hgA : ∀ k, blkA A2 k → w.heap.size ≤ k := fun k hk => Nat.le_trans hsz3 (HL3.out.blk hk).1
      have hlN : LbNew (w5.setCell ⟨g, 2, none⟩ (.slice aQ nQ xQ)) b A2 l.length c2 l := (HL3.out.grp hG9 fun k hk e => e.elim (fun e => HL3.out.off HG3.out.own.M (by decide) hk e) (fun e => by have h1 := hgA k hk; have h2 := hG.out.bk.here; omega)).base (Nat.le_trans hbw hsz3)
      have hlM9 : ∀ x ∈ insM (newM S.ck q0 q1 q2 q3 A2 l.length c2 l) S.M, LbNew (w5.setCell ⟨g, 2, none⟩ (.slice aQ nQ xQ)) b x.1.A x.1.n x.1.cp x.2 := fun x hx => by
        have hold : x ∈ S.M → LbNew (w5.setCell ⟨g, 2, none⟩ (.slice aQ nQ xQ)) b x.1.A x.1.n x.1.cp x.2 := fun hx => (HG3.out.own.lM x hx).grp hG9 fun k hk e => e.elim (fun e => (HG3.out.own.lM x hx).off HG3.out.own.M (by decide) hk e) (HG3.out.ne k (.inr (.inr (.inr (.inl ⟨x, hx, hk⟩)))))
        unfold insM at hx
        rcases List.mem_append.1 hx with hx | hx
        · exact hold (List.mem_of_mem_take hx)
        · rcases List.mem_cons.1 hx with rfl | hx
          · exact hlN
          · exact hold (List.mem_of_mem_drop hx)
      have hlJ9 := fun x hx => (HG3.out.own.lJ x hx).grp hG9 fun k hk e => e.elim (fun e => (HG3.out.own.lJ x hx).off HG3.out.own.M (by decide) hk e) (HG3.out.ne k (.inr (.inr (.inr (.inr ⟨x, hx, hk⟩)))))
      have hmem : ∀ x ∈ insM (newM S.ck q0 q1 q2 q3 A2 l.length c2 l) S.M, x = (newM S.ck q0 q1 q2 q3 A2 l.length c2 l) ∨ x ∈ S.M := fun x hx => by
        unfold insM at hx
        rcases List.mem_append.1 hx with hx | hx
        · exact .inr (List.mem_of_mem_take hx)
        · rcases List.mem_cons.1 hx with rfl | hx
          · exact .inl rfl
          · exact .inr (List.mem_of_mem_drop hx)
      have hsz9 : w.heap.size ≤ w4.heap.size := Nat.le_trans hsz3' HBL2.out.size
      have hnew : ∀ k, blkG g (.slice aQ nQ xQ) (.slice B K0 cB) (.slice C n cC) { S with M := insM (newM S.ck q0 q1 q2 q3 A2 l.length c2 l) S.M } k → blkG g (.slice A N cA) (.slice B K0 cB) (.slice C n cC) S k ∨ w.heap.size ≤ k := fun k hk => by
        rcases hk with e | e | e | e | ⟨x, hx, e⟩ | e
        · exact .inl (.inl e)
        · rcases HAT3.out with h | h
          · exact .inl (.inr (.inl (by rw [← h]; exact e)))
          · exact .inr (Nat.le_trans hsz9 (h k e))
        · exact .inl (.inr (.inr (.inl e)))
        · exact .inl (.inr (.inr (.inr (.inl e))))
        · rcases hmem x hx with rfl | hx
          · exact .inr (hgA k e)
          · exact .inl (.inr (.inr (.inr (.inr (.inl ⟨x, hx, e⟩)))))
        · exact .inl (.inr (.inr (.inr (.inr (.inr e)))))
      have hne9 : ∀ k, blkS (.slice aQ nQ xQ) (.slice B K0 cB) (.slice C n cC) { S with M := insM (newM S.ck q0 q1 q2 q3 A2 l.length c2 l) S.M } k → k ≠ g := fun k hk => by
        rcases hk with e | e | e | ⟨x, hx, e⟩ | e
        · exact hv9 k e
        · exact HG3.out.ne k (.inr (.inl e))
        · exact HG3.out.ne k (.inr (.inr (.inl e)))
        · rcases hmem x hx with rfl | hx
          · have h1 := hgA k e; have h2 := hG.out.bk.here; omega
          · exact HG3.out.ne k (.inr (.inr (.inr (.inl ⟨x, hx, e⟩))))
        · exact HG3.out.ne k (.inr (.inr (.inr (.inr e))))
      have hzM : ∀ x ∈ insM (newM S.ck q0 q1 q2 q3 A2 l.length c2 l) S.M, x.1.nm.size ≤ 140737488351232 := fun x hx => by
        rcases hmem x hx with rfl | hx
        · exact hq
        · exact HG3.out.own.zM x hx
      have hGr : GrP (blkG g (.slice A N cA) (.slice B K0 cB) (.slice C n cC) S) w (w5.setCell ⟨g, 2, none⟩ (.slice aQ nQ xQ)) := (GrP.ofBelow hbb3).trans (hG9.wide fun k _ e => e.elim (fun e => .inr (.inl e)) .inl)
      have HF : Hid (Went w (w5.setCell ⟨g, 2, none⟩ (.slice aQ nQ xQ)) b g (.slice A N cA) (.slice B K0 cB) (.slice C n cC) S { S with M := insM (newM S.ck q0 q1 q2 q3 none 0 0 l) S.M }) := ⟨lst, _, _, _, { S with M := insM (newM S.ck q0 q1 q2 q3 A2 l.length c2 l) S.M }, ⟨hBK, hG.out.nx, ⟨hM9, hQ9, hJ9, hlM9, hlJ9, hzM, HG3.out.own.zQ, HG3.out.own.zJ⟩, HG3.out.le, hne9⟩, (by show (⟨S.ck, S.nx, bM (insM (newM S.ck q0 q1 q2 q3 A2 l.length c2 l) S.M), S.Q, bL S.J⟩ : Sg) = ⟨S.ck, S.nx, bM (insM (newM S.ck q0 q1 q2 q3 none 0 0 l) S.M), S.Q, bL S.J⟩; rw [insM_bare]), hGr, hnew⟩
      clear hBK hG9 hv9 hQ9 hM9 hJ9 hlM9 hlJ9 hsz9 hnew hne9 hzM hGr cst fst hmem hlN hgA
      go_wp2_with fail
      go_ret
      exact ⟨rfl, HF.out⟩

end Go.Proofs.YtjgojgmgicpgaaaGreat
