/- What is free when the first of some jobs of a machine are gone, plainly: it grows by each one's need, without an error. No condition. · The contract of the comparison that victim.weaker hands to the sort: by Prio, then by Seq the other way round. No condition. · The contract of victim.weaker: a machine's weaker jobs, in the order in which they go. Condition: the slice reads as a list of jobs, of at most 1000000. · The contract of victim.makeRoom where room is all that the task lacks. Condition: the slice reads as a list of jobs, of at most 1000000. · The contract of victim.names: the names of the tasks of jobs. Condition: the slice reads as a list of jobs, of at most 1000000. · The contracts of victim.toPreempt and victim.Plan. Condition: the slice reads as a list of jobs, of at most 1000000; the machine and the task are ones that Go can have. · The contracts of cmp.Or at three integers, of victim.lastPrio and of victim.compare. Condition: the slices read as lists of jobs. · The contract of victim.Choose. Condition: the slices read as lists of machines and of jobs, of at most 1000000 each; the machines and the task are ones that Go can have. · The contract of the statements' own first look (awake). No condition. · The contract of the statements' own size test (few). Condition: the slices are ones that Go can have. · The contracts of the law's own unlike and without (layer 13). Condition: the slices read as lists of jobs and of texts, of at most 1000000 each. -/
import Derived.Test.YtpifleheammanaaVd
import Derived.Test.YtpifleheammanaaCmq
import Derived.Deep.RegionHeld3
import Derived.Test.YtpifleheammanaaStuJ
import Derived.Deep.DeepCutAuto
import Derived.Test.YtpifleheammanaaMc
import Derived.Test.YtpifleheammanaaRtx
namespace Go.Proofs.Ytpifleheammanaa
open Go.RowKit
set_option linter.unusedSimpArgs false
set_option linter.unusedVariables false

theorem filter_takeJ (p : Jb → Bool) {l : List Jb} {k : Nat} (h : k < l.length) : (l.take (k + 1)).filter p = (l.take k).filter p ++ if p l[k] then [l[k]] else [] := by
  rw [List.take_succ_eq_append_getElem h, List.filter_append]
  congr 1
  cases hp : p l[k] <;> simp [hp]
section
variable {m : Mc} {ml : List Lb} {t : Kt} {tl : List Lb} {l : List Jb} {p q s a b c a' b' c' : Int} {W : List Nat} {k : Nat}
/-- What is free with the first k of these jobs gone. -/
def frK (m : Mc) (l : List Jb) (W : List Nat) (k : Nat) : Int × Int × Int × Int := freM m (outJ (W.take k) l l.length)
theorem frK_0 : frK m l W 0 = freM m l := by unfold frK; rw [List.take_zero, outJ_nil]
theorem frK_err (h : freM m l = (p, q, s, 0)) (W : List Nat) (k : Nat) : ∃ a b c, frK m l W k = (a, b, c, 0) := by
  obtain ⟨p', q', s', h', _⟩ := freM_less h (outJ_sub (W.take k) l)
  exact ⟨_, _, _, h'⟩
theorem out_step (hn : W.Nodup) (hW : ∀ i ∈ W, i < l.length) (hk : k < W.length) : (outJ (W.take k) l l.length).Perm (outJ (W.take (k + 1)) l l.length ++ [jat l W[k]]) := by
  have e1 := outJ_perm (l := l) (G := W.take k) (hn.sublist (List.take_sublist _ _)) (fun i hi => hW i (List.mem_of_mem_take hi))
  have e2 := outJ_perm (l := l) (G := W.take (k + 1)) (hn.sublist (List.take_sublist _ _)) (fun i hi => hW i (List.mem_of_mem_take hi))
  have e3 : (W.take (k + 1)).map (jat l) = (W.take k).map (jat l) ++ [jat l W[k]] := by rw [List.take_succ_eq_append_getElem hk, List.map_append]; rfl
  rw [e3] at e2
  have e4 := e1.trans e2.symm
  have e5 : (outJ (W.take (k + 1)) l l.length ++ ((W.take k).map (jat l) ++ [jat l W[k]])).Perm ((outJ (W.take (k + 1)) l l.length ++ [jat l W[k]]) ++ (W.take k).map (jat l)) := by
    rw [List.append_assoc]; exact List.Perm.append_left _ List.perm_append_comm
  exact (List.perm_append_right_iff _).1 (e4.trans e5)
theorem frK_step (hn : W.Nodup) (hW : ∀ i ∈ W, i < l.length ∧ (jat l i).nd = m.nm) (hk : k < W.length) (h1 : frK m l W k = (a, b, c, 0)) (h2 : frK m l W (k + 1) = (a', b', c', 0)) :
    adB a b c (jat l W[k]).a (jat l W[k]).b (jat l W[k]).c = true ∧ a' = a + (jat l W[k]).a ∧ b' = b + (jat l W[k]).b ∧ c' = c + (jat l W[k]).c := by
  have hp := out_step hn (fun i hi => (hW i hi).1) hk
  have ho := (hW _ (List.getElem_mem hk)).2
  unfold frK at h1 h2
  obtain ⟨r1, r2, r3, r4, r5, r6⟩ := freM_0 h1
  obtain ⟨g1, g2, g3, g4, g5, g6⟩ := freM_0 h2
  generalize outJ (W.take k) l l.length = X at *
  generalize outJ (W.take (k + 1)) l l.length = Y at *
  generalize jat l W[k] = j at *
  have hon : onM m.nm (Y ++ [j]) = onM m.nm Y ++ [j.need] := by rw [onM_append]; congr 1; unfold onM; simp [ho, sE_refl]
  have hq : (onM m.nm X).Perm (onM m.nm Y ++ [j.need]) := by rw [← hon]; unfold onM; exact (hp.filter _).map _
  obtain ⟨t1, t2, t3⟩ := s_perm hq
  have u1 : s1 (onM m.nm Y ++ [j.need]) = s1 (onM m.nm Y) + j.a := by rw [s1_append]; simp [s1, Jb.need]
  have u2 : s2 (onM m.nm Y ++ [j.need]) = s2 (onM m.nm Y) + j.b := by rw [s2_append]; simp [s2, Jb.need]
  have u3 : s3 (onM m.nm Y ++ [j.need]) = s3 (onM m.nm Y) + j.c := by rw [s3_append]; simp [s3, Jb.need]
  have hj : rB j.a j.b j.c = true := r1 j.need (hq.symm.subset (by simp))
  have ea : a' = a + j.a := by omega
  have eb : b' = b + j.b := by omega
  have ec : c' = c + j.c := by omega
  refine ⟨?_, ea, eb, ec⟩
  unfold adB
  rw [r6, hj, ← ea, ← eb, ← ec, g6]
  rfl
theorem weak_in : ∀ i ∈ weak m t l l.length, i < l.length ∧ (jat l i).nd = m.nm := by
  intro i hi
  refine ⟨wk_lt _ i hi, ?_⟩
  have := wk_ok _ i hi
  unfold wkC at this
  rw [Bool.and_eq_true, sE_iff] at this
  exact this.1
theorem okK_is (h : frK m l W k = (a, b, c, 0)) : okK m t l W k = fB t.a t.b t.c a b c := by
  unfold frK at h
  unfold okK
  rw [h]
  simp
theorem planJ_0 (h : why m ml t tl l = 0) : planJ m ml t tl l = some [] := by unfold planJ places; rw [if_pos h]; rfl
theorem planJ_4 (h : why m ml t tl l = 4) : planJ m ml t tl l = (fewest (okK m t l (weak m t l l.length)) (weak m t l l.length).length 1).map fun k => (weakJ m t l).take k := by
  unfold planJ places weakJ
  rw [if_neg (by rw [h]; decide), if_pos h, Option.map_map]
  congr 1
  funext k
  show ((weak m t l l.length).take k).map (jat l) = _
  rw [List.map_take]
theorem planJ_no (h0 : why m ml t tl l ≠ 0) (h4 : why m ml t tl l ≠ 4) : planJ m ml t tl l = none := by unfold planJ places; rw [if_neg h0, if_neg h4]; rfl
theorem weakJ_at {i : Nat} (h : i < (weakJ m t l).length) : (weakJ m t l)[i] = jat l ((weak m t l l.length)[i]'(by rw [← weakJ_len]; exact h)) := by simp [weakJ]
theorem planJ_len {r : List Jb} (h : planJ m ml t tl l = some r) : r.length ≤ l.length := by
  unfold planJ at h
  rw [Option.map_eq_some_iff] at h
  obtain ⟨G, hG, rfl⟩ := h
  rw [List.length_map]
  exact places_len hG
/-- The weaker jobs in their order, from any list of their places that is so. -/
theorem weakJ_one {W : List Nat} (h1 : W.Perm (List.range (l.filter (wkJ m t)).length)) (h2 : W.Pairwise (Fore fun i y => goB (jat (l.filter (wkJ m t)) i) (jat (l.filter (wkJ m t)) y))) : W.map (jat (l.filter (wkJ m t))) = weakJ m t l := by
  obtain ⟨P, hP⟩ : ∃ P, P = (List.range l.length).filter (wkC m t l) := ⟨_, rfl⟩
  have hf : P.map (jat l) = l.filter (wkJ m t) := by rw [hP]; exact filter_jat (wkJ m t) l
  have hl : (l.filter (wkJ m t)).length = P.length := by rw [← hf, List.length_map]
  have hj : ∀ i, i < P.length → jat (l.filter (wkJ m t)) i = jat l (P.getD i 0) := by
    intro i hi
    rw [jat_at (by omega : i < (l.filter (wkJ m t)).length)]
    simp only [← hf, List.getElem_map, List.getD, List.getElem?_eq_getElem hi, Option.getD_some]
  have hW : ∀ i ∈ W, i < P.length := fun i hi => by have := List.mem_range.1 (h1.subset hi); omega
  have hPs : P.Pairwise (· < ·) := by rw [hP]; exact List.Pairwise.filter _ List.pairwise_lt_range
  have hlt : ∀ i y, i < y → y < P.length → P.getD i 0 < P.getD y 0 := by
    intro i y h hy
    simp only [List.getD, List.getElem?_eq_getElem hy, List.getElem?_eq_getElem (show i < P.length by omega), Option.getD_some]
    exact List.pairwise_iff_getElem.1 hPs i y (by omega) hy h
  have hV : W.map (fun i => P.getD i 0) = weak m t l l.length := by
    refine weak_one ?_ ?_
    · rw [List.pairwise_map]
      refine List.Pairwise.imp_of_mem (fun {x y} hx hy h => ?_) h2
      unfold Fore at h ⊢
      simp only at h ⊢
      rw [hj x (hW x hx), hj y (hW y hy)] at h
      rcases h with h | ⟨h, k⟩
      · exact .inl h
      · exact .inr ⟨h, hlt x y k (hW y hy)⟩
    · refine (h1.map _).trans ?_
      rw [hl, ← hP]
      have : (List.range P.length).map (fun i => P.getD i 0) = P := by
        apply List.ext_getElem (by simp)
        intro i h1 h2
        simp [List.getD]
        simp at h1
        rw [List.getElem?_eq_getElem h1]; rfl
      rw [this]
  unfold weakJ
  rw [← hV, List.map_map]
  refine List.map_congr_left fun i hi => ?_
  exact hj i (hW i hi)
end
end Go.Proofs.Ytpifleheammanaa

namespace Go.Proofs.Ytpifleheammanaa
open Go.RowKit Go.Sort
set_option linter.unusedSimpArgs false
set_option linter.unusedVariables false

/-- The comparison of two jobs. -/
def cfJ (x y : Jb) : Int := or2 (cI x.pr y.pr) (cI y.sq x.sq)
theorem cfJ_go (x y : Jb) : decide (cfJ x y < 0) = goB x y := by
  unfold cfJ goB or2
  by_cases h : x.pr = y.pr
  · rw [if_pos (cI_zero.2 h), decide_eq_false (show ¬ x.pr < y.pr by omega), decide_eq_true h]
    simp only [Bool.false_or, Bool.true_and]
    rw [decide_eq_decide]; exact cI_neg
  · rw [if_neg (fun e => h (cI_zero.1 e)), decide_eq_false h]
    simp only [Bool.false_and, Bool.or_false]
    rw [decide_eq_decide]; exact cI_neg

set_option maxHeartbeats 3200000 in
set_option maxRecDepth 100000 in
theorem cmpJ_any (x y : Jb) (w : World) :
    Calls Try.prog 62 #[.agg x.arr, .agg y.arr] w fun e w' => e = .returned (.int .i64 (cfJ x y)) ∧ Gw w w' := by
  have k1 := fun W => compareI_any x.pr y.pr W
  have k2 := fun W => compareI_any y.sq x.sq W
  have k3 := fun (x y : Int) (g : Nat) W => or2_any x y g W
  obtain ⟨r, hr⟩ : ∃ r, r = cfJ x y := ⟨_, rfl⟩
  rw [← hr]
  unfold cfJ at hr
  generalize cI x.pr y.pr = p at k1 hr
  generalize cI y.sq x.sq = q at k2 hr
  have K1 := Lib.hid k1; have K2 := Lib.hid k2; have K3 := Lib.hid k3; have HR := Lib.hid hr; clear k1 k2 k3 hr
  go_enter Try.func62, Try.ntmps62
  go_wp2_with fail
  have hg0 : Gw w ((w.alloc (.cells x.arr 45)).alloc (.cells y.arr 45)) := ((Gw.refl w).alloc _).alloc _
  have hA0 := (Bk.fresh w 45 x.arr).later (w' := (w.alloc (.cells x.arr 45)).alloc (.cells y.arr 45)) ((Below.refl _ _).alloc (Nat.le_refl _) _)
  have hC0 : Bk ((w.alloc (.cells x.arr 45)).alloc (.cells y.arr 45)) (w.heap.size + 1) 45 y.arr := Bk.freshAt _ _ _ (by simp)
  generalize hw1 : (w.alloc (.cells x.arr 45)).alloc (.cells y.arr 45) = w1 at hg0 hA0 hC0 ⊢
  clear hw1
  have la : w.heap.size < w1.heap.size := hA0.here
  have lc : w.heap.size + 1 < w1.heap.size := hC0.here
  have a0 : w1.cell? ⟨w.heap.size, 2, none⟩ = some (.int .i64 x.pr) := hA0.cellAt 2
  have a1 : w1.cell? ⟨w.heap.size, 10, none⟩ = some (.int .i64 x.sq) := hA0.cellAt 10
  have c0 : w1.cell? ⟨w.heap.size + 1, 2, none⟩ = some (.int .i64 y.pr) := hC0.cellAt 2
  have c1 : w1.cell? ⟨w.heap.size + 1, 10, none⟩ = some (.int .i64 y.sq) := hC0.cellAt 10
  have A0 := Lib.hid a0; have A1 := Lib.hid a1; have C0 := Lib.hid c0; have C1 := Lib.hid c1; have LA := Lib.hid la; have LC := Lib.hid lc; have HG0 := Lib.hid hg0
  clear hA0 hC0 a0 a1 c0 c1 la lc hg0
  refine wp_region_held_drew (S := fun W => Gw w1 W) (by kernel_rfl) ((Gw.refl _).drew) (fun hS0 => ?_)
  refine wpAnyH_take (i := 0) (v := ?_) rfl (by kernel_rfl) (by kernel_rfl) (by kernel_rfl) (fun _ _ _ h => h) (Or.inl ⟨by rfl, ?_⟩) hS0 ?_
  rotate_left
  · intro W _; go_simp; try with_reducible rfl
  try simp only [Act.put, List.getElem_toArray, List.getElem_cons_zero, List.getElem_cons_succ, List.setIfInBounds_toArray, List.set_cons_zero, List.set_cons_succ]
  refine wpAnyH_take (i := 1) (v := ?_) rfl (by kernel_rfl) (by kernel_rfl) (by kernel_rfl) (fun _ _ _ h => h) (Or.inl ⟨by rfl, ?_⟩) hS0 ?_
  rotate_left
  · intro W _; go_simp; try with_reducible rfl
  try simp only [Act.put, List.getElem_toArray, List.getElem_cons_zero, List.getElem_cons_succ, List.setIfInBounds_toArray, List.set_cons_zero, List.set_cons_succ]
  refine wpAnyH_take (i := 2) (v := ?_) rfl (by kernel_rfl) (by kernel_rfl) (by kernel_rfl) (fun _ _ _ h => h) (Or.inl ⟨by rfl, ?_⟩) hS0 ?_
  rotate_left
  · intro W hSW; have hx := (hSW.cell LA.out).trans A0.out; go_simp; try with_reducible rfl
  try simp only [Act.put, List.getElem_toArray, List.getElem_cons_zero, List.getElem_cons_succ, List.setIfInBounds_toArray, List.set_cons_zero, List.set_cons_succ]
  refine wpAnyH_take (i := 3) (v := ?_) rfl (by kernel_rfl) (by kernel_rfl) (by kernel_rfl) (fun _ _ _ h => h) (Or.inl ⟨by rfl, ?_⟩) hS0 ?_
  rotate_left
  · intro W _; go_simp; try with_reducible rfl
  try simp only [Act.put, List.getElem_toArray, List.getElem_cons_zero, List.getElem_cons_succ, List.setIfInBounds_toArray, List.set_cons_zero, List.set_cons_succ]
  refine wpAnyH_take (i := 4) (v := ?_) rfl (by kernel_rfl) (by kernel_rfl) (by kernel_rfl) (fun _ _ _ h => h) (Or.inl ⟨by rfl, ?_⟩) hS0 ?_
  rotate_left
  · intro W _; go_simp; try with_reducible rfl
  try simp only [Act.put, List.getElem_toArray, List.getElem_cons_zero, List.getElem_cons_succ, List.setIfInBounds_toArray, List.set_cons_zero, List.set_cons_succ]
  refine wpAnyH_take (i := 5) (v := ?_) rfl (by kernel_rfl) (by kernel_rfl) (by kernel_rfl) (fun _ _ _ h => h) (Or.inl ⟨by rfl, ?_⟩) hS0 ?_
  rotate_left
  · intro W hSW; have hx := (hSW.cell LC.out).trans C0.out; go_simp; try with_reducible rfl
  try simp only [Act.put, List.getElem_toArray, List.getElem_cons_zero, List.getElem_cons_succ, List.setIfInBounds_toArray, List.set_cons_zero, List.set_cons_succ]
  refine wpAnyH_take (i := 7) (v := ?_) rfl (by kernel_rfl) (by kernel_rfl) (by kernel_rfl) (fun _ _ _ h => h) (Or.inl ⟨by rfl, ?_⟩) hS0 ?_
  rotate_left
  · intro W _; go_simp; try with_reducible rfl
  try simp only [Act.put, List.getElem_toArray, List.getElem_cons_zero, List.getElem_cons_succ, List.setIfInBounds_toArray, List.set_cons_zero, List.set_cons_succ]
  refine wpAnyH_take (i := 8) (v := ?_) rfl (by kernel_rfl) (by kernel_rfl) (by kernel_rfl) (fun _ _ _ h => h) (Or.inl ⟨by rfl, ?_⟩) hS0 ?_
  rotate_left
  · intro W hSW; have hx := (hSW.cell LC.out).trans C1.out; go_simp; try with_reducible rfl
  try simp only [Act.put, List.getElem_toArray, List.getElem_cons_zero, List.getElem_cons_succ, List.setIfInBounds_toArray, List.set_cons_zero, List.set_cons_succ]
  refine wpAnyH_take (i := 9) (v := ?_) rfl (by kernel_rfl) (by kernel_rfl) (by kernel_rfl) (fun _ _ _ h => h) (Or.inl ⟨by rfl, ?_⟩) hS0 ?_
  rotate_left
  · intro W _; go_simp; try with_reducible rfl
  try simp only [Act.put, List.getElem_toArray, List.getElem_cons_zero, List.getElem_cons_succ, List.setIfInBounds_toArray, List.set_cons_zero, List.set_cons_succ]
  refine wpAnyH_take (i := 10) (v := ?_) rfl (by kernel_rfl) (by kernel_rfl) (by kernel_rfl) (fun _ _ _ h => h) (Or.inl ⟨by rfl, ?_⟩) hS0 ?_
  rotate_left
  · intro W hSW; have hx := (hSW.cell LA.out).trans A1.out; go_simp; try with_reducible rfl
  try simp only [Act.put, List.getElem_toArray, List.getElem_cons_zero, List.getElem_cons_succ, List.setIfInBounds_toArray, List.set_cons_zero, List.set_cons_succ]
  refine wpAnyH_ready (rs := [6]) (by kernel_rfl) (by simp) ?_
  refine AllReadyH.cons rfl (fun K hK => ?_) AllReadyH.nil
  go_simp
  refine (K1.out _).mono ?_
  rintro v v1 ⟨rfl, rfl⟩
  go_simp
  refine hK.out _ _ hS0 (fun hS1 => ?_)
  clear hK K
  try simp only [Act.put, List.getElem_toArray, List.getElem_cons_zero, List.getElem_cons_succ, List.setIfInBounds_toArray, List.set_cons_zero, List.set_cons_succ]
  refine wpAnyH_ready (rs := [11]) (by kernel_rfl) (by simp) ?_
  refine AllReadyH.cons rfl (fun K hK => ?_) AllReadyH.nil
  go_simp
  refine (K2.out _).mono ?_
  rintro v v2 ⟨rfl, rfl⟩
  go_simp
  refine hK.out _ _ hS1 (fun hS2 => ?_)
  clear hK K
  try simp only [Act.put, List.getElem_toArray, List.getElem_cons_zero, List.getElem_cons_succ, List.setIfInBounds_toArray, List.set_cons_zero, List.set_cons_succ]
  refine wpAnyH_ready (rs := [12]) (by kernel_rfl) (by simp) ?_
  refine AllReadyH.cons rfl (fun K hK => ?_) AllReadyH.nil
  simp only [if_pos, Region.wanted]
  refine itwo_op 11 16 p q rfl rfl rfl ?_
  intro g v3 hg hv3
  subst hg hv3
  refine hK.out _ _ (hS2.alloc _) (fun hS3 => ?_)
  clear hK K
  try simp only [Act.put, List.getElem_toArray, List.getElem_cons_zero, List.getElem_cons_succ, List.setIfInBounds_toArray, List.set_cons_zero, List.set_cons_succ]
  refine wpAnyH_ready (rs := [13]) (by kernel_rfl) (by simp) ?_
  refine AllReadyH.cons rfl (fun K hK => ?_) AllReadyH.nil
  go_simp
  refine (K3.out p q _ _ (by simp) (by simp) (by simp)).mono ?_
  rintro v v4 ⟨rfl, rfl⟩
  go_simp
  refine hK.out _ _ hS3 (fun hS4 => ?_)
  clear hK K
  try simp only [Act.put, List.getElem_toArray, List.getElem_cons_zero, List.getElem_cons_succ, List.setIfInBounds_toArray, List.set_cons_zero, List.set_cons_succ]
  refine wpAnyH_take (i := 14) (v := ?_) rfl (by kernel_rfl) (by kernel_rfl) (by kernel_rfl) (fun _ _ _ h => h) (Or.inl ⟨by rfl, ?_⟩) hS4 ?_
  rotate_left
  · intro W _; go_simp; try with_reducible rfl
  try simp only [Act.put, List.getElem_toArray, List.getElem_cons_zero, List.getElem_cons_succ, List.setIfInBounds_toArray, List.set_cons_zero, List.set_cons_succ]
  refine wpAnyH_done (by kernel_rfl) ?_ _
  go_wp2_with fail
  go_ret
  exact ⟨HR.out.symm ▸ rfl, HG0.out.trans hS4⟩
end Go.Proofs.Ytpifleheammanaa

namespace Go.Proofs.Ytpifleheammanaa
open Go.RowKit Go.Sort
set_option linter.unusedSimpArgs false
set_option linter.unusedVariables false

theorem enterJ : ∀ args w, (callFunc 62 args).run Try.prog w = .ok (.enter 62 args) w := enters_of Try.func62 (by kernel_rfl) rfl
instance : Inhabited Jb := ⟨⟨⟨#[]⟩, ⟨#[]⟩, 0, 0, 0, 0, none, 0, 0, ⟨#[]⟩, ⟨#[]⟩, 0, 0, ⟨#[]⟩, 0⟩⟩
theorem swoJ : SWO (ltOf cfJ) where
  irrefl x := by show decide (cfJ x x < 0) = false; rw [cfJ_go]; exact goB_irrefl x
  trans x y z h1 h2 := by
    have h1' : goB x y = true := by rw [← cfJ_go]; exact h1
    have h2' : goB y z = true := by rw [← cfJ_go]; exact h2
    show decide (cfJ x z < 0) = true; rw [cfJ_go]; exact goB_trans h1' h2'
  ntrans x y z h1 h2 := by
    have h1' : goB x y = false := by rw [← cfJ_go]; exact h1
    have h2' : goB y z = false := by rw [← cfJ_go]; exact h2
    show decide (cfJ x z < 0) = false; rw [cfJ_go]; exact goB_ntrans h1' h2'
theorem anyJ : StJ.CmpAny Jb.cells cfJ 62 #[] := ⟨fun x => x.cells_length, fun x => x.cells_one, swoJ, enterJ, fun x y W => cmpJ_any x y W⟩
theorem sorted_weak {m : Mc} {t : Kt} {l : List Jb} {W : List Nat} (h1 : W.Perm (List.range (l.filter (wkJ m t)).length)) (h2 : W.Pairwise (Fore fun i y => ltOf cfJ ((l.filter (wkJ m t)).getD i default) ((l.filter (wkJ m t)).getD y default))) : (W.map fun i => (l.filter (wkJ m t)).getD i default) = weakJ m t l := by
  have hW : ∀ i ∈ W, i < (l.filter (wkJ m t)).length := fun i hi => List.mem_range.1 (h1.subset hi)
  have e : ∀ i, i < (l.filter (wkJ m t)).length → (l.filter (wkJ m t)).getD i default = jat (l.filter (wkJ m t)) i := by
    intro i hi
    rw [jat_at hi]
    simp [List.getD, List.getElem?_eq_getElem hi]
  refine (List.map_congr_left fun i hi => e i (hW i hi)).trans (weakJ_one h1 ?_)
  · refine List.Pairwise.imp_of_mem (fun {x y} hx hy h => ?_) h2
    unfold Fore at h ⊢
    simp only at h ⊢
    rw [e x (hW x hx), e y (hW y hy)] at h
    unfold ltOf at h
    rwa [cfJ_go, cfJ_go] at h

set_option maxHeartbeats 12800000 in
set_option maxRecDepth 100000 in
theorem vweaker_any (m : Mc) (A : Option Addr) (n cap : Nat) (l : List Jb) (t : Kt) (w : World) (hn : Hid (n = l.length)) (hl : n ≤ 1000000) (hA : Hid (RdJ w A l)) :
    Calls Try.prog 48 #[.agg m.arr, .slice A n cap, .agg t.arr] w fun e w' => RetJ w.heap.size w' e (weakJ m t l) ∧ Below w.heap.size w w' := by
  go_enter Try.func48, Try.ntmps48
  have HM0 := Lib.hid (show Bk ((w.alloc (.cells m.arr 37)).alloc (.cells t.arr 28)) w.heap.size 37 m.arr from (Bk.fresh w _ _).later ((Below.refl _ _).alloc (Nat.le_refl _) _))
  have HT0 := Lib.hid (show Bk ((w.alloc (.cells m.arr 37)).alloc (.cells t.arr 28)) (w.heap.size + 1) 28 t.arr from Bk.freshAt _ _ _ (by simp))
  have hB0 : Below w.heap.size w ((w.alloc (.cells m.arr 37)).alloc (.cells t.arr 28)) := ((Below.refl _ _).alloc (Nat.le_refl _) _).alloc (by simp) _
  go_wp2_with fail
  go_loopw [7, 12] (fun vo i wr => ∃ k : Nat, k ≤ n ∧ i = .int .i64 k ∧ Hid (OwnK wr (w.heap.size + 2) 45 13 vo (cellsJ ((l.take k).filter (wkJ m t)))) ∧ Hid (Bk wr w.heap.size 37 m.arr) ∧ Hid (Bk wr (w.heap.size + 1) 28 t.arr) ∧ Below w.heap.size w wr) (fun _ i wr => n - (intOf i).toNat)
  case atStart => exact ⟨0, Nat.zero_le _, rfl, (show OwnK _ _ _ _ _ (cellsJ ((l.take 0).filter (wkJ m t))) from OwnK.nil _ _ _ _), HM0, HT0, hB0⟩
  case round =>
    clear HM0 HT0 hB0
    obtain ⟨k, hk, rfl, HO, HMb, HTb, hb⟩ := hrel
    have lt1 : w.heap.size + 1 < wr.heap.size := HTb.out.here
    have lt0 : w.heap.size < wr.heap.size := by omega
    by_cases hlt : k < n
    · have hlk : k < l.length := by have := hn.out; omega
      obtain ⟨E, hE⟩ : ∃ E, E = cellsJ ((l.take k).filter (wkJ m t)) := ⟨_, rfl⟩
      have h7 := HO.out
      rw [← hE] at h7
      have hEl : E.length ≤ k := by rw [hE, cellsJ_length]; exact Nat.le_trans (List.length_filter_le _ _) (by rw [List.length_take]; omega)
      obtain ⟨g, o, hAg, hg, hj⟩ := (hA.out.later hb).at hlk
      subst hAg
      have hst := filter_takeJ (wkJ m t) hlk
      obtain ⟨j, hjk⟩ : ∃ j, j = l[k] := ⟨_, rfl⟩
      rw [← hjk] at hj hst
      have HJ := Lib.hid hj; have HO7 := Lib.hid h7; have HE := Lib.hid hE; have HST := Lib.hid hst
      clear hj h7 hE hst HO hjk
      cases he : sE j.nd m.nm
      · have he' : (j.nd.toList == m.nm.toList) = false := he
        have HE2 : Hid (cellsJ ((l.take (k + 1)).filter (wkJ m t)) = E) := by
          show _ = _
          rw [HST.out, HE.out, show wkJ m t j = false by unfold wkJ; rw [he]; rfl]; simp
        clear he HST HE
        go_wp2_with (first | (with_reducible refine load_rg rfl 45 _ rfl g (o + k * 13) rfl j.arr _ HJ.out.rg Try.underlying45 rfl (by kernel_rfl) ?_) | ((with_reducible refine store_bk rfl 45 (.tmp 9) (.tmp 15) rfl wr.heap.size 0 j.arr rfl rfl 45 _ j.arr (Bk.fresh _ _ _) (by kernel_rfl) (by simp) (by kernel_rfl) rfl ?_); intro w1 hB1 hg1 hs1; have bl1 : Below wr.heap.size wr w1 := grown_below ((Below.refl _ _).alloc (Nat.le_refl _) _) hg1 (Nat.le_refl _); have HX := Lib.hid hB1; have c11 : w1.cell? ⟨wr.heap.size, 11, none⟩ = some (.string j.nd) := hB1.cellAt 11; have c2 : w1.cell? ⟨wr.heap.size, 2, none⟩ = some (.int .i64 j.pr) := hB1.cellAt 2; clear hB1 hg1 hs1; have HM1 := Lib.hid (HMb.out.later bl1); have HT1 := Lib.hid (HTb.out.later bl1); have cm : w1.cell? ⟨w.heap.size, 0, none⟩ = some (.string m.nm) := HM1.out.cellAt 0; have cp : w1.cell? ⟨w.heap.size + 1, 2, none⟩ = some (.int .i64 t.pr) := HT1.out.cellAt 2; have hb1 : Below w.heap.size w w1 := hb.trans (bl1.mono hb.size)))
        go_round
        case rel => exact ⟨k + 1, by omega, by go_num, (by show OwnK _ _ _ _ _ _; rw [HE2.out]; exact HO7.out.below bl1), HM1, HT1, hb1⟩
        case measure => simp [intOf]; omega
      · have he' : (j.nd.toList == m.nm.toList) = true := he
        by_cases hp : j.pr < t.pr
        case neg =>
          have hp' : decide (j.pr < t.pr) = false := decide_eq_false hp
          have HE2 : Hid (cellsJ ((l.take (k + 1)).filter (wkJ m t)) = E) := by
            show _ = _
            rw [HST.out, HE.out, show wkJ m t j = false by unfold wkJ; rw [hp', Bool.and_false]]; simp
          clear he hp HST HE
          go_wp2_with (first | (with_reducible refine load_rg rfl 45 _ rfl g (o + k * 13) rfl j.arr _ HJ.out.rg Try.underlying45 rfl (by kernel_rfl) ?_) | ((with_reducible refine store_bk rfl 45 (.tmp 9) (.tmp 15) rfl wr.heap.size 0 j.arr rfl rfl 45 _ j.arr (Bk.fresh _ _ _) (by kernel_rfl) (by simp) (by kernel_rfl) rfl ?_); intro w1 hB1 hg1 hs1; have bl1 : Below wr.heap.size wr w1 := grown_below ((Below.refl _ _).alloc (Nat.le_refl _) _) hg1 (Nat.le_refl _); have HX := Lib.hid hB1; have c11 : w1.cell? ⟨wr.heap.size, 11, none⟩ = some (.string j.nd) := hB1.cellAt 11; have c2 : w1.cell? ⟨wr.heap.size, 2, none⟩ = some (.int .i64 j.pr) := hB1.cellAt 2; clear hB1 hg1 hs1; have HM1 := Lib.hid (HMb.out.later bl1); have HT1 := Lib.hid (HTb.out.later bl1); have cm : w1.cell? ⟨w.heap.size, 0, none⟩ = some (.string m.nm) := HM1.out.cellAt 0; have cp : w1.cell? ⟨w.heap.size + 1, 2, none⟩ = some (.int .i64 t.pr) := HT1.out.cellAt 2; have hb1 : Below w.heap.size w w1 := hb.trans (bl1.mono hb.size)))
          go_round
          case rel => exact ⟨k + 1, by omega, by go_num, (by show OwnK _ _ _ _ _ _; rw [HE2.out]; exact HO7.out.below bl1), HM1, HT1, hb1⟩
          case measure => simp [intOf]; omega
        case pos =>
          have hp' : decide (j.pr < t.pr) = true := decide_eq_true hp
          have HE2 : Hid (cellsJ ((l.take (k + 1)).filter (wkJ m t)) = E ++ cellsJ [j]) := by
            show _ = _
            rw [HST.out, HE.out, show wkJ m t j = true by unfold wkJ; rw [he, hp']; rfl, cellsJ_append]; simp
          clear he hp HST HE
          go_wp2_with (first | (with_reducible refine load_rg rfl 45 _ rfl g (o + k * 13) rfl j.arr _ HJ.out.rg Try.underlying45 rfl (by kernel_rfl) ?_) | ((with_reducible refine store_bk rfl 45 (.tmp 9) (.tmp 15) rfl wr.heap.size 0 j.arr rfl rfl 45 _ j.arr (Bk.fresh _ _ _) (by kernel_rfl) (by simp) (by kernel_rfl) rfl ?_); intro w1 hB1 hg1 hs1; have bl1 : Below wr.heap.size wr w1 := grown_below ((Below.refl _ _).alloc (Nat.le_refl _) _) hg1 (Nat.le_refl _); have HX := Lib.hid hB1; have c11 : w1.cell? ⟨wr.heap.size, 11, none⟩ = some (.string j.nd) := hB1.cellAt 11; have c2 : w1.cell? ⟨wr.heap.size, 2, none⟩ = some (.int .i64 j.pr) := hB1.cellAt 2; clear hB1 hg1 hs1; have HM1 := Lib.hid (HMb.out.later bl1); have HT1 := Lib.hid (HTb.out.later bl1); have cm : w1.cell? ⟨w.heap.size, 0, none⟩ = some (.string m.nm) := HM1.out.cellAt 0; have cp : w1.cell? ⟨w.heap.size + 1, 2, none⟩ = some (.int .i64 t.pr) := HT1.out.cellAt 2; have hb1 : Below w.heap.size w w1 := hb.trans (bl1.mono hb.size); have HO1 := Lib.hid (HO7.out.below bl1)) | (with_reducible refine load_bk rfl 45 _ rfl wr.heap.size 0 rfl 45 j.arr j.arr _ HX.out (Part.whole _) Try.underlying45 rfl (by kernel_rfl) ?_) | ((with_reducible refine append_k _ rfl (.tmp 30) (.tmp 32) 23 rfl (w.heap.size + 2) 45 _ 13 160 Try.underlying23 infoJ rfl (by omega) u7 E rfl (HO1.out.alloc _) ⟨w1.heap.size, 0, none⟩ 1 1 (cellsJ [j]) rfl (fresh_k w1 13 _ _ rfl) (cellsJ_k _) (cellsJ_one _) rfl (by simp [cellsJ, maxLen] at hEl ⊢; omega) (by simp [cellsJ] at hEl ⊢; omega) (by have := HT1.out.here; simp; omega) ?_); intro u7' w3 hO3 hg3))
          go_round
          case rel => exact ⟨k + 1, by omega, by go_num, (by show OwnK _ _ _ _ _ _; rw [HE2.out]; exact hO3), (HM1.out.later ((Below.refl _ _).alloc (Nat.le_refl _) _)).stays hg3 (fun e => by have := HO1.out.block _ e.symm; omega), (HT1.out.later ((Below.refl _ _).alloc (Nat.le_refl _) _)).stays hg3 (fun e => by have := HO1.out.block _ e.symm; omega), (hb1.alloc hb1.size _).grown hg3 (by have := HT1.out.here; simp; omega) (fun g e => by have := HO1.out.block _ e; omega)⟩
          case measure => simp [intOf]; omega
    · have hk' : k = n := by omega
      subst hk'
      have h := HO.out
      rw [show l.take k = l by rw [hn.out]; exact List.take_length] at h
      obtain ⟨B, c, hv, hr', hc1, hc2, _⟩ := h.sl
      have hv' := hv
      rw [cellsJ_length] at hv'
      obtain ⟨nf, hnf⟩ : ∃ nf, nf = (l.filter (wkJ m t)).length := ⟨_, rfl⟩
      have hnl : nf ≤ 1000000 := by rw [hnf]; exact Nat.le_trans (List.length_filter_le _ _) (by have := hn.out; omega)
      rw [← hnf] at hv'
      have k1 := fun (W : World) (h : OwnK W (w.heap.size + 2) 45 13 (.slice B nf c) ((l.filter (wkJ m t)).map Jb.cells)) (hs : w.heap.size + 2 ≤ W.heap.size) => StJ.stable_own anyJ (l := l.filter (wkJ m t)) (w := W) (base := w.heap.size + 2) (v := .slice B nf c) rfl hnf h hs (by omega)
      have K1 := Lib.hid k1
      subst hv'
      have HO7 := Lib.hid h
      have HW : Hid (∀ W : List Nat, W.Perm (List.range (l.filter (wkJ m t)).length) → W.Pairwise (Fore fun i y => ltOf cfJ ((l.filter (wkJ m t)).getD i default) ((l.filter (wkJ m t)).getD y default)) → (W.map fun i => (l.filter (wkJ m t)).getD i default) = weakJ m t l) := fun W h1 h2 => sorted_weak h1 h2
      clear k1 h hr' hc1 hc2 hv hnf HO
      go_wp2_with fail
      refine (K1.out _ HO7.out (by omega)).mono ?_; rintro e w2 ⟨rfl, W, hW1, hW2, hO2, hb2⟩
      rw [HW.out W hW1 hW2] at hO2
      have HO2 := Lib.hid hO2
      clear hW1 hW2 hO2
      go_wp2_with fail
      go_ret
      exact ⟨⟨_, rfl, OwnK.base HO2.out (by omega)⟩, hb.trans (hb2.mono (by omega))⟩
end Go.Proofs.Ytpifleheammanaa

namespace Go.Proofs.Ytpifleheammanaa
open Go.RowKit
set_option linter.unusedSimpArgs false
set_option linter.unusedVariables false

/-- A call has returned these jobs, or none, and whether there is a plan. -/
def RetO (b : Nat) (w : World) (e : Ending) (r : Option (List Jb)) : Prop := ∃ A c, e = .returned (.tuple #[.slice A (r.getD []).length c, .bool r.isSome]) ∧ RdJ w A (r.getD []) ∧ (r.getD []).length ≤ c ∧ c ≤ 9223372036854775807 ∧ ∀ a, A = some a → b ≤ a.block
theorem OwnK.past {w w' : World} {b0 k g : Nat} {e : TypeId} {v : Value} {l : List (List Value)} (h : OwnK w b0 e k v l) (hg : w.grownBy w' (some g)) (hlt : g < b0) : OwnK w' b0 e k v l :=
  ⟨h.1, World.ownsRow.kept h.2 hg (by
    cases hv : v.ownBlock with
    | none => exact .inl rfl
    | some x => exact .inr fun e => by injection e with e; have := h.block x hv; omega)⟩
theorem RdJ.take {w : World} {A : Option Addr} {l : List Jb} (h : RdJ w A l) (k : Nat) : RdJ w A (l.take k) := by
  have := RdK.take h k
  unfold RdJ cellsJ
  rw [List.map_take]; exact this

set_option maxHeartbeats 12800000 in
set_option maxRecDepth 100000 in
theorem vmake_any (m : Mc) (ml : List Lb) (A : Option Addr) (n cap : Nat) (l : List Jb) (t : Kt) (tl : List Lb) (w : World) (hn : Hid (n = l.length)) (hl : n ≤ 1000000) (hA : Hid (RdJ w A l)) (h4 : Hid (why m ml t tl l = 4)) (r : Option (List Jb)) (hr : Hid (planJ m ml t tl l = r)) :
    Calls Try.prog 29 #[.agg m.arr, .slice A n cap, .agg t.arr] w fun e w' => RetO w.heap.size w' e r ∧ Below w.heap.size w w' := by
  obtain ⟨p, q, s, hf, _⟩ := why_4 h4.out
  have hpl := planJ_4 h4.out
  rw [hr.out] at hpl
  obtain ⟨W, hW⟩ : ∃ W, W = weak m t l l.length := ⟨_, rfl⟩
  have hWn : W.Nodup := by rw [hW]; exact weak_nodup _
  have hWi : ∀ i ∈ W, i < l.length ∧ (jat l i).nd = m.nm := by rw [hW]; exact weak_in
  rw [← hW] at hpl
  obtain ⟨E, hE⟩ : ∃ E, E = weakJ m t l := ⟨_, rfl⟩
  have hEW : E.length = W.length := by rw [hE, hW]; exact weakJ_len
  have hEat : ∀ i (h : i < E.length) (h2 : i < W.length), E[i] = jat l W[i] := by subst hE hW; exact fun i h _ => weakJ_at h
  have hEl : E.length ≤ 1000000 := by rw [hEW, hW]; exact Nat.le_trans (wk_len _) (by have := hn.out; omega)
  rw [← hE] at hpl
  have kf := fun (W : World) (h : Hid (RdJ W A l)) => freeM_any m A n cap l W hn hl h p q s 0 hf
  have kw := fun (W : World) (h : Hid (RdJ W A l)) => vweaker_any m A n cap l t W hn hl h
  rw [← hE] at kw
  have ka := fun (a b c d e f : Int) (h : adB a b c d e f = true) (W : World) => add_any a b c d e f W
  have kx := fun (a b c d e f : Int) (W : World) => fits_any a b c d e f W
  have KF := Lib.hid kf; have KW := Lib.hid kw; have KA := Lib.hid ka; have KX := Lib.hid kx; have HF := Lib.hid hf; have HP := Lib.hid hpl; have HWn := Lib.hid hWn; have HWi := Lib.hid hWi; have HEW := Lib.hid hEW; have HEat := Lib.hid hEat
  have h0 : Hid (frK m l W 0 = (p, q, s, 0)) := by show _ = _; rw [frK_0]; exact hf
  clear kf kw ka kx hf hpl hWn hWi hEW hEat hE hW
  go_enter Try.func29, Try.ntmps29
  have HM0 := Lib.hid (show Bk ((w.alloc (.cells m.arr 37)).alloc (.cells t.arr 28)) w.heap.size 37 m.arr from (Bk.fresh w _ _).later ((Below.refl _ _).alloc (Nat.le_refl _) _))
  have HT0 := Lib.hid (show Bk ((w.alloc (.cells m.arr 37)).alloc (.cells t.arr 28)) (w.heap.size + 1) 28 t.arr from Bk.freshAt _ _ _ (by simp))
  have hB0 : Below w.heap.size w ((w.alloc (.cells m.arr 37)).alloc (.cells t.arr 28)) := ((Below.refl _ _).alloc (Nat.le_refl _) _).alloc (by simp) _
  go_wp2_with (with_reducible refine load_bk rfl 37 _ rfl w.heap.size 0 rfl 37 m.arr m.arr _ HM0.out (Part.whole _) Try.underlying37 rfl (by kernel_rfl) ?_)
  refine (KF.out _ (hA.out.later hB0)).mono ?_; rintro v w1 ⟨rfl, hb1⟩
  have hB1 : Below w.heap.size w w1 := hB0.trans (hb1.mono hB0.size)
  have HM1 := Lib.hid (HM0.out.later hb1); have HT1 := Lib.hid (HT0.out.later hb1); clear HM0 HT0 hB0 hb1
  have lt1 : w.heap.size + 1 < w1.heap.size := HT1.out.here
  go_wp2_with (first | ((with_reducible refine store_bk rfl 25 (.tmp 8) (.tmp 17) rfl w1.heap.size 0 #[.int .i64 p, .int .i64 q, .int .i64 s] rfl rfl 25 _ #[.int .i64 p, .int .i64 q, .int .i64 s] (Bk.fresh _ _ _) (by kernel_rfl) (by simp) (by kernel_rfl) rfl ?_); intro w2 hR2 hg2 hs2; have bl2 : Below w1.heap.size w1 w2 := grown_below ((Below.refl _ _).alloc (Nat.le_refl _) _) hg2 (Nat.le_refl _); have HR2 := Lib.hid hR2; clear hR2 hg2 hs2; have HM2 := Lib.hid (HM1.out.later bl2); have HT2 := Lib.hid (HT1.out.later bl2); have hB2 : Below w.heap.size w w2 := hB1.trans (bl2.mono hB1.size)) | (with_reducible refine load_bk rfl 37 _ rfl w.heap.size 0 rfl 37 m.arr m.arr _ HM2.out (Part.whole _) Try.underlying37 rfl (by kernel_rfl) ?_) | (with_reducible refine load_bk rfl 28 _ rfl (w.heap.size + 1) 0 rfl 28 t.arr t.arr _ HT2.out (Part.whole _) Try.underlying28 rfl (by kernel_rfl) ?_))
  refine (KW.out _ (hA.out.later hB2)).mono ?_; rintro v w3 ⟨⟨v3, rfl, hO3⟩, hb3⟩
  obtain ⟨B, c, hv, hrd, hc1, hc2⟩ := OwnK.rdj hO3
  clear hrd
  subst hv
  obtain ⟨N, hN⟩ : ∃ N, N = E.length := ⟨_, rfl⟩
  rw [← hN] at hEl hc1 hO3 ⊢
  have HOw3 := Lib.hid hO3; have HN := Lib.hid hN
  have lt2 : w1.heap.size < w2.heap.size := HR2.out.here
  have hB3 : Below w.heap.size w w3 := hB2.trans (hb3.mono hB2.size)
  have HT3 := Lib.hid (HT2.out.later hb3); have HR3 := Lib.hid (HR2.out.later hb3); clear HM1 HT1 HM2 HT2 HR2 hB1 hB2 hb3 bl2 hO3 hN
  go_wp2_with fail
  go_loopw [25] (fun i wr => ∃ k : Nat, k ≤ N ∧ i = .int .i64 k ∧ (∃ x y z : Int, Hid (frK m l W k = (x, y, z, 0)) ∧ Hid (Bk wr w1.heap.size 25 #[.int .i64 x, .int .i64 y, .int .i64 z])) ∧ Hid (r = (fewest (okK m t l W) (N - k) (k + 1)).map fun k => E.take k) ∧ Hid (Bk wr (w.heap.size + 1) 28 t.arr) ∧ Hid (OwnK wr w2.heap.size 45 13 (.slice B N c) (cellsJ E)) ∧ Below w1.heap.size w3 wr) (fun i wr => N - (intOf i).toNat)
  case atStart => exact ⟨0, Nat.zero_le _, rfl, ⟨p, q, s, h0, HR3⟩, (by show _ = _; rw [HP.out, HN.out, HEW.out]; rfl), HT3, HOw3, Below.refl _ _⟩
  case round =>
    have lt3 : w1.heap.size < w3.heap.size := HR3.out.here
    clear HT3 HR3 HF HP h0 HOw3
    obtain ⟨k, hk, rfl, ⟨x, y, z, HX, HRb⟩, HP, HTb, HOw, hb⟩ := hrel
    have lt0 : w1.heap.size < wr.heap.size := HRb.out.here
    have hbw : Below w.heap.size w wr := hB3.trans (hb.mono (by omega))
    by_cases hlt : k < N
    · have hkE : k < E.length := by have := HN.out; omega
      have hkW : k < W.length := by have := HEW.out; omega
      obtain ⟨A', c', hv', hrd, _, _⟩ := OwnK.rdj HOw.out
      injection hv' with i1 i2 i3
      subst i1 i3
      clear i2
      obtain ⟨g, o, hBg, hg, hj⟩ := hrd.at hkE
      subst hBg
      obtain ⟨j, hjk⟩ : ∃ j, j = E[k] := ⟨_, rfl⟩
      rw [← hjk] at hj
      have hjw : j = jat l W[k] := by rw [hjk]; exact HEat.out k hkE hkW
      obtain ⟨p', q', s', hf, _⟩ := why_4 h4.out
      obtain ⟨x', y', z', hX'⟩ := frK_err hf W (k + 1)
      obtain ⟨ha, e1, e2, e3⟩ := frK_step HWn.out HWi.out hkW HX.out hX'
      rw [← hjw] at ha e1 e2 e3
      have kadd := fun (Z : World) => KA.out x y z j.a j.b j.c ha Z
      rw [ha] at kadd
      simp only [kp_t] at kadd
      rw [← e1, ← e2, ← e3] at kadd
      generalize adE x y z j.a j.b j.c = er at kadd
      have kfit := fun (Z : World) => KX.out t.a t.b t.c x' y' z' Z
      have hok := okK_is (t := t) hX'
      obtain ⟨Fb, hFb⟩ : ∃ Fb, fB t.a t.b t.c x' y' z' = Fb := ⟨_, rfl⟩
      rw [hFb] at kfit hok
      obtain ⟨f', hf'⟩ : ∃ f', N - k = f' + 1 := ⟨N - k - 1, by omega⟩
      have hfe := HP.out
      rw [hf', fewest, hok] at hfe
      have hf2 : f' = N - (k + 1) := by omega
      rw [hf2] at hfe
      have KAdd := Lib.hid kadd; have KFit := Lib.hid kfit; have HFe := Lib.hid hfe; have HJ := Lib.hid hj; have HX2 := Lib.hid hX'
      clear kadd kfit hfe hj hX' hf ha e1 e2 e3 hjw hjk hok hFb hf' hf2 HX HP hrd
      go_wp2_with (first | (with_reducible refine load_rg rfl 45 _ rfl g (o + k * 13) rfl j.arr _ HJ.out.rg Try.underlying45 rfl (by kernel_rfl) ?_) | ((with_reducible refine store_bk rfl 45 (.tmp 12) (.tmp 29) rfl wr.heap.size 0 j.arr rfl rfl 45 _ j.arr (Bk.fresh _ _ _) (by kernel_rfl) (by simp) (by kernel_rfl) rfl ?_); intro w4 hB4 hg4 hs4; have bl4 : Below wr.heap.size wr w4 := grown_below ((Below.refl _ _).alloc (Nat.le_refl _) _) hg4 (Nat.le_refl _); have HJ4 := Lib.hid hB4; clear hB4 hg4 hs4; have HR4 := Lib.hid (HRb.out.later bl4); have HT4 := Lib.hid (HTb.out.later bl4); have HOw4 := Lib.hid (HOw.out.below bl4); have hb4 : Below w1.heap.size w3 w4 := hb.trans (bl4.mono (by omega))) | (with_reducible refine load_bk rfl 25 _ rfl w1.heap.size 0 rfl 25 #[.int .i64 x, .int .i64 y, .int .i64 z] #[.int .i64 x, .int .i64 y, .int .i64 z] _ HR4.out (Part.whole _) Try.underlying25 rfl (by kernel_rfl) ?_) | (with_reducible refine load_bk rfl 25 _ rfl wr.heap.size 3 rfl 45 j.arr #[.int .i64 j.a, .int .i64 j.b, .int .i64 j.c] _ HJ4.out (Part.of rfl) Try.underlying25 rfl (by kernel_rfl) ?_))
      refine (KAdd.out _).mono ?_; rintro v w5 ⟨rfl, hb5⟩
      have HR5 := Lib.hid (HR4.out.later hb5); have HT5 := Lib.hid (HT4.out.later hb5); have HOw5 := Lib.hid (HOw4.out.below hb5); have hB5 : Below w1.heap.size w3 w5 := hb4.trans (hb5.mono (by have := HR4.out.here; omega))
      have lt5 : w1.heap.size < w5.heap.size := HR5.out.here
      clear HR4 HT4 HJ4 hb4 hb5 bl4 HRb HTb HOw HOw4
      go_wp2_with (first | ((with_reducible refine store_bk rfl 25 (.tmp 8) (.tmp 36) rfl w1.heap.size 0 #[.int .i64 x', .int .i64 y', .int .i64 z'] rfl rfl 25 _ #[.int .i64 x', .int .i64 y', .int .i64 z'] HR5.out (by kernel_rfl) (by simp) (by kernel_rfl) rfl ?_); intro w6 hR6 hg6 hs6; have HR6 := Lib.hid hR6; have HT6 := Lib.hid (HT5.out.stays hg6 (by simp; omega)); have HOw6 := Lib.hid (OwnK.past HOw5.out hg6 lt2); have hb6 : Below w1.heap.size w3 w6 := hB5.grown hg6 (by omega) (fun g e => by injection e with e; omega); have lt6 : w1.heap.size < w6.heap.size := HR6.out.here; clear hR6 hs6 hg6) | (with_reducible refine load_bk rfl 25 _ rfl (w.heap.size + 1) 3 rfl 28 t.arr #[.int .i64 t.a, .int .i64 t.b, .int .i64 t.c] _ HT6.out (Part.of rfl) Try.underlying25 rfl (by kernel_rfl) ?_) | (with_reducible refine load_bk rfl 25 _ rfl w1.heap.size 0 rfl 25 #[.int .i64 x', .int .i64 y', .int .i64 z'] #[.int .i64 x', .int .i64 y', .int .i64 z'] _ HR6.out (Part.whole _) Try.underlying25 rfl (by kernel_rfl) ?_))
      refine (KFit.out _).mono ?_; rintro v w7 ⟨rfl, hb7⟩
      have HR7 := Lib.hid (HR6.out.later hb7); have HT7 := Lib.hid (HT6.out.later hb7); have HOw7 := Lib.hid (HOw6.out.below hb7); have hB7 : Below w1.heap.size w3 w7 := hb6.trans (hb7.mono (by omega))
      clear HR6 HT6 HOw6 hb6 hb7 HR5 HT5 HOw5 hB5
      cases Fb
      · have hfe : Hid (r = (fewest (okK m t l W) (N - (k + 1)) (k + 1 + 1)).map fun k => E.take k) := by show _ = _; rw [HFe.out]; rfl
        go_wp2_with fail
        go_round
        case rel => exact ⟨k + 1, by omega, by go_num, ⟨x', y', z', HX2, HR7⟩, hfe, HT7, HOw7, hB7⟩
        case measure => simp [intOf]; omega
      · have hfe : r = some (E.take (k + 1)) := HFe.out
        subst hfe
        obtain ⟨A', c', hv', hrd, hk1, hk2⟩ := OwnK.rdj HOw7.out
        injection hv' with i1 i2 i3
        subst i1 i3
        have hl : ((some (E.take (k + 1)) : Option (List Jb)).getD []).length = k + 1 := by show (E.take (k + 1)).length = k + 1; rw [List.length_take]; omega
        have HRd := Lib.hid (RdJ.take hrd (k + 1)); have HL := Lib.hid hl
        have hB9 : Below w.heap.size w w7 := hB3.trans (hB7.mono (by omega))
        have hgB : w.heap.size ≤ g := by have := HOw7.out.block g rfl; omega
        clear hrd hl
        go_wp2_with fail
        go_ret2
        exact ⟨⟨_, c, by rw [HL.out]; rfl, HRd.out, by rw [HL.out]; omega, hc2, fun a h => by injection h with h; subst h; exact hgB⟩, hB9⟩
    · have hk' : k = N := by omega
      subst hk'
      have hfe : r = none := by have h := HP.out; rw [Nat.sub_self] at h; rw [h]; rfl
      subst hfe
      go_wp2_with fail
      go_ret2
      exact ⟨⟨none, 0, rfl, RdJ.nil _ _, Nat.le_refl _, by omega, fun a h => by cases h⟩, hbw⟩
end Go.Proofs.Ytpifleheammanaa

namespace Go.Proofs.Ytpifleheammanaa
open Go.RowKit
set_option linter.unusedSimpArgs false
set_option linter.unusedVariables false

theorem nmsJ_take {l : List Jb} {a : Nat} (h : a < l.length) : (l.take (a + 1)).map Jb.nm = (l.take a).map Jb.nm ++ [l[a].nm] := by
  rw [List.take_succ_eq_append_getElem h, List.map_append]; rfl

set_option maxHeartbeats 3200000 in
theorem vnames_any (A : Option Addr) (n cap : Nat) (l : List Jb) (w : World) (hn : Hid (n = l.length)) (hl : n ≤ 1000000) (hA : Hid (RdJ w A l)) :
    Calls Try.prog 19 #[.slice A n cap] w fun e w' => RetS w.heap.size w' e (l.map Jb.nm) ∧ Below w.heap.size w w' := by
  go_enter Try.func19, Try.ntmps19
  go_wp2_with fail
  go_loopw [3, 8] (fun vo i wr => ∃ a : Nat, a ≤ n ∧ i = .int .i64 a ∧ Hid (OwnK wr w.heap.size 9 1 vo (cellsS ((l.take a).map Jb.nm))) ∧ Below w.heap.size w wr) (fun _ i wr => n - (intOf i).toNat)
  case atStart => exact ⟨0, Nat.zero_le _, rfl, (show OwnK _ _ _ _ _ (cellsS ((l.take 0).map Jb.nm)) from OwnK.nil _ _ _ _), Below.refl _ _⟩
  case round =>
    obtain ⟨a, ha, rfl, HO, hb⟩ := hrel
    by_cases haq : a < n
    · have hal : a < l.length := by have := hn.out; omega
      obtain ⟨g, o, rfl, hg, hj⟩ := (hA.out.later hb).at hal
      have hs := nmsJ_take hal
      obtain ⟨j, hjk⟩ : ∃ j, j = l[a] := ⟨_, rfl⟩
      rw [← hjk] at hj hs
      have HJ := Lib.hid hj; have HS := Lib.hid hs
      obtain ⟨T, hT⟩ : ∃ T, T = cellsS ((l.take a).map Jb.nm) := ⟨_, rfl⟩
      have hlen : T.length ≤ a := by rw [hT, cellsS_length, List.length_map, List.length_take]; omega
      have HO1 := HO.out
      rw [← hT] at HO1
      have HQ := Lib.hid HO1; have HT := Lib.hid hT
      clear hs hj hjk HO HO1 hT
      go_wp2_with (first | (with_reducible refine load_rg rfl 45 _ rfl g (o + a * 13) rfl j.arr _ HJ.out.rg Try.underlying45 rfl (by kernel_rfl) ?_) | ((with_reducible refine store_bk rfl 45 (.tmp 5) (.tmp 11) rfl wr.heap.size 0 j.arr rfl rfl 45 _ j.arr (Bk.fresh _ _ _) (by kernel_rfl) (by simp) (by kernel_rfl) rfl ?_); intro w1 hB1 hg1 hs1; have c0 : w1.cell? ⟨wr.heap.size, 0, none⟩ = some (.string j.nm) := hB1.cellAt 0; have bl1 : Below wr.heap.size wr w1 := grown_below ((Below.refl _ _).alloc (Nat.le_refl _) _) hg1 (Nat.le_refl _); clear hs1 hB1 hg1; have HQ1 := Lib.hid (HQ.out.below bl1); have hb1 : Below w.heap.size w w1 := hb.trans (bl1.mono hb.size)) | ((with_reducible refine append_k _ rfl (.tmp 12) (.tmp 16) 31 rfl w.heap.size 9 _ 1 16 Try.underlying31 infoS rfl (by omega) _ T rfl (HQ1.out.alloc _) ⟨w1.heap.size, 0, none⟩ 1 1 (cellsS [j.nm]) rfl (fresh_k w1 1 _ _ rfl) (cellsS_k _) (cellsS_one _) rfl (by simp [cellsS, maxLen] at hlen ⊢; omega) (by simp [cellsS] at hlen ⊢; omega) (by have := hb1.size; simp; omega) ?_); intro u6' w3 hO3 hg3))
      go_round
      case rel => exact ⟨a + 1, by omega, by go_num, (by show OwnK _ _ _ _ _ _; rw [HS.out, cellsS_append, ← HT.out]; exact hO3), (hb1.alloc hb1.size _).grown hg3 (by have := hb1.size; simp; omega) (fun g e => HQ1.out.block g e)⟩
      case measure => simp [intOf]; omega
    · have haq' : a = n := by omega
      subst haq'
      have h := HO.out
      rw [show l.take a = l by rw [hn.out]; exact List.take_length] at h
      have H := Lib.hid h; clear h
      go_wp2_with fail
      go_ret
      exact ⟨⟨_, rfl, H.out⟩, hb⟩
end Go.Proofs.Ytpifleheammanaa

namespace Go.Proofs.Ytpifleheammanaa
open Go.RowKit
set_option linter.unusedSimpArgs false
set_option linter.unusedVariables false

set_option maxHeartbeats 6400000 in
set_option maxRecDepth 100000 in
theorem vtop_any (m : Mc) (ml : List Lb) (A : Option Addr) (n cap : Nat) (l : List Jb) (t : Kt) (tl : List Lb) (w : World) (hn : Hid (n = l.length)) (hl : n ≤ 1000000) (hA : Hid (RdJ w A l)) (hM : Hid (McOk w m ml)) (hT : Hid (KtOk w t tl)) (r : Option (List Jb)) (hr : Hid (planJ m ml t tl l = r)) :
    Calls Try.prog 18 #[.agg m.arr, .slice A n cap, .agg t.arr] w fun e w' => RetO w.heap.size w' e r ∧ Below w.heap.size w w' := by
  obtain ⟨x, hx⟩ : ∃ x, why m ml t tl l = x := ⟨_, rfl⟩
  have k1 := fun (W : World) (h : Hid (RdJ W A l)) (h2 : Hid (McOk W m ml)) (h3 : Hid (KtOk W t tl)) => why_any m ml A n cap l t tl W hn hl h h2 h3 x hx
  have K1 := Lib.hid k1; have HX := Lib.hid hx; clear k1 hx
  go_enter Try.func18, Try.ntmps18
  have HM0 := Lib.hid (show Bk ((w.alloc (.cells m.arr 37)).alloc (.cells t.arr 28)) w.heap.size 37 m.arr from (Bk.fresh w _ _).later ((Below.refl _ _).alloc (Nat.le_refl _) _))
  have HT0 := Lib.hid (show Bk ((w.alloc (.cells m.arr 37)).alloc (.cells t.arr 28)) (w.heap.size + 1) 28 t.arr from Bk.freshAt _ _ _ (by simp))
  have hB0 : Below w.heap.size w ((w.alloc (.cells m.arr 37)).alloc (.cells t.arr 28)) := ((Below.refl _ _).alloc (Nat.le_refl _) _).alloc (by simp) _
  go_wp2_with (first | (with_reducible refine load_bk rfl 37 _ rfl w.heap.size 0 rfl 37 m.arr m.arr _ HM0.out (Part.whole _) Try.underlying37 rfl (by kernel_rfl) ?_) | (with_reducible refine load_bk rfl 28 _ rfl (w.heap.size + 1) 0 rfl 28 t.arr t.arr _ HT0.out (Part.whole _) Try.underlying28 rfl (by kernel_rfl) ?_))
  refine (K1.out _ (hA.out.later hB0) (hM.out.later hB0) (hT.out.later hB0)).mono ?_; rintro v w1 ⟨rfl, hb1⟩
  have hB1 : Below w.heap.size w w1 := hB0.trans (hb1.mono hB0.size)
  have HM1 := Lib.hid (HM0.out.later hb1); have HT1 := Lib.hid (HT0.out.later hb1); clear HM0 HT0 hB0 hb1
  by_cases h0 : x = 0
  · subst h0
    have hq : r = some [] := by rw [← hr.out]; exact planJ_0 HX.out
    subst hq
    go_wp2_with fail
    go_ret2
    exact ⟨⟨none, 0, rfl, RdJ.nil _ _, Nat.le_refl _, by omega, fun a h => by cases h⟩, hB1⟩
  · have d0 : (x == 0) = false := by simpa using h0
    by_cases h4 : x = 4
    · subst h4
      have k2 := fun (W : World) (h : Hid (RdJ W A l)) => vmake_any m ml A n cap l t tl W hn hl h HX r hr
      have K2 := Lib.hid k2; clear k2 h0
      go_wp2_with (first | (with_reducible refine load_bk rfl 37 _ rfl w.heap.size 0 rfl 37 m.arr m.arr _ HM1.out (Part.whole _) Try.underlying37 rfl (by kernel_rfl) ?_) | (with_reducible refine load_bk rfl 28 _ rfl (w.heap.size + 1) 0 rfl 28 t.arr t.arr _ HT1.out (Part.whole _) Try.underlying28 rfl (by kernel_rfl) ?_))
      refine (K2.out _ (hA.out.later hB1)).mono ?_; rintro v w2 ⟨⟨B, c, rfl, h1, h2, h3, h4⟩, hb2⟩
      have H1 := Lib.hid h1; clear h1
      generalize hq : (r.getD []).length = q at h2 ⊢
      have HQ := Lib.hid hq; clear hq
      go_wp2_with fail
      go_ret2
      exact ⟨⟨B, c, by rw [HQ.out]; rfl, H1.out, by rw [HQ.out]; exact h2, h3, fun a h => by have := h4 a h; have := hB1.size; omega⟩, hB1.trans (hb2.mono hB1.size)⟩
    · have d4 : (x == 4) = false := by simpa using h4
      have hq : r = none := by rw [← hr.out]; exact planJ_no (by rw [HX.out]; exact h0) (by rw [HX.out]; exact h4)
      subst hq
      clear h0 h4
      go_wp2_with fail
      go_ret2
      exact ⟨⟨none, 0, rfl, RdJ.nil _ _, Nat.le_refl _, by omega, fun a h => by cases h⟩, hB1⟩

set_option maxHeartbeats 6400000 in
theorem vplan_any (m : Mc) (ml : List Lb) (A : Option Addr) (n cap : Nat) (l : List Jb) (t : Kt) (tl : List Lb) (w : World) (hn : Hid (n = l.length)) (hl : n ≤ 1000000) (hA : Hid (RdJ w A l)) (hM : Hid (McOk w m ml)) (hT : Hid (KtOk w t tl)) (r : Option (List Nat)) (hr : Hid (places m ml t tl l = r)) :
    Calls Try.prog 10 #[.agg m.arr, .slice A n cap, .agg t.arr] w fun e w' => RetSB w.heap.size w' e (namesAt l (r.getD [])) r.isSome ∧ Below w.heap.size w w' := by
  have k1 := fun (W : World) (h : Hid (RdJ W A l)) (h2 : Hid (McOk W m ml)) (h3 : Hid (KtOk W t tl)) => vtop_any m ml A n cap l t tl W hn hl h h2 h3 (r.map fun G => G.map (jat l)) (show planJ m ml t tl l = _ by unfold planJ; rw [hr.out])
  have hj : (r.map fun G => G.map (jat l)).getD [] = (r.getD []).map (jat l) := by cases r <;> rfl
  have hs : (r.map fun G => G.map (jat l)).isSome = r.isSome := by cases r <;> rfl
  have hlen : (r.getD []).length ≤ 1000000 := by
    cases r with
    | none => simp
    | some G => have := places_len hr.out; have := hn.out; simp; omega
  unfold RetO at k1
  rw [hj, hs, List.length_map] at k1
  have hna : ((r.getD []).map (jat l)).map Jb.nm = namesAt l (r.getD []) := (namesAt_is l _).symm
  rw [← hna]
  generalize hE : (r.getD []).map (jat l) = E at k1 hna ⊢
  generalize r.isSome = b at k1 ⊢
  have hEl : (r.getD []).length = E.length := by rw [← hE, List.length_map]
  rw [hEl] at k1 hlen
  have K1 := Lib.hid k1; clear k1 hj hs hE hna hEl
  go_enter Try.func10, Try.ntmps10
  have HM0 := Lib.hid (show Bk ((w.alloc (.cells m.arr 37)).alloc (.cells t.arr 28)) w.heap.size 37 m.arr from (Bk.fresh w _ _).later ((Below.refl _ _).alloc (Nat.le_refl _) _))
  have HT0 := Lib.hid (show Bk ((w.alloc (.cells m.arr 37)).alloc (.cells t.arr 28)) (w.heap.size + 1) 28 t.arr from Bk.freshAt _ _ _ (by simp))
  have hB0 : Below w.heap.size w ((w.alloc (.cells m.arr 37)).alloc (.cells t.arr 28)) := ((Below.refl _ _).alloc (Nat.le_refl _) _).alloc (by simp) _
  go_wp2_with (first | (with_reducible refine load_bk rfl 37 _ rfl w.heap.size 0 rfl 37 m.arr m.arr _ HM0.out (Part.whole _) Try.underlying37 rfl (by kernel_rfl) ?_) | (with_reducible refine load_bk rfl 28 _ rfl (w.heap.size + 1) 0 rfl 28 t.arr t.arr _ HT0.out (Part.whole _) Try.underlying28 rfl (by kernel_rfl) ?_))
  refine (K1.out _ (hA.out.later hB0) (hM.out.later hB0) (hT.out.later hB0)).mono ?_; rintro v w1 ⟨⟨B, c, rfl, h1, h2, h3, _⟩, hb1⟩
  have hB1 : Below w.heap.size w w1 := hB0.trans (hb1.mono hB0.size)
  have H1 := Lib.hid h1
  clear h1
  generalize hq : E.length = q at h2 hlen ⊢
  have HQ : Hid (q = E.length) := hq.symm
  clear hq
  go_wp2_with fail
  refine (vnames_any B q c E _ HQ hlen H1).mono ?_; rintro v w2 ⟨⟨u, rfl, hO⟩, hb2⟩
  have HO := Lib.hid hO; clear hO
  have hB2 : Below w.heap.size w w2 := hB1.trans (hb2.mono hB1.size)
  go_wp2_with fail
  go_ret2
  exact ⟨⟨_, rfl, HO.out.base hB1.size⟩, hB2⟩
end Go.Proofs.Ytpifleheammanaa

namespace Go.Proofs.Ytpifleheammanaa
open Go.RowKit Go.Sort
set_option linter.unusedSimpArgs false
set_option linter.unusedVariables false

/-- The first of three integers that is not 0. -/
def or3 (x y z : Int) : Int := if x = 0 then or2 y z else x
set_option maxHeartbeats 1000000 in
theorem or3_any (x y z : Int) (g : Nat) (w : World) (hg : g < w.heap.size) (c0 : w.cell? ⟨g, 0, none⟩ = some (.int .i64 x)) (c1 : w.cell? ⟨g, 1, none⟩ = some (.int .i64 y)) (c2 : w.cell? ⟨g, 2, none⟩ = some (.int .i64 z)) :
    Calls Try.prog 35 #[.slice (some ⟨g, 0, none⟩) 3 3] w fun e w' => e = .returned (.int .i64 (or3 x y z)) ∧ w = w' := by
  obtain ⟨r, hr⟩ : ∃ r, r = or3 x y z := ⟨_, rfl⟩
  rw [← hr]
  have HR := Lib.hid hr; clear hr
  by_cases h1 : x = 0
  case neg =>
    have hq : r = x := by rw [HR.out]; unfold or3; rw [if_neg h1]
    subst hq
    have h3 : (r != 0) = true := by simpa using h1
    have h4 : (r == 0) = false := by simpa using h1
    clear h1 HR
    go_enter Try.func35, Try.ntmps35
    go_wp2_with fail
    refine wp_loop_rounds 4 ?_
    rw [rounds_succ]
    go_wp2_with fail
    go_ret
    exact ⟨rfl, rfl⟩
  have hq : r = or2 y z := by rw [HR.out]; unfold or3; rw [if_pos h1]
  subst h1
  clear HR
  by_cases h2 : y = 0
  case neg =>
    rw [show or2 y z = y from if_neg h2] at hq
    subst hq
    have h3 : (r != 0) = true := by simpa using h2
    have h4 : (r == 0) = false := by simpa using h2
    clear h2
    go_enter Try.func35, Try.ntmps35
    go_wp2_with fail
    refine wp_loop_rounds 4 ?_
    rw [rounds_succ]
    go_wp2_with fail
    rw [rounds_succ]
    go_wp2_with fail
    go_ret
    exact ⟨rfl, rfl⟩
  rw [show or2 y z = z from if_pos h2] at hq
  subst h2 hq
  by_cases h5 : r = 0
  · subst h5
    go_enter Try.func35, Try.ntmps35
    go_wp2_with fail
    refine wp_loop_rounds 4 ?_
    rw [rounds_succ]
    go_wp2_with fail
    rw [rounds_succ]
    go_wp2_with fail
    rw [rounds_succ]
    go_wp2_with fail
    rw [rounds_succ]
    go_wp2_with fail
    go_ret
    exact ⟨rfl, rfl⟩
  · have h3 : (r != 0) = true := by simpa using h5
    have h4 : (r == 0) = false := by simpa using h5
    clear h5
    go_enter Try.func35, Try.ntmps35
    go_wp2_with fail
    refine wp_loop_rounds 4 ?_
    rw [rounds_succ]
    go_wp2_with fail
    rw [rounds_succ]
    go_wp2_with fail
    rw [rounds_succ]
    go_wp2_with fail
    go_ret
    exact ⟨rfl, rfl⟩
theorem lastJ_nil : lastJ [] = -1 := rfl
theorem lastJ_at {J : List Jb} {k : Nat} (h : J.length = k + 1) : lastJ J = (J[k]'(by omega)).pr := by
  have e : J.length - 1 = k := by omega
  unfold lastJ
  rw [List.getLast?_eq_getElem?, e, List.getElem?_eq_getElem (show k < J.length by omega)]

set_option maxHeartbeats 1000000 in
theorem vlast_any (A : Option Addr) (n cap : Nat) (l : List Jb) (w : World) (hn : Hid (n = l.length)) (hl : n ≤ 1000000) (hA : Hid (RdJ w A l)) :
    Calls Try.prog 37 #[.slice A n cap] w fun e w' => e = .returned (.int .i64 (lastJ l)) ∧ Below w.heap.size w w' := by
  obtain ⟨r, hr⟩ : ∃ r, r = lastJ l := ⟨_, rfl⟩
  rw [← hr]
  have HR := Lib.hid hr; clear hr
  by_cases h : n = 0
  · subst h
    have hl0 : l = [] := List.length_eq_zero_iff.1 hn.out.symm
    have hq : r = -1 := by rw [HR.out, hl0]; rfl
    subst hq
    clear hl0
    go_enter Try.func37, Try.ntmps37
    go_wp2_with fail
    go_ret
    exact ⟨rfl, Below.refl _ _⟩
  · obtain ⟨k, rfl⟩ : ∃ k, n = k + 1 := ⟨n - 1, by omega⟩
    have hk : l.length = k + 1 := hn.out.symm
    have hkl : k < l.length := by omega
    obtain ⟨g, o, rfl, hg, hj⟩ := hA.out.at hkl
    have c2 := hj.pr
    have hq : r = l[k].pr := by rw [HR.out]; exact lastJ_at hk
    rw [← hq] at c2
    have e1 : (((k + 1 : Nat) : Int) == 0) = false := by simp; omega
    have e2 : wrap64 (((k + 1 : Nat) : Int) - 1) = (k : Int) := by simp [wrap64]; omega
    have hj' : (k : Int) < ((k + 1 : Nat) : Int) := by omega
    have e3 : ((k : Int)).toNat = k := by omega
    clear hj hq h hk hkl
    go_enter Try.func37, Try.ntmps37
    go_wp2_with fail
    go_ret
    exact ⟨rfl, Below.refl _ _⟩

section
variable {ops : Array Oper} {o : Oper} {a : Act} {w : World} {K : Act → World → Prop} {Q : Exit → Act → World → Prop}
/-- A slice of three integers. -/
theorem ithree_op (t u v : Tmp) (x y z : Int) (ho : o.op = .buildSlice 50 3 #[(0, .tmp t), (1, .tmp u), (2, .tmp v)]) (hx : a.tmps[t]?.getD undef = .int .i64 x) (hy : a.tmps[u]?.getD undef = .int .i64 y) (hz : a.tmps[v]?.getD undef = .int .i64 z) (h : ∀ g w', g = w.heap.size → w' = w.alloc (.cells #[.int .i64 x, .int .i64 y, .int .i64 z] 3) → K (a.put o.dst (.slice (some ⟨g, 0, none⟩) 3 3)) w') : o.wp Try.prog a w K Q := by
  unfold Oper.wp execOp
  simp only [ho]
  go_simp
  exact h _ _ rfl rfl
end
/-- The comparison of two choices: of their machines' names and their jobs. -/
def cfC (s : ByteArray) (l : List Jb) (s2 : ByteArray) (l2 : List Jb) : Int := or3 (cI l.length l2.length) (cI (lastJ l) (lastJ l2)) (Lib.compareBytes s.data.toList s2.data.toList)

set_option maxHeartbeats 3200000 in
set_option maxRecDepth 100000 in
theorem vcompare_any (s : ByteArray) (A : Option Addr) (n c : Nat) (l : List Jb) (s2 : ByteArray) (A2 : Option Addr) (n2 c2 : Nat) (l2 : List Jb) (w : World) (hn : Hid (n = l.length)) (hl : n ≤ 1000000) (hA : Hid (RdJ w A l)) (hn2 : Hid (n2 = l2.length)) (hl2 : n2 ≤ 1000000) (hA2 : Hid (RdJ w A2 l2)) :
    Calls Try.prog 22 #[.agg #[.string s, .slice A n c], .agg #[.string s2, .slice A2 n2 c2]] w fun e w' => e = .returned (.int .i64 (cfC s l s2 l2)) ∧ Below w.heap.size w w' := by
  have k1 := fun W => compareI_any (n : Int) (n2 : Int) W
  have k2 := fun (W : World) (h : Hid (RdJ W A l)) => vlast_any A n c l W hn hl h
  have k3 := fun (W : World) (h : Hid (RdJ W A2 l2)) => vlast_any A2 n2 c2 l2 W hn2 hl2 h
  have k4 := fun W => compareI_any (lastJ l) (lastJ l2) W
  have k5 := fun W => compare_any s s2 W
  have k6 := fun (x y z : Int) (g : Nat) W => or3_any x y z g W
  obtain ⟨r, hr⟩ : ∃ r, r = cfC s l s2 l2 := ⟨_, rfl⟩
  rw [← hr]
  unfold cfC at hr
  rw [← hn.out, ← hn2.out] at hr
  generalize cI (n : Int) (n2 : Int) = p at k1 hr
  generalize cI (lastJ l) (lastJ l2) = q at k4 hr
  generalize lastJ l = la at k2 k4
  generalize lastJ l2 = lb at k3 k4
  generalize Lib.compareBytes s.data.toList s2.data.toList = u at k5 hr
  have K1 := Lib.hid k1; have K2 := Lib.hid k2; have K3 := Lib.hid k3; have K4 := Lib.hid k4; have K5 := Lib.hid k5; have K6 := Lib.hid k6; have HR := Lib.hid hr; clear k1 k2 k3 k4 k5 k6 hr
  go_enter Try.func22, Try.ntmps22
  have hb0 : Below w.heap.size w ((w.alloc (.cells #[.string s, .slice A n c] 55)).alloc (.cells #[.string s2, .slice A2 n2 c2] 55)) := ((Below.refl _ _).alloc (Nat.le_refl _) _).alloc (by simp) _
  have hA0 : Bk ((w.alloc (.cells #[.string s, .slice A n c] 55)).alloc (.cells #[.string s2, .slice A2 n2 c2] 55)) w.heap.size 55 #[.string s, .slice A n c] := (Bk.fresh w _ _).later ((Below.refl _ _).alloc (Nat.le_refl _) _)
  have hC0 : Bk ((w.alloc (.cells #[.string s, .slice A n c] 55)).alloc (.cells #[.string s2, .slice A2 n2 c2] 55)) (w.heap.size + 1) 55 #[.string s2, .slice A2 n2 c2] := Bk.freshAt _ _ _ (by simp)
  go_wp2_with fail
  generalize hw1 : (w.alloc (.cells #[.string s, .slice A n c] 55)).alloc (.cells #[.string s2, .slice A2 n2 c2] 55) = w1 at hb0 hA0 hC0 ⊢
  clear hw1
  have HP1 := Lib.hid (hA.out.later hb0); have HP2 := Lib.hid (hA2.out.later hb0)
  have lc : w.heap.size + 1 < w1.heap.size := hC0.here
  have HA0 := Lib.hid hA0; have HC0 := Lib.hid hC0
  clear hA0 hC0
  refine wp_region_held_drew (S := fun X => Below w1.heap.size w1 X) (by kernel_rfl) (Below.drew (Below.refl _ _)) (fun hS0 => ?_)
  refine wpAnyH_take (i := 0) (v := ?_) rfl (by kernel_rfl) (by kernel_rfl) (by kernel_rfl) (fun _ _ _ h => h) (Or.inl ⟨by rfl, ?_⟩) hS0 ?_
  rotate_left
  · intro W _; go_simp; try with_reducible rfl
  try simp only [Act.put, List.getElem_toArray, List.getElem_cons_zero, List.getElem_cons_succ, List.setIfInBounds_toArray, List.set_cons_zero, List.set_cons_succ]
  refine wpAnyH_take (i := 1) (v := ?_) rfl (by kernel_rfl) (by kernel_rfl) (by kernel_rfl) (fun _ _ _ h => h) (Or.inl ⟨by rfl, ?_⟩) hS0 ?_
  rotate_left
  · intro W hSW; have hx := (hSW.cell (by show w.heap.size < w1.heap.size; omega)).trans (HA0.out.cellAt 1); go_simp; try with_reducible rfl
  try simp only [Act.put, List.getElem_toArray, List.getElem_cons_zero, List.getElem_cons_succ, List.setIfInBounds_toArray, List.set_cons_zero, List.set_cons_succ]
  refine wpAnyH_take (i := 2) (v := ?_) rfl (by kernel_rfl) (by kernel_rfl) (by kernel_rfl) (fun _ _ _ h => h) (Or.inl ⟨by rfl, ?_⟩) hS0 ?_
  rotate_left
  · intro W _; go_simp; try with_reducible rfl
  try simp only [Act.put, List.getElem_toArray, List.getElem_cons_zero, List.getElem_cons_succ, List.setIfInBounds_toArray, List.set_cons_zero, List.set_cons_succ]
  refine wpAnyH_take (i := 3) (v := ?_) rfl (by kernel_rfl) (by kernel_rfl) (by kernel_rfl) (fun _ _ _ h => h) (Or.inl ⟨by rfl, ?_⟩) hS0 ?_
  rotate_left
  · intro W _; go_simp; try with_reducible rfl
  try simp only [Act.put, List.getElem_toArray, List.getElem_cons_zero, List.getElem_cons_succ, List.setIfInBounds_toArray, List.set_cons_zero, List.set_cons_succ]
  refine wpAnyH_take (i := 4) (v := ?_) rfl (by kernel_rfl) (by kernel_rfl) (by kernel_rfl) (fun _ _ _ h => h) (Or.inl ⟨by rfl, ?_⟩) hS0 ?_
  rotate_left
  · intro W hSW; have hx := (hSW.cell (by show w.heap.size + 1 < w1.heap.size; omega)).trans (HC0.out.cellAt 1); go_simp; try with_reducible rfl
  try simp only [Act.put, List.getElem_toArray, List.getElem_cons_zero, List.getElem_cons_succ, List.setIfInBounds_toArray, List.set_cons_zero, List.set_cons_succ]
  refine wpAnyH_take (i := 5) (v := ?_) rfl (by kernel_rfl) (by kernel_rfl) (by kernel_rfl) (fun _ _ _ h => h) (Or.inl ⟨by rfl, ?_⟩) hS0 ?_
  rotate_left
  · intro W _; go_simp; try with_reducible rfl
  try simp only [Act.put, List.getElem_toArray, List.getElem_cons_zero, List.getElem_cons_succ, List.setIfInBounds_toArray, List.set_cons_zero, List.set_cons_succ]
  refine wpAnyH_take (i := 7) (v := ?_) rfl (by kernel_rfl) (by kernel_rfl) (by kernel_rfl) (fun _ _ _ h => h) (Or.inl ⟨by rfl, ?_⟩) hS0 ?_
  rotate_left
  · intro W _; go_simp; try with_reducible rfl
  try simp only [Act.put, List.getElem_toArray, List.getElem_cons_zero, List.getElem_cons_succ, List.setIfInBounds_toArray, List.set_cons_zero, List.set_cons_succ]
  refine wpAnyH_take (i := 8) (v := ?_) rfl (by kernel_rfl) (by kernel_rfl) (by kernel_rfl) (fun _ _ _ h => h) (Or.inl ⟨by rfl, ?_⟩) hS0 ?_
  rotate_left
  · intro W hSW; have hx := (hSW.cell (by show w.heap.size < w1.heap.size; omega)).trans (HA0.out.cellAt 1); go_simp; try with_reducible rfl
  try simp only [Act.put, List.getElem_toArray, List.getElem_cons_zero, List.getElem_cons_succ, List.setIfInBounds_toArray, List.set_cons_zero, List.set_cons_succ]
  refine wpAnyH_take (i := 10) (v := ?_) rfl (by kernel_rfl) (by kernel_rfl) (by kernel_rfl) (fun _ _ _ h => h) (Or.inl ⟨by rfl, ?_⟩) hS0 ?_
  rotate_left
  · intro W _; go_simp; try with_reducible rfl
  try simp only [Act.put, List.getElem_toArray, List.getElem_cons_zero, List.getElem_cons_succ, List.setIfInBounds_toArray, List.set_cons_zero, List.set_cons_succ]
  refine wpAnyH_take (i := 11) (v := ?_) rfl (by kernel_rfl) (by kernel_rfl) (by kernel_rfl) (fun _ _ _ h => h) (Or.inl ⟨by rfl, ?_⟩) hS0 ?_
  rotate_left
  · intro W hSW; have hx := (hSW.cell (by show w.heap.size + 1 < w1.heap.size; omega)).trans (HC0.out.cellAt 1); go_simp; try with_reducible rfl
  try simp only [Act.put, List.getElem_toArray, List.getElem_cons_zero, List.getElem_cons_succ, List.setIfInBounds_toArray, List.set_cons_zero, List.set_cons_succ]
  refine wpAnyH_take (i := 14) (v := ?_) rfl (by kernel_rfl) (by kernel_rfl) (by kernel_rfl) (fun _ _ _ h => h) (Or.inl ⟨by rfl, ?_⟩) hS0 ?_
  rotate_left
  · intro W _; go_simp; try with_reducible rfl
  try simp only [Act.put, List.getElem_toArray, List.getElem_cons_zero, List.getElem_cons_succ, List.setIfInBounds_toArray, List.set_cons_zero, List.set_cons_succ]
  refine wpAnyH_take (i := 15) (v := ?_) rfl (by kernel_rfl) (by kernel_rfl) (by kernel_rfl) (fun _ _ _ h => h) (Or.inl ⟨by rfl, ?_⟩) hS0 ?_
  rotate_left
  · intro W hSW; have hx := (hSW.cell (by show w.heap.size < w1.heap.size; omega)).trans (HA0.out.cellAt 0); go_simp; try with_reducible rfl
  try simp only [Act.put, List.getElem_toArray, List.getElem_cons_zero, List.getElem_cons_succ, List.setIfInBounds_toArray, List.set_cons_zero, List.set_cons_succ]
  refine wpAnyH_take (i := 16) (v := ?_) rfl (by kernel_rfl) (by kernel_rfl) (by kernel_rfl) (fun _ _ _ h => h) (Or.inl ⟨by rfl, ?_⟩) hS0 ?_
  rotate_left
  · intro W _; go_simp; try with_reducible rfl
  try simp only [Act.put, List.getElem_toArray, List.getElem_cons_zero, List.getElem_cons_succ, List.setIfInBounds_toArray, List.set_cons_zero, List.set_cons_succ]
  refine wpAnyH_take (i := 17) (v := ?_) rfl (by kernel_rfl) (by kernel_rfl) (by kernel_rfl) (fun _ _ _ h => h) (Or.inl ⟨by rfl, ?_⟩) hS0 ?_
  rotate_left
  · intro W hSW; have hx := (hSW.cell (by show w.heap.size + 1 < w1.heap.size; omega)).trans (HC0.out.cellAt 0); go_simp; try with_reducible rfl
  try simp only [Act.put, List.getElem_toArray, List.getElem_cons_zero, List.getElem_cons_succ, List.setIfInBounds_toArray, List.set_cons_zero, List.set_cons_succ]
  refine wpAnyH_ready (rs := [6]) (by kernel_rfl) (by simp) ?_
  refine AllReadyH.cons rfl (fun K hK => ?_) AllReadyH.nil
  go_simp
  refine (K1.out _).mono ?_
  rintro v v1 ⟨rfl, rfl⟩
  go_simp
  refine hK.out _ _ hS0 (fun hS1 => ?_)
  clear hK K
  try simp only [Act.put, List.getElem_toArray, List.getElem_cons_zero, List.getElem_cons_succ, List.setIfInBounds_toArray, List.set_cons_zero, List.set_cons_succ]
  refine wpAnyH_ready (rs := [9]) (by kernel_rfl) (by simp) ?_
  refine AllReadyH.cons rfl (fun K hK => ?_) AllReadyH.nil
  go_simp
  refine (K2.out _ (HP1.out.later hS1)).mono ?_
  rintro v v2 ⟨rfl, hbl⟩
  go_simp
  refine hK.out _ _ (hS1.trans (hbl.mono hS1.size)) (fun hS2 => ?_)
  clear hK K
  try simp only [Act.put, List.getElem_toArray, List.getElem_cons_zero, List.getElem_cons_succ, List.setIfInBounds_toArray, List.set_cons_zero, List.set_cons_succ]
  clear hbl
  refine wpAnyH_ready (rs := [12]) (by kernel_rfl) (by simp) ?_
  refine AllReadyH.cons rfl (fun K hK => ?_) AllReadyH.nil
  go_simp
  refine (K3.out _ (HP2.out.later hS2)).mono ?_
  rintro v v3 ⟨rfl, hbl⟩
  go_simp
  refine hK.out _ _ (hS2.trans (hbl.mono hS2.size)) (fun hS3 => ?_)
  clear hK K
  try simp only [Act.put, List.getElem_toArray, List.getElem_cons_zero, List.getElem_cons_succ, List.setIfInBounds_toArray, List.set_cons_zero, List.set_cons_succ]
  clear hbl
  refine wpAnyH_ready (rs := [13]) (by kernel_rfl) (by simp) ?_
  refine AllReadyH.cons rfl (fun K hK => ?_) AllReadyH.nil
  go_simp
  refine (K4.out _).mono ?_
  rintro v v4 ⟨rfl, rfl⟩
  go_simp
  refine hK.out _ _ hS3 (fun hS4 => ?_)
  clear hK K
  try simp only [Act.put, List.getElem_toArray, List.getElem_cons_zero, List.getElem_cons_succ, List.setIfInBounds_toArray, List.set_cons_zero, List.set_cons_succ]
  refine wpAnyH_ready (rs := [18]) (by kernel_rfl) (by simp) ?_
  refine AllReadyH.cons rfl (fun K hK => ?_) AllReadyH.nil
  go_simp
  refine (K5.out _).mono ?_
  rintro v v5 ⟨rfl, rfl⟩
  go_simp
  refine hK.out _ _ hS4 (fun hS5 => ?_)
  clear hK K
  try simp only [Act.put, List.getElem_toArray, List.getElem_cons_zero, List.getElem_cons_succ, List.setIfInBounds_toArray, List.set_cons_zero, List.set_cons_succ]
  refine wpAnyH_ready (rs := [19]) (by kernel_rfl) (by simp) ?_
  refine AllReadyH.cons rfl (fun K hK => ?_) AllReadyH.nil
  simp only [if_pos, Region.wanted]
  refine ithree_op 11 18 23 p q u rfl rfl rfl rfl ?_
  intro g v6 hg hv6
  subst hg hv6
  refine hK.out _ _ (hS5.alloc hS5.size _) (fun hS6 => ?_)
  clear hK K
  try simp only [Act.put, List.getElem_toArray, List.getElem_cons_zero, List.getElem_cons_succ, List.setIfInBounds_toArray, List.set_cons_zero, List.set_cons_succ]
  refine wpAnyH_ready (rs := [20]) (by kernel_rfl) (by simp) ?_
  refine AllReadyH.cons rfl (fun K hK => ?_) AllReadyH.nil
  go_simp
  refine (K6.out p q u _ _ (by simp) (by simp) (by simp) (by simp)).mono ?_
  rintro v v7 ⟨rfl, rfl⟩
  go_simp
  refine hK.out _ _ hS6 (fun hS7 => ?_)
  clear hK K
  try simp only [Act.put, List.getElem_toArray, List.getElem_cons_zero, List.getElem_cons_succ, List.setIfInBounds_toArray, List.set_cons_zero, List.set_cons_succ]
  refine wpAnyH_take (i := 21) (v := ?_) rfl (by kernel_rfl) (by kernel_rfl) (by kernel_rfl) (fun _ _ _ h => h) (Or.inl ⟨by rfl, ?_⟩) hS7 ?_
  rotate_left
  · intro W _; go_simp; try with_reducible rfl
  try simp only [Act.put, List.getElem_toArray, List.getElem_cons_zero, List.getElem_cons_succ, List.setIfInBounds_toArray, List.set_cons_zero, List.set_cons_succ]
  refine wpAnyH_done (by kernel_rfl) ?_ _
  go_wp2_with fail
  go_ret
  exact ⟨HR.out.symm ▸ rfl, hb0.trans (hS7.mono hb0.size)⟩
end Go.Proofs.Ytpifleheammanaa

namespace Go.Proofs.Ytpifleheammanaa
open Go.RowKit Go.Sort
set_option linter.unusedSimpArgs false
set_option linter.unusedVariables false

theorem RdK.past {w w' : World} {k g : Nat} {A : Option Addr} {l : List (List Value)} (h : RdK w k A l) (hg : w.grownBy w' (some g)) (ha : ∀ a, A = some a → g < a.block) : RdK w' k A l := fun i x hx => by
  obtain ⟨g', o, hA, hr⟩ := h i x hx
  have hlt : g < g' := ha _ hA
  refine ⟨g', o, hA, fun j v hv => ?_⟩
  rw [World.cell?_of_block (hg.block g' (World.block_lt_of_cell? w _ (hr j v hv)) (by simp; omega))]
  exact hr j v hv
/-- The jobs of a choice. -/
def chJ (L : List Ml) (t : Kt) (tl : List Lb) (l : List Jb) (o : Option Ch) : List Jb := match o with | none => [] | some x => ((plansOf L t tl l x.1).getD []).map (jat l)
theorem chG_is (L : List Ml) (t : Kt) (tl : List Lb) (l : List Jb) (o : Option Ch) : chG L t tl l o = (chJ L t tl l o).map Jb.nm := by
  cases o with
  | none => rfl
  | some x => exact namesAt_is l _
section
variable {L : List Ml} {t : Kt} {tl : List Lb} {l : List Jb} {k : Nat} {o : Option Ch} {G : List Nat}
theorem chJ_len (h : cho (plansOf L t tl l) l L k = o) (hl : l.length ≤ 1000000) (hk : k ≤ L.length) : (chJ L t tl l o).length ≤ 1000000 := by
  cases o with
  | none => simp [chJ]
  | some x =>
    obtain ⟨⟨G, h1, h2, h3, h4⟩, _⟩ := cho_is h
    have hxl : x.1 < L.length := by omega
    show (((plansOf L t tl l x.1).getD []).map (jat l)).length ≤ 1000000
    rw [h1, List.length_map]
    rw [plansOf_at hxl] at h1
    have := places_len h1
    show G.length ≤ _
    omega
theorem betr_cf (h : cho (plansOf L t tl l) l L k = o) (ho : o.isSome = true) (G : List Nat) : decide (cfC (nmAt L k) (G.map (jat l)) (chN L o) (chJ L t tl l o) < 0) = betr L k G.length (lastP l G) o := by
  cases o with
  | none => cases ho
  | some x =>
    obtain ⟨b, m, tp⟩ := x
    obtain ⟨⟨G2, h1, h2, h3, h4⟩, _⟩ := cho_is h
    simp only at h1 h2 h3
    have e1 : chJ L t tl l (some (b, m, tp)) = G2.map (jat l) := by unfold chJ; simp only [h1, Option.getD_some]
    rw [e1, betr_some]
    show decide (cfC (nmAt L k) (G.map (jat l)) (nmAt L b) (G2.map (jat l)) < 0) = _
    unfold cfC or3 or2
    rw [← lastP_is, ← lastP_is, ← h3, List.length_map, List.length_map, ← h2]
    by_cases c1 : G.length = m
    · rw [if_pos (cI_zero.2 (by omega)), decide_eq_false (show ¬ G.length < m by omega), decide_eq_true c1]
      simp only [Bool.false_or, Bool.true_and]
      by_cases c2 : lastP l G = tp
      · rw [if_pos (cI_zero.2 c2), decide_eq_false (show ¬ lastP l G < tp by omega), decide_eq_true c2]
        simp only [Bool.false_or, Bool.true_and]
        rw [Bool.eq_iff_iff, decide_eq_true_eq, compareBytes_neg, sL_iff]
      · rw [if_neg (fun e => c2 (cI_zero.1 e)), decide_eq_false c2]
        simp only [Bool.false_and, Bool.or_false]
        rw [decide_eq_decide]; exact cI_neg
    · rw [if_neg (fun e => c1 (by have := cI_zero.1 e; omega)), decide_eq_false c1]
      simp only [Bool.false_and, Bool.or_false]
      rw [decide_eq_decide, cI_neg]; omega
theorem chJ_new (h : plansOf L t tl l k = some G) (m : Nat) (tp : Int) : chJ L t tl l (some (k, m, tp)) = G.map (jat l) := by unfold chJ; simp only [h, Option.getD_some]
end

set_option maxHeartbeats 25600000 in
set_option maxRecDepth 100000 in
theorem vchoose_any (A0 : Option Addr) (N c0 : Nat) (L : List Ml) (A : Option Addr) (n cap : Nat) (l : List Jb) (t : Kt) (tl : List Lb) (w : World) (hN : Hid (N = L.length)) (hNl : N ≤ 1000000) (hL : Hid (RdM w A0 (mcs L))) (hLo : Hid (MsOk w L)) (hn : Hid (n = l.length)) (hl : n ≤ 1000000) (hA : Hid (RdJ w A l)) (hT : Hid (KtOk w t tl)) (r : Option Ch) (hr : Hid (cho (plansOf L t tl l) l L N = r)) :
    Calls Try.prog 13 #[.slice A0 N c0, .slice A n cap, .agg t.arr] w fun e w' => RetC w.heap.size w' e (chN L r) (chG L t tl l r) r.isSome ∧ Below w.heap.size w w' := by
  rw [chG_is]
  go_enter Try.func13, Try.ntmps13
  have HT0 := Lib.hid (show Bk (w.alloc (.cells t.arr 28)) w.heap.size 28 t.arr from Bk.fresh _ _ _)
  have hB0 : Below w.heap.size w (w.alloc (.cells t.arr 28)) := (Below.refl _ _).alloc (Nat.le_refl _) _
  go_wp2_with ((with_reducible refine store_bk rfl 55 (.tmp 9) (.tmp 16) rfl (w.heap.size + 1) 0 #[.string ⟨#[]⟩, .slice none 0 0] rfl rfl 55 _ #[.string ⟨#[]⟩, .slice none 0 0] (Bk.freshAt _ _ _ (by simp)) (by kernel_rfl) (by simp) (by kernel_rfl) rfl ?_); intro w1 hB1 hg1 hs1; have HT1 := Lib.hid ((HT0.out.later ((Below.refl _ _).alloc (Nat.le_refl _) _)).stays hg1 (by simp)); have HC1 := Lib.hid hB1; have hb1 : Below w.heap.size w w1 := grown_below (hB0.alloc (by simp) _) hg1 (by omega); clear hB1 hg1 hs1 HT0 hB0)
  go_loopw [10, 19] (fun v10 i wr => ∃ k : Nat, k ≤ N ∧ i = .int .i64 k ∧ (∃ (oc : Option Ch) (B : Option Addr) (c : Nat), v10 = .bool oc.isSome ∧ Hid (cho (plansOf L t tl l) l L k = oc) ∧ Hid (Bk wr (w.heap.size + 1) 55 #[.string (chN L oc), .slice B (chJ L t tl l oc).length c]) ∧ Hid (RdJ wr B (chJ L t tl l oc)) ∧ Hid (∀ a, B = some a → w.heap.size + 2 ≤ a.block)) ∧ Hid (Bk wr w.heap.size 28 t.arr) ∧ Below w.heap.size w wr) (fun _ i wr => N - (intOf i).toNat)
  case atStart => exact ⟨0, Nat.zero_le _, rfl, ⟨none, none, 0, rfl, (show _ = _ from rfl), HC1, RdJ.nil _ _, (show ∀ a, none = some a → _ from fun a h => by cases h)⟩, HT1, hb1⟩
  case round =>
    clear HT1 hb1 HC1
    obtain ⟨k, hk, rfl, ⟨oc, B, cB, rfl, HC, HBe, HRd, HFr⟩, HTb, hb⟩ := hrel
    have lt0 : w.heap.size + 1 < wr.heap.size := HBe.out.here
    have hJl : (chJ L t tl l oc).length ≤ 1000000 := chJ_len HC.out (by have := hn.out; omega) (by have := hN.out; omega)
    by_cases hlt : k < N
    · have hlk : k < L.length := by have := hN.out; omega
      obtain ⟨g, o, hAg, hg, hm⟩ := (hL.out.later hb).at (i := k) (by simpa [mcs] using hlk)
      subst hAg
      rw [mcs_at hlk] at hm
      obtain ⟨x, hx⟩ : ∃ x, x = L[k] := ⟨_, rfl⟩
      rw [← hx] at hm
      have HMt := Lib.hid hm; clear hm
      have hxo : McOk w x.1 x.2 := by rw [hx]; exact hLo.out.at hlk
      obtain ⟨r', hr'⟩ : ∃ r, places x.1 x.2 t tl l = r := ⟨_, rfl⟩
      have hpl : plansOf L t tl l k = r' := by rw [plansOf_at hlk, ← hx]; exact hr'
      have hnk : nmAt L k = x.1.nm := by rw [nmAt_at hlk, ← hx]
      have ks := fun (W : World) (h1 : Hid (RdJ W A l)) (h2 : Hid (McOk W x.1 x.2)) (h3 : Hid (KtOk W t tl)) => vtop_any x.1 x.2 A n cap l t tl W hn hl h1 h2 h3 (r'.map fun G => G.map (jat l)) (show planJ x.1 x.2 t tl l = _ by unfold planJ; rw [hr'])
      have hGn : (r'.getD []).length ≤ n := by
        cases r' with
        | none => simp
        | some G => have := places_len hr'; have := hn.out; simp; omega
      have KS := Lib.hid ks; have HPl := Lib.hid hpl; have HNk := Lib.hid hnk; have HXo := Lib.hid hxo
      clear ks hpl hnk hxo hx hr'
      go_wp2_with (first | (with_reducible refine load_rg rfl 37 _ rfl g (o + k * 7) rfl x.1.arr _ HMt.out.rg Try.underlying37 rfl (by kernel_rfl) ?_) | ((with_reducible refine store_bk rfl 37 (.tmp 12) (.tmp 22) rfl wr.heap.size 0 x.1.arr rfl rfl 37 _ x.1.arr (Bk.fresh _ _ _) (by kernel_rfl) (by simp) (by kernel_rfl) rfl ?_); intro w4 hB4 hg4 hs4; have bl4 : Below wr.heap.size wr w4 := grown_below ((Below.refl _ _).alloc (Nat.le_refl _) _) hg4 (Nat.le_refl _); have HX4 := Lib.hid hB4; clear hB4 hg4 hs4; have HT4 := Lib.hid (HTb.out.later bl4); have HE4 := Lib.hid (HBe.out.later bl4); have HR4 := Lib.hid (HRd.out.later bl4); have hb4 : Below w.heap.size w w4 := hb.trans (bl4.mono hb.size)) | (with_reducible refine load_bk rfl 37 _ rfl wr.heap.size 0 rfl 37 x.1.arr x.1.arr _ HX4.out (Part.whole _) Try.underlying37 rfl (by kernel_rfl) ?_) | (with_reducible refine load_bk rfl 28 _ rfl w.heap.size 0 rfl 28 t.arr t.arr _ HT4.out (Part.whole _) Try.underlying28 rfl (by kernel_rfl) ?_))
      refine (KS.out _ (hA.out.later hb4) (HXo.out.later hb4) (hT.out.later hb4)).mono ?_; rintro v w5 ⟨⟨B5, c5, rfl, h1, h2, h3, h4⟩, hb5⟩
      have HX5 := Lib.hid (HX4.out.later hb5); have HT5 := Lib.hid (HT4.out.later hb5); have HE5 := Lib.hid (HE4.out.later hb5); have HR5 := Lib.hid (HR4.out.later hb5)
      have hB5 : Below w.heap.size w w5 := hb4.trans (hb5.mono hb4.size)
      have lt5 : w.heap.size + 1 < w5.heap.size := HE5.out.here
      have lx5 : wr.heap.size < w5.heap.size := HX5.out.here
      have h4' : ∀ a, B5 = some a → w.heap.size + 2 ≤ a.block := fun a e => by have := h4 a e; have := HE4.out.here; omega
      have HF5 := Lib.hid h4'
      clear h4 h4' HX4 HT4 HE4 HR4 hb4 hb5 bl4 HTb HBe HRd HMt hg
      cases r' with
      | none =>
        have HC2 : Hid (cho (plansOf L t tl l) l L (k + 1) = oc) := by show _ = _; rw [cho_no HPl.out]; exact HC.out
        clear h1 h2 h3 HPl KS
        go_wp2_with fail
        go_round
        case rel => exact ⟨k + 1, by omega, by go_num, ⟨oc, B, cB, rfl, HC2, HE5, HR5, HFr⟩, HT5, hB5⟩
        case measure => simp [intOf]; omega
      | some G =>
        have hG1 : ((Option.map (fun G => G.map (jat l)) (some G)).getD []) = G.map (jat l) := rfl
        have hG2 : (Option.map (fun G => List.map (jat l) G) (some G)).isSome = true := rfl
        rw [hG1] at h1 h2 ⊢
        rw [hG2]
        have hGn' : G.length ≤ n := hGn
        obtain ⟨E, hE⟩ : ∃ E, E = G.map (jat l) := ⟨_, rfl⟩
        have hEl : E.length ≤ 1000000 := by rw [hE, List.length_map]; omega
        rw [← hE] at h1 h2 ⊢
        obtain ⟨q, hq⟩ : ∃ q, q = E.length := ⟨_, rfl⟩
        rw [← hq] at h2 hEl ⊢
        have H1 := Lib.hid h1; have HQ := Lib.hid hq; have HEE := Lib.hid hE
        clear h1 hq hE hG1 hG2 hGn hGn' KS
        have c0 : w5.cell? ⟨wr.heap.size, 0, none⟩ = some (.string x.1.nm) := HX5.out.cellAt 0
        have HNew : Hid (∀ (m : Nat) (tp : Int), chJ L t tl l (some (k, m, tp)) = E) := fun m tp => by rw [HEE.out]; exact chJ_new HPl.out m tp
        have hNm : ∀ (m : Nat) (tp : Int), chN L (some (k, m, tp)) = x.1.nm := fun m tp => HNk.out
        have HNm := Lib.hid hNm; clear hNm
        cases oc with
        | none =>
          have HC2 : Hid (cho (plansOf L t tl l) l L (k + 1) = some (k, G.length, lastP l G)) := by show _ = _; rw [cho_yes HPl.out, HC.out]; rfl
          go_wp2_with (first | ((with_reducible refine store_bk rfl 55 (.tmp 15) (.tmp 36) rfl w5.heap.size 0 #[.string x.1.nm, .slice B5 q c5] rfl rfl 55 _ #[.string x.1.nm, .slice B5 q c5] (Bk.fresh _ _ _) (by kernel_rfl) (by simp) (by kernel_rfl) rfl ?_); intro w6 hB6 hg6 hs6; have bl6 : Below w5.heap.size w5 w6 := grown_below ((Below.refl _ _).alloc (Nat.le_refl _) _) hg6 (Nat.le_refl _); have HY6 := Lib.hid hB6; clear hB6 hg6 hs6; have HT6 := Lib.hid (HT5.out.later bl6); have HE6 := Lib.hid (HE5.out.later bl6); have HR6 := Lib.hid (HR5.out.later bl6); have H16 := Lib.hid (H1.out.later bl6); have hb6 : Below w.heap.size w w6 := hB5.trans (bl6.mono hB5.size); have lt6 : w.heap.size + 1 < w6.heap.size := HE6.out.here) | (with_reducible refine load_bk rfl 55 _ rfl w5.heap.size 0 rfl 55 #[.string x.1.nm, .slice B5 q c5] #[.string x.1.nm, .slice B5 q c5] _ HY6.out (Part.whole _) Try.underlying55 rfl (by kernel_rfl) ?_) | ((with_reducible refine store_bk rfl 55 (.tmp 9) (.tmp 45) rfl (w.heap.size + 1) 0 #[.string x.1.nm, .slice B5 q c5] rfl rfl 55 _ #[.string x.1.nm, .slice B5 q c5] HE6.out (by kernel_rfl) (by simp) (by kernel_rfl) rfl ?_); intro w8 hB8 hg8 hs8; have HE8 := Lib.hid hB8; have HT8 := Lib.hid (HT6.out.stays hg8 (by simp)); have H18 := Lib.hid (RdK.past H16.out hg8 (fun a e => by have := HF5.out a e; omega)); have hb8 : Below w.heap.size w w8 := hb6.grown hg8 (by omega) (fun g e => by injection e with e; omega); clear hB8 hs8 hg8))
          go_round
          case rel => exact ⟨k + 1, by omega, by go_num, ⟨some (k, G.length, lastP l G), B5, c5, rfl, HC2, (by show Bk _ _ _ _; rw [HNm.out, HNew.out, ← HQ.out]; exact HE8.out), (by show RdJ _ _ _; rw [HNew.out]; exact H18.out), HF5⟩, HT8, hb8⟩
          case measure => simp [intOf]; omega
        | some y =>
          have hcf := betr_cf (k := k) HC.out rfl G
          rw [HNk.out, ← HEE.out] at hcf
          have kc := fun (W : World) (h1 : Hid (RdJ W B5 E)) (h2 : Hid (RdJ W B (chJ L t tl l (some y)))) => vcompare_any x.1.nm B5 q c5 E (chN L (some y)) B (chJ L t tl l (some y)).length cB (chJ L t tl l (some y)) W HQ hEl h1 (show _ = _ from rfl) hJl h2
          obtain ⟨z, hz⟩ : ∃ z, z = cfC x.1.nm E (chN L (some y)) (chJ L t tl l (some y)) := ⟨_, rfl⟩
          rw [← hz] at hcf kc
          obtain ⟨R, hR⟩ : ∃ R, betr L k G.length (lastP l G) (some y) = R := ⟨_, rfl⟩
          have hcy := cho_yes (l := l) (L := L) HPl.out
          rw [HC.out, hR] at hcy
          rw [hR] at hcf
          generalize hJJ : chJ L t tl l (some y) = J at kc HE5 HR5 hJl
          generalize hNN : chN L (some y) = nn at kc HE5
          have KC := Lib.hid kc; have HCY := Lib.hid hcy; have HJJ := Lib.hid hJJ; have HNN := Lib.hid hNN
          clear kc hcy hz hR hJJ hNN
          have hso : (some y).isSome = true := rfl
          rw [hso]
          generalize hJn : J.length = jn at KC HE5 hJl
          have HJn := Lib.hid hJn; clear hJn hso
          go_wp2_with (first | ((with_reducible refine store_bk rfl 55 (.tmp 15) (.tmp 36) rfl w5.heap.size 0 #[.string x.1.nm, .slice B5 q c5] rfl rfl 55 _ #[.string x.1.nm, .slice B5 q c5] (Bk.fresh _ _ _) (by kernel_rfl) (by simp) (by kernel_rfl) rfl ?_); intro w6 hB6 hg6 hs6; have bl6 : Below w5.heap.size w5 w6 := grown_below ((Below.refl _ _).alloc (Nat.le_refl _) _) hg6 (Nat.le_refl _); have HY6 := Lib.hid hB6; clear hB6 hg6 hs6; have HT6 := Lib.hid (HT5.out.later bl6); have HE6 := Lib.hid (HE5.out.later bl6); have HR6 := Lib.hid (HR5.out.later bl6); have H16 := Lib.hid (H1.out.later bl6); have hb6 : Below w.heap.size w w6 := hB5.trans (bl6.mono hB5.size); have lt6 : w.heap.size + 1 < w6.heap.size := HE6.out.here) | (with_reducible refine load_bk rfl 55 _ rfl w5.heap.size 0 rfl 55 #[.string x.1.nm, .slice B5 q c5] #[.string x.1.nm, .slice B5 q c5] _ HY6.out (Part.whole _) Try.underlying55 rfl (by kernel_rfl) ?_) | (with_reducible refine load_bk rfl 55 _ rfl (w.heap.size + 1) 0 rfl 55 #[.string nn, .slice B jn cB] #[.string nn, .slice B jn cB] _ HE6.out (Part.whole _) Try.underlying55 rfl (by kernel_rfl) ?_))
          refine (KC.out _ (H1.out.later bl6) HR6).mono ?_; rintro v w7 ⟨rfl, hb7⟩
          have HT7 := Lib.hid (HT6.out.later hb7); have HE7 := Lib.hid (HE6.out.later hb7); have HY7 := Lib.hid (HY6.out.later hb7); have HR7 := Lib.hid (HR6.out.later hb7); have H17 := Lib.hid (H16.out.later hb7); have hB7 : Below w.heap.size w w7 := hb6.trans (hb7.mono hb6.size)
          have lt7 : w.heap.size + 1 < w7.heap.size := HE7.out.here
          have ly7 : w5.heap.size < w7.heap.size := HY7.out.here
          clear HT6 HE6 HY6 HR6 H16 hb6 hb7 bl6 HT5 HE5 HX5 HR5 hB5 H1 c0 lt5 lx5
          cases R with
          | true =>
            have HC2 : Hid (cho (plansOf L t tl l) l L (k + 1) = some (k, G.length, lastP l G)) := HCY.out
            go_wp2_with (first | (with_reducible refine load_bk rfl 55 _ rfl w5.heap.size 0 rfl 55 #[.string x.1.nm, .slice B5 q c5] #[.string x.1.nm, .slice B5 q c5] _ HY7.out (Part.whole _) Try.underlying55 rfl (by kernel_rfl) ?_) | ((with_reducible refine store_bk rfl 55 (.tmp 9) (.tmp 45) rfl (w.heap.size + 1) 0 #[.string x.1.nm, .slice B5 q c5] rfl rfl 55 _ #[.string x.1.nm, .slice B5 q c5] HE7.out (by kernel_rfl) (by simp) (by kernel_rfl) rfl ?_); intro w8 hB8 hg8 hs8; have HE8 := Lib.hid hB8; have HT8 := Lib.hid (HT7.out.stays hg8 (by simp)); have H18 := Lib.hid (RdK.past H17.out hg8 (fun a e => by have := HF5.out a e; omega)); have hb8 : Below w.heap.size w w8 := hB7.grown hg8 (by omega) (fun g e => by injection e with e; omega); clear hB8 hs8 hg8))
            go_round
            case rel => exact ⟨k + 1, by omega, by go_num, ⟨some (k, G.length, lastP l G), B5, c5, rfl, HC2, (by show Bk _ _ _ _; rw [HNm.out, HNew.out, ← HQ.out]; exact HE8.out), (by show RdJ _ _ _; rw [HNew.out]; exact H18.out), HF5⟩, HT8, hb8⟩
            case measure => simp [intOf]; omega
          | false =>
            have HC2 : Hid (cho (plansOf L t tl l) l L (k + 1) = some y) := HCY.out
            go_wp2_with fail
            go_round
            case rel => exact ⟨k + 1, by omega, by go_num, ⟨some y, B, cB, rfl, HC2, (by show Bk _ _ _ _; rw [HNN.out, HJJ.out, HJn.out]; exact HE7.out), (by show RdJ _ _ _; rw [HJJ.out]; exact HR7.out), HFr⟩, HT7, hB7⟩
            case measure => simp [intOf]; omega
    · have hk' : k = N := by omega
      subst hk'
      have hrr : oc = r := by rw [← HC.out, ← hr.out]
      subst hrr
      have kn := fun (W : World) (h1 : Hid (RdJ W B (chJ L t tl l oc))) => vnames_any B (chJ L t tl l oc).length cB (chJ L t tl l oc) W (show _ = _ from rfl) hJl h1
      generalize hJn : (chJ L t tl l oc).length = jn at kn HBe
      have KN := Lib.hid kn; clear kn hJn
      have cn : wr.cell? ⟨w.heap.size + 1, 0, none⟩ = some (.string (chN L oc)) := HBe.out.cellAt 0
      have cs : wr.cell? ⟨w.heap.size + 1, 1, none⟩ = some (.slice B jn cB) := HBe.out.cellAt 1
      have CN := Lib.hid cn; have CS := Lib.hid cs; clear cn cs
      go_wp2_with fail
      refine wp_region_held_drew (S := fun X => Below wr.heap.size wr X) (by kernel_rfl) (Below.drew (Below.refl _ _)) (fun hS0 => ?_)
      refine wpAnyH_take (i := 0) (v := ?_) rfl (by kernel_rfl) (by kernel_rfl) (by kernel_rfl) (fun _ _ _ h => h) (Or.inl ⟨by rfl, ?_⟩) hS0 ?_
      rotate_left
      · intro W _; go_simp; try with_reducible rfl
      try simp only [Act.put, List.getElem_toArray, List.getElem_cons_zero, List.getElem_cons_succ, List.setIfInBounds_toArray, List.set_cons_zero, List.set_cons_succ]
      refine wpAnyH_take (i := 1) (v := ?_) rfl (by kernel_rfl) (by kernel_rfl) (by kernel_rfl) (fun _ _ _ h => h) (Or.inl ⟨by rfl, ?_⟩) hS0 ?_
      rotate_left
      · intro W hSW; have hx := (hSW.cell (by show w.heap.size + 1 < wr.heap.size; omega)).trans CN.out; go_simp; try with_reducible rfl
      try simp only [Act.put, List.getElem_toArray, List.getElem_cons_zero, List.getElem_cons_succ, List.setIfInBounds_toArray, List.set_cons_zero, List.set_cons_succ]
      refine wpAnyH_take (i := 2) (v := ?_) rfl (by kernel_rfl) (by kernel_rfl) (by kernel_rfl) (fun _ _ _ h => h) (Or.inl ⟨by rfl, ?_⟩) hS0 ?_
      rotate_left
      · intro W _; go_simp; try with_reducible rfl
      try simp only [Act.put, List.getElem_toArray, List.getElem_cons_zero, List.getElem_cons_succ, List.setIfInBounds_toArray, List.set_cons_zero, List.set_cons_succ]
      refine wpAnyH_take (i := 3) (v := ?_) rfl (by kernel_rfl) (by kernel_rfl) (by kernel_rfl) (fun _ _ _ h => h) (Or.inl ⟨by rfl, ?_⟩) hS0 ?_
      rotate_left
      · intro W hSW; have hx := (hSW.cell (by show w.heap.size + 1 < wr.heap.size; omega)).trans CS.out; go_simp; try with_reducible rfl
      try simp only [Act.put, List.getElem_toArray, List.getElem_cons_zero, List.getElem_cons_succ, List.setIfInBounds_toArray, List.set_cons_zero, List.set_cons_succ]
      refine wpAnyH_take (i := 5) (v := ?_) rfl (by kernel_rfl) (by kernel_rfl) (by kernel_rfl) (fun _ _ _ h => h) (Or.inl ⟨by rfl, ?_⟩) hS0 ?_
      rotate_left
      · intro W _; go_simp; try with_reducible rfl
      try simp only [Act.put, List.getElem_toArray, List.getElem_cons_zero, List.getElem_cons_succ, List.setIfInBounds_toArray, List.set_cons_zero, List.set_cons_succ]
      refine wpAnyH_ready (rs := [4]) (by kernel_rfl) (by simp) ?_
      refine AllReadyH.cons rfl (fun K hK => ?_) AllReadyH.nil
      go_simp
      have hBS : Below w.heap.size w _ := hb.trans (hS0.mono hb.size)
      have hzS := hBS.size
      refine (KN.out _ (HRd.out.later hS0)).mono ?_
      rintro v v1 ⟨⟨u, rfl, hO⟩, hbl⟩
      have HO := Lib.hid hO; clear hO
      go_simp
      refine hK.out _ _ (hS0.trans (hbl.mono hS0.size)) (fun hS1 => ?_)
      clear hK K
      try simp only [Act.put, List.getElem_toArray, List.getElem_cons_zero, List.getElem_cons_succ, List.setIfInBounds_toArray, List.set_cons_zero, List.set_cons_succ]
      refine wpAnyH_take (i := 6) (v := ?_) rfl (by kernel_rfl) (by kernel_rfl) (by kernel_rfl) (fun _ _ _ h => h) (Or.inl ⟨by rfl, ?_⟩) hS1 ?_
      rotate_left
      · intro W _; go_simp; try with_reducible rfl
      try simp only [Act.put, List.getElem_toArray, List.getElem_cons_zero, List.getElem_cons_succ, List.setIfInBounds_toArray, List.set_cons_zero, List.set_cons_succ]
      refine wpAnyH_take (i := 7) (v := ?_) rfl (by kernel_rfl) (by kernel_rfl) (by kernel_rfl) (fun _ _ _ h => h) (Or.inl ⟨by rfl, ?_⟩) hS1 ?_
      rotate_left
      · intro W _; go_simp; try with_reducible rfl
      try simp only [Act.put, List.getElem_toArray, List.getElem_cons_zero, List.getElem_cons_succ, List.setIfInBounds_toArray, List.set_cons_zero, List.set_cons_succ]
      refine wpAnyH_take (i := 8) (v := ?_) rfl (by kernel_rfl) (by kernel_rfl) (by kernel_rfl) (fun _ _ _ h => h) (Or.inl ⟨by rfl, ?_⟩) hS1 ?_
      rotate_left
      · intro W _; go_simp; try with_reducible rfl
      try simp only [Act.put, List.getElem_toArray, List.getElem_cons_zero, List.getElem_cons_succ, List.setIfInBounds_toArray, List.set_cons_zero, List.set_cons_succ]
      refine wpAnyH_done (by kernel_rfl) ?_ _
      have hBv : Below w.heap.size w v1 := hb.trans (hS1.mono hb.size)
      go_wp2_with fail
      exact bodyPost_ret (v := .tuple #[.string (chN L oc), u, .bool oc.isSome]) (by simp [results, Try.results13, go_sem]) rfl ⟨⟨_, rfl, HO.out.base hzS⟩, hBv⟩
end Go.Proofs.Ytpifleheammanaa

namespace Go.Proofs.Ytpifleheammanaa
open Go.RowKit
set_option linter.unusedSimpArgs false
set_option linter.unusedVariables false

/-- The machine, the job and the task of the first look. -/
def mcV : Mc := ⟨⟨#[110]⟩, 4, 0, 0, none, 0, 0, true, 0⟩
def jbV : Jb := ⟨⟨#[97]⟩, ⟨#[113]⟩, 0, 4, 0, 0, none, 0, 0, ⟨#[]⟩, ⟨#[]⟩, 0, 0, ⟨#[110]⟩, 0⟩
def ktV : Kt := ⟨⟨#[116]⟩, ⟨#[113]⟩, 1, 1, 0, 0, none, 0, 0, ⟨#[]⟩, ⟨#[]⟩, 0⟩
theorem planV : places mcV [] ktV [] [jbV] = some [0] := by kernel_rfl
theorem okV (w : World) : KtOk w ktV [] := ⟨by decide, by decide, by decide, by decide, LbOk.nil w⟩
theorem moV (w : World) : McOk w mcV [] := ⟨by decide, LbOk.nil w⟩

set_option maxHeartbeats 3200000 in
theorem awake13_any (w : World) : Calls Try.prog 8 #[] w fun e w' => e = .returned (.bool true) ∧ Below w.heap.size w w' := by
  have k1 : ∀ (A : Option Addr) (W : World), Hid (RdJ W A [jbV]) → Calls Try.prog 10 #[.agg mcV.arr, .slice A 1 1, .agg ktV.arr] W fun e w' => RetSB W.heap.size w' e [⟨#[97]⟩] true ∧ Below W.heap.size W w' := fun A W h1 => vplan_any mcV [] A 1 1 [jbV] ktV [] W (show 1 = 1 from rfl) (by omega) h1 (moV W) (okV W) (some [0]) planV
  have K1 := Lib.hid k1; clear k1
  go_enter Try.func8, Try.ntmps8
  go_wp2_with (first | ((with_reducible refine store_bk rfl 37 (.tmp 1) (.tmp 7) rfl w.heap.size 0 mcV.arr rfl rfl 37 _ mcV.arr (Bk.fresh _ _ _) (by kernel_rfl) (by simp) (by kernel_rfl) rfl ?_); intro w1 hM1 hg1 hs1) | (with_reducible refine load_bk rfl 37 _ rfl w.heap.size 0 rfl 37 mcV.arr mcV.arr _ (hM1.later ((Below.refl _ _).alloc (Nat.le_refl _) _)) (Part.whole _) Try.underlying37 rfl (by kernel_rfl) ?_))
  have hJ0 : RdK (w1.alloc (.cells jbV.arr 45)) 13 (some ⟨w.heap.size + 1, 0, none⟩) [jbV.cells] := fresh_k w1 13 jbV.cells 45 (by have := hs1; simp at this; omega)
  have hb1 : Below w.heap.size w (w1.alloc (.cells jbV.arr 45)) := (grown_below ((Below.refl _ _).alloc (Nat.le_refl _) _) hg1 (Nat.le_refl _)).alloc (by have := hs1; simp at this; omega) _
  refine (K1.out _ _ hJ0).mono ?_; rintro r w2 ⟨⟨u, rfl, hO⟩, hb2⟩
  have hB2 := hb1.trans (hb2.mono hb1.size)
  obtain ⟨B, c, hv, hrd, hc1, hc2⟩ := hO.rds
  subst hv
  obtain ⟨g, o, rfl, hg, c0⟩ := hrd.at (i := 0) (by decide)
  rw [show ([⟨#[97]⟩] : List ByteArray)[0] = ⟨#[97]⟩ from rfl, Nat.add_zero] at c0
  rw [show ([⟨#[97]⟩] : List ByteArray).length = 1 from rfl] at *
  clear hM1 hJ0 hg1 hO hrd hs1
  go_wp2_with fail
  go_ret
  exact ⟨rfl, hB2⟩
end Go.Proofs.Ytpifleheammanaa

namespace Go.Proofs.Ytpifleheammanaa
open Go.RowKit
set_option linter.unusedSimpArgs false
set_option linter.unusedVariables false

/-- Is this machine of a size that is looked at? -/
def mfew13 (m : Mc) : Bool := decide (m.n ≤ 20) && decide (m.nm.size ≤ 1000)
/-- Are these machines, so many jobs, so many wanted labels? -/
def few13 (l : List Mc) (k q : Nat) : Bool := decide (l.length ≤ 30) && decide (k ≤ 60) && decide (q ≤ 20) && l.all mfew13
theorem all_takeM13 {l : List Mc} {p : Mc → Bool} {k : Nat} (h : k < l.length) : (l.take (k + 1)).all p = ((l.take k).all p && p l[k]) := by
  rw [List.take_succ_eq_append_getElem h, List.all_append]; simp
theorem all_take_falseM13 {l : List Mc} {p : Mc → Bool} {k : Nat} (h : k < l.length) (hp : p l[k] = false) : l.all p = false := by
  rw [List.all_eq_false]
  exact ⟨l[k], List.getElem_mem h, by simp [hp]⟩

set_option maxHeartbeats 3200000 in
theorem few13_any (A : Option Addr) (n cap : Nat) (l : List Mc) (B : Option Addr) (k c : Nat) (t : Kt) (w : World) (hn : Hid (n = l.length)) (hl : n ≤ 9223372036854775807) (hk : k ≤ 9223372036854775807) (hq : t.n ≤ 9223372036854775807) (hA : Hid (RdM w A l)) :
    Calls Try.prog 9 #[.slice A n cap, .slice B k c, .agg t.arr] w fun e w' => e = .returned (.bool (few13 l k t.n)) ∧ Below w.heap.size w w' := by
  obtain ⟨R, hR⟩ : ∃ R, few13 l k t.n = R := ⟨_, rfl⟩
  rw [hR]
  have HR := Lib.hid hR; clear hR
  by_cases h1 : n ≤ 30
  case neg =>
    have hq : R = false := by rw [← HR.out]; unfold few13; rw [decide_eq_false (by rw [← hn.out]; exact h1)]; rfl
    subst hq
    go_enter Try.func9, Try.ntmps9
    go_wp2_with fail
    go_ret
    exact ⟨rfl, (by (repeat' (first | (with_reducible exact Below.refl _ _) | (with_reducible refine bdrewN ?_ _) | (with_reducible refine Below.drew ?_) | (with_reducible refine Below.setCell ?_ ?_ _) | (with_reducible refine Below.alloc ?_ ?_ _) | (with_reducible exact Nat.le_refl _) | (with_reducible assumption) | omega | (simp only [World.size_alloc, World.size_setCell, World.size_drew, sz_drewN]; omega))))⟩
  have d1 : decide (30 < (n : Int)) = false := by rw [decide_eq_false_iff_not]; omega
  by_cases h2 : k ≤ 60
  case neg =>
    have hq : R = false := by rw [← HR.out]; unfold few13; rw [decide_eq_false h2, Bool.and_false]; rfl
    subst hq
    go_enter Try.func9, Try.ntmps9
    go_wp2_with fail
    go_ret
    exact ⟨rfl, (by (repeat' (first | (with_reducible exact Below.refl _ _) | (with_reducible refine bdrewN ?_ _) | (with_reducible refine Below.drew ?_) | (with_reducible refine Below.setCell ?_ ?_ _) | (with_reducible refine Below.alloc ?_ ?_ _) | (with_reducible exact Nat.le_refl _) | (with_reducible assumption) | omega | (simp only [World.size_alloc, World.size_setCell, World.size_drew, sz_drewN]; omega))))⟩
  have d2 : decide (60 < (k : Int)) = false := by rw [decide_eq_false_iff_not]; omega
  have HB : ∀ u, (w.alloc (.cells t.arr u)).cell? ⟨w.heap.size, 6, none⟩ = some (.slice t.A t.n t.cp) := fun u => (Bk.fresh w u t.arr).cellAt 6
  by_cases h3 : t.n ≤ 20
  case neg =>
    have hq : R = false := by rw [← HR.out]; unfold few13; rw [decide_eq_false h3, Bool.and_false]; rfl
    subst hq
    have hc := HB 28
    clear HB
    go_enter Try.func9, Try.ntmps9
    go_wp2_with fail
    go_ret
    exact ⟨rfl, (by (repeat' (first | (with_reducible exact Below.refl _ _) | (with_reducible refine bdrewN ?_ _) | (with_reducible refine Below.drew ?_) | (with_reducible refine Below.setCell ?_ ?_ _) | (with_reducible refine Below.alloc ?_ ?_ _) | (with_reducible exact Nat.le_refl _) | (with_reducible assumption) | omega | (simp only [World.size_alloc, World.size_setCell, World.size_drew, sz_drewN]; omega))))⟩
  have d3 : decide (20 < (t.n : Int)) = false := by rw [decide_eq_false_iff_not]; omega
  have hq : l.all mfew13 = R := by rw [← HR.out]; unfold few13; rw [decide_eq_true (by rw [← hn.out]; exact h1), decide_eq_true h2, decide_eq_true h3]; simp
  have HQ := Lib.hid hq; clear hq HR
  have hc := HB 28
  clear HB
  go_enter Try.func9, Try.ntmps9
  go_wp2_with fail
  clear hc d3
  go_loopw [7, 24] (fun _ i wr => ∃ j : Nat, j ≤ n ∧ i = .int .i64 j ∧ Hid ((l.take j).all mfew13 = true) ∧ Below w.heap.size w wr) (fun _ i wr => n - (intOf i).toNat)
  case atStart => exact ⟨0, Nat.zero_le _, rfl, (show _ = _ by simp), (by (repeat' (first | (with_reducible exact Below.refl _ _) | (with_reducible refine bdrewN ?_ _) | (with_reducible refine Below.drew ?_) | (with_reducible refine Below.setCell ?_ ?_ _) | (with_reducible refine Below.alloc ?_ ?_ _) | (with_reducible exact Nat.le_refl _) | (with_reducible assumption) | omega | (simp only [World.size_alloc, World.size_setCell, World.size_drew, sz_drewN]; omega))))⟩
  case round =>
    obtain ⟨j, hj, rfl, HF, hb⟩ := hrel
    by_cases hlt : j < n
    · have hlk : j < l.length := by have := hn.out; omega
      obtain ⟨g, o, rfl, hg, hm⟩ := (hA.out.later hb).at hlk
      obtain ⟨x, hx⟩ : ∃ x, x = l[j] := ⟨_, rfl⟩
      rw [← hx] at hm
      have c0 := hm.nm
      have c4 := hm.labs
      clear hm
      by_cases h3 : x.n ≤ 20
      case neg =>
        have hq : R = false := by rw [← HQ.out]; exact all_take_falseM13 hlk (by rw [← hx]; unfold mfew13; rw [decide_eq_false h3]; rfl)
        subst hq
        have HX := Lib.hid hx; clear hx
        go_wp2_with fail
        go_ret
        exact ⟨rfl, hb⟩
      have d3 : decide (20 < (x.n : Int)) = false := by rw [decide_eq_false_iff_not]; omega
      by_cases h4 : x.nm.size ≤ 1000
      case neg =>
        have hq : R = false := by rw [← HQ.out]; exact all_take_falseM13 hlk (by rw [← hx]; unfold mfew13; rw [decide_eq_false h4, Bool.and_false])
        subst hq
        have HX := Lib.hid hx; clear hx
        go_wp2_with fail
        go_ret
        exact ⟨rfl, hb⟩
      have d4 : decide (1000 < (x.nm.size : Int)) = false := by rw [decide_eq_false_iff_not]; omega
      have HF2 : Hid ((l.take (j + 1)).all mfew13 = true) := by show _ = _; rw [all_takeM13 hlk, HF.out, ← hx]; unfold mfew13; rw [decide_eq_true h3, decide_eq_true h4]; rfl
      have HX := Lib.hid hx; clear hx
      go_wp2_with fail
      go_round
      case rel => exact ⟨j + 1, by omega, by go_num, HF2, hb⟩
      case measure => simp [intOf]; omega
    · have hj' : j = n := by omega
      subst hj'
      have hlk : l.take j = l := by rw [hn.out]; exact List.take_length
      have hq : R = true := by rw [← HQ.out, ← HF.out, hlk]
      subst hq
      clear hlk
      go_wp2_with fail
      go_ret
      exact ⟨rfl, hb⟩
end Go.Proofs.Ytpifleheammanaa

namespace Go.Proofs.Ytpifleheammanaa
open Go.RowKit
set_option linter.unusedSimpArgs false
set_option linter.unusedVariables false

set_option maxHeartbeats 6400000 in
set_option maxRecDepth 100000 in
theorem unlike_any (A : Option Addr) (n cap : Nat) (l : List Jb) (w : World) (hn : Hid (n = l.length)) (hl : n ≤ 1000000) (hA : Hid (RdJ w A l)) :
    Calls Try.prog 15 #[.slice A n cap] w fun e w' => (∃ b, e = .returned (.bool b) ∧ (b = true → Unlike l)) ∧ Below w.heap.size w w' := by
  go_enter Try.func15, Try.ntmps15
  go_wp2_with fail
  go_loopw [3, 4, 7] (fun _ _ i wr => ∃ k : Nat, k ≤ n ∧ i = .int .i64 k ∧ Hid (∀ i y, i < k → y < i → (jat l i).nm ≠ (jat l y).nm) ∧ Below w.heap.size w wr) (fun _ _ i wr => n - (intOf i).toNat)
  case atStart => exact ⟨0, Nat.zero_le _, rfl, (show ∀ i y, i < 0 → y < i → (jat l i).nm ≠ (jat l y).nm from fun i y h => absurd h (Nat.not_lt_zero _)), Below.refl _ _⟩
  case round =>
    obtain ⟨k, hk, rfl, HU, hb⟩ := hrel
    by_cases hlt : k < n
    · have hlk : k < l.length := by have := hn.out; omega
      obtain ⟨wo, hwo⟩ : ∃ wo, wo = wr := ⟨_, rfl⟩
      subst hwo
      go_wp2_with fail
      go_loopw [4] (fun i wi => ∃ a : Nat, a ≤ k ∧ i = .int .i64 a ∧ Hid (∀ y, y < a → (jat l k).nm ≠ (jat l y).nm) ∧ Below w.heap.size w wi) (fun i wi => k - (intOf i).toNat)
      case atStart => exact ⟨0, Nat.zero_le _, rfl, (show ∀ y, y < 0 → (jat l k).nm ≠ (jat l y).nm from fun y h => absurd h (Nat.not_lt_zero _)), hb⟩
      case round =>
        clear hb
        obtain ⟨a, ha, rfl, HY, hb⟩ := hrel
        by_cases hak : a < k
        · have hla : a < l.length := by omega
          have hJ := hA.out.later hb
          obtain ⟨g, o, hAg, hg, hj⟩ := hJ.at hlk
          obtain ⟨g2, o2, hAg2, hg2, hj2⟩ := hJ.at hla
          rw [hAg] at hAg2
          injection hAg2 with hAg2
          injection hAg2 with e1 e2
          subst e1 e2
          subst hAg
          have c1 := hj.nm
          have c2 := hj2.nm
          have j1 := jat_at hlk
          have j2 := jat_at hla
          obtain ⟨x, hx⟩ : ∃ x, x = l[k].nm := ⟨_, rfl⟩
          obtain ⟨y, hy⟩ : ∃ y, y = l[a].nm := ⟨_, rfl⟩
          rw [← hx] at c1
          rw [← hy] at c2
          have HXY : Hid (x ≠ y → (jat l k).nm ≠ (jat l a).nm) := fun h => by rw [j1, j2, ← hx, ← hy]; exact h
          clear hj hj2 j1 j2 hx hy hJ hg2
          cases he : sE x y
          · have he' : (x.toList == y.toList) = false := he
            have hne : x ≠ y := fun e => by rw [e, sE_refl] at he; cases he
            have HN : Hid (∀ y, y < a + 1 → (jat l k).nm ≠ (jat l y).nm) := fun z hz => by
              by_cases e : z = a
              · subst e; exact HXY.out hne
              · exact HY.out z (by omega)
            clear he hne HXY HY
            go_wp2_with fail
            refine wp_region_later (by kernel_rfl) (by kernel_rfl) ?_; have hL : ∀ (w : World) (x : Later w) (b o : Nat), b < w.heap.size → x.to.cell? ⟨b, o, none⟩ = w.cell? ⟨b, o, none⟩ := fun w x b o hb => x.cell hb; have hN := Later.some; (repeat (go_big_quiet_step (((fail))))); refine wpQuiet_nil ?_; intro w2 hw2; have hb2 := Later.out hw2; clear hw2 hL hN
            go_wp2_with fail
            go_round
            case rel => exact ⟨a + 1, by omega, by go_num, HN, hb.trans (hb2.mono hb.size)⟩
            case measure => simp [intOf]; omega
          · have he' : (x.toList == y.toList) = true := he
            clear he HY HXY HU
            go_wp2_with fail
            refine wp_region_later (by kernel_rfl) (by kernel_rfl) ?_; have hL : ∀ (w : World) (x : Later w) (b o : Nat), b < w.heap.size → x.to.cell? ⟨b, o, none⟩ = w.cell? ⟨b, o, none⟩ := fun w x b o hb => x.cell hb; have hN := Later.some; (repeat (go_big_quiet_step (((fail))))); refine wpQuiet_nil ?_; intro w2 hw2; have hb2 := Later.out hw2; clear hw2 hL hN
            go_wp2_with fail
            go_ret
            exact ⟨⟨false, rfl, fun h => by cases h⟩, hb.trans (hb2.mono hb.size)⟩
        · have hak' : a = k := by omega
          subst hak'
          have HU2 : Hid (∀ i y, i < a + 1 → y < i → (jat l i).nm ≠ (jat l y).nm) := fun i y hi hy => by
            by_cases e : i = a
            · subst e; exact HY.out y hy
            · exact HU.out i y (by omega) hy
          clear HU HY
          go_wp2_with fail
          go_round
          case rel => exact ⟨a + 1, by omega, by go_num, HU2, hb⟩
          case measure => simp [intOf]; omega
    · have hk' : k = n := by omega
      subst hk'
      go_wp2_with fail
      go_ret
      exact ⟨⟨true, rfl, fun _ => fun i y hi hy => HU.out i y (by have := hn.out; omega) hy⟩, hb⟩

theorem any_takeS {ns : List ByteArray} {a : Nat} (h : a < ns.length) (s : ByteArray) : ((ns.take (a + 1)).any fun x => sE x s) = (((ns.take a).any fun x => sE x s) || sE ns[a] s) := by
  rw [List.take_succ_eq_append_getElem h, List.any_append]; simp
theorem outN_take {ns : List ByteArray} {l : List Jb} {k : Nat} (h : k < l.length) : outN ns (l.take (k + 1)) = outN ns (l.take k) ++ if (ns.any fun s => sE s l[k].nm) then [] else [l[k]] := by
  unfold outN
  rw [filter_takeJ _ h]
  congr 1
  cases (ns.any fun s => sE s l[k].nm) <;> rfl

set_option maxHeartbeats 6400000 in
set_option maxRecDepth 100000 in
theorem outN_any (A : Option Addr) (n cap : Nat) (l : List Jb) (B : Option Addr) (q cq : Nat) (G : List ByteArray) (w : World) (hn : Hid (n = l.length)) (hl : n ≤ 1000000) (hA : Hid (RdJ w A l)) (hq : Hid (q = G.length)) (hql : q ≤ 1000000) (hB : Hid (RdS w B G)) :
    Calls Try.prog 17 #[.slice A n cap, .slice B q cq] w fun e w' => RetJ w.heap.size w' e (outN G l) ∧ Below w.heap.size w w' := by
  go_enter Try.func17, Try.ntmps17
  go_wp2_with fail
  go_loopw [5, 11] (fun vo i wr => ∃ k : Nat, k ≤ n ∧ i = .int .i64 k ∧ Hid (OwnK wr w.heap.size 45 13 vo (cellsJ (outN G (l.take k)))) ∧ Below w.heap.size w wr) (fun _ i wr => n - (intOf i).toNat)
  case atStart => exact ⟨0, Nat.zero_le _, rfl, (show OwnK _ _ _ _ _ (cellsJ (outN G (l.take 0))) from OwnK.nil _ _ _ _), Below.refl _ _⟩
  case round =>
    obtain ⟨k, hk, rfl, HO, hb⟩ := hrel
    by_cases hlt : k < n
    · have hlk : k < l.length := by have := hn.out; omega
      obtain ⟨g, o, hAg, hg, hj⟩ := (hA.out.later hb).at hlk
      subst hAg
      have hst := outN_take (ns := G) hlk
      obtain ⟨j, hjk⟩ : ∃ j, j = l[k] := ⟨_, rfl⟩
      rw [← hjk] at hj hst
      have HST := Lib.hid hst
      obtain ⟨E, hE⟩ : ∃ E, E = cellsJ (outN G (l.take k)) := ⟨_, rfl⟩
      have h7 := HO.out
      rw [← hE] at h7
      have hEl : E.length ≤ k := by rw [hE, cellsJ_length]; exact Nat.le_trans (List.length_filter_le _ _) (by rw [List.length_take]; omega)
      have HJ := Lib.hid hj; have HO7 := Lib.hid h7; have HE := Lib.hid hE
      clear hj h7 hE hst HO hjk
      obtain ⟨wo, hwo⟩ : ∃ wo, wo = wr := ⟨_, rfl⟩
      subst hwo
      go_wp2_with fail
      go_loopw [7, 16] (fun th i wi => ∃ a : Nat, a ≤ q ∧ i = .int .i64 a ∧ th = .bool ((G.take a).any fun x => sE x j.nm) ∧ Below wo.heap.size wo wi) (fun _ i wi => q - (intOf i).toNat)
      case atStart => exact ⟨0, Nat.zero_le _, rfl, (by simp), Below.refl _ _⟩
      case round =>
        obtain ⟨a, ha, rfl, rfl, hbi⟩ := hrel
        have hgi : g < wr.heap.size := by have := hbi.size; omega
        by_cases haq : a < q
        · have haG : a < G.length := by have := hq.out; omega
          obtain ⟨g7, o7, rfl, hg7, c7⟩ := ((hB.out.later hb).later hbi).at haG
          have hct := any_takeS haG j.nm
          obtain ⟨y, hy⟩ : ∃ y, y = G[a] := ⟨_, rfl⟩
          rw [← hy] at c7 hct
          have c0 := (HJ.out.later hbi).nm
          obtain ⟨T, hT⟩ : ∃ T, ((G.take a).any fun x => sE x j.nm) = T := ⟨_, rfl⟩
          rw [hT] at hct ⊢
          have HCT := Lib.hid hct
          clear hy hct hT
          cases T
          · cases he : sE y j.nm
            · have he' : (y.toList == j.nm.toList) = false := he
              have HN : Hid (((G.take (a + 1)).any fun x => sE x j.nm) = false) := by show _ = _; rw [HCT.out, he]; rfl
              clear he HCT
              go_wp2_with fail
              refine wp_region_later (by kernel_rfl) (by kernel_rfl) ?_; have hL : ∀ (w : World) (x : Later w) (b o : Nat), b < w.heap.size → x.to.cell? ⟨b, o, none⟩ = w.cell? ⟨b, o, none⟩ := fun w x b o hb => x.cell hb; have hN := Later.some; (repeat (go_big_quiet_step (((fail))))); refine wpQuiet_nil ?_; intro w2 hw2; have hb2 := Later.out hw2; clear hw2 hL hN
              go_wp2_with fail
              go_round
              case rel => exact ⟨a + 1, by omega, by go_num, by rw [HN.out], hbi.trans (hb2.mono hbi.size)⟩
              case measure => simp [intOf]; omega
            · have he' : (y.toList == j.nm.toList) = true := he
              have HN : Hid (((G.take (a + 1)).any fun x => sE x j.nm) = true) := by show _ = _; rw [HCT.out, he]; rfl
              clear he HCT
              go_wp2_with fail
              refine wp_region_later (by kernel_rfl) (by kernel_rfl) ?_; have hL : ∀ (w : World) (x : Later w) (b o : Nat), b < w.heap.size → x.to.cell? ⟨b, o, none⟩ = w.cell? ⟨b, o, none⟩ := fun w x b o hb => x.cell hb; have hN := Later.some; (repeat (go_big_quiet_step (((fail))))); refine wpQuiet_nil ?_; intro w2 hw2; have hb2 := Later.out hw2; clear hw2 hL hN
              go_wp2_with fail
              go_round
              case rel => exact ⟨a + 1, by omega, by go_num, by rw [HN.out], hbi.trans (hb2.mono hbi.size)⟩
              case measure => simp [intOf]; omega
          · have HN : Hid (((G.take (a + 1)).any fun x => sE x j.nm) = true) := by show _ = _; rw [HCT.out]; rfl
            clear HCT
            go_wp2_with fail
            refine wp_region_later (by kernel_rfl) (by kernel_rfl) ?_; have hL : ∀ (w : World) (x : Later w) (b o : Nat), b < w.heap.size → x.to.cell? ⟨b, o, none⟩ = w.cell? ⟨b, o, none⟩ := fun w x b o hb => x.cell hb; have hN := Later.some; (repeat (go_big_quiet_step (((fail))))); refine wpQuiet_nil ?_; intro w2 hw2; have hb2 := Later.out hw2; clear hw2 hL hN
            go_wp2_with fail
            go_round
            case rel => exact ⟨a + 1, by omega, by go_num, by rw [HN.out], hbi.trans (hb2.mono hbi.size)⟩
            case measure => simp [intOf]; omega
        · have haq' : a = q := by omega
          subst haq'
          have hbo : Below w.heap.size w wr := hb.trans (hbi.mono hb.size)
          have HO8 := Lib.hid (HO7.out.below hbi)
          have HJ8 := Lib.hid (HJ.out.later hbi)
          have hG : G.take a = G := by rw [hq.out]; exact List.take_length
          rw [hG]
          obtain ⟨T, hT⟩ : ∃ T, (G.any fun x => sE x j.nm) = T := ⟨_, rfl⟩
          rw [hT]
          have hs := HST.out
          rw [hT] at hs
          clear HO7 HJ hbi hb hG hT HST
          cases T
          · have HS : Hid (cellsJ (outN G (l.take (k + 1))) = E ++ cellsJ [j]) := by show _ = _; rw [hs, HE.out, cellsJ_append]; rfl
            clear hs HE
            go_wp2_with (first | (with_reducible refine load_rg rfl 45 _ rfl g (o + k * 13) rfl j.arr _ HJ8.out.rg Try.underlying45 rfl (by kernel_rfl) ?_) | ((with_reducible refine append_k _ rfl (.tmp 36) (.tmp 41) 23 rfl w.heap.size 45 _ 13 160 Try.underlying23 infoJ rfl (by omega) u5 E rfl (HO8.out.alloc _) ⟨wr.heap.size, 0, none⟩ 1 1 (cellsJ [j]) rfl (fresh_k wr 13 _ _ rfl) (cellsJ_k _) (cellsJ_one _) rfl (by simp [cellsJ, maxLen] at hEl ⊢; omega) (by simp [cellsJ] at hEl ⊢; omega) (by have := hbo.size; simp; omega) ?_); intro u6' w3 hO3 hg3))
            go_round
            case rel => exact ⟨k + 1, by omega, by go_num, (by show OwnK _ _ _ _ _ _; rw [HS.out]; exact hO3), (hbo.alloc hbo.size _).grown hg3 (by have := hbo.size; simp; omega) (fun g e => HO8.out.block g e)⟩
            case measure => simp [intOf]; omega
          · have HS : Hid (cellsJ (outN G (l.take (k + 1))) = E) := by show _ = _; rw [hs, HE.out]; simp
            clear hs HE
            go_wp2_with fail
            go_round
            case rel => exact ⟨k + 1, by omega, by go_num, (by show OwnK _ _ _ _ _ _; rw [HS.out]; exact HO8.out), hbo⟩
            case measure => simp [intOf]; omega
    · have hk' : k = n := by omega
      subst hk'
      have h := HO.out
      rw [show l.take k = l by rw [hn.out]; exact List.take_length] at h
      have H := Lib.hid h; clear h
      go_wp2_with fail
      go_ret
      exact ⟨⟨_, rfl, H.out⟩, hb⟩
end Go.Proofs.Ytpifleheammanaa
