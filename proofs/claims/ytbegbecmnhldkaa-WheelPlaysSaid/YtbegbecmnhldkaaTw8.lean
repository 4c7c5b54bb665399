/- The document's wheel: Set. Condition: at most 1000 names. -/
import Derived.Test.YtbegbecmnhldkaaTw7
import Derived.Test.YtbegbecmnhldkaaLat
import Derived.Test.YtbegbecmnhldkaaRge
import Derived.Deep.RegionHeld3
namespace Go.Proofs.Ytbegbecmnhldkaa
open Go.RowKit
set_option linter.unusedSimpArgs false
set_option linter.unusedVariables false

set_option maxHeartbeats 25600000 in
set_option maxRecDepth 100000 in
/-- A name gets a vector, in its place. -/
theorem rsetT_any (b r : Nat) (vN vA : Value) (D : List NT) (s : ByteArray) (t : Int) (w : World) (hbig : D.length ≤ 900) (hR : Hid (Ry w b r vN vA D)) (hb : b ≤ w.heap.size) :
    Calls Try.prog 11 #[.pointer (some ⟨r, 0, none⟩), .string s, .int .i64 t] w fun e w' => e = .returned (.tuple #[]) ∧ (∃ vN' vA', Ry w' b r vN' vA' (putT D s t)) ∧ GrP (fun k => k = r) w w' := by
  have KD : Hid (∀ w, Hid (Ry w b r vN vA D) → b ≤ w.heap.size → Calls Try.prog 13 #[.pointer (some ⟨r, 0, none⟩), .string s] w fun e w' => e = .returned (.bool (getT D s).isSome) ∧ (∃ vN' vA', Ry w' b r vN' vA' (delT D s)) ∧ GrP (fun k => k = r) w w') := fun w h hb => rdelT_any b r vN vA D s w (by omega) h hb
  have HBB := Lib.hid hb
  have HBG := Lib.hid hbig
  clear hb hbig
  go_enter Try.func11, Try.ntmps11
  go_wp2_with fail
  refine (KD.out _ hR HBB.out).mono ?_
  rintro e w1 ⟨rfl, ⟨vN1, vA1, hR1⟩, hG1⟩
  have HG1 : Hid (GrP (fun k => k = r) w w1) := hG1
  obtain ⟨E, hE⟩ : ∃ E, E = delT D s := ⟨_, rfl⟩
  have HE := Lib.hid hE
  rw [← hE] at hR1
  obtain ⟨N, hN⟩ : ∃ N, N = E.length := ⟨_, rfl⟩
  have hN9 : N ≤ 900 := by rw [hN, hE]; exact Nat.le_trans (delT_len D s) HBG.out
  obtain ⟨A, c, hv, HRN, hNC, -⟩ := hR1.nm.rds
  rw [List.length_map, ← hN] at hv hNC
  subst hv
  obtain ⟨B, d, hv, HRV, hND, -⟩ := hR1.am.rdi
  rw [List.length_map, ← hN] at hv hND
  subst hv
  have HI1 := Lib.hid hR1
  obtain ⟨X, hX⟩ : ∃ X, X = E.map Prod.fst := ⟨_, rfl⟩
  obtain ⟨Y, hY⟩ : ∃ Y, Y = E.map Prod.snd := ⟨_, rfl⟩
  rw [← hX] at HRN
  rw [← hY] at HRV
  have HRS : Hid (RdS w1 A X) := HRN
  have HRT : Hid (RdK w1 1 B (cellsI Y)) := HRV
  have HNX : Hid (N = X.length) := by show _ = _; rw [hX, List.length_map]; exact hN
  have HNY : Hid (N = Y.length) := by show _ = _; rw [hY, List.length_map]; exact hN
  have HNE := Lib.hid hN
  have HXE := Lib.hid hX
  have HYE := Lib.hid hY
  have HNCS := Lib.hid hNC
  have HNCV := Lib.hid hND
  have HN9 := Lib.hid hN9
  have HNCS2 : Hid ((cellsS X).length ≤ c) := by show _ ≤ _; rw [cellsS_length, ← HNX.out]; exact hNC
  have HNCV2 : Hid ((cellsI Y).length ≤ d) := by show _ ≤ _; rw [cellsI_length, ← HNY.out]; exact hND
  have HWS : Hid (w.heap.size ≤ w1.heap.size) := HG1.out.size
  have FIN : Hid (∀ (k : Nat) (W : World) (v u : Value), k ≤ N → (∀ q ∈ E.take k, sL q.1 s = true) → (∀ h : k < E.length, sL E[k].1 s = false) → Below w1.heap.size w1 W → OwnK W w1.heap.size 9 1 v (cellsS (X.take k ++ [s] ++ X.drop k)) → OwnK W w1.heap.size 3 1 u (cellsI (Y.take k ++ [t] ++ Y.drop k)) →
      (∃ vN' vA', Ry ((W.setCell ⟨r, 0, none⟩ v).setCell ⟨r, 1, none⟩ u) b r vN' vA' (putT D s t)) ∧ GrP (fun k => k = r) w ((W.setCell ⟨r, 0, none⟩ v).setCell ⟨r, 1, none⟩ u)) := fun k W v u hk h1 h2 h3 h4 h5 => by
    have hr1 := HI1.out.bk.here
    have hg2 : GrP (fun k => k = r) W ((W.setCell ⟨r, 0, none⟩ v).setCell ⟨r, 1, none⟩ u) := ((GrP.refl (fun k => k = r) W).set (a := ⟨r, 0, none⟩) rfl _).set (a := ⟨r, 1, none⟩) rfl _
    have hput := putT_at (E := E) (k := k) (by rw [← HNE.out]; exact hk) h1 h2
    have hpD : putT D s t = E.take k ++ (s, t) :: E.drop k := by
      unfold putT
      rw [← HE.out, hput.1, hput.2]
    have e1 : (putT D s t).map Prod.fst = X.take k ++ [s] ++ X.drop k := by rw [hpD, HXE.out, List.map_append, List.map_cons, List.map_take, List.map_drop]; simp
    have e2 : (putT D s t).map Prod.snd = Y.take k ++ [t] ++ Y.drop k := by rw [hpD, HYE.out, List.map_append, List.map_cons, List.map_take, List.map_drop]; simp
    have hbb : b ≤ w1.heap.size := Nat.le_trans HBB.out HWS.out
    refine ⟨⟨v, u, ((HI1.out.bk.later h3).put 0 _).put 1 _, ?_, ?_, HI1.out.le⟩, HG1.out.trans ((GrP.ofBelow h3).trans hg2)⟩
    · rw [e1]
      exact (h4.grp hg2 fun z hz e => by subst e; have := h4.block _ hz; omega).base hbb
    · rw [e2]
      exact (h5.grp hg2 fun z hz e => by subst e; have := h5.block _ hz; omega).base hbb
  clear hN hN9 hX hY hE hNC hND HRN HRV hR1 hG1 KD
  have cr : w1.cell? ⟨r, 0, none⟩ = some (.slice A N c) := HI1.out.bk.cellAt 0
  go_wp2_with fail
  go_loopw [6] (fun s6 wr => ∃ k : Nat, k ≤ N ∧ s6 = .int .i64 k ∧ Hid (∀ q ∈ E.take k, sL q.1 s = true) ∧ wr = w1) (fun s6 wr => N - (intOf s6).toNat)
  case atStart => exact ⟨0, Nat.zero_le _, rfl, by intro q hq; simp at hq, rfl⟩
  case round =>
    obtain ⟨k, hk, rfl, HPRE, hwr⟩ := hrel
    rw [hwr]
    clear hwr wr
    have HKN := Lib.hid hk
    have go_on : Hid (k < N → ∀ x, (∃ h : k < E.length, x = E[k].1) → sL x s = true → ∀ q ∈ E.take (k + 1), sL q.1 s = true) := fun hlt x hx h q hq => by
      obtain ⟨hl, hx⟩ := hx
      rw [List.take_succ_eq_append_getElem hl] at hq
      rcases List.mem_append.1 hq with hq | hq
      · exact HPRE.out q hq
      · rw [List.mem_singleton.1 hq, ← hx]; exact h
    by_cases hlt : k < N
    · have hkX : Hid (k < X.length) := by show k < X.length; rw [← HNX.out]; exact hlt
      obtain ⟨x, hx⟩ : ∃ x, x = X[k]'hkX.out := ⟨_, rfl⟩
      have hxE : ∃ h : k < E.length, x = E[k].1 := by
        have h1 : k < E.length := by rw [← HNE.out]; exact hlt
        refine ⟨h1, ?_⟩
        rw [hx]
        simp only [HXE.out, List.getElem_map]
      obtain ⟨g, o, hA, hg, hxc⟩ := HRS.out.at hkX.out
      rw [← hx] at hxc
      subst hA
      have HXE2 := Lib.hid hxE
      have hki : (k : Int) < (N : Int) := by omega
      clear hx hg hxE
      cases hl : sL x s with
      | true =>
        have hl' : Op.bytesLess x.toList s.toList = true := hl
        have HP2 : Hid (∀ q ∈ E.take (k + 1), sL q.1 s = true) := go_on.out hlt x HXE2.out hl
        have hwk : wrap64 ((k : Int) + 1) = ((k + 1 : Nat) : Int) := by have := HN9.out; unfold wrap64; omega
        clear hl go_on hk
        go_wp2_with fail
        go_round
        case rel => exact ⟨k + 1, by omega, by go_num, HP2, trivial⟩
        case measure =>
          rw [hwk]
          show N - ((k + 1 : Nat) : Int).toNat < N - ((k : Nat) : Int).toNat
          rw [Int.toNat_natCast, Int.toNat_natCast]; omega
      | false =>
        have hl' : Op.bytesLess x.toList s.toList = false := hl
        have HSTOP : Hid (∀ h : k < E.length, sL E[k].1 s = false) := fun h => by
          obtain ⟨_, e⟩ := HXE2.out
          rw [← e]; exact hl
        clear hl go_on hk
        go_wp2_with fail
        clear hl' hxc hki hlt
        have HL7S : Hid (k = (cellsS (X.take k)).length) := by show _ = _; rw [cellsS_length, List.length_take]; have := HKN.out; have := HNX.out; omega
        have HL7V : Hid (k = (cellsI (Y.take k)).length) := by show _ = _; rw [cellsI_length, List.length_take]; have := HKN.out; have := HNY.out; omega
        have HA7S : Hid (([] : List (List Value)).length + (cellsS (X.take k)).length ≤ maxLen) := by show _ ≤ _; rw [← HL7S.out]; have := HN9.out; have := HKN.out; simp only [List.length_nil, maxLen]; omega
        have HA7V : Hid (([] : List (List Value)).length + (cellsI (Y.take k)).length ≤ maxLen) := by show _ ≤ _; rw [← HL7V.out]; have := HN9.out; have := HKN.out; simp only [List.length_nil, maxLen]; omega
        have HC7S : Hid ((([] : List (List Value)).length + (cellsS (X.take k)).length) * 16 ≤ 140737488355328) := by show _ ≤ _; rw [← HL7S.out]; have := HN9.out; have := HKN.out; simp only [List.length_nil]; omega
        have HC7V : Hid ((([] : List (List Value)).length + (cellsI (Y.take k)).length) * 8 ≤ 140737488355328) := by show _ ≤ _; rw [← HL7V.out]; have := HN9.out; have := HKN.out; simp only [List.length_nil]; omega
        have HA8S : Hid ((cellsS (X.take k)).length + (cellsS [s]).length ≤ maxLen) := by show _ ≤ _; rw [← HL7S.out, cellsS_length]; have := HN9.out; have := HKN.out; simp only [List.length_cons, List.length_nil, maxLen]; omega
        have HA8V : Hid ((cellsI (Y.take k)).length + (cellsI [t]).length ≤ maxLen) := by show _ ≤ _; rw [← HL7V.out, cellsI_length]; have := HN9.out; have := HKN.out; simp only [List.length_cons, List.length_nil, maxLen]; omega
        have HC8S : Hid (((cellsS (X.take k)).length + (cellsS [s]).length) * 16 ≤ 140737488355328) := by show _ ≤ _; rw [← HL7S.out, cellsS_length]; have := HN9.out; have := HKN.out; simp only [List.length_cons, List.length_nil]; omega
        have HC8V : Hid (((cellsI (Y.take k)).length + (cellsI [t]).length) * 8 ≤ 140737488355328) := by show _ ≤ _; rw [← HL7V.out, cellsI_length]; have := HN9.out; have := HKN.out; simp only [List.length_cons, List.length_nil]; omega
        have HL9S : Hid (N - k = (cellsS (X.drop k)).length) := by show _ = _; rw [cellsS_length, List.length_drop, ← HNX.out]
        have HL9V : Hid (N - k = (cellsI (Y.drop k)).length) := by show _ = _; rw [cellsI_length, List.length_drop, ← HNY.out]
        have hlsS : (cellsS (X.take k ++ [s])).length = k + 1 := by rw [cellsS_append, List.length_append, ← HL7S.out]; rfl
        have hlsV : (cellsI (Y.take k ++ [t])).length = k + 1 := by rw [cellsI_append, List.length_append, ← HL7V.out]; rfl
        have HA9S : Hid ((cellsS (X.take k ++ [s])).length + (cellsS (X.drop k)).length ≤ maxLen) := by show _ ≤ _; rw [hlsS, ← HL9S.out]; have := HN9.out; have := HKN.out; simp only [maxLen]; omega
        have HA9V : Hid ((cellsI (Y.take k ++ [t])).length + (cellsI (Y.drop k)).length ≤ maxLen) := by show _ ≤ _; rw [hlsV, ← HL9V.out]; have := HN9.out; have := HKN.out; simp only [maxLen]; omega
        have HC9S : Hid (((cellsS (X.take k ++ [s])).length + (cellsS (X.drop k)).length) * 16 ≤ 140737488355328) := by show _ ≤ _; rw [hlsS, ← HL9S.out]; have := HN9.out; have := HKN.out; omega
        have HC9V : Hid (((cellsI (Y.take k ++ [t])).length + (cellsI (Y.drop k)).length) * 8 ≤ 140737488355328) := by show _ ≤ _; rw [hlsV, ← HL9V.out]; have := HN9.out; have := HKN.out; omega
        clear hlsS hlsV
        refine wp_region_held_drew (S := fun W => Below w1.heap.size w1 W) (by kernel_rfl) (Below.drew (Below.refl _ _)) (fun hS0 => ?_)
        refine wpAnyH_take (i := 0) (v := ?_) rfl (by kernel_rfl) (by kernel_rfl) (by kernel_rfl) (fun _ _ _ h => h) (Or.inl ⟨by rfl, ?_⟩) hS0 ?_
        rotate_left
        · intro W _; go_simp; try with_reducible rfl
        try simp only [Act.put, List.getElem_toArray, List.getElem_cons_zero, List.setIfInBounds_toArray, List.set_cons_zero, List.set_cons_succ]
        refine wpAnyH_take (i := 1) (v := ?_) rfl (by kernel_rfl) (by kernel_rfl) (by kernel_rfl) (fun _ _ _ h => h) (Or.inl ⟨by rfl, ?_⟩) hS0 ?_
        rotate_left
        · intro W _; go_simp; try with_reducible rfl
        try simp only [Act.put, List.getElem_toArray, List.getElem_cons_zero, List.getElem_cons_succ, List.setIfInBounds_toArray, List.set_cons_zero, List.set_cons_succ]
        refine wpAnyH_take (i := 2) (v := ?_) rfl (by kernel_rfl) (by kernel_rfl) (by kernel_rfl) (fun _ _ _ h => h) (Or.inl ⟨by rfl, ?_⟩) hS0 ?_
        rotate_left
        · intro W _; go_simp; try with_reducible rfl
        try simp only [Act.put, List.getElem_toArray, List.getElem_cons_zero, List.getElem_cons_succ, List.setIfInBounds_toArray, List.set_cons_zero, List.set_cons_succ]
        refine wpAnyH_take (i := 3) (v := ?_) rfl (by kernel_rfl) (by kernel_rfl) (by kernel_rfl) (fun _ _ _ h => h) (Or.inl ⟨by rfl, ?_⟩) hS0 ?_
        rotate_left
        · intro W _; go_simp; try with_reducible rfl
        try simp only [Act.put, List.getElem_toArray, List.getElem_cons_zero, List.getElem_cons_succ, List.setIfInBounds_toArray, List.set_cons_zero, List.set_cons_succ]
        refine wpAnyH_take (i := 4) (v := ?_) rfl (by kernel_rfl) (by kernel_rfl) (by kernel_rfl) (fun _ _ _ h => h) (Or.inl ⟨by rfl, ?_⟩) hS0 ?_
        rotate_left
        · intro W hSW; have hx := (HI1.out.bk.later hSW).cellAt 0; try simp only [List.getElem?_toArray, List.getElem?_cons_succ, List.getElem?_cons_zero] at hx; go_simp; try with_reducible rfl
        try simp only [Act.put, List.getElem_toArray, List.getElem_cons_zero, List.getElem_cons_succ, List.setIfInBounds_toArray, List.set_cons_zero, List.set_cons_succ]
        refine wpAnyH_take (i := 5) (v := ?_) rfl (by kernel_rfl) (by kernel_rfl) (by kernel_rfl) (fun _ _ _ h => h) (Or.inl ⟨by rfl, ?_⟩) hS0 ?_
        rotate_left
        · intro W _; go_simp; try with_reducible rfl
        try simp only [Act.put, List.getElem_toArray, List.getElem_cons_zero, List.getElem_cons_succ, List.setIfInBounds_toArray, List.set_cons_zero, List.set_cons_succ]
        refine wpAnyH_take (i := 6) (v := ?_) rfl (by kernel_rfl) (by kernel_rfl) (by kernel_rfl) (fun _ _ _ h => h) (Or.inl ⟨by rfl, ?_⟩) hS0 ?_
        rotate_left
        · intro W _; have hsl := slice_loTS (A := (some ⟨g, o, none⟩)) (n := N) (c := c) HKN.out HNCS.out W; go_simp; try with_reducible rfl
        try simp only [Act.put, List.getElem_toArray, List.getElem_cons_zero, List.getElem_cons_succ, List.setIfInBounds_toArray, List.set_cons_zero, List.set_cons_succ]
        refine wpAnyH_take (i := 8) (v := ?_) rfl (by kernel_rfl) (by kernel_rfl) (by kernel_rfl) (fun _ _ _ h => h) (Or.inl ⟨by rfl, ?_⟩) hS0 ?_
        rotate_left
        · intro W _; go_simp; try with_reducible rfl
        try simp only [Act.put, List.getElem_toArray, List.getElem_cons_zero, List.getElem_cons_succ, List.setIfInBounds_toArray, List.set_cons_zero, List.set_cons_succ]
        refine wpAnyH_take (i := 11) (v := ?_) rfl (by kernel_rfl) (by kernel_rfl) (by kernel_rfl) (fun _ _ _ h => h) (Or.inl ⟨by rfl, ?_⟩) hS0 ?_
        rotate_left
        · intro W _; go_simp; try with_reducible rfl
        try simp only [Act.put, List.getElem_toArray, List.getElem_cons_zero, List.getElem_cons_succ, List.setIfInBounds_toArray, List.set_cons_zero, List.set_cons_succ]
        refine wpAnyH_take (i := 12) (v := ?_) rfl (by kernel_rfl) (by kernel_rfl) (by kernel_rfl) (fun _ _ _ h => h) (Or.inl ⟨by rfl, ?_⟩) hS0 ?_
        rotate_left
        · intro W _; go_simp; try with_reducible rfl
        try simp only [Act.put, List.getElem_toArray, List.getElem_cons_zero, List.getElem_cons_succ, List.setIfInBounds_toArray, List.set_cons_zero, List.set_cons_succ]
        refine wpAnyH_take (i := 13) (v := ?_) rfl (by kernel_rfl) (by kernel_rfl) (by kernel_rfl) (fun _ _ _ h => h) (Or.inl ⟨by rfl, ?_⟩) hS0 ?_
        rotate_left
        · intro W _; go_simp; try with_reducible rfl
        try simp only [Act.put, List.getElem_toArray, List.getElem_cons_zero, List.getElem_cons_succ, List.setIfInBounds_toArray, List.set_cons_zero, List.set_cons_succ]
        refine wpAnyH_take (i := 14) (v := ?_) rfl (by kernel_rfl) (by kernel_rfl) (by kernel_rfl) (fun _ _ _ h => h) (Or.inl ⟨by rfl, ?_⟩) hS0 ?_
        rotate_left
        · intro W hSW; have hx := (HI1.out.bk.later hSW).cellAt 0; try simp only [List.getElem?_toArray, List.getElem?_cons_succ, List.getElem?_cons_zero] at hx; go_simp; try with_reducible rfl
        try simp only [Act.put, List.getElem_toArray, List.getElem_cons_zero, List.getElem_cons_succ, List.setIfInBounds_toArray, List.set_cons_zero, List.set_cons_succ]
        refine wpAnyH_take (i := 15) (v := ?_) rfl (by kernel_rfl) (by kernel_rfl) (by kernel_rfl) (fun _ _ _ h => h) (Or.inl ⟨by rfl, ?_⟩) hS0 ?_
        rotate_left
        · intro W _; go_simp; try with_reducible rfl
        try simp only [Act.put, List.getElem_toArray, List.getElem_cons_zero, List.getElem_cons_succ, List.setIfInBounds_toArray, List.set_cons_zero, List.set_cons_succ]
        refine wpAnyH_take (i := 16) (v := ?_) rfl (by kernel_rfl) (by kernel_rfl) (by kernel_rfl) (fun _ _ _ h => h) (Or.inl ⟨by rfl, ?_⟩) hS0 ?_
        rotate_left
        · intro W _; have hsl := slice_hiTS (A := (some ⟨g, o, none⟩)) (n := N) (c := c) HKN.out HNCS.out W; go_simp; try with_reducible rfl
        try simp only [Act.put, List.getElem_toArray, List.getElem_cons_zero, List.getElem_cons_succ, List.setIfInBounds_toArray, List.set_cons_zero, List.set_cons_succ]
        refine wpAnyH_ready (rs := [7, 9]) (by kernel_rfl) (by simp) ?_
        refine (AllReadyH.cons rfl (fun K hK => ?_) (AllReadyH.cons rfl (fun K hK => ?_) AllReadyH.nil))
        · rw [if_pos (by rfl)]
          refine append_kn_op _ (.tmp 32) (.tmp 38) 28 rfl w1.heap.size 9 _ 1 16 Try.underlying28 infoS rfl (by omega) (.slice none 0 0) [] rfl (OwnK.nil _ _ _ _) (some ⟨g, o, none⟩) c k (cellsS (X.take k)) rfl (by rw [cellsS_take]; exact RdK.take (RdK.later HRS.out hS0) k) (cellsS_k _) (cellsS_one _) HL7S.out HA7S.out HC7S.out hS0.size ?_
          intro v7s w7s hO hg
          have HO7s : Hid (OwnK w7s w1.heap.size 9 1 v7s (cellsS (X.take k))) := hO
          have HG7s : Hid (Below w1.drew.heap.size w1.drew w7s) := ⟨hg.os, hg.tape, hg.output, hg.size, fun z hz => hg.block z hz (by simp [Value.ownBlock])⟩
          clear hO hg
          refine hK.out _ _ (hS0.trans (HG7s.out.mono hS0.size)) (fun hS1 => ?_)
          clear hK K
          try simp only [Act.put, List.getElem_toArray, List.getElem_cons_zero, List.getElem_cons_succ, List.setIfInBounds_toArray, List.set_cons_zero, List.set_cons_succ]
          refine wpAnyH_ready (rs := [9]) (by kernel_rfl) (by simp) ?_
          refine AllReadyH.cons rfl (fun K hK => ?_) AllReadyH.nil
          rw [if_pos (by rfl)]
          refine sone_op 40 s rfl rfl ?_
          intro g9s w9s hgg hB9 hb9
          have HB9s := Lib.hid hB9
          have HL9s : Hid (Below w7s.heap.size w7s w9s) := hb9
          clear hgg hB9 hb9
          refine hK.out _ _ (hS1.trans (HL9s.out.mono hS1.size)) (fun hS2 => ?_)
          clear hK K
          try simp only [Act.put, List.getElem_toArray, List.getElem_cons_zero, List.getElem_cons_succ, List.setIfInBounds_toArray, List.set_cons_zero, List.set_cons_succ]
          refine wpAnyH_ready (rs := [10]) (by kernel_rfl) (by simp) ?_
          refine AllReadyH.cons rfl (fun K hK => ?_) AllReadyH.nil
          rw [if_pos (by rfl)]
          refine append_k_op _ (.tmp 39) (.tmp 41) 28 rfl w1.heap.size 9 _ 1 16 Try.underlying28 infoS rfl (by omega) v7s (cellsS (X.take k)) rfl (HO7s.out.below HL9s.out) ⟨g9s, 0, none⟩ 1 1 (cellsS [s]) rfl (RdK.of_bk (HB9s.out)) (cellsS_k _) (cellsS_one _) rfl HA8S.out HC8S.out hS2.size ?_
          intro v10s w10s hO hg
          rw [← cellsS_append] at hO
          have HO10s := Lib.hid hO
          have HG10s := Lib.hid hg
          clear hO hg
          refine hK.out _ _ (hS2.grown HG10s.out hS2.size fun z hz => HO7s.out.block z hz) (fun hS3 => ?_)
          clear hK K
          try simp only [Act.put, List.getElem_toArray, List.getElem_cons_zero, List.getElem_cons_succ, List.setIfInBounds_toArray, List.set_cons_zero, List.set_cons_succ]
          refine wpAnyH_ready (rs := [17]) (by kernel_rfl) (by simp) ?_
          refine AllReadyH.cons rfl (fun K hK => ?_) AllReadyH.nil
          rw [if_pos (by rfl)]
          refine append_kn_op _ (.tmp 42) (.tmp 48) 28 rfl w1.heap.size 9 _ 1 16 Try.underlying28 infoS rfl (by omega) v10s (cellsS (X.take k ++ [s])) rfl HO10s.out (tailT (some ⟨g, o, none⟩) c k 1) (c - k) (N - k) (cellsS (X.drop k)) rfl (by rw [cellsS_drop]; exact RdK.drop (RdK.later HRS.out hS3) HNCS2.out) (cellsS_k _) (cellsS_one _) HL9S.out HA9S.out HC9S.out hS3.size ?_
          intro v17s w17s hO hg
          rw [← cellsS_append] at hO
          have HO17s := Lib.hid hO
          have HG17s := Lib.hid hg
          clear hO hg
          refine hK.out _ _ (hS3.grown HG17s.out hS3.size fun z hz => HO10s.out.block z hz) (fun hS4 => ?_)
          clear hK K
          try simp only [Act.put, List.getElem_toArray, List.getElem_cons_zero, List.getElem_cons_succ, List.setIfInBounds_toArray, List.set_cons_zero, List.set_cons_succ]
          refine wpAnyH_take (i := 18) (v := ?_) rfl (by kernel_rfl) (by kernel_rfl) (by kernel_rfl) (fun _ _ _ h => h) (Or.inl ⟨by rfl, ?_⟩) hS4 ?_
          rotate_left
          · intro W _; go_simp; try with_reducible rfl
          try simp only [Act.put, List.getElem_toArray, List.getElem_cons_zero, List.getElem_cons_succ, List.setIfInBounds_toArray, List.set_cons_zero, List.set_cons_succ]
          refine wpAnyH_done (by kernel_rfl) ?_ _
          have HW17 := Lib.hid hS4
          go_wp2_with fail
          refine wp_region_held_drew (S := fun W => Below w1.heap.size w1 W ∧ OwnK W w1.heap.size 9 1 v17s (cellsS (X.take k ++ [s] ++ X.drop k))) (by kernel_rfl) (⟨Below.drew HW17.out, HO17s.out⟩) (fun hS0 => ?_)
          refine wpAnyH_take (i := 0) (v := ?_) rfl (by kernel_rfl) (by kernel_rfl) (by kernel_rfl) (fun _ _ _ h => h) (Or.inl ⟨by rfl, ?_⟩) hS0 ?_
          rotate_left
          · intro W _; go_simp; try with_reducible rfl
          try simp only [Act.put, List.getElem_toArray, List.getElem_cons_zero, List.setIfInBounds_toArray, List.set_cons_zero, List.set_cons_succ]
          refine wpAnyH_take (i := 1) (v := ?_) rfl (by kernel_rfl) (by kernel_rfl) (by kernel_rfl) (fun _ _ _ h => h) (Or.inl ⟨by rfl, ?_⟩) hS0 ?_
          rotate_left
          · intro W _; go_simp; try with_reducible rfl
          try simp only [Act.put, List.getElem_toArray, List.getElem_cons_zero, List.getElem_cons_succ, List.setIfInBounds_toArray, List.set_cons_zero, List.set_cons_succ]
          refine wpAnyH_take (i := 2) (v := ?_) rfl (by kernel_rfl) (by kernel_rfl) (by kernel_rfl) (fun _ _ _ h => h) (Or.inl ⟨by rfl, ?_⟩) hS0 ?_
          rotate_left
          · intro W _; go_simp; try with_reducible rfl
          try simp only [Act.put, List.getElem_toArray, List.getElem_cons_zero, List.getElem_cons_succ, List.setIfInBounds_toArray, List.set_cons_zero, List.set_cons_succ]
          refine wpAnyH_take (i := 3) (v := ?_) rfl (by kernel_rfl) (by kernel_rfl) (by kernel_rfl) (fun _ _ _ h => h) (Or.inl ⟨by rfl, ?_⟩) hS0 ?_
          rotate_left
          · intro W _; go_simp; try with_reducible rfl
          try simp only [Act.put, List.getElem_toArray, List.getElem_cons_zero, List.getElem_cons_succ, List.setIfInBounds_toArray, List.set_cons_zero, List.set_cons_succ]
          refine wpAnyH_take (i := 4) (v := ?_) rfl (by kernel_rfl) (by kernel_rfl) (by kernel_rfl) (fun _ _ _ h => h) (Or.inl ⟨by rfl, ?_⟩) hS0 ?_
          rotate_left
          · intro W hSW; have hx := (HI1.out.bk.later hSW.1).cellAt 1; try simp only [List.getElem?_toArray, List.getElem?_cons_succ, List.getElem?_cons_zero] at hx; go_simp; try with_reducible rfl
          try simp only [Act.put, List.getElem_toArray, List.getElem_cons_zero, List.getElem_cons_succ, List.setIfInBounds_toArray, List.set_cons_zero, List.set_cons_succ]
          refine wpAnyH_take (i := 5) (v := ?_) rfl (by kernel_rfl) (by kernel_rfl) (by kernel_rfl) (fun _ _ _ h => h) (Or.inl ⟨by rfl, ?_⟩) hS0 ?_
          rotate_left
          · intro W _; go_simp; try with_reducible rfl
          try simp only [Act.put, List.getElem_toArray, List.getElem_cons_zero, List.getElem_cons_succ, List.setIfInBounds_toArray, List.set_cons_zero, List.set_cons_succ]
          refine wpAnyH_take (i := 6) (v := ?_) rfl (by kernel_rfl) (by kernel_rfl) (by kernel_rfl) (fun _ _ _ h => h) (Or.inl ⟨by rfl, ?_⟩) hS0 ?_
          rotate_left
          · intro W _; have hsl := slice_loTV (A := B) (n := N) (c := d) HKN.out HNCV.out W; go_simp; try with_reducible rfl
          try simp only [Act.put, List.getElem_toArray, List.getElem_cons_zero, List.getElem_cons_succ, List.setIfInBounds_toArray, List.set_cons_zero, List.set_cons_succ]
          refine wpAnyH_take (i := 8) (v := ?_) rfl (by kernel_rfl) (by kernel_rfl) (by kernel_rfl) (fun _ _ _ h => h) (Or.inl ⟨by rfl, ?_⟩) hS0 ?_
          rotate_left
          · intro W _; go_simp; try with_reducible rfl
          try simp only [Act.put, List.getElem_toArray, List.getElem_cons_zero, List.getElem_cons_succ, List.setIfInBounds_toArray, List.set_cons_zero, List.set_cons_succ]
          refine wpAnyH_take (i := 11) (v := ?_) rfl (by kernel_rfl) (by kernel_rfl) (by kernel_rfl) (fun _ _ _ h => h) (Or.inl ⟨by rfl, ?_⟩) hS0 ?_
          rotate_left
          · intro W _; go_simp; try with_reducible rfl
          try simp only [Act.put, List.getElem_toArray, List.getElem_cons_zero, List.getElem_cons_succ, List.setIfInBounds_toArray, List.set_cons_zero, List.set_cons_succ]
          refine wpAnyH_take (i := 12) (v := ?_) rfl (by kernel_rfl) (by kernel_rfl) (by kernel_rfl) (fun _ _ _ h => h) (Or.inl ⟨by rfl, ?_⟩) hS0 ?_
          rotate_left
          · intro W _; go_simp; try with_reducible rfl
          try simp only [Act.put, List.getElem_toArray, List.getElem_cons_zero, List.getElem_cons_succ, List.setIfInBounds_toArray, List.set_cons_zero, List.set_cons_succ]
          refine wpAnyH_take (i := 13) (v := ?_) rfl (by kernel_rfl) (by kernel_rfl) (by kernel_rfl) (fun _ _ _ h => h) (Or.inl ⟨by rfl, ?_⟩) hS0 ?_
          rotate_left
          · intro W _; go_simp; try with_reducible rfl
          try simp only [Act.put, List.getElem_toArray, List.getElem_cons_zero, List.getElem_cons_succ, List.setIfInBounds_toArray, List.set_cons_zero, List.set_cons_succ]
          refine wpAnyH_take (i := 14) (v := ?_) rfl (by kernel_rfl) (by kernel_rfl) (by kernel_rfl) (fun _ _ _ h => h) (Or.inl ⟨by rfl, ?_⟩) hS0 ?_
          rotate_left
          · intro W hSW; have hx := (HI1.out.bk.later hSW.1).cellAt 1; try simp only [List.getElem?_toArray, List.getElem?_cons_succ, List.getElem?_cons_zero] at hx; go_simp; try with_reducible rfl
          try simp only [Act.put, List.getElem_toArray, List.getElem_cons_zero, List.getElem_cons_succ, List.setIfInBounds_toArray, List.set_cons_zero, List.set_cons_succ]
          refine wpAnyH_take (i := 15) (v := ?_) rfl (by kernel_rfl) (by kernel_rfl) (by kernel_rfl) (fun _ _ _ h => h) (Or.inl ⟨by rfl, ?_⟩) hS0 ?_
          rotate_left
          · intro W _; go_simp; try with_reducible rfl
          try simp only [Act.put, List.getElem_toArray, List.getElem_cons_zero, List.getElem_cons_succ, List.setIfInBounds_toArray, List.set_cons_zero, List.set_cons_succ]
          refine wpAnyH_take (i := 16) (v := ?_) rfl (by kernel_rfl) (by kernel_rfl) (by kernel_rfl) (fun _ _ _ h => h) (Or.inl ⟨by rfl, ?_⟩) hS0 ?_
          rotate_left
          · intro W _; have hsl := slice_hiTV (A := B) (n := N) (c := d) HKN.out HNCV.out W; go_simp; try with_reducible rfl
          try simp only [Act.put, List.getElem_toArray, List.getElem_cons_zero, List.getElem_cons_succ, List.setIfInBounds_toArray, List.set_cons_zero, List.set_cons_succ]
          refine wpAnyH_ready (rs := [7, 9]) (by kernel_rfl) (by simp) ?_
          refine (AllReadyH.cons rfl (fun K hK => ?_) (AllReadyH.cons rfl (fun K hK => ?_) AllReadyH.nil))
          · rw [if_pos (by rfl)]
            refine append_kn_op _ (.tmp 50) (.tmp 56) 29 rfl w1.heap.size 3 _ 1 8 Try.underlying29 infoI rfl (by omega) (.slice none 0 0) [] rfl (OwnK.nil _ _ _ _) B d k (cellsI (Y.take k)) rfl (by rw [cellsI_take]; exact RdK.take (RdK.later HRT.out hS0.1) k) (cellsI_k _) (cellsI_one _) HL7V.out HA7V.out HC7V.out hS0.1.size ?_
            intro v7v w7v hO hg
            have HO7v : Hid (OwnK w7v w1.heap.size 3 1 v7v (cellsI (Y.take k))) := hO
            have HG7v : Hid (Below w17s.drew.heap.size w17s.drew w7v) := ⟨hg.os, hg.tape, hg.output, hg.size, fun z hz => hg.block z hz (by simp [Value.ownBlock])⟩
            clear hO hg
            refine hK.out _ _ (⟨hS0.1.trans (HG7v.out.mono hS0.1.size), hS0.2.below HG7v.out⟩) (fun hS1 => ?_)
            clear hK K
            try simp only [Act.put, List.getElem_toArray, List.getElem_cons_zero, List.getElem_cons_succ, List.setIfInBounds_toArray, List.set_cons_zero, List.set_cons_succ]
            refine wpAnyH_ready (rs := [9]) (by kernel_rfl) (by simp) ?_
            refine AllReadyH.cons rfl (fun K hK => ?_) AllReadyH.nil
            rw [if_pos (by rfl)]
            refine ione_op 58 t rfl rfl ?_
            intro g9v w9v hgg hB9 hb9
            have HB9v := Lib.hid hB9
            have HL9v : Hid (Below w7v.heap.size w7v w9v) := hb9
            clear hgg hB9 hb9
            refine hK.out _ _ (⟨hS1.1.trans (HL9v.out.mono hS1.1.size), hS1.2.below HL9v.out⟩) (fun hS2 => ?_)
            clear hK K
            try simp only [Act.put, List.getElem_toArray, List.getElem_cons_zero, List.getElem_cons_succ, List.setIfInBounds_toArray, List.set_cons_zero, List.set_cons_succ]
            refine wpAnyH_ready (rs := [10]) (by kernel_rfl) (by simp) ?_
            refine AllReadyH.cons rfl (fun K hK => ?_) AllReadyH.nil
            rw [if_pos (by rfl)]
            refine append_k_op _ (.tmp 57) (.tmp 59) 29 rfl w1.heap.size 3 _ 1 8 Try.underlying29 infoI rfl (by omega) v7v (cellsI (Y.take k)) rfl (HO7v.out.below HL9v.out) ⟨g9v, 0, none⟩ 1 1 (cellsI [t]) rfl (RdK.of_bk (HB9v.out)) (cellsI_k _) (cellsI_one _) rfl HA8V.out HC8V.out hS2.1.size ?_
            intro v10v w10v hO hg
            rw [← cellsI_append] at hO
            have HO10v := Lib.hid hO
            have HG10v := Lib.hid hg
            clear hO hg
            refine hK.out _ _ (⟨hS2.1.grown HG10v.out hS2.1.size fun z hz => HO7v.out.block z hz, hS2.2.grp (GrP.of HG10v.out) fun z hz e => (HO7v.out.below HL9v.out).parted hS2.2 (by decide) e hz⟩) (fun hS3 => ?_)
            clear hK K
            try simp only [Act.put, List.getElem_toArray, List.getElem_cons_zero, List.getElem_cons_succ, List.setIfInBounds_toArray, List.set_cons_zero, List.set_cons_succ]
            refine wpAnyH_ready (rs := [17]) (by kernel_rfl) (by simp) ?_
            refine AllReadyH.cons rfl (fun K hK => ?_) AllReadyH.nil
            rw [if_pos (by rfl)]
            refine append_kn_op _ (.tmp 60) (.tmp 66) 29 rfl w1.heap.size 3 _ 1 8 Try.underlying29 infoI rfl (by omega) v10v (cellsI (Y.take k ++ [t])) rfl HO10v.out (tailT B d k 1) (d - k) (N - k) (cellsI (Y.drop k)) rfl (by rw [cellsI_drop]; exact RdK.drop (RdK.later HRT.out hS3.1) HNCV2.out) (cellsI_k _) (cellsI_one _) HL9V.out HA9V.out HC9V.out hS3.1.size ?_
            intro v17v w17v hO hg
            rw [← cellsI_append] at hO
            have HO17v := Lib.hid hO
            have HG17v := Lib.hid hg
            clear hO hg
            refine hK.out _ _ (⟨hS3.1.grown HG17v.out hS3.1.size fun z hz => HO10v.out.block z hz, hS3.2.grp (GrP.of HG17v.out) fun z hz e => HO10v.out.parted hS3.2 (by decide) e hz⟩) (fun hS4 => ?_)
            clear hK K
            try simp only [Act.put, List.getElem_toArray, List.getElem_cons_zero, List.getElem_cons_succ, List.setIfInBounds_toArray, List.set_cons_zero, List.set_cons_succ]
            refine wpAnyH_take (i := 18) (v := ?_) rfl (by kernel_rfl) (by kernel_rfl) (by kernel_rfl) (fun _ _ _ h => h) (Or.inl ⟨by rfl, ?_⟩) hS4 ?_
            rotate_left
            · intro W _; go_simp; try with_reducible rfl
            try simp only [Act.put, List.getElem_toArray, List.getElem_cons_zero, List.getElem_cons_succ, List.setIfInBounds_toArray, List.set_cons_zero, List.set_cons_succ]
            refine wpAnyH_done (by kernel_rfl) ?_ _
            have HW9 := Lib.hid hS4.1
            have HON := Lib.hid hS4.2
            have hb9 : Bk w17v r 31 #[.slice (some ⟨g, o, none⟩) N c, .slice B N d] := HI1.out.bk.later HW9.out
            obtain ⟨As, cs, hvs, -, -, -, -⟩ := OwnK.sl HON.out
            obtain ⟨At, ct, hvt, -, -, -, -⟩ := HO17v.out.sl
            obtain ⟨ls, hls⟩ : ∃ n, n = (cellsS (X.take k ++ [s] ++ X.drop k)).length := ⟨_, rfl⟩
            rw [← hls] at hvs
            clear hls
            obtain ⟨lt, hlt9⟩ : ∃ n, n = (cellsI (Y.take k ++ [t] ++ Y.drop k)).length := ⟨_, rfl⟩
            rw [← hlt9] at hvt
            clear hlt9
            have cf0 : w17v.cell? ⟨r, 0, none⟩ = some (.slice (some ⟨g, o, none⟩) N c) := hb9.cellAt 0
            have cf1 : w17v.cell? ⟨r, 1, none⟩ = some (.slice B N d) := hb9.cellAt 1
            have ff0 : w17v.frozen? ⟨r, 0, none⟩ = false := hb9.free 0
            have ff1 : w17v.frozen? ⟨r, 1, none⟩ = false := hb9.free 1
            have HB9 := Lib.hid hb9
            clear hb9
            have HFIN := Lib.hid (FIN.out k w17v v17s v17v HKN.out HPRE.out HSTOP.out HW9.out HON.out HO17v.out)
            clear HO17v HON
            subst hvs hvt
            go_wp2_with fail
            first | go_end0 | refine bodyPost_ret (results_none rfl _ _ _) rfl ?_
            exact ⟨rfl, HFIN.out⟩
          · rw [if_pos (by rfl)]
            refine ione_op 58 t rfl rfl ?_
            intro g9v w9v hgg hB9 hb9
            have HB9v := Lib.hid hB9
            have HL9v : Hid (Below w17s.drew.heap.size w17s.drew w9v) := hb9
            clear hgg hB9 hb9
            refine hK.out _ _ (⟨hS0.1.trans (HL9v.out.mono hS0.1.size), hS0.2.below HL9v.out⟩) (fun hS1 => ?_)
            clear hK K
            try simp only [Act.put, List.getElem_toArray, List.getElem_cons_zero, List.getElem_cons_succ, List.setIfInBounds_toArray, List.set_cons_zero, List.set_cons_succ]
            refine wpAnyH_ready (rs := [7]) (by kernel_rfl) (by simp) ?_
            refine AllReadyH.cons rfl (fun K hK => ?_) AllReadyH.nil
            rw [if_pos (by rfl)]
            refine append_kn_op _ (.tmp 50) (.tmp 56) 29 rfl w1.heap.size 3 _ 1 8 Try.underlying29 infoI rfl (by omega) (.slice none 0 0) [] rfl (OwnK.nil _ _ _ _) B d k (cellsI (Y.take k)) rfl (by rw [cellsI_take]; exact RdK.take (RdK.later HRT.out hS1.1) k) (cellsI_k _) (cellsI_one _) HL7V.out HA7V.out HC7V.out hS1.1.size ?_
            intro v7v w7v hO hg
            have HO7v : Hid (OwnK w7v w1.heap.size 3 1 v7v (cellsI (Y.take k))) := hO
            have HG7v : Hid (Below w9v.heap.size w9v w7v) := ⟨hg.os, hg.tape, hg.output, hg.size, fun z hz => hg.block z hz (by simp [Value.ownBlock])⟩
            clear hO hg
            refine hK.out _ _ (⟨hS1.1.trans (HG7v.out.mono hS1.1.size), hS1.2.below HG7v.out⟩) (fun hS2 => ?_)
            clear hK K
            try simp only [Act.put, List.getElem_toArray, List.getElem_cons_zero, List.getElem_cons_succ, List.setIfInBounds_toArray, List.set_cons_zero, List.set_cons_succ]
            refine wpAnyH_ready (rs := [10]) (by kernel_rfl) (by simp) ?_
            refine AllReadyH.cons rfl (fun K hK => ?_) AllReadyH.nil
            rw [if_pos (by rfl)]
            refine append_k_op _ (.tmp 57) (.tmp 59) 29 rfl w1.heap.size 3 _ 1 8 Try.underlying29 infoI rfl (by omega) v7v (cellsI (Y.take k)) rfl (HO7v.out) ⟨g9v, 0, none⟩ 1 1 (cellsI [t]) rfl (RdK.of_bk (HB9v.out.later HG7v.out)) (cellsI_k _) (cellsI_one _) rfl HA8V.out HC8V.out hS2.1.size ?_
            intro v10v w10v hO hg
            rw [← cellsI_append] at hO
            have HO10v := Lib.hid hO
            have HG10v := Lib.hid hg
            clear hO hg
            refine hK.out _ _ (⟨hS2.1.grown HG10v.out hS2.1.size fun z hz => HO7v.out.block z hz, hS2.2.grp (GrP.of HG10v.out) fun z hz e => HO7v.out.parted hS2.2 (by decide) e hz⟩) (fun hS3 => ?_)
            clear hK K
            try simp only [Act.put, List.getElem_toArray, List.getElem_cons_zero, List.getElem_cons_succ, List.setIfInBounds_toArray, List.set_cons_zero, List.set_cons_succ]
            refine wpAnyH_ready (rs := [17]) (by kernel_rfl) (by simp) ?_
            refine AllReadyH.cons rfl (fun K hK => ?_) AllReadyH.nil
            rw [if_pos (by rfl)]
            refine append_kn_op _ (.tmp 60) (.tmp 66) 29 rfl w1.heap.size 3 _ 1 8 Try.underlying29 infoI rfl (by omega) v10v (cellsI (Y.take k ++ [t])) rfl HO10v.out (tailT B d k 1) (d - k) (N - k) (cellsI (Y.drop k)) rfl (by rw [cellsI_drop]; exact RdK.drop (RdK.later HRT.out hS3.1) HNCV2.out) (cellsI_k _) (cellsI_one _) HL9V.out HA9V.out HC9V.out hS3.1.size ?_
            intro v17v w17v hO hg
            rw [← cellsI_append] at hO
            have HO17v := Lib.hid hO
            have HG17v := Lib.hid hg
            clear hO hg
            refine hK.out _ _ (⟨hS3.1.grown HG17v.out hS3.1.size fun z hz => HO10v.out.block z hz, hS3.2.grp (GrP.of HG17v.out) fun z hz e => HO10v.out.parted hS3.2 (by decide) e hz⟩) (fun hS4 => ?_)
            clear hK K
            try simp only [Act.put, List.getElem_toArray, List.getElem_cons_zero, List.getElem_cons_succ, List.setIfInBounds_toArray, List.set_cons_zero, List.set_cons_succ]
            refine wpAnyH_take (i := 18) (v := ?_) rfl (by kernel_rfl) (by kernel_rfl) (by kernel_rfl) (fun _ _ _ h => h) (Or.inl ⟨by rfl, ?_⟩) hS4 ?_
            rotate_left
            · intro W _; go_simp; try with_reducible rfl
            try simp only [Act.put, List.getElem_toArray, List.getElem_cons_zero, List.getElem_cons_succ, List.setIfInBounds_toArray, List.set_cons_zero, List.set_cons_succ]
            refine wpAnyH_done (by kernel_rfl) ?_ _
            have HW9 := Lib.hid hS4.1
            have HON := Lib.hid hS4.2
            have hb9 : Bk w17v r 31 #[.slice (some ⟨g, o, none⟩) N c, .slice B N d] := HI1.out.bk.later HW9.out
            obtain ⟨As, cs, hvs, -, -, -, -⟩ := OwnK.sl HON.out
            obtain ⟨At, ct, hvt, -, -, -, -⟩ := HO17v.out.sl
            obtain ⟨ls, hls⟩ : ∃ n, n = (cellsS (X.take k ++ [s] ++ X.drop k)).length := ⟨_, rfl⟩
            rw [← hls] at hvs
            clear hls
            obtain ⟨lt, hlt9⟩ : ∃ n, n = (cellsI (Y.take k ++ [t] ++ Y.drop k)).length := ⟨_, rfl⟩
            rw [← hlt9] at hvt
            clear hlt9
            have cf0 : w17v.cell? ⟨r, 0, none⟩ = some (.slice (some ⟨g, o, none⟩) N c) := hb9.cellAt 0
            have cf1 : w17v.cell? ⟨r, 1, none⟩ = some (.slice B N d) := hb9.cellAt 1
            have ff0 : w17v.frozen? ⟨r, 0, none⟩ = false := hb9.free 0
            have ff1 : w17v.frozen? ⟨r, 1, none⟩ = false := hb9.free 1
            have HB9 := Lib.hid hb9
            clear hb9
            have HFIN := Lib.hid (FIN.out k w17v v17s v17v HKN.out HPRE.out HSTOP.out HW9.out HON.out HO17v.out)
            clear HO17v HON
            subst hvs hvt
            go_wp2_with fail
            first | go_end0 | refine bodyPost_ret (results_none rfl _ _ _) rfl ?_
            exact ⟨rfl, HFIN.out⟩
        · rw [if_pos (by rfl)]
          refine sone_op 40 s rfl rfl ?_
          intro g9s w9s hgg hB9 hb9
          have HB9s := Lib.hid hB9
          have HL9s : Hid (Below w1.drew.heap.size w1.drew w9s) := hb9
          clear hgg hB9 hb9
          refine hK.out _ _ (hS0.trans (HL9s.out.mono hS0.size)) (fun hS1 => ?_)
          clear hK K
          try simp only [Act.put, List.getElem_toArray, List.getElem_cons_zero, List.getElem_cons_succ, List.setIfInBounds_toArray, List.set_cons_zero, List.set_cons_succ]
          refine wpAnyH_ready (rs := [7]) (by kernel_rfl) (by simp) ?_
          refine AllReadyH.cons rfl (fun K hK => ?_) AllReadyH.nil
          rw [if_pos (by rfl)]
          refine append_kn_op _ (.tmp 32) (.tmp 38) 28 rfl w1.heap.size 9 _ 1 16 Try.underlying28 infoS rfl (by omega) (.slice none 0 0) [] rfl (OwnK.nil _ _ _ _) (some ⟨g, o, none⟩) c k (cellsS (X.take k)) rfl (by rw [cellsS_take]; exact RdK.take (RdK.later HRS.out hS1) k) (cellsS_k _) (cellsS_one _) HL7S.out HA7S.out HC7S.out hS1.size ?_
          intro v7s w7s hO hg
          have HO7s : Hid (OwnK w7s w1.heap.size 9 1 v7s (cellsS (X.take k))) := hO
          have HG7s : Hid (Below w9s.heap.size w9s w7s) := ⟨hg.os, hg.tape, hg.output, hg.size, fun z hz => hg.block z hz (by simp [Value.ownBlock])⟩
          clear hO hg
          refine hK.out _ _ (hS1.trans (HG7s.out.mono hS1.size)) (fun hS2 => ?_)
          clear hK K
          try simp only [Act.put, List.getElem_toArray, List.getElem_cons_zero, List.getElem_cons_succ, List.setIfInBounds_toArray, List.set_cons_zero, List.set_cons_succ]
          refine wpAnyH_ready (rs := [10]) (by kernel_rfl) (by simp) ?_
          refine AllReadyH.cons rfl (fun K hK => ?_) AllReadyH.nil
          rw [if_pos (by rfl)]
          refine append_k_op _ (.tmp 39) (.tmp 41) 28 rfl w1.heap.size 9 _ 1 16 Try.underlying28 infoS rfl (by omega) v7s (cellsS (X.take k)) rfl (HO7s.out) ⟨g9s, 0, none⟩ 1 1 (cellsS [s]) rfl (RdK.of_bk (HB9s.out.later HG7s.out)) (cellsS_k _) (cellsS_one _) rfl HA8S.out HC8S.out hS2.size ?_
          intro v10s w10s hO hg
          rw [← cellsS_append] at hO
          have HO10s := Lib.hid hO
          have HG10s := Lib.hid hg
          clear hO hg
          refine hK.out _ _ (hS2.grown HG10s.out hS2.size fun z hz => HO7s.out.block z hz) (fun hS3 => ?_)
          clear hK K
          try simp only [Act.put, List.getElem_toArray, List.getElem_cons_zero, List.getElem_cons_succ, List.setIfInBounds_toArray, List.set_cons_zero, List.set_cons_succ]
          refine wpAnyH_ready (rs := [17]) (by kernel_rfl) (by simp) ?_
          refine AllReadyH.cons rfl (fun K hK => ?_) AllReadyH.nil
          rw [if_pos (by rfl)]
          refine append_kn_op _ (.tmp 42) (.tmp 48) 28 rfl w1.heap.size 9 _ 1 16 Try.underlying28 infoS rfl (by omega) v10s (cellsS (X.take k ++ [s])) rfl HO10s.out (tailT (some ⟨g, o, none⟩) c k 1) (c - k) (N - k) (cellsS (X.drop k)) rfl (by rw [cellsS_drop]; exact RdK.drop (RdK.later HRS.out hS3) HNCS2.out) (cellsS_k _) (cellsS_one _) HL9S.out HA9S.out HC9S.out hS3.size ?_
          intro v17s w17s hO hg
          rw [← cellsS_append] at hO
          have HO17s := Lib.hid hO
          have HG17s := Lib.hid hg
          clear hO hg
          refine hK.out _ _ (hS3.grown HG17s.out hS3.size fun z hz => HO10s.out.block z hz) (fun hS4 => ?_)
          clear hK K
          try simp only [Act.put, List.getElem_toArray, List.getElem_cons_zero, List.getElem_cons_succ, List.setIfInBounds_toArray, List.set_cons_zero, List.set_cons_succ]
          refine wpAnyH_take (i := 18) (v := ?_) rfl (by kernel_rfl) (by kernel_rfl) (by kernel_rfl) (fun _ _ _ h => h) (Or.inl ⟨by rfl, ?_⟩) hS4 ?_
          rotate_left
          · intro W _; go_simp; try with_reducible rfl
          try simp only [Act.put, List.getElem_toArray, List.getElem_cons_zero, List.getElem_cons_succ, List.setIfInBounds_toArray, List.set_cons_zero, List.set_cons_succ]
          refine wpAnyH_done (by kernel_rfl) ?_ _
          have HW17 := Lib.hid hS4
          go_wp2_with fail
          refine wp_region_held_drew (S := fun W => Below w1.heap.size w1 W ∧ OwnK W w1.heap.size 9 1 v17s (cellsS (X.take k ++ [s] ++ X.drop k))) (by kernel_rfl) (⟨Below.drew HW17.out, HO17s.out⟩) (fun hS0 => ?_)
          refine wpAnyH_take (i := 0) (v := ?_) rfl (by kernel_rfl) (by kernel_rfl) (by kernel_rfl) (fun _ _ _ h => h) (Or.inl ⟨by rfl, ?_⟩) hS0 ?_
          rotate_left
          · intro W _; go_simp; try with_reducible rfl
          try simp only [Act.put, List.getElem_toArray, List.getElem_cons_zero, List.setIfInBounds_toArray, List.set_cons_zero, List.set_cons_succ]
          refine wpAnyH_take (i := 1) (v := ?_) rfl (by kernel_rfl) (by kernel_rfl) (by kernel_rfl) (fun _ _ _ h => h) (Or.inl ⟨by rfl, ?_⟩) hS0 ?_
          rotate_left
          · intro W _; go_simp; try with_reducible rfl
          try simp only [Act.put, List.getElem_toArray, List.getElem_cons_zero, List.getElem_cons_succ, List.setIfInBounds_toArray, List.set_cons_zero, List.set_cons_succ]
          refine wpAnyH_take (i := 2) (v := ?_) rfl (by kernel_rfl) (by kernel_rfl) (by kernel_rfl) (fun _ _ _ h => h) (Or.inl ⟨by rfl, ?_⟩) hS0 ?_
          rotate_left
          · intro W _; go_simp; try with_reducible rfl
          try simp only [Act.put, List.getElem_toArray, List.getElem_cons_zero, List.getElem_cons_succ, List.setIfInBounds_toArray, List.set_cons_zero, List.set_cons_succ]
          refine wpAnyH_take (i := 3) (v := ?_) rfl (by kernel_rfl) (by kernel_rfl) (by kernel_rfl) (fun _ _ _ h => h) (Or.inl ⟨by rfl, ?_⟩) hS0 ?_
          rotate_left
          · intro W _; go_simp; try with_reducible rfl
          try simp only [Act.put, List.getElem_toArray, List.getElem_cons_zero, List.getElem_cons_succ, List.setIfInBounds_toArray, List.set_cons_zero, List.set_cons_succ]
          refine wpAnyH_take (i := 4) (v := ?_) rfl (by kernel_rfl) (by kernel_rfl) (by kernel_rfl) (fun _ _ _ h => h) (Or.inl ⟨by rfl, ?_⟩) hS0 ?_
          rotate_left
          · intro W hSW; have hx := (HI1.out.bk.later hSW.1).cellAt 1; try simp only [List.getElem?_toArray, List.getElem?_cons_succ, List.getElem?_cons_zero] at hx; go_simp; try with_reducible rfl
          try simp only [Act.put, List.getElem_toArray, List.getElem_cons_zero, List.getElem_cons_succ, List.setIfInBounds_toArray, List.set_cons_zero, List.set_cons_succ]
          refine wpAnyH_take (i := 5) (v := ?_) rfl (by kernel_rfl) (by kernel_rfl) (by kernel_rfl) (fun _ _ _ h => h) (Or.inl ⟨by rfl, ?_⟩) hS0 ?_
          rotate_left
          · intro W _; go_simp; try with_reducible rfl
          try simp only [Act.put, List.getElem_toArray, List.getElem_cons_zero, List.getElem_cons_succ, List.setIfInBounds_toArray, List.set_cons_zero, List.set_cons_succ]
          refine wpAnyH_take (i := 6) (v := ?_) rfl (by kernel_rfl) (by kernel_rfl) (by kernel_rfl) (fun _ _ _ h => h) (Or.inl ⟨by rfl, ?_⟩) hS0 ?_
          rotate_left
          · intro W _; have hsl := slice_loTV (A := B) (n := N) (c := d) HKN.out HNCV.out W; go_simp; try with_reducible rfl
          try simp only [Act.put, List.getElem_toArray, List.getElem_cons_zero, List.getElem_cons_succ, List.setIfInBounds_toArray, List.set_cons_zero, List.set_cons_succ]
          refine wpAnyH_take (i := 8) (v := ?_) rfl (by kernel_rfl) (by kernel_rfl) (by kernel_rfl) (fun _ _ _ h => h) (Or.inl ⟨by rfl, ?_⟩) hS0 ?_
          rotate_left
          · intro W _; go_simp; try with_reducible rfl
          try simp only [Act.put, List.getElem_toArray, List.getElem_cons_zero, List.getElem_cons_succ, List.setIfInBounds_toArray, List.set_cons_zero, List.set_cons_succ]
          refine wpAnyH_take (i := 11) (v := ?_) rfl (by kernel_rfl) (by kernel_rfl) (by kernel_rfl) (fun _ _ _ h => h) (Or.inl ⟨by rfl, ?_⟩) hS0 ?_
          rotate_left
          · intro W _; go_simp; try with_reducible rfl
          try simp only [Act.put, List.getElem_toArray, List.getElem_cons_zero, List.getElem_cons_succ, List.setIfInBounds_toArray, List.set_cons_zero, List.set_cons_succ]
          refine wpAnyH_take (i := 12) (v := ?_) rfl (by kernel_rfl) (by kernel_rfl) (by kernel_rfl) (fun _ _ _ h => h) (Or.inl ⟨by rfl, ?_⟩) hS0 ?_
          rotate_left
          · intro W _; go_simp; try with_reducible rfl
          try simp only [Act.put, List.getElem_toArray, List.getElem_cons_zero, List.getElem_cons_succ, List.setIfInBounds_toArray, List.set_cons_zero, List.set_cons_succ]
          refine wpAnyH_take (i := 13) (v := ?_) rfl (by kernel_rfl) (by kernel_rfl) (by kernel_rfl) (fun _ _ _ h => h) (Or.inl ⟨by rfl, ?_⟩) hS0 ?_
          rotate_left
          · intro W _; go_simp; try with_reducible rfl
          try simp only [Act.put, List.getElem_toArray, List.getElem_cons_zero, List.getElem_cons_succ, List.setIfInBounds_toArray, List.set_cons_zero, List.set_cons_succ]
          refine wpAnyH_take (i := 14) (v := ?_) rfl (by kernel_rfl) (by kernel_rfl) (by kernel_rfl) (fun _ _ _ h => h) (Or.inl ⟨by rfl, ?_⟩) hS0 ?_
          rotate_left
          · intro W hSW; have hx := (HI1.out.bk.later hSW.1).cellAt 1; try simp only [List.getElem?_toArray, List.getElem?_cons_succ, List.getElem?_cons_zero] at hx; go_simp; try with_reducible rfl
          try simp only [Act.put, List.getElem_toArray, List.getElem_cons_zero, List.getElem_cons_succ, List.setIfInBounds_toArray, List.set_cons_zero, List.set_cons_succ]
          refine wpAnyH_take (i := 15) (v := ?_) rfl (by kernel_rfl) (by kernel_rfl) (by kernel_rfl) (fun _ _ _ h => h) (Or.inl ⟨by rfl, ?_⟩) hS0 ?_
          rotate_left
          · intro W _; go_simp; try with_reducible rfl
          try simp only [Act.put, List.getElem_toArray, List.getElem_cons_zero, List.getElem_cons_succ, List.setIfInBounds_toArray, List.set_cons_zero, List.set_cons_succ]
          refine wpAnyH_take (i := 16) (v := ?_) rfl (by kernel_rfl) (by kernel_rfl) (by kernel_rfl) (fun _ _ _ h => h) (Or.inl ⟨by rfl, ?_⟩) hS0 ?_
          rotate_left
          · intro W _; have hsl := slice_hiTV (A := B) (n := N) (c := d) HKN.out HNCV.out W; go_simp; try with_reducible rfl
          try simp only [Act.put, List.getElem_toArray, List.getElem_cons_zero, List.getElem_cons_succ, List.setIfInBounds_toArray, List.set_cons_zero, List.set_cons_succ]
          refine wpAnyH_ready (rs := [7, 9]) (by kernel_rfl) (by simp) ?_
          refine (AllReadyH.cons rfl (fun K hK => ?_) (AllReadyH.cons rfl (fun K hK => ?_) AllReadyH.nil))
          · rw [if_pos (by rfl)]
            refine append_kn_op _ (.tmp 50) (.tmp 56) 29 rfl w1.heap.size 3 _ 1 8 Try.underlying29 infoI rfl (by omega) (.slice none 0 0) [] rfl (OwnK.nil _ _ _ _) B d k (cellsI (Y.take k)) rfl (by rw [cellsI_take]; exact RdK.take (RdK.later HRT.out hS0.1) k) (cellsI_k _) (cellsI_one _) HL7V.out HA7V.out HC7V.out hS0.1.size ?_
            intro v7v w7v hO hg
            have HO7v : Hid (OwnK w7v w1.heap.size 3 1 v7v (cellsI (Y.take k))) := hO
            have HG7v : Hid (Below w17s.drew.heap.size w17s.drew w7v) := ⟨hg.os, hg.tape, hg.output, hg.size, fun z hz => hg.block z hz (by simp [Value.ownBlock])⟩
            clear hO hg
            refine hK.out _ _ (⟨hS0.1.trans (HG7v.out.mono hS0.1.size), hS0.2.below HG7v.out⟩) (fun hS1 => ?_)
            clear hK K
            try simp only [Act.put, List.getElem_toArray, List.getElem_cons_zero, List.getElem_cons_succ, List.setIfInBounds_toArray, List.set_cons_zero, List.set_cons_succ]
            refine wpAnyH_ready (rs := [9]) (by kernel_rfl) (by simp) ?_
            refine AllReadyH.cons rfl (fun K hK => ?_) AllReadyH.nil
            rw [if_pos (by rfl)]
            refine ione_op 58 t rfl rfl ?_
            intro g9v w9v hgg hB9 hb9
            have HB9v := Lib.hid hB9
            have HL9v : Hid (Below w7v.heap.size w7v w9v) := hb9
            clear hgg hB9 hb9
            refine hK.out _ _ (⟨hS1.1.trans (HL9v.out.mono hS1.1.size), hS1.2.below HL9v.out⟩) (fun hS2 => ?_)
            clear hK K
            try simp only [Act.put, List.getElem_toArray, List.getElem_cons_zero, List.getElem_cons_succ, List.setIfInBounds_toArray, List.set_cons_zero, List.set_cons_succ]
            refine wpAnyH_ready (rs := [10]) (by kernel_rfl) (by simp) ?_
            refine AllReadyH.cons rfl (fun K hK => ?_) AllReadyH.nil
            rw [if_pos (by rfl)]
            refine append_k_op _ (.tmp 57) (.tmp 59) 29 rfl w1.heap.size 3 _ 1 8 Try.underlying29 infoI rfl (by omega) v7v (cellsI (Y.take k)) rfl (HO7v.out.below HL9v.out) ⟨g9v, 0, none⟩ 1 1 (cellsI [t]) rfl (RdK.of_bk (HB9v.out)) (cellsI_k _) (cellsI_one _) rfl HA8V.out HC8V.out hS2.1.size ?_
            intro v10v w10v hO hg
            rw [← cellsI_append] at hO
            have HO10v := Lib.hid hO
            have HG10v := Lib.hid hg
            clear hO hg
            refine hK.out _ _ (⟨hS2.1.grown HG10v.out hS2.1.size fun z hz => HO7v.out.block z hz, hS2.2.grp (GrP.of HG10v.out) fun z hz e => (HO7v.out.below HL9v.out).parted hS2.2 (by decide) e hz⟩) (fun hS3 => ?_)
            clear hK K
            try simp only [Act.put, List.getElem_toArray, List.getElem_cons_zero, List.getElem_cons_succ, List.setIfInBounds_toArray, List.set_cons_zero, List.set_cons_succ]
            refine wpAnyH_ready (rs := [17]) (by kernel_rfl) (by simp) ?_
            refine AllReadyH.cons rfl (fun K hK => ?_) AllReadyH.nil
            rw [if_pos (by rfl)]
            refine append_kn_op _ (.tmp 60) (.tmp 66) 29 rfl w1.heap.size 3 _ 1 8 Try.underlying29 infoI rfl (by omega) v10v (cellsI (Y.take k ++ [t])) rfl HO10v.out (tailT B d k 1) (d - k) (N - k) (cellsI (Y.drop k)) rfl (by rw [cellsI_drop]; exact RdK.drop (RdK.later HRT.out hS3.1) HNCV2.out) (cellsI_k _) (cellsI_one _) HL9V.out HA9V.out HC9V.out hS3.1.size ?_
            intro v17v w17v hO hg
            rw [← cellsI_append] at hO
            have HO17v := Lib.hid hO
            have HG17v := Lib.hid hg
            clear hO hg
            refine hK.out _ _ (⟨hS3.1.grown HG17v.out hS3.1.size fun z hz => HO10v.out.block z hz, hS3.2.grp (GrP.of HG17v.out) fun z hz e => HO10v.out.parted hS3.2 (by decide) e hz⟩) (fun hS4 => ?_)
            clear hK K
            try simp only [Act.put, List.getElem_toArray, List.getElem_cons_zero, List.getElem_cons_succ, List.setIfInBounds_toArray, List.set_cons_zero, List.set_cons_succ]
            refine wpAnyH_take (i := 18) (v := ?_) rfl (by kernel_rfl) (by kernel_rfl) (by kernel_rfl) (fun _ _ _ h => h) (Or.inl ⟨by rfl, ?_⟩) hS4 ?_
            rotate_left
            · intro W _; go_simp; try with_reducible rfl
            try simp only [Act.put, List.getElem_toArray, List.getElem_cons_zero, List.getElem_cons_succ, List.setIfInBounds_toArray, List.set_cons_zero, List.set_cons_succ]
            refine wpAnyH_done (by kernel_rfl) ?_ _
            have HW9 := Lib.hid hS4.1
            have HON := Lib.hid hS4.2
            have hb9 : Bk w17v r 31 #[.slice (some ⟨g, o, none⟩) N c, .slice B N d] := HI1.out.bk.later HW9.out
            obtain ⟨As, cs, hvs, -, -, -, -⟩ := OwnK.sl HON.out
            obtain ⟨At, ct, hvt, -, -, -, -⟩ := HO17v.out.sl
            obtain ⟨ls, hls⟩ : ∃ n, n = (cellsS (X.take k ++ [s] ++ X.drop k)).length := ⟨_, rfl⟩
            rw [← hls] at hvs
            clear hls
            obtain ⟨lt, hlt9⟩ : ∃ n, n = (cellsI (Y.take k ++ [t] ++ Y.drop k)).length := ⟨_, rfl⟩
            rw [← hlt9] at hvt
            clear hlt9
            have cf0 : w17v.cell? ⟨r, 0, none⟩ = some (.slice (some ⟨g, o, none⟩) N c) := hb9.cellAt 0
            have cf1 : w17v.cell? ⟨r, 1, none⟩ = some (.slice B N d) := hb9.cellAt 1
            have ff0 : w17v.frozen? ⟨r, 0, none⟩ = false := hb9.free 0
            have ff1 : w17v.frozen? ⟨r, 1, none⟩ = false := hb9.free 1
            have HB9 := Lib.hid hb9
            clear hb9
            have HFIN := Lib.hid (FIN.out k w17v v17s v17v HKN.out HPRE.out HSTOP.out HW9.out HON.out HO17v.out)
            clear HO17v HON
            subst hvs hvt
            go_wp2_with fail
            first | go_end0 | refine bodyPost_ret (results_none rfl _ _ _) rfl ?_
            exact ⟨rfl, HFIN.out⟩
          · rw [if_pos (by rfl)]
            refine ione_op 58 t rfl rfl ?_
            intro g9v w9v hgg hB9 hb9
            have HB9v := Lib.hid hB9
            have HL9v : Hid (Below w17s.drew.heap.size w17s.drew w9v) := hb9
            clear hgg hB9 hb9
            refine hK.out _ _ (⟨hS0.1.trans (HL9v.out.mono hS0.1.size), hS0.2.below HL9v.out⟩) (fun hS1 => ?_)
            clear hK K
            try simp only [Act.put, List.getElem_toArray, List.getElem_cons_zero, List.getElem_cons_succ, List.setIfInBounds_toArray, List.set_cons_zero, List.set_cons_succ]
            refine wpAnyH_ready (rs := [7]) (by kernel_rfl) (by simp) ?_
            refine AllReadyH.cons rfl (fun K hK => ?_) AllReadyH.nil
            rw [if_pos (by rfl)]
            refine append_kn_op _ (.tmp 50) (.tmp 56) 29 rfl w1.heap.size 3 _ 1 8 Try.underlying29 infoI rfl (by omega) (.slice none 0 0) [] rfl (OwnK.nil _ _ _ _) B d k (cellsI (Y.take k)) rfl (by rw [cellsI_take]; exact RdK.take (RdK.later HRT.out hS1.1) k) (cellsI_k _) (cellsI_one _) HL7V.out HA7V.out HC7V.out hS1.1.size ?_
            intro v7v w7v hO hg
            have HO7v : Hid (OwnK w7v w1.heap.size 3 1 v7v (cellsI (Y.take k))) := hO
            have HG7v : Hid (Below w9v.heap.size w9v w7v) := ⟨hg.os, hg.tape, hg.output, hg.size, fun z hz => hg.block z hz (by simp [Value.ownBlock])⟩
            clear hO hg
            refine hK.out _ _ (⟨hS1.1.trans (HG7v.out.mono hS1.1.size), hS1.2.below HG7v.out⟩) (fun hS2 => ?_)
            clear hK K
            try simp only [Act.put, List.getElem_toArray, List.getElem_cons_zero, List.getElem_cons_succ, List.setIfInBounds_toArray, List.set_cons_zero, List.set_cons_succ]
            refine wpAnyH_ready (rs := [10]) (by kernel_rfl) (by simp) ?_
            refine AllReadyH.cons rfl (fun K hK => ?_) AllReadyH.nil
            rw [if_pos (by rfl)]
            refine append_k_op _ (.tmp 57) (.tmp 59) 29 rfl w1.heap.size 3 _ 1 8 Try.underlying29 infoI rfl (by omega) v7v (cellsI (Y.take k)) rfl (HO7v.out) ⟨g9v, 0, none⟩ 1 1 (cellsI [t]) rfl (RdK.of_bk (HB9v.out.later HG7v.out)) (cellsI_k _) (cellsI_one _) rfl HA8V.out HC8V.out hS2.1.size ?_
            intro v10v w10v hO hg
            rw [← cellsI_append] at hO
            have HO10v := Lib.hid hO
            have HG10v := Lib.hid hg
            clear hO hg
            refine hK.out _ _ (⟨hS2.1.grown HG10v.out hS2.1.size fun z hz => HO7v.out.block z hz, hS2.2.grp (GrP.of HG10v.out) fun z hz e => HO7v.out.parted hS2.2 (by decide) e hz⟩) (fun hS3 => ?_)
            clear hK K
            try simp only [Act.put, List.getElem_toArray, List.getElem_cons_zero, List.getElem_cons_succ, List.setIfInBounds_toArray, List.set_cons_zero, List.set_cons_succ]
            refine wpAnyH_ready (rs := [17]) (by kernel_rfl) (by simp) ?_
            refine AllReadyH.cons rfl (fun K hK => ?_) AllReadyH.nil
            rw [if_pos (by rfl)]
            refine append_kn_op _ (.tmp 60) (.tmp 66) 29 rfl w1.heap.size 3 _ 1 8 Try.underlying29 infoI rfl (by omega) v10v (cellsI (Y.take k ++ [t])) rfl HO10v.out (tailT B d k 1) (d - k) (N - k) (cellsI (Y.drop k)) rfl (by rw [cellsI_drop]; exact RdK.drop (RdK.later HRT.out hS3.1) HNCV2.out) (cellsI_k _) (cellsI_one _) HL9V.out HA9V.out HC9V.out hS3.1.size ?_
            intro v17v w17v hO hg
            rw [← cellsI_append] at hO
            have HO17v := Lib.hid hO
            have HG17v := Lib.hid hg
            clear hO hg
            refine hK.out _ _ (⟨hS3.1.grown HG17v.out hS3.1.size fun z hz => HO10v.out.block z hz, hS3.2.grp (GrP.of HG17v.out) fun z hz e => HO10v.out.parted hS3.2 (by decide) e hz⟩) (fun hS4 => ?_)
            clear hK K
            try simp only [Act.put, List.getElem_toArray, List.getElem_cons_zero, List.getElem_cons_succ, List.setIfInBounds_toArray, List.set_cons_zero, List.set_cons_succ]
            refine wpAnyH_take (i := 18) (v := ?_) rfl (by kernel_rfl) (by kernel_rfl) (by kernel_rfl) (fun _ _ _ h => h) (Or.inl ⟨by rfl, ?_⟩) hS4 ?_
            rotate_left
            · intro W _; go_simp; try with_reducible rfl
            try simp only [Act.put, List.getElem_toArray, List.getElem_cons_zero, List.getElem_cons_succ, List.setIfInBounds_toArray, List.set_cons_zero, List.set_cons_succ]
            refine wpAnyH_done (by kernel_rfl) ?_ _
            have HW9 := Lib.hid hS4.1
            have HON := Lib.hid hS4.2
            have hb9 : Bk w17v r 31 #[.slice (some ⟨g, o, none⟩) N c, .slice B N d] := HI1.out.bk.later HW9.out
            obtain ⟨As, cs, hvs, -, -, -, -⟩ := OwnK.sl HON.out
            obtain ⟨At, ct, hvt, -, -, -, -⟩ := HO17v.out.sl
            obtain ⟨ls, hls⟩ : ∃ n, n = (cellsS (X.take k ++ [s] ++ X.drop k)).length := ⟨_, rfl⟩
            rw [← hls] at hvs
            clear hls
            obtain ⟨lt, hlt9⟩ : ∃ n, n = (cellsI (Y.take k ++ [t] ++ Y.drop k)).length := ⟨_, rfl⟩
            rw [← hlt9] at hvt
            clear hlt9
            have cf0 : w17v.cell? ⟨r, 0, none⟩ = some (.slice (some ⟨g, o, none⟩) N c) := hb9.cellAt 0
            have cf1 : w17v.cell? ⟨r, 1, none⟩ = some (.slice B N d) := hb9.cellAt 1
            have ff0 : w17v.frozen? ⟨r, 0, none⟩ = false := hb9.free 0
            have ff1 : w17v.frozen? ⟨r, 1, none⟩ = false := hb9.free 1
            have HB9 := Lib.hid hb9
            clear hb9
            have HFIN := Lib.hid (FIN.out k w17v v17s v17v HKN.out HPRE.out HSTOP.out HW9.out HON.out HO17v.out)
            clear HO17v HON
            subst hvs hvt
            go_wp2_with fail
            first | go_end0 | refine bodyPost_ret (results_none rfl _ _ _) rfl ?_
            exact ⟨rfl, HFIN.out⟩
    · have HSTOP : Hid (∀ h : k < E.length, sL E[k].1 s = false) := fun h => absurd h (by rw [← HNE.out]; exact hlt)
      have hki : ¬ (k : Int) < (N : Int) := by omega
      clear go_on hk
      go_wp2_with fail
      clear hki hlt
      have HL7S : Hid (k = (cellsS (X.take k)).length) := by show _ = _; rw [cellsS_length, List.length_take]; have := HKN.out; have := HNX.out; omega
      have HL7V : Hid (k = (cellsI (Y.take k)).length) := by show _ = _; rw [cellsI_length, List.length_take]; have := HKN.out; have := HNY.out; omega
      have HA7S : Hid (([] : List (List Value)).length + (cellsS (X.take k)).length ≤ maxLen) := by show _ ≤ _; rw [← HL7S.out]; have := HN9.out; have := HKN.out; simp only [List.length_nil, maxLen]; omega
      have HA7V : Hid (([] : List (List Value)).length + (cellsI (Y.take k)).length ≤ maxLen) := by show _ ≤ _; rw [← HL7V.out]; have := HN9.out; have := HKN.out; simp only [List.length_nil, maxLen]; omega
      have HC7S : Hid ((([] : List (List Value)).length + (cellsS (X.take k)).length) * 16 ≤ 140737488355328) := by show _ ≤ _; rw [← HL7S.out]; have := HN9.out; have := HKN.out; simp only [List.length_nil]; omega
      have HC7V : Hid ((([] : List (List Value)).length + (cellsI (Y.take k)).length) * 8 ≤ 140737488355328) := by show _ ≤ _; rw [← HL7V.out]; have := HN9.out; have := HKN.out; simp only [List.length_nil]; omega
      have HA8S : Hid ((cellsS (X.take k)).length + (cellsS [s]).length ≤ maxLen) := by show _ ≤ _; rw [← HL7S.out, cellsS_length]; have := HN9.out; have := HKN.out; simp only [List.length_cons, List.length_nil, maxLen]; omega
      have HA8V : Hid ((cellsI (Y.take k)).length + (cellsI [t]).length ≤ maxLen) := by show _ ≤ _; rw [← HL7V.out, cellsI_length]; have := HN9.out; have := HKN.out; simp only [List.length_cons, List.length_nil, maxLen]; omega
      have HC8S : Hid (((cellsS (X.take k)).length + (cellsS [s]).length) * 16 ≤ 140737488355328) := by show _ ≤ _; rw [← HL7S.out, cellsS_length]; have := HN9.out; have := HKN.out; simp only [List.length_cons, List.length_nil]; omega
      have HC8V : Hid (((cellsI (Y.take k)).length + (cellsI [t]).length) * 8 ≤ 140737488355328) := by show _ ≤ _; rw [← HL7V.out, cellsI_length]; have := HN9.out; have := HKN.out; simp only [List.length_cons, List.length_nil]; omega
      have HL9S : Hid (N - k = (cellsS (X.drop k)).length) := by show _ = _; rw [cellsS_length, List.length_drop, ← HNX.out]
      have HL9V : Hid (N - k = (cellsI (Y.drop k)).length) := by show _ = _; rw [cellsI_length, List.length_drop, ← HNY.out]
      have hlsS : (cellsS (X.take k ++ [s])).length = k + 1 := by rw [cellsS_append, List.length_append, ← HL7S.out]; rfl
      have hlsV : (cellsI (Y.take k ++ [t])).length = k + 1 := by rw [cellsI_append, List.length_append, ← HL7V.out]; rfl
      have HA9S : Hid ((cellsS (X.take k ++ [s])).length + (cellsS (X.drop k)).length ≤ maxLen) := by show _ ≤ _; rw [hlsS, ← HL9S.out]; have := HN9.out; have := HKN.out; simp only [maxLen]; omega
      have HA9V : Hid ((cellsI (Y.take k ++ [t])).length + (cellsI (Y.drop k)).length ≤ maxLen) := by show _ ≤ _; rw [hlsV, ← HL9V.out]; have := HN9.out; have := HKN.out; simp only [maxLen]; omega
      have HC9S : Hid (((cellsS (X.take k ++ [s])).length + (cellsS (X.drop k)).length) * 16 ≤ 140737488355328) := by show _ ≤ _; rw [hlsS, ← HL9S.out]; have := HN9.out; have := HKN.out; omega
      have HC9V : Hid (((cellsI (Y.take k ++ [t])).length + (cellsI (Y.drop k)).length) * 8 ≤ 140737488355328) := by show _ ≤ _; rw [hlsV, ← HL9V.out]; have := HN9.out; have := HKN.out; omega
      clear hlsS hlsV
      refine wp_region_held_drew (S := fun W => Below w1.heap.size w1 W) (by kernel_rfl) (Below.drew (Below.refl _ _)) (fun hS0 => ?_)
      refine wpAnyH_take (i := 0) (v := ?_) rfl (by kernel_rfl) (by kernel_rfl) (by kernel_rfl) (fun _ _ _ h => h) (Or.inl ⟨by rfl, ?_⟩) hS0 ?_
      rotate_left
      · intro W _; go_simp; try with_reducible rfl
      try simp only [Act.put, List.getElem_toArray, List.getElem_cons_zero, List.setIfInBounds_toArray, List.set_cons_zero, List.set_cons_succ]
      refine wpAnyH_take (i := 1) (v := ?_) rfl (by kernel_rfl) (by kernel_rfl) (by kernel_rfl) (fun _ _ _ h => h) (Or.inl ⟨by rfl, ?_⟩) hS0 ?_
      rotate_left
      · intro W _; go_simp; try with_reducible rfl
      try simp only [Act.put, List.getElem_toArray, List.getElem_cons_zero, List.getElem_cons_succ, List.setIfInBounds_toArray, List.set_cons_zero, List.set_cons_succ]
      refine wpAnyH_take (i := 2) (v := ?_) rfl (by kernel_rfl) (by kernel_rfl) (by kernel_rfl) (fun _ _ _ h => h) (Or.inl ⟨by rfl, ?_⟩) hS0 ?_
      rotate_left
      · intro W _; go_simp; try with_reducible rfl
      try simp only [Act.put, List.getElem_toArray, List.getElem_cons_zero, List.getElem_cons_succ, List.setIfInBounds_toArray, List.set_cons_zero, List.set_cons_succ]
      refine wpAnyH_take (i := 3) (v := ?_) rfl (by kernel_rfl) (by kernel_rfl) (by kernel_rfl) (fun _ _ _ h => h) (Or.inl ⟨by rfl, ?_⟩) hS0 ?_
      rotate_left
      · intro W _; go_simp; try with_reducible rfl
      try simp only [Act.put, List.getElem_toArray, List.getElem_cons_zero, List.getElem_cons_succ, List.setIfInBounds_toArray, List.set_cons_zero, List.set_cons_succ]
      refine wpAnyH_take (i := 4) (v := ?_) rfl (by kernel_rfl) (by kernel_rfl) (by kernel_rfl) (fun _ _ _ h => h) (Or.inl ⟨by rfl, ?_⟩) hS0 ?_
      rotate_left
      · intro W hSW; have hx := (HI1.out.bk.later hSW).cellAt 0; try simp only [List.getElem?_toArray, List.getElem?_cons_succ, List.getElem?_cons_zero] at hx; go_simp; try with_reducible rfl
      try simp only [Act.put, List.getElem_toArray, List.getElem_cons_zero, List.getElem_cons_succ, List.setIfInBounds_toArray, List.set_cons_zero, List.set_cons_succ]
      refine wpAnyH_take (i := 5) (v := ?_) rfl (by kernel_rfl) (by kernel_rfl) (by kernel_rfl) (fun _ _ _ h => h) (Or.inl ⟨by rfl, ?_⟩) hS0 ?_
      rotate_left
      · intro W _; go_simp; try with_reducible rfl
      try simp only [Act.put, List.getElem_toArray, List.getElem_cons_zero, List.getElem_cons_succ, List.setIfInBounds_toArray, List.set_cons_zero, List.set_cons_succ]
      refine wpAnyH_take (i := 6) (v := ?_) rfl (by kernel_rfl) (by kernel_rfl) (by kernel_rfl) (fun _ _ _ h => h) (Or.inl ⟨by rfl, ?_⟩) hS0 ?_
      rotate_left
      · intro W _; have hsl := slice_loTS (A := A) (n := N) (c := c) HKN.out HNCS.out W; go_simp; try with_reducible rfl
      try simp only [Act.put, List.getElem_toArray, List.getElem_cons_zero, List.getElem_cons_succ, List.setIfInBounds_toArray, List.set_cons_zero, List.set_cons_succ]
      refine wpAnyH_take (i := 8) (v := ?_) rfl (by kernel_rfl) (by kernel_rfl) (by kernel_rfl) (fun _ _ _ h => h) (Or.inl ⟨by rfl, ?_⟩) hS0 ?_
      rotate_left
      · intro W _; go_simp; try with_reducible rfl
      try simp only [Act.put, List.getElem_toArray, List.getElem_cons_zero, List.getElem_cons_succ, List.setIfInBounds_toArray, List.set_cons_zero, List.set_cons_succ]
      refine wpAnyH_take (i := 11) (v := ?_) rfl (by kernel_rfl) (by kernel_rfl) (by kernel_rfl) (fun _ _ _ h => h) (Or.inl ⟨by rfl, ?_⟩) hS0 ?_
      rotate_left
      · intro W _; go_simp; try with_reducible rfl
      try simp only [Act.put, List.getElem_toArray, List.getElem_cons_zero, List.getElem_cons_succ, List.setIfInBounds_toArray, List.set_cons_zero, List.set_cons_succ]
      refine wpAnyH_take (i := 12) (v := ?_) rfl (by kernel_rfl) (by kernel_rfl) (by kernel_rfl) (fun _ _ _ h => h) (Or.inl ⟨by rfl, ?_⟩) hS0 ?_
      rotate_left
      · intro W _; go_simp; try with_reducible rfl
      try simp only [Act.put, List.getElem_toArray, List.getElem_cons_zero, List.getElem_cons_succ, List.setIfInBounds_toArray, List.set_cons_zero, List.set_cons_succ]
      refine wpAnyH_take (i := 13) (v := ?_) rfl (by kernel_rfl) (by kernel_rfl) (by kernel_rfl) (fun _ _ _ h => h) (Or.inl ⟨by rfl, ?_⟩) hS0 ?_
      rotate_left
      · intro W _; go_simp; try with_reducible rfl
      try simp only [Act.put, List.getElem_toArray, List.getElem_cons_zero, List.getElem_cons_succ, List.setIfInBounds_toArray, List.set_cons_zero, List.set_cons_succ]
      refine wpAnyH_take (i := 14) (v := ?_) rfl (by kernel_rfl) (by kernel_rfl) (by kernel_rfl) (fun _ _ _ h => h) (Or.inl ⟨by rfl, ?_⟩) hS0 ?_
      rotate_left
      · intro W hSW; have hx := (HI1.out.bk.later hSW).cellAt 0; try simp only [List.getElem?_toArray, List.getElem?_cons_succ, List.getElem?_cons_zero] at hx; go_simp; try with_reducible rfl
      try simp only [Act.put, List.getElem_toArray, List.getElem_cons_zero, List.getElem_cons_succ, List.setIfInBounds_toArray, List.set_cons_zero, List.set_cons_succ]
      refine wpAnyH_take (i := 15) (v := ?_) rfl (by kernel_rfl) (by kernel_rfl) (by kernel_rfl) (fun _ _ _ h => h) (Or.inl ⟨by rfl, ?_⟩) hS0 ?_
      rotate_left
      · intro W _; go_simp; try with_reducible rfl
      try simp only [Act.put, List.getElem_toArray, List.getElem_cons_zero, List.getElem_cons_succ, List.setIfInBounds_toArray, List.set_cons_zero, List.set_cons_succ]
      refine wpAnyH_take (i := 16) (v := ?_) rfl (by kernel_rfl) (by kernel_rfl) (by kernel_rfl) (fun _ _ _ h => h) (Or.inl ⟨by rfl, ?_⟩) hS0 ?_
      rotate_left
      · intro W _; have hsl := slice_hiTS (A := A) (n := N) (c := c) HKN.out HNCS.out W; go_simp; try with_reducible rfl
      try simp only [Act.put, List.getElem_toArray, List.getElem_cons_zero, List.getElem_cons_succ, List.setIfInBounds_toArray, List.set_cons_zero, List.set_cons_succ]
      refine wpAnyH_ready (rs := [7, 9]) (by kernel_rfl) (by simp) ?_
      refine (AllReadyH.cons rfl (fun K hK => ?_) (AllReadyH.cons rfl (fun K hK => ?_) AllReadyH.nil))
      · rw [if_pos (by rfl)]
        refine append_kn_op _ (.tmp 32) (.tmp 38) 28 rfl w1.heap.size 9 _ 1 16 Try.underlying28 infoS rfl (by omega) (.slice none 0 0) [] rfl (OwnK.nil _ _ _ _) A c k (cellsS (X.take k)) rfl (by rw [cellsS_take]; exact RdK.take (RdK.later HRS.out hS0) k) (cellsS_k _) (cellsS_one _) HL7S.out HA7S.out HC7S.out hS0.size ?_
        intro v7s w7s hO hg
        have HO7s : Hid (OwnK w7s w1.heap.size 9 1 v7s (cellsS (X.take k))) := hO
        have HG7s : Hid (Below w1.drew.heap.size w1.drew w7s) := ⟨hg.os, hg.tape, hg.output, hg.size, fun z hz => hg.block z hz (by simp [Value.ownBlock])⟩
        clear hO hg
        refine hK.out _ _ (hS0.trans (HG7s.out.mono hS0.size)) (fun hS1 => ?_)
        clear hK K
        try simp only [Act.put, List.getElem_toArray, List.getElem_cons_zero, List.getElem_cons_succ, List.setIfInBounds_toArray, List.set_cons_zero, List.set_cons_succ]
        refine wpAnyH_ready (rs := [9]) (by kernel_rfl) (by simp) ?_
        refine AllReadyH.cons rfl (fun K hK => ?_) AllReadyH.nil
        rw [if_pos (by rfl)]
        refine sone_op 40 s rfl rfl ?_
        intro g9s w9s hgg hB9 hb9
        have HB9s := Lib.hid hB9
        have HL9s : Hid (Below w7s.heap.size w7s w9s) := hb9
        clear hgg hB9 hb9
        refine hK.out _ _ (hS1.trans (HL9s.out.mono hS1.size)) (fun hS2 => ?_)
        clear hK K
        try simp only [Act.put, List.getElem_toArray, List.getElem_cons_zero, List.getElem_cons_succ, List.setIfInBounds_toArray, List.set_cons_zero, List.set_cons_succ]
        refine wpAnyH_ready (rs := [10]) (by kernel_rfl) (by simp) ?_
        refine AllReadyH.cons rfl (fun K hK => ?_) AllReadyH.nil
        rw [if_pos (by rfl)]
        refine append_k_op _ (.tmp 39) (.tmp 41) 28 rfl w1.heap.size 9 _ 1 16 Try.underlying28 infoS rfl (by omega) v7s (cellsS (X.take k)) rfl (HO7s.out.below HL9s.out) ⟨g9s, 0, none⟩ 1 1 (cellsS [s]) rfl (RdK.of_bk (HB9s.out)) (cellsS_k _) (cellsS_one _) rfl HA8S.out HC8S.out hS2.size ?_
        intro v10s w10s hO hg
        rw [← cellsS_append] at hO
        have HO10s := Lib.hid hO
        have HG10s := Lib.hid hg
        clear hO hg
        refine hK.out _ _ (hS2.grown HG10s.out hS2.size fun z hz => HO7s.out.block z hz) (fun hS3 => ?_)
        clear hK K
        try simp only [Act.put, List.getElem_toArray, List.getElem_cons_zero, List.getElem_cons_succ, List.setIfInBounds_toArray, List.set_cons_zero, List.set_cons_succ]
        refine wpAnyH_ready (rs := [17]) (by kernel_rfl) (by simp) ?_
        refine AllReadyH.cons rfl (fun K hK => ?_) AllReadyH.nil
        rw [if_pos (by rfl)]
        refine append_kn_op _ (.tmp 42) (.tmp 48) 28 rfl w1.heap.size 9 _ 1 16 Try.underlying28 infoS rfl (by omega) v10s (cellsS (X.take k ++ [s])) rfl HO10s.out (tailT A c k 1) (c - k) (N - k) (cellsS (X.drop k)) rfl (by rw [cellsS_drop]; exact RdK.drop (RdK.later HRS.out hS3) HNCS2.out) (cellsS_k _) (cellsS_one _) HL9S.out HA9S.out HC9S.out hS3.size ?_
        intro v17s w17s hO hg
        rw [← cellsS_append] at hO
        have HO17s := Lib.hid hO
        have HG17s := Lib.hid hg
        clear hO hg
        refine hK.out _ _ (hS3.grown HG17s.out hS3.size fun z hz => HO10s.out.block z hz) (fun hS4 => ?_)
        clear hK K
        try simp only [Act.put, List.getElem_toArray, List.getElem_cons_zero, List.getElem_cons_succ, List.setIfInBounds_toArray, List.set_cons_zero, List.set_cons_succ]
        refine wpAnyH_take (i := 18) (v := ?_) rfl (by kernel_rfl) (by kernel_rfl) (by kernel_rfl) (fun _ _ _ h => h) (Or.inl ⟨by rfl, ?_⟩) hS4 ?_
        rotate_left
        · intro W _; go_simp; try with_reducible rfl
        try simp only [Act.put, List.getElem_toArray, List.getElem_cons_zero, List.getElem_cons_succ, List.setIfInBounds_toArray, List.set_cons_zero, List.set_cons_succ]
        refine wpAnyH_done (by kernel_rfl) ?_ _
        have HW17 := Lib.hid hS4
        go_wp2_with fail
        refine wp_region_held_drew (S := fun W => Below w1.heap.size w1 W ∧ OwnK W w1.heap.size 9 1 v17s (cellsS (X.take k ++ [s] ++ X.drop k))) (by kernel_rfl) (⟨Below.drew HW17.out, HO17s.out⟩) (fun hS0 => ?_)
        refine wpAnyH_take (i := 0) (v := ?_) rfl (by kernel_rfl) (by kernel_rfl) (by kernel_rfl) (fun _ _ _ h => h) (Or.inl ⟨by rfl, ?_⟩) hS0 ?_
        rotate_left
        · intro W _; go_simp; try with_reducible rfl
        try simp only [Act.put, List.getElem_toArray, List.getElem_cons_zero, List.setIfInBounds_toArray, List.set_cons_zero, List.set_cons_succ]
        refine wpAnyH_take (i := 1) (v := ?_) rfl (by kernel_rfl) (by kernel_rfl) (by kernel_rfl) (fun _ _ _ h => h) (Or.inl ⟨by rfl, ?_⟩) hS0 ?_
        rotate_left
        · intro W _; go_simp; try with_reducible rfl
        try simp only [Act.put, List.getElem_toArray, List.getElem_cons_zero, List.getElem_cons_succ, List.setIfInBounds_toArray, List.set_cons_zero, List.set_cons_succ]
        refine wpAnyH_take (i := 2) (v := ?_) rfl (by kernel_rfl) (by kernel_rfl) (by kernel_rfl) (fun _ _ _ h => h) (Or.inl ⟨by rfl, ?_⟩) hS0 ?_
        rotate_left
        · intro W _; go_simp; try with_reducible rfl
        try simp only [Act.put, List.getElem_toArray, List.getElem_cons_zero, List.getElem_cons_succ, List.setIfInBounds_toArray, List.set_cons_zero, List.set_cons_succ]
        refine wpAnyH_take (i := 3) (v := ?_) rfl (by kernel_rfl) (by kernel_rfl) (by kernel_rfl) (fun _ _ _ h => h) (Or.inl ⟨by rfl, ?_⟩) hS0 ?_
        rotate_left
        · intro W _; go_simp; try with_reducible rfl
        try simp only [Act.put, List.getElem_toArray, List.getElem_cons_zero, List.getElem_cons_succ, List.setIfInBounds_toArray, List.set_cons_zero, List.set_cons_succ]
        refine wpAnyH_take (i := 4) (v := ?_) rfl (by kernel_rfl) (by kernel_rfl) (by kernel_rfl) (fun _ _ _ h => h) (Or.inl ⟨by rfl, ?_⟩) hS0 ?_
        rotate_left
        · intro W hSW; have hx := (HI1.out.bk.later hSW.1).cellAt 1; try simp only [List.getElem?_toArray, List.getElem?_cons_succ, List.getElem?_cons_zero] at hx; go_simp; try with_reducible rfl
        try simp only [Act.put, List.getElem_toArray, List.getElem_cons_zero, List.getElem_cons_succ, List.setIfInBounds_toArray, List.set_cons_zero, List.set_cons_succ]
        refine wpAnyH_take (i := 5) (v := ?_) rfl (by kernel_rfl) (by kernel_rfl) (by kernel_rfl) (fun _ _ _ h => h) (Or.inl ⟨by rfl, ?_⟩) hS0 ?_
        rotate_left
        · intro W _; go_simp; try with_reducible rfl
        try simp only [Act.put, List.getElem_toArray, List.getElem_cons_zero, List.getElem_cons_succ, List.setIfInBounds_toArray, List.set_cons_zero, List.set_cons_succ]
        refine wpAnyH_take (i := 6) (v := ?_) rfl (by kernel_rfl) (by kernel_rfl) (by kernel_rfl) (fun _ _ _ h => h) (Or.inl ⟨by rfl, ?_⟩) hS0 ?_
        rotate_left
        · intro W _; have hsl := slice_loTV (A := B) (n := N) (c := d) HKN.out HNCV.out W; go_simp; try with_reducible rfl
        try simp only [Act.put, List.getElem_toArray, List.getElem_cons_zero, List.getElem_cons_succ, List.setIfInBounds_toArray, List.set_cons_zero, List.set_cons_succ]
        refine wpAnyH_take (i := 8) (v := ?_) rfl (by kernel_rfl) (by kernel_rfl) (by kernel_rfl) (fun _ _ _ h => h) (Or.inl ⟨by rfl, ?_⟩) hS0 ?_
        rotate_left
        · intro W _; go_simp; try with_reducible rfl
        try simp only [Act.put, List.getElem_toArray, List.getElem_cons_zero, List.getElem_cons_succ, List.setIfInBounds_toArray, List.set_cons_zero, List.set_cons_succ]
        refine wpAnyH_take (i := 11) (v := ?_) rfl (by kernel_rfl) (by kernel_rfl) (by kernel_rfl) (fun _ _ _ h => h) (Or.inl ⟨by rfl, ?_⟩) hS0 ?_
        rotate_left
        · intro W _; go_simp; try with_reducible rfl
        try simp only [Act.put, List.getElem_toArray, List.getElem_cons_zero, List.getElem_cons_succ, List.setIfInBounds_toArray, List.set_cons_zero, List.set_cons_succ]
        refine wpAnyH_take (i := 12) (v := ?_) rfl (by kernel_rfl) (by kernel_rfl) (by kernel_rfl) (fun _ _ _ h => h) (Or.inl ⟨by rfl, ?_⟩) hS0 ?_
        rotate_left
        · intro W _; go_simp; try with_reducible rfl
        try simp only [Act.put, List.getElem_toArray, List.getElem_cons_zero, List.getElem_cons_succ, List.setIfInBounds_toArray, List.set_cons_zero, List.set_cons_succ]
        refine wpAnyH_take (i := 13) (v := ?_) rfl (by kernel_rfl) (by kernel_rfl) (by kernel_rfl) (fun _ _ _ h => h) (Or.inl ⟨by rfl, ?_⟩) hS0 ?_
        rotate_left
        · intro W _; go_simp; try with_reducible rfl
        try simp only [Act.put, List.getElem_toArray, List.getElem_cons_zero, List.getElem_cons_succ, List.setIfInBounds_toArray, List.set_cons_zero, List.set_cons_succ]
        refine wpAnyH_take (i := 14) (v := ?_) rfl (by kernel_rfl) (by kernel_rfl) (by kernel_rfl) (fun _ _ _ h => h) (Or.inl ⟨by rfl, ?_⟩) hS0 ?_
        rotate_left
        · intro W hSW; have hx := (HI1.out.bk.later hSW.1).cellAt 1; try simp only [List.getElem?_toArray, List.getElem?_cons_succ, List.getElem?_cons_zero] at hx; go_simp; try with_reducible rfl
        try simp only [Act.put, List.getElem_toArray, List.getElem_cons_zero, List.getElem_cons_succ, List.setIfInBounds_toArray, List.set_cons_zero, List.set_cons_succ]
        refine wpAnyH_take (i := 15) (v := ?_) rfl (by kernel_rfl) (by kernel_rfl) (by kernel_rfl) (fun _ _ _ h => h) (Or.inl ⟨by rfl, ?_⟩) hS0 ?_
        rotate_left
        · intro W _; go_simp; try with_reducible rfl
        try simp only [Act.put, List.getElem_toArray, List.getElem_cons_zero, List.getElem_cons_succ, List.setIfInBounds_toArray, List.set_cons_zero, List.set_cons_succ]
        refine wpAnyH_take (i := 16) (v := ?_) rfl (by kernel_rfl) (by kernel_rfl) (by kernel_rfl) (fun _ _ _ h => h) (Or.inl ⟨by rfl, ?_⟩) hS0 ?_
        rotate_left
        · intro W _; have hsl := slice_hiTV (A := B) (n := N) (c := d) HKN.out HNCV.out W; go_simp; try with_reducible rfl
        try simp only [Act.put, List.getElem_toArray, List.getElem_cons_zero, List.getElem_cons_succ, List.setIfInBounds_toArray, List.set_cons_zero, List.set_cons_succ]
        refine wpAnyH_ready (rs := [7, 9]) (by kernel_rfl) (by simp) ?_
        refine (AllReadyH.cons rfl (fun K hK => ?_) (AllReadyH.cons rfl (fun K hK => ?_) AllReadyH.nil))
        · rw [if_pos (by rfl)]
          refine append_kn_op _ (.tmp 50) (.tmp 56) 29 rfl w1.heap.size 3 _ 1 8 Try.underlying29 infoI rfl (by omega) (.slice none 0 0) [] rfl (OwnK.nil _ _ _ _) B d k (cellsI (Y.take k)) rfl (by rw [cellsI_take]; exact RdK.take (RdK.later HRT.out hS0.1) k) (cellsI_k _) (cellsI_one _) HL7V.out HA7V.out HC7V.out hS0.1.size ?_
          intro v7v w7v hO hg
          have HO7v : Hid (OwnK w7v w1.heap.size 3 1 v7v (cellsI (Y.take k))) := hO
          have HG7v : Hid (Below w17s.drew.heap.size w17s.drew w7v) := ⟨hg.os, hg.tape, hg.output, hg.size, fun z hz => hg.block z hz (by simp [Value.ownBlock])⟩
          clear hO hg
          refine hK.out _ _ (⟨hS0.1.trans (HG7v.out.mono hS0.1.size), hS0.2.below HG7v.out⟩) (fun hS1 => ?_)
          clear hK K
          try simp only [Act.put, List.getElem_toArray, List.getElem_cons_zero, List.getElem_cons_succ, List.setIfInBounds_toArray, List.set_cons_zero, List.set_cons_succ]
          refine wpAnyH_ready (rs := [9]) (by kernel_rfl) (by simp) ?_
          refine AllReadyH.cons rfl (fun K hK => ?_) AllReadyH.nil
          rw [if_pos (by rfl)]
          refine ione_op 58 t rfl rfl ?_
          intro g9v w9v hgg hB9 hb9
          have HB9v := Lib.hid hB9
          have HL9v : Hid (Below w7v.heap.size w7v w9v) := hb9
          clear hgg hB9 hb9
          refine hK.out _ _ (⟨hS1.1.trans (HL9v.out.mono hS1.1.size), hS1.2.below HL9v.out⟩) (fun hS2 => ?_)
          clear hK K
          try simp only [Act.put, List.getElem_toArray, List.getElem_cons_zero, List.getElem_cons_succ, List.setIfInBounds_toArray, List.set_cons_zero, List.set_cons_succ]
          refine wpAnyH_ready (rs := [10]) (by kernel_rfl) (by simp) ?_
          refine AllReadyH.cons rfl (fun K hK => ?_) AllReadyH.nil
          rw [if_pos (by rfl)]
          refine append_k_op _ (.tmp 57) (.tmp 59) 29 rfl w1.heap.size 3 _ 1 8 Try.underlying29 infoI rfl (by omega) v7v (cellsI (Y.take k)) rfl (HO7v.out.below HL9v.out) ⟨g9v, 0, none⟩ 1 1 (cellsI [t]) rfl (RdK.of_bk (HB9v.out)) (cellsI_k _) (cellsI_one _) rfl HA8V.out HC8V.out hS2.1.size ?_
          intro v10v w10v hO hg
          rw [← cellsI_append] at hO
          have HO10v := Lib.hid hO
          have HG10v := Lib.hid hg
          clear hO hg
          refine hK.out _ _ (⟨hS2.1.grown HG10v.out hS2.1.size fun z hz => HO7v.out.block z hz, hS2.2.grp (GrP.of HG10v.out) fun z hz e => (HO7v.out.below HL9v.out).parted hS2.2 (by decide) e hz⟩) (fun hS3 => ?_)
          clear hK K
          try simp only [Act.put, List.getElem_toArray, List.getElem_cons_zero, List.getElem_cons_succ, List.setIfInBounds_toArray, List.set_cons_zero, List.set_cons_succ]
          refine wpAnyH_ready (rs := [17]) (by kernel_rfl) (by simp) ?_
          refine AllReadyH.cons rfl (fun K hK => ?_) AllReadyH.nil
          rw [if_pos (by rfl)]
          refine append_kn_op _ (.tmp 60) (.tmp 66) 29 rfl w1.heap.size 3 _ 1 8 Try.underlying29 infoI rfl (by omega) v10v (cellsI (Y.take k ++ [t])) rfl HO10v.out (tailT B d k 1) (d - k) (N - k) (cellsI (Y.drop k)) rfl (by rw [cellsI_drop]; exact RdK.drop (RdK.later HRT.out hS3.1) HNCV2.out) (cellsI_k _) (cellsI_one _) HL9V.out HA9V.out HC9V.out hS3.1.size ?_
          intro v17v w17v hO hg
          rw [← cellsI_append] at hO
          have HO17v := Lib.hid hO
          have HG17v := Lib.hid hg
          clear hO hg
          refine hK.out _ _ (⟨hS3.1.grown HG17v.out hS3.1.size fun z hz => HO10v.out.block z hz, hS3.2.grp (GrP.of HG17v.out) fun z hz e => HO10v.out.parted hS3.2 (by decide) e hz⟩) (fun hS4 => ?_)
          clear hK K
          try simp only [Act.put, List.getElem_toArray, List.getElem_cons_zero, List.getElem_cons_succ, List.setIfInBounds_toArray, List.set_cons_zero, List.set_cons_succ]
          refine wpAnyH_take (i := 18) (v := ?_) rfl (by kernel_rfl) (by kernel_rfl) (by kernel_rfl) (fun _ _ _ h => h) (Or.inl ⟨by rfl, ?_⟩) hS4 ?_
          rotate_left
          · intro W _; go_simp; try with_reducible rfl
          try simp only [Act.put, List.getElem_toArray, List.getElem_cons_zero, List.getElem_cons_succ, List.setIfInBounds_toArray, List.set_cons_zero, List.set_cons_succ]
          refine wpAnyH_done (by kernel_rfl) ?_ _
          have HW9 := Lib.hid hS4.1
          have HON := Lib.hid hS4.2
          have hb9 : Bk w17v r 31 #[.slice A N c, .slice B N d] := HI1.out.bk.later HW9.out
          obtain ⟨As, cs, hvs, -, -, -, -⟩ := OwnK.sl HON.out
          obtain ⟨At, ct, hvt, -, -, -, -⟩ := HO17v.out.sl
          obtain ⟨ls, hls⟩ : ∃ n, n = (cellsS (X.take k ++ [s] ++ X.drop k)).length := ⟨_, rfl⟩
          rw [← hls] at hvs
          clear hls
          obtain ⟨lt, hlt9⟩ : ∃ n, n = (cellsI (Y.take k ++ [t] ++ Y.drop k)).length := ⟨_, rfl⟩
          rw [← hlt9] at hvt
          clear hlt9
          have cf0 : w17v.cell? ⟨r, 0, none⟩ = some (.slice A N c) := hb9.cellAt 0
          have cf1 : w17v.cell? ⟨r, 1, none⟩ = some (.slice B N d) := hb9.cellAt 1
          have ff0 : w17v.frozen? ⟨r, 0, none⟩ = false := hb9.free 0
          have ff1 : w17v.frozen? ⟨r, 1, none⟩ = false := hb9.free 1
          have HB9 := Lib.hid hb9
          clear hb9
          have HFIN := Lib.hid (FIN.out k w17v v17s v17v HKN.out HPRE.out HSTOP.out HW9.out HON.out HO17v.out)
          clear HO17v HON
          subst hvs hvt
          go_wp2_with fail
          first | go_end0 | refine bodyPost_ret (results_none rfl _ _ _) rfl ?_
          exact ⟨rfl, HFIN.out⟩
        · rw [if_pos (by rfl)]
          refine ione_op 58 t rfl rfl ?_
          intro g9v w9v hgg hB9 hb9
          have HB9v := Lib.hid hB9
          have HL9v : Hid (Below w17s.drew.heap.size w17s.drew w9v) := hb9
          clear hgg hB9 hb9
          refine hK.out _ _ (⟨hS0.1.trans (HL9v.out.mono hS0.1.size), hS0.2.below HL9v.out⟩) (fun hS1 => ?_)
          clear hK K
          try simp only [Act.put, List.getElem_toArray, List.getElem_cons_zero, List.getElem_cons_succ, List.setIfInBounds_toArray, List.set_cons_zero, List.set_cons_succ]
          refine wpAnyH_ready (rs := [7]) (by kernel_rfl) (by simp) ?_
          refine AllReadyH.cons rfl (fun K hK => ?_) AllReadyH.nil
          rw [if_pos (by rfl)]
          refine append_kn_op _ (.tmp 50) (.tmp 56) 29 rfl w1.heap.size 3 _ 1 8 Try.underlying29 infoI rfl (by omega) (.slice none 0 0) [] rfl (OwnK.nil _ _ _ _) B d k (cellsI (Y.take k)) rfl (by rw [cellsI_take]; exact RdK.take (RdK.later HRT.out hS1.1) k) (cellsI_k _) (cellsI_one _) HL7V.out HA7V.out HC7V.out hS1.1.size ?_
          intro v7v w7v hO hg
          have HO7v : Hid (OwnK w7v w1.heap.size 3 1 v7v (cellsI (Y.take k))) := hO
          have HG7v : Hid (Below w9v.heap.size w9v w7v) := ⟨hg.os, hg.tape, hg.output, hg.size, fun z hz => hg.block z hz (by simp [Value.ownBlock])⟩
          clear hO hg
          refine hK.out _ _ (⟨hS1.1.trans (HG7v.out.mono hS1.1.size), hS1.2.below HG7v.out⟩) (fun hS2 => ?_)
          clear hK K
          try simp only [Act.put, List.getElem_toArray, List.getElem_cons_zero, List.getElem_cons_succ, List.setIfInBounds_toArray, List.set_cons_zero, List.set_cons_succ]
          refine wpAnyH_ready (rs := [10]) (by kernel_rfl) (by simp) ?_
          refine AllReadyH.cons rfl (fun K hK => ?_) AllReadyH.nil
          rw [if_pos (by rfl)]
          refine append_k_op _ (.tmp 57) (.tmp 59) 29 rfl w1.heap.size 3 _ 1 8 Try.underlying29 infoI rfl (by omega) v7v (cellsI (Y.take k)) rfl (HO7v.out) ⟨g9v, 0, none⟩ 1 1 (cellsI [t]) rfl (RdK.of_bk (HB9v.out.later HG7v.out)) (cellsI_k _) (cellsI_one _) rfl HA8V.out HC8V.out hS2.1.size ?_
          intro v10v w10v hO hg
          rw [← cellsI_append] at hO
          have HO10v := Lib.hid hO
          have HG10v := Lib.hid hg
          clear hO hg
          refine hK.out _ _ (⟨hS2.1.grown HG10v.out hS2.1.size fun z hz => HO7v.out.block z hz, hS2.2.grp (GrP.of HG10v.out) fun z hz e => HO7v.out.parted hS2.2 (by decide) e hz⟩) (fun hS3 => ?_)
          clear hK K
          try simp only [Act.put, List.getElem_toArray, List.getElem_cons_zero, List.getElem_cons_succ, List.setIfInBounds_toArray, List.set_cons_zero, List.set_cons_succ]
          refine wpAnyH_ready (rs := [17]) (by kernel_rfl) (by simp) ?_
          refine AllReadyH.cons rfl (fun K hK => ?_) AllReadyH.nil
          rw [if_pos (by rfl)]
          refine append_kn_op _ (.tmp 60) (.tmp 66) 29 rfl w1.heap.size 3 _ 1 8 Try.underlying29 infoI rfl (by omega) v10v (cellsI (Y.take k ++ [t])) rfl HO10v.out (tailT B d k 1) (d - k) (N - k) (cellsI (Y.drop k)) rfl (by rw [cellsI_drop]; exact RdK.drop (RdK.later HRT.out hS3.1) HNCV2.out) (cellsI_k _) (cellsI_one _) HL9V.out HA9V.out HC9V.out hS3.1.size ?_
          intro v17v w17v hO hg
          rw [← cellsI_append] at hO
          have HO17v := Lib.hid hO
          have HG17v := Lib.hid hg
          clear hO hg
          refine hK.out _ _ (⟨hS3.1.grown HG17v.out hS3.1.size fun z hz => HO10v.out.block z hz, hS3.2.grp (GrP.of HG17v.out) fun z hz e => HO10v.out.parted hS3.2 (by decide) e hz⟩) (fun hS4 => ?_)
          clear hK K
          try simp only [Act.put, List.getElem_toArray, List.getElem_cons_zero, List.getElem_cons_succ, List.setIfInBounds_toArray, List.set_cons_zero, List.set_cons_succ]
          refine wpAnyH_take (i := 18) (v := ?_) rfl (by kernel_rfl) (by kernel_rfl) (by kernel_rfl) (fun _ _ _ h => h) (Or.inl ⟨by rfl, ?_⟩) hS4 ?_
          rotate_left
          · intro W _; go_simp; try with_reducible rfl
          try simp only [Act.put, List.getElem_toArray, List.getElem_cons_zero, List.getElem_cons_succ, List.setIfInBounds_toArray, List.set_cons_zero, List.set_cons_succ]
          refine wpAnyH_done (by kernel_rfl) ?_ _
          have HW9 := Lib.hid hS4.1
          have HON := Lib.hid hS4.2
          have hb9 : Bk w17v r 31 #[.slice A N c, .slice B N d] := HI1.out.bk.later HW9.out
          obtain ⟨As, cs, hvs, -, -, -, -⟩ := OwnK.sl HON.out
          obtain ⟨At, ct, hvt, -, -, -, -⟩ := HO17v.out.sl
          obtain ⟨ls, hls⟩ : ∃ n, n = (cellsS (X.take k ++ [s] ++ X.drop k)).length := ⟨_, rfl⟩
          rw [← hls] at hvs
          clear hls
          obtain ⟨lt, hlt9⟩ : ∃ n, n = (cellsI (Y.take k ++ [t] ++ Y.drop k)).length := ⟨_, rfl⟩
          rw [← hlt9] at hvt
          clear hlt9
          have cf0 : w17v.cell? ⟨r, 0, none⟩ = some (.slice A N c) := hb9.cellAt 0
          have cf1 : w17v.cell? ⟨r, 1, none⟩ = some (.slice B N d) := hb9.cellAt 1
          have ff0 : w17v.frozen? ⟨r, 0, none⟩ = false := hb9.free 0
          have ff1 : w17v.frozen? ⟨r, 1, none⟩ = false := hb9.free 1
          have HB9 := Lib.hid hb9
          clear hb9
          have HFIN := Lib.hid (FIN.out k w17v v17s v17v HKN.out HPRE.out HSTOP.out HW9.out HON.out HO17v.out)
          clear HO17v HON
          subst hvs hvt
          go_wp2_with fail
          first | go_end0 | refine bodyPost_ret (results_none rfl _ _ _) rfl ?_
          exact ⟨rfl, HFIN.out⟩
      · rw [if_pos (by rfl)]
        refine sone_op 40 s rfl rfl ?_
        intro g9s w9s hgg hB9 hb9
        have HB9s := Lib.hid hB9
        have HL9s : Hid (Below w1.drew.heap.size w1.drew w9s) := hb9
        clear hgg hB9 hb9
        refine hK.out _ _ (hS0.trans (HL9s.out.mono hS0.size)) (fun hS1 => ?_)
        clear hK K
        try simp only [Act.put, List.getElem_toArray, List.getElem_cons_zero, List.getElem_cons_succ, List.setIfInBounds_toArray, List.set_cons_zero, List.set_cons_succ]
        refine wpAnyH_ready (rs := [7]) (by kernel_rfl) (by simp) ?_
        refine AllReadyH.cons rfl (fun K hK => ?_) AllReadyH.nil
        rw [if_pos (by rfl)]
        refine append_kn_op _ (.tmp 32) (.tmp 38) 28 rfl w1.heap.size 9 _ 1 16 Try.underlying28 infoS rfl (by omega) (.slice none 0 0) [] rfl (OwnK.nil _ _ _ _) A c k (cellsS (X.take k)) rfl (by rw [cellsS_take]; exact RdK.take (RdK.later HRS.out hS1) k) (cellsS_k _) (cellsS_one _) HL7S.out HA7S.out HC7S.out hS1.size ?_
        intro v7s w7s hO hg
        have HO7s : Hid (OwnK w7s w1.heap.size 9 1 v7s (cellsS (X.take k))) := hO
        have HG7s : Hid (Below w9s.heap.size w9s w7s) := ⟨hg.os, hg.tape, hg.output, hg.size, fun z hz => hg.block z hz (by simp [Value.ownBlock])⟩
        clear hO hg
        refine hK.out _ _ (hS1.trans (HG7s.out.mono hS1.size)) (fun hS2 => ?_)
        clear hK K
        try simp only [Act.put, List.getElem_toArray, List.getElem_cons_zero, List.getElem_cons_succ, List.setIfInBounds_toArray, List.set_cons_zero, List.set_cons_succ]
        refine wpAnyH_ready (rs := [10]) (by kernel_rfl) (by simp) ?_
        refine AllReadyH.cons rfl (fun K hK => ?_) AllReadyH.nil
        rw [if_pos (by rfl)]
        refine append_k_op _ (.tmp 39) (.tmp 41) 28 rfl w1.heap.size 9 _ 1 16 Try.underlying28 infoS rfl (by omega) v7s (cellsS (X.take k)) rfl (HO7s.out) ⟨g9s, 0, none⟩ 1 1 (cellsS [s]) rfl (RdK.of_bk (HB9s.out.later HG7s.out)) (cellsS_k _) (cellsS_one _) rfl HA8S.out HC8S.out hS2.size ?_
        intro v10s w10s hO hg
        rw [← cellsS_append] at hO
        have HO10s := Lib.hid hO
        have HG10s := Lib.hid hg
        clear hO hg
        refine hK.out _ _ (hS2.grown HG10s.out hS2.size fun z hz => HO7s.out.block z hz) (fun hS3 => ?_)
        clear hK K
        try simp only [Act.put, List.getElem_toArray, List.getElem_cons_zero, List.getElem_cons_succ, List.setIfInBounds_toArray, List.set_cons_zero, List.set_cons_succ]
        refine wpAnyH_ready (rs := [17]) (by kernel_rfl) (by simp) ?_
        refine AllReadyH.cons rfl (fun K hK => ?_) AllReadyH.nil
        rw [if_pos (by rfl)]
        refine append_kn_op _ (.tmp 42) (.tmp 48) 28 rfl w1.heap.size 9 _ 1 16 Try.underlying28 infoS rfl (by omega) v10s (cellsS (X.take k ++ [s])) rfl HO10s.out (tailT A c k 1) (c - k) (N - k) (cellsS (X.drop k)) rfl (by rw [cellsS_drop]; exact RdK.drop (RdK.later HRS.out hS3) HNCS2.out) (cellsS_k _) (cellsS_one _) HL9S.out HA9S.out HC9S.out hS3.size ?_
        intro v17s w17s hO hg
        rw [← cellsS_append] at hO
        have HO17s := Lib.hid hO
        have HG17s := Lib.hid hg
        clear hO hg
        refine hK.out _ _ (hS3.grown HG17s.out hS3.size fun z hz => HO10s.out.block z hz) (fun hS4 => ?_)
        clear hK K
        try simp only [Act.put, List.getElem_toArray, List.getElem_cons_zero, List.getElem_cons_succ, List.setIfInBounds_toArray, List.set_cons_zero, List.set_cons_succ]
        refine wpAnyH_take (i := 18) (v := ?_) rfl (by kernel_rfl) (by kernel_rfl) (by kernel_rfl) (fun _ _ _ h => h) (Or.inl ⟨by rfl, ?_⟩) hS4 ?_
        rotate_left
        · intro W _; go_simp; try with_reducible rfl
        try simp only [Act.put, List.getElem_toArray, List.getElem_cons_zero, List.getElem_cons_succ, List.setIfInBounds_toArray, List.set_cons_zero, List.set_cons_succ]
        refine wpAnyH_done (by kernel_rfl) ?_ _
        have HW17 := Lib.hid hS4
        go_wp2_with fail
        refine wp_region_held_drew (S := fun W => Below w1.heap.size w1 W ∧ OwnK W w1.heap.size 9 1 v17s (cellsS (X.take k ++ [s] ++ X.drop k))) (by kernel_rfl) (⟨Below.drew HW17.out, HO17s.out⟩) (fun hS0 => ?_)
        refine wpAnyH_take (i := 0) (v := ?_) rfl (by kernel_rfl) (by kernel_rfl) (by kernel_rfl) (fun _ _ _ h => h) (Or.inl ⟨by rfl, ?_⟩) hS0 ?_
        rotate_left
        · intro W _; go_simp; try with_reducible rfl
        try simp only [Act.put, List.getElem_toArray, List.getElem_cons_zero, List.setIfInBounds_toArray, List.set_cons_zero, List.set_cons_succ]
        refine wpAnyH_take (i := 1) (v := ?_) rfl (by kernel_rfl) (by kernel_rfl) (by kernel_rfl) (fun _ _ _ h => h) (Or.inl ⟨by rfl, ?_⟩) hS0 ?_
        rotate_left
        · intro W _; go_simp; try with_reducible rfl
        try simp only [Act.put, List.getElem_toArray, List.getElem_cons_zero, List.getElem_cons_succ, List.setIfInBounds_toArray, List.set_cons_zero, List.set_cons_succ]
        refine wpAnyH_take (i := 2) (v := ?_) rfl (by kernel_rfl) (by kernel_rfl) (by kernel_rfl) (fun _ _ _ h => h) (Or.inl ⟨by rfl, ?_⟩) hS0 ?_
        rotate_left
        · intro W _; go_simp; try with_reducible rfl
        try simp only [Act.put, List.getElem_toArray, List.getElem_cons_zero, List.getElem_cons_succ, List.setIfInBounds_toArray, List.set_cons_zero, List.set_cons_succ]
        refine wpAnyH_take (i := 3) (v := ?_) rfl (by kernel_rfl) (by kernel_rfl) (by kernel_rfl) (fun _ _ _ h => h) (Or.inl ⟨by rfl, ?_⟩) hS0 ?_
        rotate_left
        · intro W _; go_simp; try with_reducible rfl
        try simp only [Act.put, List.getElem_toArray, List.getElem_cons_zero, List.getElem_cons_succ, List.setIfInBounds_toArray, List.set_cons_zero, List.set_cons_succ]
        refine wpAnyH_take (i := 4) (v := ?_) rfl (by kernel_rfl) (by kernel_rfl) (by kernel_rfl) (fun _ _ _ h => h) (Or.inl ⟨by rfl, ?_⟩) hS0 ?_
        rotate_left
        · intro W hSW; have hx := (HI1.out.bk.later hSW.1).cellAt 1; try simp only [List.getElem?_toArray, List.getElem?_cons_succ, List.getElem?_cons_zero] at hx; go_simp; try with_reducible rfl
        try simp only [Act.put, List.getElem_toArray, List.getElem_cons_zero, List.getElem_cons_succ, List.setIfInBounds_toArray, List.set_cons_zero, List.set_cons_succ]
        refine wpAnyH_take (i := 5) (v := ?_) rfl (by kernel_rfl) (by kernel_rfl) (by kernel_rfl) (fun _ _ _ h => h) (Or.inl ⟨by rfl, ?_⟩) hS0 ?_
        rotate_left
        · intro W _; go_simp; try with_reducible rfl
        try simp only [Act.put, List.getElem_toArray, List.getElem_cons_zero, List.getElem_cons_succ, List.setIfInBounds_toArray, List.set_cons_zero, List.set_cons_succ]
        refine wpAnyH_take (i := 6) (v := ?_) rfl (by kernel_rfl) (by kernel_rfl) (by kernel_rfl) (fun _ _ _ h => h) (Or.inl ⟨by rfl, ?_⟩) hS0 ?_
        rotate_left
        · intro W _; have hsl := slice_loTV (A := B) (n := N) (c := d) HKN.out HNCV.out W; go_simp; try with_reducible rfl
        try simp only [Act.put, List.getElem_toArray, List.getElem_cons_zero, List.getElem_cons_succ, List.setIfInBounds_toArray, List.set_cons_zero, List.set_cons_succ]
        refine wpAnyH_take (i := 8) (v := ?_) rfl (by kernel_rfl) (by kernel_rfl) (by kernel_rfl) (fun _ _ _ h => h) (Or.inl ⟨by rfl, ?_⟩) hS0 ?_
        rotate_left
        · intro W _; go_simp; try with_reducible rfl
        try simp only [Act.put, List.getElem_toArray, List.getElem_cons_zero, List.getElem_cons_succ, List.setIfInBounds_toArray, List.set_cons_zero, List.set_cons_succ]
        refine wpAnyH_take (i := 11) (v := ?_) rfl (by kernel_rfl) (by kernel_rfl) (by kernel_rfl) (fun _ _ _ h => h) (Or.inl ⟨by rfl, ?_⟩) hS0 ?_
        rotate_left
        · intro W _; go_simp; try with_reducible rfl
        try simp only [Act.put, List.getElem_toArray, List.getElem_cons_zero, List.getElem_cons_succ, List.setIfInBounds_toArray, List.set_cons_zero, List.set_cons_succ]
        refine wpAnyH_take (i := 12) (v := ?_) rfl (by kernel_rfl) (by kernel_rfl) (by kernel_rfl) (fun _ _ _ h => h) (Or.inl ⟨by rfl, ?_⟩) hS0 ?_
        rotate_left
        · intro W _; go_simp; try with_reducible rfl
        try simp only [Act.put, List.getElem_toArray, List.getElem_cons_zero, List.getElem_cons_succ, List.setIfInBounds_toArray, List.set_cons_zero, List.set_cons_succ]
        refine wpAnyH_take (i := 13) (v := ?_) rfl (by kernel_rfl) (by kernel_rfl) (by kernel_rfl) (fun _ _ _ h => h) (Or.inl ⟨by rfl, ?_⟩) hS0 ?_
        rotate_left
        · intro W _; go_simp; try with_reducible rfl
        try simp only [Act.put, List.getElem_toArray, List.getElem_cons_zero, List.getElem_cons_succ, List.setIfInBounds_toArray, List.set_cons_zero, List.set_cons_succ]
        refine wpAnyH_take (i := 14) (v := ?_) rfl (by kernel_rfl) (by kernel_rfl) (by kernel_rfl) (fun _ _ _ h => h) (Or.inl ⟨by rfl, ?_⟩) hS0 ?_
        rotate_left
        · intro W hSW; have hx := (HI1.out.bk.later hSW.1).cellAt 1; try simp only [List.getElem?_toArray, List.getElem?_cons_succ, List.getElem?_cons_zero] at hx; go_simp; try with_reducible rfl
        try simp only [Act.put, List.getElem_toArray, List.getElem_cons_zero, List.getElem_cons_succ, List.setIfInBounds_toArray, List.set_cons_zero, List.set_cons_succ]
        refine wpAnyH_take (i := 15) (v := ?_) rfl (by kernel_rfl) (by kernel_rfl) (by kernel_rfl) (fun _ _ _ h => h) (Or.inl ⟨by rfl, ?_⟩) hS0 ?_
        rotate_left
        · intro W _; go_simp; try with_reducible rfl
        try simp only [Act.put, List.getElem_toArray, List.getElem_cons_zero, List.getElem_cons_succ, List.setIfInBounds_toArray, List.set_cons_zero, List.set_cons_succ]
        refine wpAnyH_take (i := 16) (v := ?_) rfl (by kernel_rfl) (by kernel_rfl) (by kernel_rfl) (fun _ _ _ h => h) (Or.inl ⟨by rfl, ?_⟩) hS0 ?_
        rotate_left
        · intro W _; have hsl := slice_hiTV (A := B) (n := N) (c := d) HKN.out HNCV.out W; go_simp; try with_reducible rfl
        try simp only [Act.put, List.getElem_toArray, List.getElem_cons_zero, List.getElem_cons_succ, List.setIfInBounds_toArray, List.set_cons_zero, List.set_cons_succ]
        refine wpAnyH_ready (rs := [7, 9]) (by kernel_rfl) (by simp) ?_
        refine (AllReadyH.cons rfl (fun K hK => ?_) (AllReadyH.cons rfl (fun K hK => ?_) AllReadyH.nil))
        · rw [if_pos (by rfl)]
          refine append_kn_op _ (.tmp 50) (.tmp 56) 29 rfl w1.heap.size 3 _ 1 8 Try.underlying29 infoI rfl (by omega) (.slice none 0 0) [] rfl (OwnK.nil _ _ _ _) B d k (cellsI (Y.take k)) rfl (by rw [cellsI_take]; exact RdK.take (RdK.later HRT.out hS0.1) k) (cellsI_k _) (cellsI_one _) HL7V.out HA7V.out HC7V.out hS0.1.size ?_
          intro v7v w7v hO hg
          have HO7v : Hid (OwnK w7v w1.heap.size 3 1 v7v (cellsI (Y.take k))) := hO
          have HG7v : Hid (Below w17s.drew.heap.size w17s.drew w7v) := ⟨hg.os, hg.tape, hg.output, hg.size, fun z hz => hg.block z hz (by simp [Value.ownBlock])⟩
          clear hO hg
          refine hK.out _ _ (⟨hS0.1.trans (HG7v.out.mono hS0.1.size), hS0.2.below HG7v.out⟩) (fun hS1 => ?_)
          clear hK K
          try simp only [Act.put, List.getElem_toArray, List.getElem_cons_zero, List.getElem_cons_succ, List.setIfInBounds_toArray, List.set_cons_zero, List.set_cons_succ]
          refine wpAnyH_ready (rs := [9]) (by kernel_rfl) (by simp) ?_
          refine AllReadyH.cons rfl (fun K hK => ?_) AllReadyH.nil
          rw [if_pos (by rfl)]
          refine ione_op 58 t rfl rfl ?_
          intro g9v w9v hgg hB9 hb9
          have HB9v := Lib.hid hB9
          have HL9v : Hid (Below w7v.heap.size w7v w9v) := hb9
          clear hgg hB9 hb9
          refine hK.out _ _ (⟨hS1.1.trans (HL9v.out.mono hS1.1.size), hS1.2.below HL9v.out⟩) (fun hS2 => ?_)
          clear hK K
          try simp only [Act.put, List.getElem_toArray, List.getElem_cons_zero, List.getElem_cons_succ, List.setIfInBounds_toArray, List.set_cons_zero, List.set_cons_succ]
          refine wpAnyH_ready (rs := [10]) (by kernel_rfl) (by simp) ?_
          refine AllReadyH.cons rfl (fun K hK => ?_) AllReadyH.nil
          rw [if_pos (by rfl)]
          refine append_k_op _ (.tmp 57) (.tmp 59) 29 rfl w1.heap.size 3 _ 1 8 Try.underlying29 infoI rfl (by omega) v7v (cellsI (Y.take k)) rfl (HO7v.out.below HL9v.out) ⟨g9v, 0, none⟩ 1 1 (cellsI [t]) rfl (RdK.of_bk (HB9v.out)) (cellsI_k _) (cellsI_one _) rfl HA8V.out HC8V.out hS2.1.size ?_
          intro v10v w10v hO hg
          rw [← cellsI_append] at hO
          have HO10v := Lib.hid hO
          have HG10v := Lib.hid hg
          clear hO hg
          refine hK.out _ _ (⟨hS2.1.grown HG10v.out hS2.1.size fun z hz => HO7v.out.block z hz, hS2.2.grp (GrP.of HG10v.out) fun z hz e => (HO7v.out.below HL9v.out).parted hS2.2 (by decide) e hz⟩) (fun hS3 => ?_)
          clear hK K
          try simp only [Act.put, List.getElem_toArray, List.getElem_cons_zero, List.getElem_cons_succ, List.setIfInBounds_toArray, List.set_cons_zero, List.set_cons_succ]
          refine wpAnyH_ready (rs := [17]) (by kernel_rfl) (by simp) ?_
          refine AllReadyH.cons rfl (fun K hK => ?_) AllReadyH.nil
          rw [if_pos (by rfl)]
          refine append_kn_op _ (.tmp 60) (.tmp 66) 29 rfl w1.heap.size 3 _ 1 8 Try.underlying29 infoI rfl (by omega) v10v (cellsI (Y.take k ++ [t])) rfl HO10v.out (tailT B d k 1) (d - k) (N - k) (cellsI (Y.drop k)) rfl (by rw [cellsI_drop]; exact RdK.drop (RdK.later HRT.out hS3.1) HNCV2.out) (cellsI_k _) (cellsI_one _) HL9V.out HA9V.out HC9V.out hS3.1.size ?_
          intro v17v w17v hO hg
          rw [← cellsI_append] at hO
          have HO17v := Lib.hid hO
          have HG17v := Lib.hid hg
          clear hO hg
          refine hK.out _ _ (⟨hS3.1.grown HG17v.out hS3.1.size fun z hz => HO10v.out.block z hz, hS3.2.grp (GrP.of HG17v.out) fun z hz e => HO10v.out.parted hS3.2 (by decide) e hz⟩) (fun hS4 => ?_)
          clear hK K
          try simp only [Act.put, List.getElem_toArray, List.getElem_cons_zero, List.getElem_cons_succ, List.setIfInBounds_toArray, List.set_cons_zero, List.set_cons_succ]
          refine wpAnyH_take (i := 18) (v := ?_) rfl (by kernel_rfl) (by kernel_rfl) (by kernel_rfl) (fun _ _ _ h => h) (Or.inl ⟨by rfl, ?_⟩) hS4 ?_
          rotate_left
          · intro W _; go_simp; try with_reducible rfl
          try simp only [Act.put, List.getElem_toArray, List.getElem_cons_zero, List.getElem_cons_succ, List.setIfInBounds_toArray, List.set_cons_zero, List.set_cons_succ]
          refine wpAnyH_done (by kernel_rfl) ?_ _
          have HW9 := Lib.hid hS4.1
          have HON := Lib.hid hS4.2
          have hb9 : Bk w17v r 31 #[.slice A N c, .slice B N d] := HI1.out.bk.later HW9.out
          obtain ⟨As, cs, hvs, -, -, -, -⟩ := OwnK.sl HON.out
          obtain ⟨At, ct, hvt, -, -, -, -⟩ := HO17v.out.sl
          obtain ⟨ls, hls⟩ : ∃ n, n = (cellsS (X.take k ++ [s] ++ X.drop k)).length := ⟨_, rfl⟩
          rw [← hls] at hvs
          clear hls
          obtain ⟨lt, hlt9⟩ : ∃ n, n = (cellsI (Y.take k ++ [t] ++ Y.drop k)).length := ⟨_, rfl⟩
          rw [← hlt9] at hvt
          clear hlt9
          have cf0 : w17v.cell? ⟨r, 0, none⟩ = some (.slice A N c) := hb9.cellAt 0
          have cf1 : w17v.cell? ⟨r, 1, none⟩ = some (.slice B N d) := hb9.cellAt 1
          have ff0 : w17v.frozen? ⟨r, 0, none⟩ = false := hb9.free 0
          have ff1 : w17v.frozen? ⟨r, 1, none⟩ = false := hb9.free 1
          have HB9 := Lib.hid hb9
          clear hb9
          have HFIN := Lib.hid (FIN.out k w17v v17s v17v HKN.out HPRE.out HSTOP.out HW9.out HON.out HO17v.out)
          clear HO17v HON
          subst hvs hvt
          go_wp2_with fail
          first | go_end0 | refine bodyPost_ret (results_none rfl _ _ _) rfl ?_
          exact ⟨rfl, HFIN.out⟩
        · rw [if_pos (by rfl)]
          refine ione_op 58 t rfl rfl ?_
          intro g9v w9v hgg hB9 hb9
          have HB9v := Lib.hid hB9
          have HL9v : Hid (Below w17s.drew.heap.size w17s.drew w9v) := hb9
          clear hgg hB9 hb9
          refine hK.out _ _ (⟨hS0.1.trans (HL9v.out.mono hS0.1.size), hS0.2.below HL9v.out⟩) (fun hS1 => ?_)
          clear hK K
          try simp only [Act.put, List.getElem_toArray, List.getElem_cons_zero, List.getElem_cons_succ, List.setIfInBounds_toArray, List.set_cons_zero, List.set_cons_succ]
          refine wpAnyH_ready (rs := [7]) (by kernel_rfl) (by simp) ?_
          refine AllReadyH.cons rfl (fun K hK => ?_) AllReadyH.nil
          rw [if_pos (by rfl)]
          refine append_kn_op _ (.tmp 50) (.tmp 56) 29 rfl w1.heap.size 3 _ 1 8 Try.underlying29 infoI rfl (by omega) (.slice none 0 0) [] rfl (OwnK.nil _ _ _ _) B d k (cellsI (Y.take k)) rfl (by rw [cellsI_take]; exact RdK.take (RdK.later HRT.out hS1.1) k) (cellsI_k _) (cellsI_one _) HL7V.out HA7V.out HC7V.out hS1.1.size ?_
          intro v7v w7v hO hg
          have HO7v : Hid (OwnK w7v w1.heap.size 3 1 v7v (cellsI (Y.take k))) := hO
          have HG7v : Hid (Below w9v.heap.size w9v w7v) := ⟨hg.os, hg.tape, hg.output, hg.size, fun z hz => hg.block z hz (by simp [Value.ownBlock])⟩
          clear hO hg
          refine hK.out _ _ (⟨hS1.1.trans (HG7v.out.mono hS1.1.size), hS1.2.below HG7v.out⟩) (fun hS2 => ?_)
          clear hK K
          try simp only [Act.put, List.getElem_toArray, List.getElem_cons_zero, List.getElem_cons_succ, List.setIfInBounds_toArray, List.set_cons_zero, List.set_cons_succ]
          refine wpAnyH_ready (rs := [10]) (by kernel_rfl) (by simp) ?_
          refine AllReadyH.cons rfl (fun K hK => ?_) AllReadyH.nil
          rw [if_pos (by rfl)]
          refine append_k_op _ (.tmp 57) (.tmp 59) 29 rfl w1.heap.size 3 _ 1 8 Try.underlying29 infoI rfl (by omega) v7v (cellsI (Y.take k)) rfl (HO7v.out) ⟨g9v, 0, none⟩ 1 1 (cellsI [t]) rfl (RdK.of_bk (HB9v.out.later HG7v.out)) (cellsI_k _) (cellsI_one _) rfl HA8V.out HC8V.out hS2.1.size ?_
          intro v10v w10v hO hg
          rw [← cellsI_append] at hO
          have HO10v := Lib.hid hO
          have HG10v := Lib.hid hg
          clear hO hg
          refine hK.out _ _ (⟨hS2.1.grown HG10v.out hS2.1.size fun z hz => HO7v.out.block z hz, hS2.2.grp (GrP.of HG10v.out) fun z hz e => HO7v.out.parted hS2.2 (by decide) e hz⟩) (fun hS3 => ?_)
          clear hK K
          try simp only [Act.put, List.getElem_toArray, List.getElem_cons_zero, List.getElem_cons_succ, List.setIfInBounds_toArray, List.set_cons_zero, List.set_cons_succ]
          refine wpAnyH_ready (rs := [17]) (by kernel_rfl) (by simp) ?_
          refine AllReadyH.cons rfl (fun K hK => ?_) AllReadyH.nil
          rw [if_pos (by rfl)]
          refine append_kn_op _ (.tmp 60) (.tmp 66) 29 rfl w1.heap.size 3 _ 1 8 Try.underlying29 infoI rfl (by omega) v10v (cellsI (Y.take k ++ [t])) rfl HO10v.out (tailT B d k 1) (d - k) (N - k) (cellsI (Y.drop k)) rfl (by rw [cellsI_drop]; exact RdK.drop (RdK.later HRT.out hS3.1) HNCV2.out) (cellsI_k _) (cellsI_one _) HL9V.out HA9V.out HC9V.out hS3.1.size ?_
          intro v17v w17v hO hg
          rw [← cellsI_append] at hO
          have HO17v := Lib.hid hO
          have HG17v := Lib.hid hg
          clear hO hg
          refine hK.out _ _ (⟨hS3.1.grown HG17v.out hS3.1.size fun z hz => HO10v.out.block z hz, hS3.2.grp (GrP.of HG17v.out) fun z hz e => HO10v.out.parted hS3.2 (by decide) e hz⟩) (fun hS4 => ?_)
          clear hK K
          try simp only [Act.put, List.getElem_toArray, List.getElem_cons_zero, List.getElem_cons_succ, List.setIfInBounds_toArray, List.set_cons_zero, List.set_cons_succ]
          refine wpAnyH_take (i := 18) (v := ?_) rfl (by kernel_rfl) (by kernel_rfl) (by kernel_rfl) (fun _ _ _ h => h) (Or.inl ⟨by rfl, ?_⟩) hS4 ?_
          rotate_left
          · intro W _; go_simp; try with_reducible rfl
          try simp only [Act.put, List.getElem_toArray, List.getElem_cons_zero, List.getElem_cons_succ, List.setIfInBounds_toArray, List.set_cons_zero, List.set_cons_succ]
          refine wpAnyH_done (by kernel_rfl) ?_ _
          have HW9 := Lib.hid hS4.1
          have HON := Lib.hid hS4.2
          have hb9 : Bk w17v r 31 #[.slice A N c, .slice B N d] := HI1.out.bk.later HW9.out
          obtain ⟨As, cs, hvs, -, -, -, -⟩ := OwnK.sl HON.out
          obtain ⟨At, ct, hvt, -, -, -, -⟩ := HO17v.out.sl
          obtain ⟨ls, hls⟩ : ∃ n, n = (cellsS (X.take k ++ [s] ++ X.drop k)).length := ⟨_, rfl⟩
          rw [← hls] at hvs
          clear hls
          obtain ⟨lt, hlt9⟩ : ∃ n, n = (cellsI (Y.take k ++ [t] ++ Y.drop k)).length := ⟨_, rfl⟩
          rw [← hlt9] at hvt
          clear hlt9
          have cf0 : w17v.cell? ⟨r, 0, none⟩ = some (.slice A N c) := hb9.cellAt 0
          have cf1 : w17v.cell? ⟨r, 1, none⟩ = some (.slice B N d) := hb9.cellAt 1
          have ff0 : w17v.frozen? ⟨r, 0, none⟩ = false := hb9.free 0
          have ff1 : w17v.frozen? ⟨r, 1, none⟩ = false := hb9.free 1
          have HB9 := Lib.hid hb9
          clear hb9
          have HFIN := Lib.hid (FIN.out k w17v v17s v17v HKN.out HPRE.out HSTOP.out HW9.out HON.out HO17v.out)
          clear HO17v HON
          subst hvs hvt
          go_wp2_with fail
          first | go_end0 | refine bodyPost_ret (results_none rfl _ _ _) rfl ?_
          exact ⟨rfl, HFIN.out⟩
end Go.Proofs.Ytbegbecmnhldkaa
