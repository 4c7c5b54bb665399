/- The contract of the document's own Sorted (layer 12). Condition: the slices read as lists of machines and of jobs, of at most 1000000 each; the machines and the task are ones that Go can have. -/
import Derived.Test.YthikdhgkjcdepaaSrk
import Derived.Test.YthikdhgkjcdepaaRsc
import Derived.Deep.CutBlock
import Derived.Deep.DeepCutAuto
import Derived.Deep.RegionHeld3
namespace Go.Proofs.Ythikdhgkjcdepaa
open Go.RowKit
set_option linter.unusedSimpArgs false
set_option linter.unusedVariables false

set_option maxHeartbeats 12800000 in
set_option maxRecDepth 100000 in
theorem rsorted_any (A0 : Option Addr) (N c0 : Nat) (L : List Ml) (A : Option Addr) (n cap : Nat) (l : List Jb) (t : Kt) (tl : List Lb) (w : World) (hN : Hid (N = L.length)) (hNl : N ≤ 1000000) (hL : Hid (RdM w A0 (mcs L))) (hLo : Hid (MsOk w L)) (hn : Hid (n = l.length)) (hl : n ≤ 1000000) (hA : Hid (RdJ w A l)) (hT : Hid (KtOk w t tl)) :
    Calls Try.prog 15 #[.slice A0 N c0, .slice A n cap, .agg t.arr] w fun e w' => RetS w.heap.size w' e (nms (srt t tl l L)) ∧ Below w.heap.size w w' := by
  go_enter Try.func15, Try.ntmps15
  have HT0 := Lib.hid (show Bk (w.alloc (.cells t.arr 28)) w.heap.size 28 t.arr from Bk.fresh _ _ _)
  have hB0 : Below w.heap.size w (w.alloc (.cells t.arr 28)) := (Below.refl _ _).alloc (Nat.le_refl _) _
  go_wp2_with fail
  go_loopw [7, 8, 18] (fun v7 v8 i wr => ∃ k : Nat, k ≤ N ∧ i = .int .i64 k ∧ Hid (OwnK wr (w.heap.size + 1) 9 1 v7 (cellsS (nms (srt t tl l (L.take k))))) ∧ Hid (OwnK wr (w.heap.size + 1) 3 1 v8 (cellsI (scs (srt t tl l (L.take k))))) ∧ Hid (Bk wr w.heap.size 28 t.arr) ∧ Below w.heap.size w wr) (fun _ _ i wr => N - (intOf i).toNat)
  case atStart => exact ⟨0, Nat.zero_le _, rfl, (show OwnK _ _ _ _ _ (cellsS (nms (srt t tl l (L.take 0)))) from OwnK.nil _ _ _ _), (show OwnK _ _ _ _ _ (cellsI (scs (srt t tl l (L.take 0)))) from OwnK.nil _ _ _ _), HT0, hB0⟩
  case round =>
    clear HT0 hB0
    obtain ⟨k, hk, rfl, HO7, HO8, HTb, hb⟩ := hrel
    have lt0 : w.heap.size < wr.heap.size := HTb.out.here
    by_cases hlt : k < N
    · have hlk : k < L.length := by have := hN.out; omega
      obtain ⟨g, o, rfl, hg, hm⟩ := (hL.out.later hb).at (i := k) (by simpa [mcs] using hlk)
      rw [mcs_at hlk] at hm
      obtain ⟨x, hx⟩ : ∃ x, x = L[k] := ⟨_, rfl⟩
      rw [← hx] at hm
      have HMt := Lib.hid hm; clear hm
      have hxo : McOk w x.1 x.2 := by rw [hx]; exact hLo.out.at hlk
      obtain ⟨r, hr⟩ : ∃ r, sco x.1 x.2 t tl l = r := ⟨_, rfl⟩
      have ks := fun (W : World) (h1 : RdJ W A l) (h2 : McOk W x.1 x.2) (h3 : KtOk W t tl) => rscore_any x.1 x.2 A n cap l t tl W hn hl h1 h2 h3 r hr
      obtain ⟨E, hE⟩ : ∃ E, E = srt t tl l (L.take k) := ⟨_, rfl⟩
      have h7 := HO7.out
      have h8 := HO8.out
      rw [← hE] at h7 h8
      have hEl : E.length ≤ 1000000 := by rw [hE]; refine Nat.le_trans (srt_len _) ?_; rw [List.length_take]; omega
      obtain ⟨A7, c7, hv7, hr7, hc7, hc7'⟩ := h7.rds
      obtain ⟨A8, c8, hv8, hr8, hc8, hc8'⟩ := h8.rdi
      rw [show (nms E).length = E.length by simp [nms]] at hv7 hc7
      rw [show (scs E).length = E.length by simp [scs]] at hv8 hc8
      obtain ⟨q, hq⟩ : ∃ q, q = E.length := ⟨_, rfl⟩
      rw [← hq] at hv7 hv8 hc7 hc8
      subst hv7 hv8
      have HO7' := Lib.hid h7; have HO8' := Lib.hid h8; have HR7 := Lib.hid hr7; have HR8 := Lib.hid hr8; have HXo := Lib.hid hxo; have HE := Lib.hid hE
      have hql : q ≤ 1000000 := by omega
      have HQ := Lib.hid hq
      clear HO7 HO8 h7 h8 hr7 hr8 hxo hE hq
      cases r
      case none =>
        have hs := srt_no (t := t) (tl := tl) (l := l) hlk (by rw [← hx]; exact hr)
        rw [← HE.out] at hs
        have HE2 := Lib.hid hs; clear hs
        have KS := Lib.hid ks; clear ks hr
        have HX := Lib.hid hx; clear hx
        go_wp2_with fail
        refine wp_region_held_drew (S := fun W => Below wr.heap.size wr W) (by kernel_rfl) (Below.drew (Below.refl _ _)) (fun hS0 => ?_)
        refine wpAnyH_take (i := 0) (v := ?_) rfl (by kernel_rfl) (by kernel_rfl) (by kernel_rfl) (fun _ _ _ h => h) (Or.inl ⟨by rfl, ?_⟩) hS0 ?_
        rotate_left
        · intro W _; go_simp; try with_reducible rfl
        try simp only [Act.put, List.getElem_toArray, List.getElem_cons_zero, List.setIfInBounds_toArray, List.set_cons_zero, List.set_cons_succ]
        refine wpAnyH_take (i := 1) (v := ?_) rfl (by kernel_rfl) (by kernel_rfl) (by kernel_rfl) (fun _ _ _ h => h) (Or.inl ⟨by rfl, ?_⟩) hS0 ?_
        rotate_left
        · intro W _; go_simp; try with_reducible rfl
        try simp only [Act.put, List.getElem_toArray, List.getElem_cons_zero, List.getElem_cons_succ, List.setIfInBounds_toArray, List.set_cons_zero, List.set_cons_succ]
        refine wpAnyH_take (i := 2) (v := ?_) rfl (by kernel_rfl) (by kernel_rfl) (by kernel_rfl) (fun _ _ _ h => h) (Or.inl ⟨by rfl, ?_⟩) hS0 ?_
        rotate_left
        · intro W _; go_simp; try with_reducible rfl
        try simp only [Act.put, List.getElem_toArray, List.getElem_cons_zero, List.getElem_cons_succ, List.setIfInBounds_toArray, List.set_cons_zero, List.set_cons_succ]
        refine wpAnyH_take (i := 3) (v := .agg x.1.arr) rfl (by kernel_rfl) (by kernel_rfl) (by kernel_rfl) (fun _ _ _ h => h) (yields_rg rfl 36 _ rfl g (o + k * 7) rfl x.1.arr _ (fun W hW => (HMt.out.later hW).rg) Try.underlying36 rfl (by kernel_rfl)) hS0 ?_
        try simp only [Act.put, List.getElem_toArray, List.getElem_cons_zero, List.getElem_cons_succ, List.setIfInBounds_toArray, List.set_cons_zero, List.set_cons_succ]
        refine wpAnyH_take (i := 4) (v := ?_) rfl (by kernel_rfl) (by kernel_rfl) (by kernel_rfl) (fun _ _ _ h => h) (Or.inl ⟨by rfl, ?_⟩) hS0 ?_
        rotate_left
        · intro W _; go_simp; try with_reducible rfl
        try simp only [Act.put, List.getElem_toArray, List.getElem_cons_zero, List.getElem_cons_succ, List.setIfInBounds_toArray, List.set_cons_zero, List.set_cons_succ]
        refine wpAnyH_take (i := 5) (v := .agg t.arr) rfl (by kernel_rfl) (by kernel_rfl) (by kernel_rfl) (fun _ _ _ h => h) (yields_bk rfl 28 _ rfl w.heap.size 0 rfl 28 t.arr t.arr _ (fun W hW => HTb.out.later hW) (Part.whole _) Try.underlying28 rfl (by kernel_rfl)) hS0 ?_
        try simp only [Act.put, List.getElem_toArray, List.getElem_cons_zero, List.getElem_cons_succ, List.setIfInBounds_toArray, List.set_cons_zero, List.set_cons_succ]
        refine wpAnyH_ready (rs := [6]) (by kernel_rfl) (by simp) ?_
        refine AllReadyH.cons rfl (fun K hK => ?_) AllReadyH.nil
        go_simp
        have hBS : Below w.heap.size w _ := hb.trans (hS0.mono hb.size)
        refine (KS.out _ (hA.out.later hBS) (HXo.out.later hBS) (hT.out.later hBS)).mono ?_
        rintro v v1 ⟨rfl, hbl⟩
        go_simp
        refine hK.out _ _ (hS0.trans (hbl.mono hS0.size)) (fun hS1 => ?_)
        clear hK K hBS
        try simp only [Act.put, List.getElem_toArray, List.getElem_cons_zero, List.getElem_cons_succ, List.setIfInBounds_toArray, List.set_cons_zero, List.set_cons_succ]
        refine wpAnyH_take (i := 7) (v := ?_) rfl (by kernel_rfl) (by kernel_rfl) (by kernel_rfl) (fun _ _ _ h => h) (Or.inl ⟨by rfl, ?_⟩) hS1 ?_
        rotate_left
        · intro W _; go_simp; try with_reducible rfl
        try simp only [Act.put, List.getElem_toArray, List.getElem_cons_zero, List.getElem_cons_succ, List.setIfInBounds_toArray, List.set_cons_zero, List.set_cons_succ]
        refine wpAnyH_take (i := 8) (v := ?_) rfl (by kernel_rfl) (by kernel_rfl) (by kernel_rfl) (fun _ _ _ h => h) (Or.inl ⟨by rfl, ?_⟩) hS1 ?_
        rotate_left
        · intro W _; go_simp; try with_reducible rfl
        try simp only [Act.put, List.getElem_toArray, List.getElem_cons_zero, List.getElem_cons_succ, List.setIfInBounds_toArray, List.set_cons_zero, List.set_cons_succ]
        refine wpAnyH_take (i := 9) (v := ?_) rfl (by kernel_rfl) (by kernel_rfl) (by kernel_rfl) (fun _ _ _ h => h) (Or.inl ⟨by rfl, ?_⟩) hS1 ?_
        rotate_left
        · intro W _; go_simp; try with_reducible rfl
        try simp only [Act.put, List.getElem_toArray, List.getElem_cons_zero, List.getElem_cons_succ, List.setIfInBounds_toArray, List.set_cons_zero, List.set_cons_succ]
        refine wpAnyH_take (i := 10) (v := ?_) rfl (by kernel_rfl) (by kernel_rfl) (by kernel_rfl) (fun _ _ _ h => h) (Or.inl ⟨by rfl, ?_⟩) hS1 ?_
        rotate_left
        · intro W _; go_simp; try with_reducible rfl
        try simp only [Act.put, List.getElem_toArray, List.getElem_cons_zero, List.getElem_cons_succ, List.setIfInBounds_toArray, List.set_cons_zero, List.set_cons_succ]
        refine wpAnyH_take (i := 11) (v := ?_) rfl (by kernel_rfl) (by kernel_rfl) (by kernel_rfl) (fun _ _ _ h => h) (Or.inl ⟨by rfl, ?_⟩) hS1 ?_
        rotate_left
        · intro W _; go_simp; try with_reducible rfl
        try simp only [Act.put, List.getElem_toArray, List.getElem_cons_zero, List.getElem_cons_succ, List.setIfInBounds_toArray, List.set_cons_zero, List.set_cons_succ]
        refine wpAnyH_done (by kernel_rfl) ?_ _
        have hB1 : Below w.heap.size w v1 := hb.trans (hS1.mono hb.size)
        go_wp2_with fail
        go_round
        case rel => exact ⟨k + 1, by omega, by go_num, (by show OwnK _ _ _ _ _ _; rw [HE2.out]; exact HO7'.out.below hS1), (by show OwnK _ _ _ _ _ _; rw [HE2.out]; exact HO8'.out.below hS1), HTb.out.later hS1, hB1⟩
        case measure => simp [intOf]; omega
      case some s =>
        have hs := srt_yes (t := t) (tl := tl) (l := l) hlk (s := s) (by rw [← hx]; exact hr)
        rw [← HE.out, ← hx] at hs
        have HS2 := Lib.hid hs; clear hs
        have KS := Lib.hid ks; clear ks hr
        have HX := Lib.hid hx; clear hx
        go_wp2_with fail
        refine wp_region_held_drew (S := fun W => Below wr.heap.size wr W) (by kernel_rfl) (Below.drew (Below.refl _ _)) (fun hS0 => ?_)
        refine wpAnyH_take (i := 0) (v := ?_) rfl (by kernel_rfl) (by kernel_rfl) (by kernel_rfl) (fun _ _ _ h => h) (Or.inl ⟨by rfl, ?_⟩) hS0 ?_
        rotate_left
        · intro W _; go_simp; try with_reducible rfl
        try simp only [Act.put, List.getElem_toArray, List.getElem_cons_zero, List.setIfInBounds_toArray, List.set_cons_zero, List.set_cons_succ]
        refine wpAnyH_take (i := 1) (v := ?_) rfl (by kernel_rfl) (by kernel_rfl) (by kernel_rfl) (fun _ _ _ h => h) (Or.inl ⟨by rfl, ?_⟩) hS0 ?_
        rotate_left
        · intro W _; go_simp; try with_reducible rfl
        try simp only [Act.put, List.getElem_toArray, List.getElem_cons_zero, List.getElem_cons_succ, List.setIfInBounds_toArray, List.set_cons_zero, List.set_cons_succ]
        refine wpAnyH_take (i := 2) (v := ?_) rfl (by kernel_rfl) (by kernel_rfl) (by kernel_rfl) (fun _ _ _ h => h) (Or.inl ⟨by rfl, ?_⟩) hS0 ?_
        rotate_left
        · intro W _; go_simp; try with_reducible rfl
        try simp only [Act.put, List.getElem_toArray, List.getElem_cons_zero, List.getElem_cons_succ, List.setIfInBounds_toArray, List.set_cons_zero, List.set_cons_succ]
        refine wpAnyH_take (i := 3) (v := .agg x.1.arr) rfl (by kernel_rfl) (by kernel_rfl) (by kernel_rfl) (fun _ _ _ h => h) (yields_rg rfl 36 _ rfl g (o + k * 7) rfl x.1.arr _ (fun W hW => (HMt.out.later hW).rg) Try.underlying36 rfl (by kernel_rfl)) hS0 ?_
        try simp only [Act.put, List.getElem_toArray, List.getElem_cons_zero, List.getElem_cons_succ, List.setIfInBounds_toArray, List.set_cons_zero, List.set_cons_succ]
        refine wpAnyH_take (i := 4) (v := ?_) rfl (by kernel_rfl) (by kernel_rfl) (by kernel_rfl) (fun _ _ _ h => h) (Or.inl ⟨by rfl, ?_⟩) hS0 ?_
        rotate_left
        · intro W _; go_simp; try with_reducible rfl
        try simp only [Act.put, List.getElem_toArray, List.getElem_cons_zero, List.getElem_cons_succ, List.setIfInBounds_toArray, List.set_cons_zero, List.set_cons_succ]
        refine wpAnyH_take (i := 5) (v := .agg t.arr) rfl (by kernel_rfl) (by kernel_rfl) (by kernel_rfl) (fun _ _ _ h => h) (yields_bk rfl 28 _ rfl w.heap.size 0 rfl 28 t.arr t.arr _ (fun W hW => HTb.out.later hW) (Part.whole _) Try.underlying28 rfl (by kernel_rfl)) hS0 ?_
        try simp only [Act.put, List.getElem_toArray, List.getElem_cons_zero, List.getElem_cons_succ, List.setIfInBounds_toArray, List.set_cons_zero, List.set_cons_succ]
        refine wpAnyH_ready (rs := [6]) (by kernel_rfl) (by simp) ?_
        refine AllReadyH.cons rfl (fun K hK => ?_) AllReadyH.nil
        go_simp
        have hBS : Below w.heap.size w _ := hb.trans (hS0.mono hb.size)
        refine (KS.out _ (hA.out.later hBS) (HXo.out.later hBS) (hT.out.later hBS)).mono ?_
        rintro v v1 ⟨rfl, hbl⟩
        go_simp
        refine hK.out _ _ (hS0.trans (hbl.mono hS0.size)) (fun hS1 => ?_)
        clear hK K hBS
        try simp only [Act.put, List.getElem_toArray, List.getElem_cons_zero, List.getElem_cons_succ, List.setIfInBounds_toArray, List.set_cons_zero, List.set_cons_succ]
        refine wpAnyH_take (i := 7) (v := ?_) rfl (by kernel_rfl) (by kernel_rfl) (by kernel_rfl) (fun _ _ _ h => h) (Or.inl ⟨by rfl, ?_⟩) hS1 ?_
        rotate_left
        · intro W _; go_simp; try with_reducible rfl
        try simp only [Act.put, List.getElem_toArray, List.getElem_cons_zero, List.getElem_cons_succ, List.setIfInBounds_toArray, List.set_cons_zero, List.set_cons_succ]
        refine wpAnyH_take (i := 8) (v := ?_) rfl (by kernel_rfl) (by kernel_rfl) (by kernel_rfl) (fun _ _ _ h => h) (Or.inl ⟨by rfl, ?_⟩) hS1 ?_
        rotate_left
        · intro W _; go_simp; try with_reducible rfl
        try simp only [Act.put, List.getElem_toArray, List.getElem_cons_zero, List.getElem_cons_succ, List.setIfInBounds_toArray, List.set_cons_zero, List.set_cons_succ]
        refine wpAnyH_take (i := 9) (v := ?_) rfl (by kernel_rfl) (by kernel_rfl) (by kernel_rfl) (fun _ _ _ h => h) (Or.inl ⟨by rfl, ?_⟩) hS1 ?_
        rotate_left
        · intro W _; go_simp; try with_reducible rfl
        try simp only [Act.put, List.getElem_toArray, List.getElem_cons_zero, List.getElem_cons_succ, List.setIfInBounds_toArray, List.set_cons_zero, List.set_cons_succ]
        refine wpAnyH_take (i := 10) (v := ?_) rfl (by kernel_rfl) (by kernel_rfl) (by kernel_rfl) (fun _ _ _ h => h) (Or.inl ⟨by rfl, ?_⟩) hS1 ?_
        rotate_left
        · intro W _; go_simp; try with_reducible rfl
        try simp only [Act.put, List.getElem_toArray, List.getElem_cons_zero, List.getElem_cons_succ, List.setIfInBounds_toArray, List.set_cons_zero, List.set_cons_succ]
        refine wpAnyH_take (i := 11) (v := ?_) rfl (by kernel_rfl) (by kernel_rfl) (by kernel_rfl) (fun _ _ _ h => h) (Or.inl ⟨by rfl, ?_⟩) hS1 ?_
        rotate_left
        · intro W _; go_simp; try with_reducible rfl
        try simp only [Act.put, List.getElem_toArray, List.getElem_cons_zero, List.getElem_cons_succ, List.setIfInBounds_toArray, List.set_cons_zero, List.set_cons_succ]
        refine wpAnyH_done (by kernel_rfl) ?_ _
        have hB1 : Below w.heap.size w v1 := hb.trans (hS1.mono hb.size)
        have cnm : v1.cell? ⟨g, o + k * 7, none⟩ = some (.string x.1.nm) := (HMt.out.later hS1).nm
        have zg : g < v1.heap.size := (HMt.out.later hS1).lt
        go_upto_block 2 with fail
        go_cut [13] (fun s13 wx => ∃ a : Nat, s13 = .int .i64 a ∧ a ≤ q ∧ Hid (insE (x.1.nm, s) E = E.take a ++ (x.1.nm, s) :: E.drop a) ∧ v1 = wx)
        case first =>
          go_wp2_with fail
          go_loopw [13] (fun i wi => ∃ a : Nat, a ≤ q ∧ i = .int .i64 a ∧ Hid ((E.take a).all (bef (x.1.nm, s)) = true) ∧ v1 = wi) (fun i wi => q - (intOf i).toNat)
          case atStart => exact ⟨0, Nat.zero_le _, rfl, (show _ = _ by simp), rfl⟩
          case round =>
            obtain ⟨a, ha, rfl, HB, hww⟩ := hrel
            subst hww
            by_cases haq : a < q
            · have haE : a < E.length := by have := HQ.out; omega
              obtain ⟨g7, o7, rfl, hg7, c7a⟩ := (HR7.out.later hS1).at (i := a) (by simpa [nms] using haE)
              obtain ⟨g8, o8, rfl, hg8, c8a⟩ := (HR8.out.later hS1).at (i := a) (by simpa [scs] using haE)
              obtain ⟨y, hy⟩ : ∃ y, y = E[a] := ⟨_, rfl⟩
              rw [show (nms E)[a]'(by simpa [nms] using haE) = y.1 by rw [hy]; simp [nms]] at c7a
              rw [show (scs E)[a]'(by simpa [scs] using haE) = y.2 by rw [hy]; simp [scs]] at c8a
              obtain ⟨yn, ys⟩ := y
              simp only at c7a c8a
              have HY := Lib.hid hy; clear hy
              by_cases h1 : ys < s
              · have HB2 : Hid ((E.take (a + 1)).all (bef (x.1.nm, s)) = true) := by show _ = _; rw [all_takeE haE, HB.out, ← HY.out]; unfold bef; rw [decide_eq_true h1]; rfl
                go_wp2_with fail
                go_round
                case rel => exact ⟨a + 1, by omega, by go_num, HB2, trivial⟩
                case measure => simp [intOf]; omega
              · by_cases h2 : ys = s
                · subst h2
                  cases h3 : sL yn x.1.nm
                  · have h3' : Op.bytesLess yn.toList x.1.nm.toList = false := h3
                    have hbf : bef (x.1.nm, ys) E[a] = false := by rw [← HY.out]; unfold bef; rw [h3]; simp
                    have HBF := Lib.hid hbf; clear hbf h3
                    go_wp2_with fail
                    go_meet
                    exact ⟨a, rfl, by omega, place HB.out (.inr ⟨haE, HBF.out⟩) (by rw [← HQ.out]; omega), rfl⟩
                  · have HB2 : Hid ((E.take (a + 1)).all (bef (x.1.nm, ys)) = true) := by show _ = _; rw [all_takeE haE, HB.out, ← HY.out]; unfold bef; rw [h3]; simp
                    have h3' : Op.bytesLess yn.toList x.1.nm.toList = true := h3
                    clear h3
                    go_wp2_with fail
                    go_round
                    case rel => exact ⟨a + 1, by omega, by go_num, HB2, trivial⟩
                    case measure => simp [intOf]; omega
                · have hbf : bef (x.1.nm, s) E[a] = false := by rw [← HY.out]; unfold bef; rw [decide_eq_false h1, decide_eq_false h2]; rfl
                  have HBF := Lib.hid hbf; clear hbf
                  have h2' : (ys == s) = false := by simpa using h2
                  go_wp2_with fail
                  go_meet
                  exact ⟨a, rfl, by omega, place HB.out (.inr ⟨haE, HBF.out⟩) (by rw [← HQ.out]; omega), rfl⟩
            · go_wp2_with fail
              go_meet
              exact ⟨a, rfl, by omega, place HB.out (.inl (by rw [← HQ.out]; omega)) (by rw [← HQ.out]; omega), rfl⟩
        case rest =>
          obtain ⟨a, rfl, ha, HI, hww⟩ := hcut
          subst hww
          obtain ⟨E2, hE2⟩ : ∃ E2, E2 = E.take a ++ (x.1.nm, s) :: E.drop a := ⟨_, rfl⟩
          have HE2 := Lib.hid hE2
          have hE3 : srt t tl l (L.take (k + 1)) = E2 := by rw [HS2.out, HI.out, hE2]
          have HE3 := Lib.hid hE3; clear hE2 hE3 HI HS2
          go_upto_region 14 with fail
          obtain ⟨vr, hvr⟩ : ∃ vr, vr = v1 := ⟨_, rfl⟩
          have hrd := HR7.out.later hS1
          rw [← hvr] at hrd ⊢
          have hac : a ≤ c7 := by omega
          have hdr := hrd.drop (j := a) (cap := c7) (by simp [nms]; have := HQ.out; omega)
          obtain ⟨Ad, hAd⟩ : ∃ Ad, (if c7 = a then A7 else Option.map (fun x => x.add a) A7) = Ad := ⟨_, rfl⟩
          rw [hAd] at hdr
          have H7t := Lib.hid (show RdK vr 1 A7 (cellsS ((nms E).take a)) from hrd.take a)
          have H7d := Lib.hid (show RdK vr 1 Ad (cellsS ((nms E).drop a)) from hdr)
          have H7a : Hid (a = (cellsS ((nms E).take a)).length) := by show _ = _; rw [cellsS_length, List.length_take]; simp [nms]; have := HQ.out; omega
          have H7m : Hid (q - a = (cellsS ((nms E).drop a)).length) := by show _ = _; rw [cellsS_length, List.length_drop]; simp [nms]; have := HQ.out; omega
          have HAd := Lib.hid hAd; clear hAd hrd hdr
          go_cut [14] (fun s14 wx => OwnK wx vr.heap.size 9 1 s14 (cellsS (nms E2)) ∧ Below vr.heap.size vr wx)
          case first =>
            refine wp_region_held_drew (S := fun W => Below vr.heap.size vr W) (by kernel_rfl) (Below.drew (Below.refl _ _)) (fun hZ0 => ?_)
            refine wpAnyH_take (i := 0) (v := ?_) rfl (by kernel_rfl) (by kernel_rfl) (by kernel_rfl) (fun _ _ _ h => h) (Or.inl ⟨by rfl, ?_⟩) hZ0 ?_
            rotate_left
            · intro W _; go_simp; try with_reducible rfl
            try simp only [Act.put, List.getElem_toArray, List.getElem_cons_zero, List.setIfInBounds_toArray, List.set_cons_zero, List.set_cons_succ]
            refine wpAnyH_take (i := 1) (v := ?_) rfl (by kernel_rfl) (by kernel_rfl) (by kernel_rfl) (fun _ _ _ h => h) (Or.inl ⟨by rfl, ?_⟩) hZ0 ?_
            rotate_left
            · intro W _; go_simp; try with_reducible rfl
            try simp only [Act.put, List.getElem_toArray, List.getElem_cons_zero, List.getElem_cons_succ, List.setIfInBounds_toArray, List.set_cons_zero, List.set_cons_succ]
            refine wpAnyH_take (i := 2) (v := ?_) rfl (by kernel_rfl) (by kernel_rfl) (by kernel_rfl) (fun _ _ _ h => h) (Or.inl ⟨by rfl, ?_⟩) hZ0 ?_
            rotate_left
            · intro W _; go_simp; try with_reducible rfl
            try simp only [Act.put, List.getElem_toArray, List.getElem_cons_zero, List.getElem_cons_succ, List.setIfInBounds_toArray, List.set_cons_zero, List.set_cons_succ]
            refine wpAnyH_take (i := 3) (v := ?_) rfl (by kernel_rfl) (by kernel_rfl) (by kernel_rfl) (fun _ _ _ h => h) (Or.inl ⟨by rfl, ?_⟩) hZ0 ?_
            rotate_left
            · intro W _; go_simp; try with_reducible rfl
            try simp only [Act.put, List.getElem_toArray, List.getElem_cons_zero, List.getElem_cons_succ, List.setIfInBounds_toArray, List.set_cons_zero, List.set_cons_succ]
            refine wpAnyH_take (i := 5) (v := ?_) rfl (by kernel_rfl) (by kernel_rfl) (by kernel_rfl) (fun _ _ _ h => h) (Or.inl ⟨by rfl, ?_⟩) hZ0 ?_
            rotate_left
            · intro W _; go_simp; try with_reducible rfl
            try simp only [Act.put, List.getElem_toArray, List.getElem_cons_zero, List.getElem_cons_succ, List.setIfInBounds_toArray, List.set_cons_zero, List.set_cons_succ]
            refine wpAnyH_take (i := 8) (v := ?_) rfl (by kernel_rfl) (by kernel_rfl) (by kernel_rfl) (fun _ _ _ h => h) (Or.inl ⟨by rfl, ?_⟩) hZ0 ?_
            rotate_left
            · intro W _; go_simp; try with_reducible rfl
            try simp only [Act.put, List.getElem_toArray, List.getElem_cons_zero, List.getElem_cons_succ, List.setIfInBounds_toArray, List.set_cons_zero, List.set_cons_succ]
            refine wpAnyH_take (i := 9) (v := ?_) rfl (by kernel_rfl) (by kernel_rfl) (by kernel_rfl) (fun _ _ _ h => h) (Or.inl ⟨by rfl, ?_⟩) hZ0 ?_
            rotate_left
            · intro W _; go_simp; try with_reducible rfl
            try simp only [Act.put, List.getElem_toArray, List.getElem_cons_zero, List.getElem_cons_succ, List.setIfInBounds_toArray, List.set_cons_zero, List.set_cons_succ]
            refine wpAnyH_take (i := 10) (v := .slice Ad (q - a) (c7 - a)) rfl (by kernel_rfl) (by kernel_rfl) (by kernel_rfl) (fun _ _ _ h => h) (Or.inl ⟨by rfl, ?_⟩) hZ0 ?_
            · intro W _; go_simp; rw [HAd.out]
            try simp only [Act.put, List.getElem_toArray, List.getElem_cons_zero, List.getElem_cons_succ, List.setIfInBounds_toArray, List.set_cons_zero, List.set_cons_succ]
            refine wpAnyH_ready (rs := [4, 6]) (by kernel_rfl) (by simp) ?_
            refine (AllReadyH.cons rfl (fun K hK => ?_) (AllReadyH.cons rfl (fun K hK => ?_) AllReadyH.nil))
            · refine append_kn_op _ (.tmp 69) (.tmp 72) 40 rfl vr.heap.size 9 _ 1 16 Try.underlying40 infoS rfl (by omega) (.slice none 0 0) [] rfl (OwnK.nil _ _ _ _) A7 c7 a (cellsS ((nms E).take a)) rfl (RdK.later H7t.out hZ0) (cellsS_k _) (cellsS_one _) H7a.out (by simp [cellsS, nms, maxLen]; omega) (by simp [cellsS, nms, maxLen]; omega) hZ0.size ?_
              intro u48 z1 hV hgr
              have HV := Lib.hid (show OwnK _ _ _ _ _ (cellsS ((nms E).take a)) from hV); clear hV
              have hbl : Below vr.heap.size _ z1 := grown_base hgr hZ0.size (by intro kk ee; cases ee)
              clear hgr
              refine hK.out _ _ (hZ0.trans hbl) (fun hZ1 => ?_)
              clear hK K
              try simp only [Act.put, List.getElem_toArray, List.getElem_cons_zero, List.getElem_cons_succ, List.setIfInBounds_toArray, List.set_cons_zero, List.set_cons_succ]
              refine wpAnyH_ready (rs := [6]) (by kernel_rfl) (by simp) ?_
              refine (AllReadyH.cons rfl (fun K hK => ?_) AllReadyH.nil)
              refine sone_op 74 x.1.nm rfl rfl ?_
              intro g50 z2 hg50 hF hbl
              have HF := Lib.hid hF; clear hF hg50
              have HVb := Lib.hid (HV.out.below hbl); clear HV; have HV := Lib.hid HVb.out; clear HVb
              refine hK.out _ _ (hZ1.trans (hbl.mono hZ1.size)) (fun hZ2 => ?_)
              clear hK K
              try simp only [Act.put, List.getElem_toArray, List.getElem_cons_zero, List.getElem_cons_succ, List.setIfInBounds_toArray, List.set_cons_zero, List.set_cons_succ]
              refine wpAnyH_ready (rs := [7]) (by kernel_rfl) (by simp) ?_
              refine (AllReadyH.cons rfl (fun K hK => ?_) AllReadyH.nil)
              refine append_k_op _ (.tmp 73) (.tmp 75) 40 rfl vr.heap.size 9 _ 1 16 Try.underlying40 infoS rfl (by omega) u48 (cellsS ((nms E).take a)) rfl HV.out ⟨g50, 0, none⟩ 1 1 (cellsS [x.1.nm]) rfl (RdK.of_bk HF.out) (cellsS_k _) (cellsS_one _) rfl (by simp [cellsS, nms, maxLen]; omega) (by simp [cellsS, nms, maxLen]; omega) hZ2.size ?_
              intro u51 z3 hO hgr
              rw [← cellsS_append] at hO
              have HW := Lib.hid hO; clear hO
              have hbl : Below vr.heap.size _ z3 := grown_base hgr hZ2.size HV.out.block
              clear HV HF hgr
              refine hK.out _ _ (hZ2.trans hbl) (fun hZ3 => ?_)
              clear hK K
              try simp only [Act.put, List.getElem_toArray, List.getElem_cons_zero, List.getElem_cons_succ, List.setIfInBounds_toArray, List.set_cons_zero, List.set_cons_succ]
              refine wpAnyH_ready (rs := [11]) (by kernel_rfl) (by simp) ?_
              refine (AllReadyH.cons rfl (fun K hK => ?_) AllReadyH.nil)
              refine append_kn_op _ (.tmp 76) (.tmp 79) 40 rfl vr.heap.size 9 _ 1 16 Try.underlying40 infoS rfl (by omega) u51 (cellsS ((nms E).take a ++ [x.1.nm])) rfl HW.out Ad (c7 - a) (q - a) (cellsS ((nms E).drop a)) rfl (RdK.later H7d.out hZ3) (cellsS_k _) (cellsS_one _) H7m.out (by simp [cellsS, nms, maxLen]; omega) (by simp [cellsS, nms, maxLen]; omega) hZ3.size ?_
              intro u52 z4 hO hgr
              rw [← cellsS_append] at hO
              have HO := Lib.hid hO; clear hO
              have hbl : Below vr.heap.size _ z4 := grown_base hgr hZ3.size HW.out.block
              clear HW hgr
              refine hK.out _ _ (hZ3.trans hbl) (fun hZ4 => ?_)
              clear hK K
              try simp only [Act.put, List.getElem_toArray, List.getElem_cons_zero, List.getElem_cons_succ, List.setIfInBounds_toArray, List.set_cons_zero, List.set_cons_succ]
              refine wpAnyH_take (i := 12) (v := ?_) rfl (by kernel_rfl) (by kernel_rfl) (by kernel_rfl) (fun _ _ _ h => h) (Or.inl ⟨by rfl, ?_⟩) hZ4 ?_
              rotate_left
              · intro W _; go_simp; try with_reducible rfl
              try simp only [Act.put, List.getElem_toArray, List.getElem_cons_zero, List.getElem_cons_succ, List.setIfInBounds_toArray, List.set_cons_zero, List.set_cons_succ]
              refine wpAnyH_done (by kernel_rfl) ?_ _
              go_wp2_with fail
              go_meet
              exact ⟨by rw [HE2.out]; simpa [nms, scs] using HO.out, hZ4⟩
            · refine sone_op 74 x.1.nm rfl rfl ?_
              intro g50 z1 hg50 hF hbl
              have HF := Lib.hid hF; clear hF hg50
              refine hK.out _ _ (hZ0.trans (hbl.mono hZ0.size)) (fun hZ1 => ?_)
              clear hK K
              try simp only [Act.put, List.getElem_toArray, List.getElem_cons_zero, List.getElem_cons_succ, List.setIfInBounds_toArray, List.set_cons_zero, List.set_cons_succ]
              refine wpAnyH_ready (rs := [4]) (by kernel_rfl) (by simp) ?_
              refine (AllReadyH.cons rfl (fun K hK => ?_) AllReadyH.nil)
              refine append_kn_op _ (.tmp 69) (.tmp 72) 40 rfl vr.heap.size 9 _ 1 16 Try.underlying40 infoS rfl (by omega) (.slice none 0 0) [] rfl (OwnK.nil _ _ _ _) A7 c7 a (cellsS ((nms E).take a)) rfl (RdK.later H7t.out hZ1) (cellsS_k _) (cellsS_one _) H7a.out (by simp [cellsS, nms, maxLen]; omega) (by simp [cellsS, nms, maxLen]; omega) hZ1.size ?_
              intro u48 z2 hV hgr
              have HV := Lib.hid (show OwnK _ _ _ _ _ (cellsS ((nms E).take a)) from hV); clear hV
              have HFb := Lib.hid (HF.out.stays hgr (by intro ee; cases ee)); clear HF; have HF := Lib.hid HFb.out; clear HFb
              have hbl : Below vr.heap.size _ z2 := grown_base hgr hZ1.size (by intro kk ee; cases ee)
              clear hgr
              refine hK.out _ _ (hZ1.trans hbl) (fun hZ2 => ?_)
              clear hK K
              try simp only [Act.put, List.getElem_toArray, List.getElem_cons_zero, List.getElem_cons_succ, List.setIfInBounds_toArray, List.set_cons_zero, List.set_cons_succ]
              refine wpAnyH_ready (rs := [7]) (by kernel_rfl) (by simp) ?_
              refine (AllReadyH.cons rfl (fun K hK => ?_) AllReadyH.nil)
              refine append_k_op _ (.tmp 73) (.tmp 75) 40 rfl vr.heap.size 9 _ 1 16 Try.underlying40 infoS rfl (by omega) u48 (cellsS ((nms E).take a)) rfl HV.out ⟨g50, 0, none⟩ 1 1 (cellsS [x.1.nm]) rfl (RdK.of_bk HF.out) (cellsS_k _) (cellsS_one _) rfl (by simp [cellsS, nms, maxLen]; omega) (by simp [cellsS, nms, maxLen]; omega) hZ2.size ?_
              intro u51 z3 hO hgr
              rw [← cellsS_append] at hO
              have HW := Lib.hid hO; clear hO
              have hbl : Below vr.heap.size _ z3 := grown_base hgr hZ2.size HV.out.block
              clear HV HF hgr
              refine hK.out _ _ (hZ2.trans hbl) (fun hZ3 => ?_)
              clear hK K
              try simp only [Act.put, List.getElem_toArray, List.getElem_cons_zero, List.getElem_cons_succ, List.setIfInBounds_toArray, List.set_cons_zero, List.set_cons_succ]
              refine wpAnyH_ready (rs := [11]) (by kernel_rfl) (by simp) ?_
              refine (AllReadyH.cons rfl (fun K hK => ?_) AllReadyH.nil)
              refine append_kn_op _ (.tmp 76) (.tmp 79) 40 rfl vr.heap.size 9 _ 1 16 Try.underlying40 infoS rfl (by omega) u51 (cellsS ((nms E).take a ++ [x.1.nm])) rfl HW.out Ad (c7 - a) (q - a) (cellsS ((nms E).drop a)) rfl (RdK.later H7d.out hZ3) (cellsS_k _) (cellsS_one _) H7m.out (by simp [cellsS, nms, maxLen]; omega) (by simp [cellsS, nms, maxLen]; omega) hZ3.size ?_
              intro u52 z4 hO hgr
              rw [← cellsS_append] at hO
              have HO := Lib.hid hO; clear hO
              have hbl : Below vr.heap.size _ z4 := grown_base hgr hZ3.size HW.out.block
              clear HW hgr
              refine hK.out _ _ (hZ3.trans hbl) (fun hZ4 => ?_)
              clear hK K
              try simp only [Act.put, List.getElem_toArray, List.getElem_cons_zero, List.getElem_cons_succ, List.setIfInBounds_toArray, List.set_cons_zero, List.set_cons_succ]
              refine wpAnyH_take (i := 12) (v := ?_) rfl (by kernel_rfl) (by kernel_rfl) (by kernel_rfl) (fun _ _ _ h => h) (Or.inl ⟨by rfl, ?_⟩) hZ4 ?_
              rotate_left
              · intro W _; go_simp; try with_reducible rfl
              try simp only [Act.put, List.getElem_toArray, List.getElem_cons_zero, List.getElem_cons_succ, List.setIfInBounds_toArray, List.set_cons_zero, List.set_cons_succ]
              refine wpAnyH_done (by kernel_rfl) ?_ _
              go_wp2_with fail
              go_meet
              exact ⟨by rw [HE2.out]; simpa [nms, scs] using HO.out, hZ4⟩
          case rest =>
            obtain ⟨hN7, hbc⟩ := hcut
            rw [hvr] at hN7 hbc
            have HN7 := Lib.hid hN7; clear hN7
            clear hvr H7t H7d H7a H7m HAd hac vr
            have hS2 := hS1.trans (hbc.mono hS1.size)
            obtain ⟨v2, hv2⟩ : ∃ v2, v2 = wc := ⟨_, rfl⟩
            subst hv2
            go_upto_region 15 with fail
            obtain ⟨vr, hvr⟩ : ∃ vr, vr = v2 := ⟨_, rfl⟩
            have hrd := HR8.out.later hS2
            rw [← hvr] at hrd ⊢
            have hac : a ≤ c8 := by omega
            have hdr := hrd.drop (j := a) (cap := c8) (by simp [scs]; have := HQ.out; omega)
            obtain ⟨Ad, hAd⟩ : ∃ Ad, (if c8 = a then A8 else Option.map (fun x => x.add a) A8) = Ad := ⟨_, rfl⟩
            rw [hAd] at hdr
            have H8t := Lib.hid (show RdK vr 1 A8 (cellsI ((scs E).take a)) from hrd.take a)
            have H8d := Lib.hid (show RdK vr 1 Ad (cellsI ((scs E).drop a)) from hdr)
            have H8a : Hid (a = (cellsI ((scs E).take a)).length) := by show _ = _; rw [cellsI_length, List.length_take]; simp [scs]; have := HQ.out; omega
            have H8m : Hid (q - a = (cellsI ((scs E).drop a)).length) := by show _ = _; rw [cellsI_length, List.length_drop]; simp [scs]; have := HQ.out; omega
            have HAd := Lib.hid hAd; clear hAd hrd hdr
            go_cut [15] (fun s15 wx => OwnK wx vr.heap.size 3 1 s15 (cellsI (scs E2)) ∧ Below vr.heap.size vr wx)
            case first =>
              refine wp_region_held_drew (S := fun W => Below vr.heap.size vr W) (by kernel_rfl) (Below.drew (Below.refl _ _)) (fun hZ0 => ?_)
              refine wpAnyH_take (i := 0) (v := ?_) rfl (by kernel_rfl) (by kernel_rfl) (by kernel_rfl) (fun _ _ _ h => h) (Or.inl ⟨by rfl, ?_⟩) hZ0 ?_
              rotate_left
              · intro W _; go_simp; try with_reducible rfl
              try simp only [Act.put, List.getElem_toArray, List.getElem_cons_zero, List.setIfInBounds_toArray, List.set_cons_zero, List.set_cons_succ]
              refine wpAnyH_take (i := 1) (v := ?_) rfl (by kernel_rfl) (by kernel_rfl) (by kernel_rfl) (fun _ _ _ h => h) (Or.inl ⟨by rfl, ?_⟩) hZ0 ?_
              rotate_left
              · intro W _; go_simp; try with_reducible rfl
              try simp only [Act.put, List.getElem_toArray, List.getElem_cons_zero, List.getElem_cons_succ, List.setIfInBounds_toArray, List.set_cons_zero, List.set_cons_succ]
              refine wpAnyH_take (i := 2) (v := ?_) rfl (by kernel_rfl) (by kernel_rfl) (by kernel_rfl) (fun _ _ _ h => h) (Or.inl ⟨by rfl, ?_⟩) hZ0 ?_
              rotate_left
              · intro W _; go_simp; try with_reducible rfl
              try simp only [Act.put, List.getElem_toArray, List.getElem_cons_zero, List.getElem_cons_succ, List.setIfInBounds_toArray, List.set_cons_zero, List.set_cons_succ]
              refine wpAnyH_take (i := 3) (v := ?_) rfl (by kernel_rfl) (by kernel_rfl) (by kernel_rfl) (fun _ _ _ h => h) (Or.inl ⟨by rfl, ?_⟩) hZ0 ?_
              rotate_left
              · intro W _; go_simp; try with_reducible rfl
              try simp only [Act.put, List.getElem_toArray, List.getElem_cons_zero, List.getElem_cons_succ, List.setIfInBounds_toArray, List.set_cons_zero, List.set_cons_succ]
              refine wpAnyH_take (i := 5) (v := ?_) rfl (by kernel_rfl) (by kernel_rfl) (by kernel_rfl) (fun _ _ _ h => h) (Or.inl ⟨by rfl, ?_⟩) hZ0 ?_
              rotate_left
              · intro W _; go_simp; try with_reducible rfl
              try simp only [Act.put, List.getElem_toArray, List.getElem_cons_zero, List.getElem_cons_succ, List.setIfInBounds_toArray, List.set_cons_zero, List.set_cons_succ]
              refine wpAnyH_take (i := 8) (v := ?_) rfl (by kernel_rfl) (by kernel_rfl) (by kernel_rfl) (fun _ _ _ h => h) (Or.inl ⟨by rfl, ?_⟩) hZ0 ?_
              rotate_left
              · intro W _; go_simp; try with_reducible rfl
              try simp only [Act.put, List.getElem_toArray, List.getElem_cons_zero, List.getElem_cons_succ, List.setIfInBounds_toArray, List.set_cons_zero, List.set_cons_succ]
              refine wpAnyH_take (i := 9) (v := ?_) rfl (by kernel_rfl) (by kernel_rfl) (by kernel_rfl) (fun _ _ _ h => h) (Or.inl ⟨by rfl, ?_⟩) hZ0 ?_
              rotate_left
              · intro W _; go_simp; try with_reducible rfl
              try simp only [Act.put, List.getElem_toArray, List.getElem_cons_zero, List.getElem_cons_succ, List.setIfInBounds_toArray, List.set_cons_zero, List.set_cons_succ]
              refine wpAnyH_take (i := 10) (v := .slice Ad (q - a) (c8 - a)) rfl (by kernel_rfl) (by kernel_rfl) (by kernel_rfl) (fun _ _ _ h => h) (Or.inl ⟨by rfl, ?_⟩) hZ0 ?_
              · intro W _; go_simp; rw [HAd.out]
              try simp only [Act.put, List.getElem_toArray, List.getElem_cons_zero, List.getElem_cons_succ, List.setIfInBounds_toArray, List.set_cons_zero, List.set_cons_succ]
              refine wpAnyH_ready (rs := [4, 6]) (by kernel_rfl) (by simp) ?_
              refine (AllReadyH.cons rfl (fun K hK => ?_) (AllReadyH.cons rfl (fun K hK => ?_) AllReadyH.nil))
              · refine append_kn_op _ (.tmp 81) (.tmp 84) 63 rfl vr.heap.size 3 _ 1 8 Try.underlying63 infoI rfl (by omega) (.slice none 0 0) [] rfl (OwnK.nil _ _ _ _) A8 c8 a (cellsI ((scs E).take a)) rfl (RdK.later H8t.out hZ0) (cellsI_k _) (cellsI_one _) H8a.out (by simp [cellsI, scs, maxLen]; omega) (by simp [cellsI, scs, maxLen]; omega) hZ0.size ?_
                intro u48 z1 hV hgr
                have HV := Lib.hid (show OwnK _ _ _ _ _ (cellsI ((scs E).take a)) from hV); clear hV
                have hbl : Below vr.heap.size _ z1 := grown_base hgr hZ0.size (by intro kk ee; cases ee)
                clear hgr
                refine hK.out _ _ (hZ0.trans hbl) (fun hZ1 => ?_)
                clear hK K
                try simp only [Act.put, List.getElem_toArray, List.getElem_cons_zero, List.getElem_cons_succ, List.setIfInBounds_toArray, List.set_cons_zero, List.set_cons_succ]
                refine wpAnyH_ready (rs := [6]) (by kernel_rfl) (by simp) ?_
                refine (AllReadyH.cons rfl (fun K hK => ?_) AllReadyH.nil)
                refine ione_op 86 s rfl rfl ?_
                intro g50 z2 hg50 hF hbl
                have HF := Lib.hid hF; clear hF hg50
                have HVb := Lib.hid (HV.out.below hbl); clear HV; have HV := Lib.hid HVb.out; clear HVb
                refine hK.out _ _ (hZ1.trans (hbl.mono hZ1.size)) (fun hZ2 => ?_)
                clear hK K
                try simp only [Act.put, List.getElem_toArray, List.getElem_cons_zero, List.getElem_cons_succ, List.setIfInBounds_toArray, List.set_cons_zero, List.set_cons_succ]
                refine wpAnyH_ready (rs := [7]) (by kernel_rfl) (by simp) ?_
                refine (AllReadyH.cons rfl (fun K hK => ?_) AllReadyH.nil)
                refine append_k_op _ (.tmp 85) (.tmp 87) 63 rfl vr.heap.size 3 _ 1 8 Try.underlying63 infoI rfl (by omega) u48 (cellsI ((scs E).take a)) rfl HV.out ⟨g50, 0, none⟩ 1 1 (cellsI [s]) rfl (RdK.of_bk HF.out) (cellsI_k _) (cellsI_one _) rfl (by simp [cellsI, scs, maxLen]; omega) (by simp [cellsI, scs, maxLen]; omega) hZ2.size ?_
                intro u51 z3 hO hgr
                rw [← cellsI_append] at hO
                have HW := Lib.hid hO; clear hO
                have hbl : Below vr.heap.size _ z3 := grown_base hgr hZ2.size HV.out.block
                clear HV HF hgr
                refine hK.out _ _ (hZ2.trans hbl) (fun hZ3 => ?_)
                clear hK K
                try simp only [Act.put, List.getElem_toArray, List.getElem_cons_zero, List.getElem_cons_succ, List.setIfInBounds_toArray, List.set_cons_zero, List.set_cons_succ]
                refine wpAnyH_ready (rs := [11]) (by kernel_rfl) (by simp) ?_
                refine (AllReadyH.cons rfl (fun K hK => ?_) AllReadyH.nil)
                refine append_kn_op _ (.tmp 88) (.tmp 91) 63 rfl vr.heap.size 3 _ 1 8 Try.underlying63 infoI rfl (by omega) u51 (cellsI ((scs E).take a ++ [s])) rfl HW.out Ad (c8 - a) (q - a) (cellsI ((scs E).drop a)) rfl (RdK.later H8d.out hZ3) (cellsI_k _) (cellsI_one _) H8m.out (by simp [cellsI, scs, maxLen]; omega) (by simp [cellsI, scs, maxLen]; omega) hZ3.size ?_
                intro u52 z4 hO hgr
                rw [← cellsI_append] at hO
                have HO := Lib.hid hO; clear hO
                have hbl : Below vr.heap.size _ z4 := grown_base hgr hZ3.size HW.out.block
                clear HW hgr
                refine hK.out _ _ (hZ3.trans hbl) (fun hZ4 => ?_)
                clear hK K
                try simp only [Act.put, List.getElem_toArray, List.getElem_cons_zero, List.getElem_cons_succ, List.setIfInBounds_toArray, List.set_cons_zero, List.set_cons_succ]
                refine wpAnyH_take (i := 12) (v := ?_) rfl (by kernel_rfl) (by kernel_rfl) (by kernel_rfl) (fun _ _ _ h => h) (Or.inl ⟨by rfl, ?_⟩) hZ4 ?_
                rotate_left
                · intro W _; go_simp; try with_reducible rfl
                try simp only [Act.put, List.getElem_toArray, List.getElem_cons_zero, List.getElem_cons_succ, List.setIfInBounds_toArray, List.set_cons_zero, List.set_cons_succ]
                refine wpAnyH_done (by kernel_rfl) ?_ _
                go_wp2_with fail
                go_meet
                exact ⟨by rw [HE2.out]; simpa [nms, scs] using HO.out, hZ4⟩
              · refine ione_op 86 s rfl rfl ?_
                intro g50 z1 hg50 hF hbl
                have HF := Lib.hid hF; clear hF hg50
                refine hK.out _ _ (hZ0.trans (hbl.mono hZ0.size)) (fun hZ1 => ?_)
                clear hK K
                try simp only [Act.put, List.getElem_toArray, List.getElem_cons_zero, List.getElem_cons_succ, List.setIfInBounds_toArray, List.set_cons_zero, List.set_cons_succ]
                refine wpAnyH_ready (rs := [4]) (by kernel_rfl) (by simp) ?_
                refine (AllReadyH.cons rfl (fun K hK => ?_) AllReadyH.nil)
                refine append_kn_op _ (.tmp 81) (.tmp 84) 63 rfl vr.heap.size 3 _ 1 8 Try.underlying63 infoI rfl (by omega) (.slice none 0 0) [] rfl (OwnK.nil _ _ _ _) A8 c8 a (cellsI ((scs E).take a)) rfl (RdK.later H8t.out hZ1) (cellsI_k _) (cellsI_one _) H8a.out (by simp [cellsI, scs, maxLen]; omega) (by simp [cellsI, scs, maxLen]; omega) hZ1.size ?_
                intro u48 z2 hV hgr
                have HV := Lib.hid (show OwnK _ _ _ _ _ (cellsI ((scs E).take a)) from hV); clear hV
                have HFb := Lib.hid (HF.out.stays hgr (by intro ee; cases ee)); clear HF; have HF := Lib.hid HFb.out; clear HFb
                have hbl : Below vr.heap.size _ z2 := grown_base hgr hZ1.size (by intro kk ee; cases ee)
                clear hgr
                refine hK.out _ _ (hZ1.trans hbl) (fun hZ2 => ?_)
                clear hK K
                try simp only [Act.put, List.getElem_toArray, List.getElem_cons_zero, List.getElem_cons_succ, List.setIfInBounds_toArray, List.set_cons_zero, List.set_cons_succ]
                refine wpAnyH_ready (rs := [7]) (by kernel_rfl) (by simp) ?_
                refine (AllReadyH.cons rfl (fun K hK => ?_) AllReadyH.nil)
                refine append_k_op _ (.tmp 85) (.tmp 87) 63 rfl vr.heap.size 3 _ 1 8 Try.underlying63 infoI rfl (by omega) u48 (cellsI ((scs E).take a)) rfl HV.out ⟨g50, 0, none⟩ 1 1 (cellsI [s]) rfl (RdK.of_bk HF.out) (cellsI_k _) (cellsI_one _) rfl (by simp [cellsI, scs, maxLen]; omega) (by simp [cellsI, scs, maxLen]; omega) hZ2.size ?_
                intro u51 z3 hO hgr
                rw [← cellsI_append] at hO
                have HW := Lib.hid hO; clear hO
                have hbl : Below vr.heap.size _ z3 := grown_base hgr hZ2.size HV.out.block
                clear HV HF hgr
                refine hK.out _ _ (hZ2.trans hbl) (fun hZ3 => ?_)
                clear hK K
                try simp only [Act.put, List.getElem_toArray, List.getElem_cons_zero, List.getElem_cons_succ, List.setIfInBounds_toArray, List.set_cons_zero, List.set_cons_succ]
                refine wpAnyH_ready (rs := [11]) (by kernel_rfl) (by simp) ?_
                refine (AllReadyH.cons rfl (fun K hK => ?_) AllReadyH.nil)
                refine append_kn_op _ (.tmp 88) (.tmp 91) 63 rfl vr.heap.size 3 _ 1 8 Try.underlying63 infoI rfl (by omega) u51 (cellsI ((scs E).take a ++ [s])) rfl HW.out Ad (c8 - a) (q - a) (cellsI ((scs E).drop a)) rfl (RdK.later H8d.out hZ3) (cellsI_k _) (cellsI_one _) H8m.out (by simp [cellsI, scs, maxLen]; omega) (by simp [cellsI, scs, maxLen]; omega) hZ3.size ?_
                intro u52 z4 hO hgr
                rw [← cellsI_append] at hO
                have HO := Lib.hid hO; clear hO
                have hbl : Below vr.heap.size _ z4 := grown_base hgr hZ3.size HW.out.block
                clear HW hgr
                refine hK.out _ _ (hZ3.trans hbl) (fun hZ4 => ?_)
                clear hK K
                try simp only [Act.put, List.getElem_toArray, List.getElem_cons_zero, List.getElem_cons_succ, List.setIfInBounds_toArray, List.set_cons_zero, List.set_cons_succ]
                refine wpAnyH_take (i := 12) (v := ?_) rfl (by kernel_rfl) (by kernel_rfl) (by kernel_rfl) (fun _ _ _ h => h) (Or.inl ⟨by rfl, ?_⟩) hZ4 ?_
                rotate_left
                · intro W _; go_simp; try with_reducible rfl
                try simp only [Act.put, List.getElem_toArray, List.getElem_cons_zero, List.getElem_cons_succ, List.setIfInBounds_toArray, List.set_cons_zero, List.set_cons_succ]
                refine wpAnyH_done (by kernel_rfl) ?_ _
                go_wp2_with fail
                go_meet
                exact ⟨by rw [HE2.out]; simpa [nms, scs] using HO.out, hZ4⟩
            case rest =>
              obtain ⟨hN8, hbc2⟩ := hcut
              rw [hvr] at hN8 hbc2
              have HN8 := Lib.hid hN8; clear hN8
              clear hvr H8t H8d H8a H8m HAd hac vr
              have hS3 := hS2.trans (hbc2.mono hS2.size)
              have hz1 : w.heap.size + 1 ≤ v1.heap.size := by have := hS1.size; omega
              have hz2 : w.heap.size + 1 ≤ v2.heap.size := by have := hS2.size; omega
              go_wp2_with fail
              go_round
              case rel => exact ⟨k + 1, by omega, by go_num, (by show OwnK _ _ _ _ _ _; rw [HE3.out]; exact (HN7.out.below hbc2).base hz1), (by show OwnK _ _ _ _ _ _; rw [HE3.out]; exact HN8.out.base hz2), HTb.out.later hS3, hb.trans (hS3.mono hb.size)⟩
              case measure => simp [intOf]; omega
    · have hk' : k = N := by omega
      subst hk'
      have hlk : L.take k = L := by rw [hN.out]; exact List.take_length
      have h7 := HO7.out
      rw [hlk] at h7
      have H7 := Lib.hid (h7.base (b' := w.heap.size) (by omega)); clear h7 hlk
      go_wp2_with fail
      go_ret
      exact ⟨⟨_, rfl, H7.out⟩, hb⟩
end Go.Proofs.Ythikdhgkjcdepaa
