/- The contract of order.waiting: the places of the jobs that wait, in the order in which they are tried. Condition: the slice reads as a list of jobs, of at most 1000000. -/
import Derived.Test.YtamlcjepkoagmaaOcl
import Derived.Test.YtamlcjepkoagmaaStuI
import Derived.Test.YtamlcjepkoagmaaUni
namespace Go.Proofs.Ytamlcjepkoagmaa
open Go.RowKit Go.Sort
set_option linter.unusedSimpArgs false
set_option linter.unusedVariables false

theorem enter14 : ∀ args w, (callFunc 22 args).run Try.prog w = .ok (.enter 22 args) w := enters_of Try.func22 (by kernel_rfl) rfl
/-- The places of the first k that wait. -/
abbrev waitK (l : List Jb) (k : Nat) : List Nat := (List.range k).filter (waitC l)
theorem waitK_succ (l : List Jb) (k : Nat) : waitK l (k + 1) = waitK l k ++ if waitC l k then [k] else [] := by
  unfold waitK
  rw [List.range_succ, List.filter_append]
  cases h : waitC l k
  · rw [List.filter_cons_of_neg (by rw [h]; exact Bool.false_ne_true)]; simp
  · rw [List.filter_cons_of_pos h]; simp
theorem waitK_len (l : List Jb) (k : Nat) : (waitK l k).length ≤ k := Nat.le_trans (List.length_filter_le _ _) (by rw [List.length_range]; exact Nat.le_refl _)
/-- A place, as one of the jobs. -/
abbrev at14 (l : List Jb) (i : Nat) : Nat := min i (l.length - 1)
def val14 (l : List Jb) (i : Nat) : Int := (at14 l i : Int)
def cf14 (l : List Jb) (i k : Nat) : Int := cfo (jat l (at14 l i)) (jat l (at14 l k))
theorem lt14 (l : List Jb) (i k : Nat) : ltOf (cf14 l) i k = ahU l (at14 l i) (at14 l k) := by
  unfold ltOf cf14; exact cfo_try _ _
theorem swo14 (l : List Jb) : SWO (ltOf (cf14 l)) where
  irrefl x := by rw [lt14]; exact tryB_irrefl _
  trans x y z h1 h2 := by rw [lt14] at *; exact tryB_trans h1 h2
  ntrans x y z h1 h2 := by rw [lt14] at *; exact tryB_ntrans h1 h2
theorem vals14 (l : List Jb) : (waitK l l.length).map (val14 l) = ints (waitK l l.length) := by
  unfold ints
  refine List.map_congr_left fun i hi => ?_
  have := List.mem_range.1 (List.mem_filter.1 hi).1
  show ((min i (l.length - 1) : Nat) : Int) = _
  rw [Nat.min_eq_left (by omega)]
theorem sorted14 {l : List Jb} {W : List Nat} (h1 : W.Perm (List.range (waitK l l.length).length)) (h2 : W.Pairwise (Fore fun i y => ltOf (cf14 l) ((waitK l l.length).getD i default) ((waitK l l.length).getD y default))) : (W.map fun i => (waitK l l.length).getD i default) = srtU l := by
  have hW : ∀ i ∈ W, i < (waitK l l.length).length := fun i hi => List.mem_range.1 (h1.subset hi)
  have hasc : (waitK l l.length).Pairwise (· < ·) := List.pairwise_lt_range.sublist List.filter_sublist
  have e : ∀ i (h : i < (waitK l l.length).length), (waitK l l.length).getD i default = (waitK l l.length)[i] := by
    intro i hi; simp [List.getD, List.getElem?_eq_getElem hi]
  have hl : ∀ i (h : i < (waitK l l.length).length), at14 l ((waitK l l.length).getD i default) = (waitK l l.length).getD i default := by
    intro i hi
    rw [e i hi]
    have := List.mem_range.1 (List.mem_filter.1 (List.getElem_mem hi)).1
    show min _ _ = _
    rw [Nat.min_eq_left (by omega)]
  refine srtU_one ?_ ?_
  · rw [List.pairwise_map]
    refine List.Pairwise.imp_of_mem (fun {x y} hx hy h => ?_) h2
    unfold Fore at h ⊢
    simp only at h ⊢
    rw [lt14, lt14, hl x (hW x hx), hl y (hW y hy)] at h
    refine h.imp id fun ⟨k1, k2⟩ => ⟨k1, ?_⟩
    rw [e x (hW x hx), e y (hW y hy)]
    exact List.pairwise_iff_getElem.1 hasc x y (hW x hx) (hW y hy) k2
  · refine (h1.map _).trans ?_
    rw [show (List.range (waitK l l.length).length).map (fun i => (waitK l l.length).getD i default) = waitK l l.length from ?_]
    apply List.ext_getElem (by simp)
    intro i k1 k2
    simp [List.getD, List.getElem?_eq_getElem k2]
theorem infoI14 : (Try.prog.info? 3).map (fun i => (i.zero, i.size, i.bytes)) = some (some (.int .i64 0), 1, 8) := by kernel_rfl

set_option maxHeartbeats 12800000 in
set_option maxRecDepth 100000 in
theorem waiting14_any (A : Option Addr) (n cap : Nat) (l : List Jb) (w : World) (hn : Hid (n = l.length)) (hl : n ≤ 1000000) (hA : Hid (RdJ w A l)) :
    Calls Try.prog 15 #[.slice A n cap] w fun e w' => RetI14 w.heap.size w' e (ints (srtU l)) ∧ Below w.heap.size w w' := by
  go_enter Try.func15, Try.ntmps15
  have hB0 : Below w.heap.size w (w.alloc (.cells #[.slice A n cap] 22)) := (Below.refl _ _).alloc (Nat.le_refl _) _
  have HX0 := Lib.hid (show Bk (w.alloc (.cells #[.slice A n cap] 22)) w.heap.size 22 #[.slice A n cap] from Bk.fresh w _ _)
  go_wp2_with fail
  go_loopw [3, 8] (fun vo i wr => ∃ k : Nat, k ≤ n ∧ i = .int .i64 k ∧ Hid (OwnK wr (w.heap.size + 1) 3 1 vo (cellsI (ints (waitK l k)))) ∧ Hid (n = 0 → vo = .slice none 0 0) ∧ Hid (Bk wr w.heap.size 22 #[.slice A n cap]) ∧ Below w.heap.size w wr) (fun _ i wr => n - (intOf i).toNat)
  case atStart => exact ⟨0, Nat.zero_le _, rfl, (show OwnK _ _ _ _ _ (cellsI (ints (waitK l 0))) from OwnK.nil _ _ _ _), (show _ → _ from fun _ => rfl), HX0, hB0⟩
  case round =>
    clear HX0 hB0
    obtain ⟨k, hk, rfl, HO, HV, HX, hb⟩ := hrel
    have lt0 : w.heap.size < wr.heap.size := HX.out.here
    by_cases hlt : k < n
    · have hlk : k < l.length := by have := hn.out; omega
      obtain ⟨E, hE⟩ : ∃ E, E = waitK l k := ⟨_, rfl⟩
      have hst := waitK_succ l k
      have h7 := HO.out
      rw [← hE] at h7 hst
      have hEl : E.length ≤ k := by rw [hE]; exact waitK_len l k
      obtain ⟨g, o, hAg, hg, hj⟩ := (hA.out.later hb).at hlk
      subst hAg
      obtain ⟨j, hjk⟩ : ∃ j, j = l[k] := ⟨_, rfl⟩
      rw [← hjk] at hj
      have hwc : waitC l k = decide (j.nd.size = 0) := by unfold waitC; rw [jat_at hlk, ← hjk]
      rw [hwc] at hst
      obtain ⟨R, hR⟩ : ∃ R, decide (j.nd.size = 0) = R := ⟨_, rfl⟩
      have k1 := fun (W : World) => waits_any j W
      rw [hR] at k1 hst
      have K1 := Lib.hid k1; have HJ := Lib.hid hj; have HO7 := Lib.hid h7; have HST := Lib.hid hst
      clear k1 hj h7 hst HO HV hjk hwc hR hE
      go_wp2_with (first | (with_reducible refine load_rg rfl 29 _ rfl g (o + k * 13) rfl j.arr _ HJ.out.rg Try.underlying29 rfl (by kernel_rfl) ?_) | ((with_reducible refine store_bk rfl 29 (.tmp 5) (.tmp 12) rfl wr.heap.size 0 j.arr rfl rfl 29 _ j.arr (Bk.fresh _ _ _) (by kernel_rfl) (by simp) (by kernel_rfl) rfl ?_); intro w1 hB1 hg1 hs1; have bl1 : Below wr.heap.size wr w1 := grown_below ((Below.refl _ _).alloc (Nat.le_refl _) _) hg1 (Nat.le_refl _); have HX1 := Lib.hid hB1; clear hB1 hg1 hs1) | (with_reducible refine load_bk rfl 29 _ rfl wr.heap.size 0 rfl 29 j.arr j.arr _ HX1.out (Part.whole _) Try.underlying29 rfl (by kernel_rfl) ?_))
      refine (K1.out _).mono ?_; rintro e w2 ⟨rfl, hb2⟩
      have hb12 : Below wr.heap.size wr w2 := bl1.trans (hb2.mono bl1.size)
      have hB2 : Below w.heap.size w w2 := hb.trans (hb12.mono hb.size)
      have HO2 := Lib.hid (HO7.out.below hb12); have HBx := Lib.hid (HX.out.later hb12)
      have lt2 : w.heap.size < w2.heap.size := HBx.out.here
      cases R
      · have HS : Hid (waitK l (k + 1) = E) := by show _ = _; rw [HST.out]; simp
        go_wp2_with fail
        go_round
        case rel => exact ⟨k + 1, by omega, by go_num, (by show OwnK _ _ _ _ _ _; rw [HS.out]; exact HO2.out), (show _ → _ from fun e => absurd e (by omega)), HBx, hB2⟩
        case measure => simp [intOf]; omega
      · have HS : Hid (waitK l (k + 1) = E ++ [k]) := by show _ = _; rw [HST.out]; simp
        go_wp2_with (first | ((with_reducible refine append_k _ rfl (.tmp 15) (.tmp 17) 37 rfl (w.heap.size + 1) 3 _ 1 8 Try.underlying37 infoI14 rfl (by omega) u3 (cellsI (ints E)) rfl (HO2.out.alloc _) ⟨w2.heap.size, 0, none⟩ 1 1 (cellsI [(k : Int)]) rfl (fresh_k w2 1 _ _ rfl) (cellsI_k _) (cellsI_one _) rfl (by simp [cellsI, ints, maxLen]; omega) (by simp [cellsI, ints]; omega) (by simp; omega) ?_); intro u7' w3 hO3 hg3; rw [← cellsI_append] at hO3; have HO3 := Lib.hid hO3; clear hO3; have HBx3 := Lib.hid ((HBx.out.later ((Below.refl _ _).alloc (Nat.le_refl _) _)).stays hg3 (fun e => by have := HO2.out.block _ e.symm; omega)); have hB3 : Below w.heap.size w w3 := (hB2.alloc hB2.size _).grown hg3 (by simp; omega) (fun g e => by have := HO2.out.block _ e; omega); clear hg3))
        go_round
        case rel => exact ⟨k + 1, by omega, by go_num, (by show OwnK _ _ _ _ _ _; rw [HS.out]; have h := HO3.out; simpa [ints] using h), (show _ → _ from fun e => absurd e (by omega)), HBx3, hB3⟩
        case measure => simp [intOf]; omega
    · have hk' : k = n := by omega
      subst hk'
      have h := HO.out
      obtain ⟨B, c, hv, hr', hc1, hc2, _⟩ := h.sl
      have hv' := hv
      rw [cellsI_length] at hv'
      obtain ⟨nf, hnf⟩ : ∃ nf, nf = (ints (waitK l k)).length := ⟨_, rfl⟩
      have hnf2 : nf = (waitK l l.length).length := by rw [hnf, hn.out]; simp [ints]
      have hnl : nf ≤ 1000000 := by rw [hnf2]; have := waitK_len l l.length; have := hn.out; omega
      rw [← hnf] at hv'
      rw [show waitK l k = waitK l l.length by rw [hn.out], ← vals14] at h
      rw [hv'] at h
      have k1 := StI.stable_own (val := val14 l) (cf := cf14 l) (cb := #[.pointer (some ⟨w.heap.size, 0, none⟩)]) (swo14 l) enter14 (l := waitK l l.length) (w := wr) (base := w.heap.size + 1) (v := .slice B nf c) rfl hnf2 h (by omega) (by omega) (fun b hbv W hgW x y => by
        have hn0 : 0 < k := by
          rcases Nat.eq_zero_or_pos k with h0 | h0
          · rw [← hv', HV.out h0] at hbv; cases hbv
          · exact h0
        have hgb := h.block b hbv
        have hbW : Below (w.heap.size + 1) wr W := (Below.refl _ _).grown hgW (by omega) (fun g e => by injection e with e; omega)
        have hk2 := hn.out
        exact closure14_any A k cap w.heap.size l (at14 l x) (at14 l y) W hn (by show min _ _ < _; omega) (by show min _ _ < _; omega) hl (Lib.hid (hA.out.later (hb.trans (hbW.mono (by omega))))) (Lib.hid ((hbW.cell (p := ⟨w.heap.size, 0, none⟩) (by show w.heap.size < _; omega)).trans (HX.out.cellAt 0))))
      have K1 := Lib.hid k1
      have HW : Hid (∀ W : List Nat, W.Perm (List.range (waitK l l.length).length) → W.Pairwise (Fore fun i y => ltOf (cf14 l) ((waitK l l.length).getD i default) ((waitK l l.length).getD y default)) → ((W.map fun i => (waitK l l.length).getD i default)).map (val14 l) = ints (srtU l)) := fun W h1 h2 => by
        rw [sorted14 h1 h2]
        unfold ints
        refine List.map_congr_left fun i hi => ?_
        have := (srtU_mem.1 hi).1
        show ((min i (l.length - 1) : Nat) : Int) = _
        rw [Nat.min_eq_left (by omega)]
      subst hv'
      clear k1 h hr' hc1 hc2 hv hnf hnf2 HO HV
      go_wp2_with fail
      refine K1.out.mono ?_; rintro e w2 ⟨rfl, W, hW1, hW2, hO2, hb2⟩
      rw [HW.out W hW1 hW2] at hO2
      have HO2 := Lib.hid hO2
      clear hW1 hW2 hO2
      go_wp2_with fail
      go_ret
      exact ⟨⟨_, rfl, OwnK.base HO2.out (by omega)⟩, hb.trans (hb2.mono (by omega))⟩
end Go.Proofs.Ytamlcjepkoagmaa
