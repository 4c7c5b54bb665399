/- slices.DeleteFunc; Remove. Condition: at most 900 entries. -/
import Derived.Test.YtkadcaihihgceaaHp8
namespace Go.Proofs.Ytkadcaihihgceaa
open Go.RowKit
set_option linter.unusedSimpArgs false
set_option linter.unusedVariables false
theorem filt_none {f : Int → Bool} {l : List (Px × Int)} (h : ∀ x ∈ l, f x.2 = false) : l.filter (fun x => !f x.2) = l := List.filter_eq_self.2 fun x hx => by simp [h x hx]
/-- While entries go out of a row: i of them are kept, j have been asked. -/
structure DfR (w wr : World) (base g n c : Nat) (f : Int → Bool) (l : List (Px × Int)) (i j : Nat) (L : List (Px × Int)) : Prop where
  ow : OwnK wr base 62 3 (.slice (some ⟨g, 0, none⟩) n c) (L.map eP)
  ln : L.length = l.length
  tk : L.take i = (l.take j).filter (fun x => !f x.2)
  dr : L.drop j = l.drop j
  gr : GrP (fun q => q = g) w wr
set_option maxHeartbeats 6400000 in
set_option maxRecDepth 100000 in
theorem dfn_any (base g n c g5 : Nat) (l : List (Px × Int)) (f : Int → Bool) (w : World) (hbig : n ≤ 1000) (hO : Hid (OwnK w base 62 3 (.slice (some ⟨g, 0, none⟩) n c) (l.map eP)))
    (hK : Hid (∀ W, GrP (fun q => q = g) w W → ∀ x : Px × Int, Calls Try.prog 36 #[.agg (arrE x), .pointer (some ⟨g5, 0, none⟩)] W fun e w' => e = .returned (.bool (f x.2)) ∧ Below W.heap.size W w')) :
    Calls Try.prog 35 #[.slice (some ⟨g, 0, none⟩) n c, .func (.func 36) #[] #[.pointer (some ⟨g5, 0, none⟩)]] w fun e w' => ∃ i, e = .returned (.slice (some ⟨g, 0, none⟩) i c) ∧ OwnK w' base 62 3 (.slice (some ⟨g, 0, none⟩) i c) ((l.filter fun x => !f x.2).map eP) ∧ GrP (fun q => q = g) w w' := by
  have hn : n = l.length := by
    obtain ⟨A', c', hv, _⟩ := hO.out.sl
    injection hv with _ e; rw [e, List.length_map]
  have hcap : n ≤ c := by
    obtain ⟨A', c', hv, _, h1, _⟩ := hO.out.sl
    injection hv with _ e1 e2
    rw [List.length_map] at h1; omega
  have hRD : Hid (RdK w 3 (some ⟨g, 0, none⟩) (l.map eP)) := by
    obtain ⟨A', c', hv, hr, _⟩ := hO.out.sl
    injection hv with e; rw [e]; exact hr
  have HN := Lib.hid hn
  have KI := idx_any g n c g5 l f w HN hbig hRD (Lib.hid (fun W hb x => hK.out W (GrP.ofBelow hb) x))
  clear hn hRD
  go_enter Try.func35, Try.ntmps35
  go_wp2_with fail
  refine KI.mono ?_; rintro e w1 ⟨i0, rfl, hI, hb1⟩
  clear KI
  rcases hI with ⟨rfl, hall⟩ | ⟨k, rfl, hkl, hfk, htk⟩
  · have HALL := Lib.hid hall
    clear hall
    go_wp2_with fail
    go_ret
    exact ⟨n, rfl, by rw [filt_none HALL.out]; exact hO.out.below hb1, GrP.ofBelow hb1⟩
  · have hkn : k < n := by rw [HN.out]; exact hkl
    have HTK : Hid (l.take k = (l.take (k + 1)).filter (fun x => !f x.2)) := by
      show _ = _
      rw [List.take_succ_eq_append_getElem hkl, List.filter_append, filt_none htk]
      simp [hfk]
    have HR0 : Hid (DfR w w1 base g n c f l k (k + 1) l) := ⟨hO.out.below hb1, rfl, HTK.out, rfl, GrP.ofBelow hb1⟩
    have hne : ((k : Int) == -1) = false := by simp <;> omega
    have hw : wrap64 ((k : Int) + 1) = ((k + 1 : Nat) : Int) := by unfold wrap64; omega
    clear hkl hfk htk hb1 HTK
    go_wp2_with fail
    go_loopw [5, 6] (fun s5 s6 wr => ∃ (i j : Nat) (L : List (Px × Int)), i < j ∧ j ≤ n ∧ s5 = .int .i64 i ∧ s6 = .int .i64 j ∧ Hid (DfR w wr base g n c f l i j L)) (fun s5 s6 wr => n - (intOf s6).toNat)
    case atStart => exact ⟨k, k + 1, l, by omega, by omega, rfl, by go_num, HR0⟩
    case round =>
      clear HR0 hne hw hkn
      obtain ⟨i, j, L, hij, hjn, rfl, rfl, HR⟩ := hrel
      by_cases hj : j < n
      · have hjL : Hid (j < L.length) := by show j < L.length; rw [HR.out.ln, ← HN.out]; exact hj
        have hjl : Hid (j < l.length) := by show j < l.length; rw [← HN.out]; exact hj
        obtain ⟨x, ex⟩ : ∃ x, x = L[j]'hjL.out := ⟨_, rfl⟩
        have hxl : x = l[j]'hjl.out := by
          have h1 := HR.out.dr
          rw [List.drop_eq_getElem_cons hjL.out, List.drop_eq_getElem_cons hjl.out] at h1
          rw [ex]; exact (List.cons.inj h1).1
        have hrg : wr.rangeAt g (j * 3) (arrE x).toList := by
          have := HR.out.ow.range (p := j) (by rw [List.length_map]; exact hjL.out)
          rw [List.getElem_map, ← ex] at this
          exact this
        have HX := Lib.hid hrg; have EX := Lib.hid ex; have EXL := Lib.hid hxl
        have hwj : wrap64 ((j : Int) + 1) = ((j + 1 : Nat) : Int) := by unfold wrap64; omega
        have hwi : wrap64 ((i : Int) + 1) = ((i + 1 : Nat) : Int) := by unfold wrap64; omega
        have hin : i < n := by omega
        have hba : Below wr.heap.size wr (wr.alloc (.cells (arrE x) 62)) := (Below.refl _ _).alloc (Nat.le_refl _) _
        have HFR : Hid (Bk (wr.alloc (.cells (arrE x) 62)) wr.heap.size 62 (arrE x)) := Bk.fresh _ _ _
        have hglt : g < wr.heap.size := HR.out.ow.lt rfl
        have HGL := Lib.hid hglt
        have HA := hK.out (wr.alloc (.cells (arrE x) 62)) (HR.out.gr.trans (GrP.ofBelow hba)) x
        have HBA := Lib.hid hba
        have HTJ : Hid (l.take (j + 1) = l.take j ++ [x]) := by show _ = _; rw [List.take_succ_eq_append_getElem hjl.out, EXL.out]
        clear ex hxl hrg hba
        cases hf : f x.2 with
        | true =>
          rw [hf] at HA
          have HFX := Lib.hid hf
          clear hf
          go_wp2_with (first | (with_reducible refine load_rg rfl 62 _ rfl g (j * 3) rfl (arrE x) _ HX.out Try.underlying62 rfl (by kernel_rfl) ?_) | (with_reducible refine load_bk rfl 62 _ rfl wr.heap.size 0 rfl 62 (arrE x) (arrE x) _ HFR.out (Part.whole _) Try.underlying62 rfl (by kernel_rfl) ?_))
          refine HA.mono ?_; rintro e w2 ⟨rfl, hb2⟩
          have hbb : Below wr.heap.size wr w2 := HBA.out.trans (hb2.mono HBA.out.size)
          have HR2 : Hid (DfR w w2 base g n c f l i (j + 1) L) := ⟨HR.out.ow.below hbb, HR.out.ln, by rw [HR.out.tk, HTJ.out, List.filter_append]; simp [HFX.out], by rw [← List.drop_drop, HR.out.dr, List.drop_drop], HR.out.gr.trans (GrP.ofBelow hbb)⟩
          clear hbb hb2 HA HBA HR HFR HX
          go_wp2_with fail
          go_round
          case rel => exact ⟨i, j + 1, L, by omega, by omega, rfl, by go_num, HR2⟩
          case measure => simp [intOf]; omega
        | false =>
          rw [hf] at HA
          have HFX := Lib.hid hf
          clear hf
          go_wp2_with (first | (with_reducible refine load_rg rfl 62 _ rfl g (j * 3) rfl (arrE x) _ HX.out Try.underlying62 rfl (by kernel_rfl) ?_) | (with_reducible refine load_bk rfl 62 _ rfl wr.heap.size 0 rfl 62 (arrE x) (arrE x) _ HFR.out (Part.whole _) Try.underlying62 rfl (by kernel_rfl) ?_))
          refine HA.mono ?_; rintro e w2 ⟨rfl, hb2⟩
          have hbb : Below wr.heap.size wr w2 := HBA.out.trans (hb2.mono HBA.out.size)
          have HF2 : Hid (Bk w2 wr.heap.size 62 (arrE x)) := HFR.out.later hb2
          have HO2 : Hid (OwnK w2 base 62 3 (.slice (some ⟨g, 0, none⟩) n c) (L.map eP)) := HR.out.ow.below hbb
          have HG2 : Hid (GrP (fun q => q = g) w w2) := HR.out.gr.trans (GrP.ofBelow hbb)
          have HLN := Lib.hid HR.out.ln; have HTKL := Lib.hid HR.out.tk; have HDR := Lib.hid HR.out.dr
          have hiL : i < (L.map eP).length := by rw [List.length_map, HR.out.ln, ← HN.out]; exact hin
          have HIL := Lib.hid hiL
          clear hbb hb2 HA HBA HR HFR HX hiL
          go_wp2_with (first | (with_reducible refine load_bk rfl 62 _ rfl wr.heap.size 0 rfl 62 (arrE x) (arrE x) _ HF2.out (Part.whole _) Try.underlying62 rfl (by kernel_rfl) ?_) | ((with_reducible refine store_elem (k := 3) rfl 62 (.tmp 33) (.tmp 32) rfl (i * 3) (arrE x) rfl rfl HO2.out i rfl HIL.out rfl (by kernel_rfl) (by kernel_rfl) ?_); intro w3 hO3 hg3 hs3; have HO3 := Lib.hid hO3; have HG3 := Lib.hid hg3; clear hO3 hg3 hs3))
          have HR3 : Hid (DfR w w3 base g n c f l (i + 1) (j + 1) (L.set i x)) := by
            have hi2 : i < L.length := by have := HIL.out; rwa [List.length_map] at this
            refine ⟨by rw [List.map_set]; exact HO3.out, by rw [List.length_set]; exact HLN.out, ?_, ?_, HG2.out.trans ((GrP.of HG3.out).wide fun q _ e => (Option.some.inj e).symm)⟩
            · rw [List.take_succ_eq_append_getElem (by rw [List.length_set]; exact hi2), List.getElem_set_self, List.take_set, List.set_eq_of_length_le (by rw [List.length_take]; omega), HTKL.out, HTJ.out, List.filter_append]
              simp [HFX.out]
            · rw [List.drop_set, if_pos (by omega), ← List.drop_drop, HDR.out, List.drop_drop]
          clear HO3 HG3 HO2 HG2 HF2 HLN HTKL HDR HIL
          go_wp2_with fail
          go_round
          case rel => exact ⟨i + 1, j + 1, _, by omega, by omega, by go_num, by go_num, HR3⟩
          case measure => simp [intOf]; omega
      · have hjE : j = n := by omega
        subst hjE
        clear hj hjn
        obtain ⟨S, hR, hS, hnn, hm, hb⟩ := HR.out.ow.whole
        clear hnn
        rw [List.length_map, HR.out.ln, ← HN.out] at hS
        obtain ⟨m, hm1⟩ : ∃ m, j - i = m + 1 := ⟨j - i - 1, by omega⟩
        have HRK := Lib.hid hR; have HM := Lib.hid hm; have HBG := Lib.hid hb; have HS := Lib.hid hS
        have HLL : Hid ((L.map eP ++ S).length = c) := by show _ = _; rw [List.length_append, List.length_map, HR.out.ln, ← HN.out]; exact hS
        have HFIT : Hid (i + (m + 1) ≤ (L.map eP ++ S).length) := by show _ ≤ _; rw [HLL.out]; omega
        have hic : i ≤ c := by omega
        have hij2 : i ≤ j := by omega
        have hnc : ¬ (c = i) := by omega
        have HM1 := Lib.hid hm1
        clear hR hm hb hS hm1
        go_wp2_with ((with_reducible refine clear_k _ rfl (.tmp 38) 58 rfl 62 _ 3 24 Try.underlying58 infoEP rfl (by omega) oneZP g i (i * 3) _ m rfl _ HRK.out _ rfl HM1.out HFIT.out ?_); intro w4 L4 hr4 hl4 ht4 hg4 hs4)
        go_ret
        have q := hr4.own (n := i) (c := c) HBG.out (hl4.trans HLL.out) HM.out (by omega)
        rw [ht4, List.take_append_of_le_length (by rw [List.length_map, HR.out.ln, ← HN.out]; omega), ← List.map_take, HR.out.tk, List.take_of_length_le (by rw [← HN.out]; exact Nat.le_refl _)] at q
        exact ⟨i, rfl, q, HR.out.gr.trans ((GrP.of hg4).wide fun q _ e => (Option.some.inj e).symm)⟩
end Go.Proofs.Ytkadcaihihgceaa
