/- The contract of the document's own sorted (layer 14). Condition: the slice reads as a list of jobs, of at most 1000000. -/
import Derived.Test.YtamlcjepkoagmaaIns
import Derived.Test.YtamlcjepkoagmaaAhd
import Derived.Test.YtamlcjepkoagmaaMod
import Derived.Test.YtamlcjepkoagmaaLat
import Derived.Deep.CutBlock
import Derived.Deep.DeepCutAuto
import Derived.Deep.RegionHeld3
namespace Go.Proofs.Ytamlcjepkoagmaa
open Go.RowKit
set_option linter.unusedSimpArgs false
set_option linter.unusedVariables false

/-- Does the job at this place wait? -/
def waitC (l : List Jb) (i : Nat) : Bool := decide ((jat l i).nd.size = 0)
/-- The places of jobs that wait, as they are tried. -/
def srt14 (l : List Jb) (k : Nat) : List Nat := wk (waitC l) (fun i y => tryB (jat l i) (jat l y)) k

/-- A call has returned these integers, in memory of its own. -/
def RetI14 (b : Nat) (w : World) (e : Ending) (l : List Int) : Prop := ∃ v, e = .returned v ∧ OwnK w b 3 1 v (cellsI l)

set_option maxHeartbeats 12800000 in
set_option maxRecDepth 100000 in
theorem rsorted14_any (A : Option Addr) (n cap : Nat) (l : List Jb) (w : World) (hn : Hid (n = l.length)) (hl : n ≤ 1000000) (hA : Hid (RdJ w A l)) :
    Calls Try.prog 17 #[.slice A n cap] w fun e w' => RetI14 w.heap.size w' e (ints (srt14 l n)) ∧ Below w.heap.size w w' := by
  go_enter Try.func17, Try.ntmps17
  have hB0 : Below w.heap.size w w := Below.refl _ _
  go_wp2_with fail
  go_loopw [3, 9] (fun vo i wr => ∃ k : Nat, k ≤ n ∧ i = .int .i64 k ∧ Hid (OwnK wr w.heap.size 3 1 vo (cellsI (ints (srt14 l k)))) ∧ Below w.heap.size w wr) (fun _ i wr => n - (intOf i).toNat)
  case atStart => exact ⟨0, Nat.zero_le _, rfl, (show OwnK _ _ _ _ _ (cellsI (ints (srt14 l 0))) from OwnK.nil _ _ _ _), hB0⟩
  case round =>
    clear hB0
    obtain ⟨k, hk, rfl, HO, hb⟩ := hrel
    by_cases hlt : k < n
    · have hlk : k < l.length := by have := hn.out; omega
      obtain ⟨E, hE⟩ : ∃ E, E = srt14 l k := ⟨_, rfl⟩
      have h7 := HO.out
      rw [← hE] at h7
      have hEl : E.length ≤ k := by rw [hE]; exact wk_len k
      have hElt : ∀ y ∈ E, y < l.length := fun y hy => by rw [hE] at hy; have := wk_lt k y hy; omega
      obtain ⟨Ao, co, hv, hro, hco, hco'⟩ := h7.rdi
      rw [show (ints E).length = E.length by simp [ints]] at hv hco
      obtain ⟨q, hq⟩ : ∃ q, q = E.length := ⟨_, rfl⟩
      rw [← hq] at hv hco
      subst hv
      have HO7 := Lib.hid h7; have HR := Lib.hid hro; have HE := Lib.hid hE; have HElt := Lib.hid hElt
      have hqk : q ≤ k := by omega
      have HQ := Lib.hid hq
      clear HO h7 hro hE hElt hq
      have hJ := hA.out.later hb
      obtain ⟨g, o, hAg, hg, hj⟩ := hJ.at hlk
      subst hAg
      obtain ⟨j, hjk⟩ : ∃ j, j = l[k] := ⟨_, rfl⟩
      rw [← hjk] at hj
      have HJ := Lib.hid hj; clear hj hJ
      have hjj : jat l k = j := by rw [hjk]; exact jat_at hlk
      have HJJ := Lib.hid hjj
      have c11 : wr.cell? ⟨g, o + k * 13 + 11, none⟩ = some (.string j.nd) := HJ.out.nd
      by_cases hp : j.nd.size = 0
      · have hnd : j.nd = ⟨#[]⟩ := empty_of hp
        have HCk : Hid (waitC l k = true) := by show _ = _; unfold waitC; rw [HJJ.out, decide_eq_true hp]
        have c11' : wr.cell? ⟨g, o + k * 13 + 11, none⟩ = some (.string ⟨#[]⟩) := hnd ▸ c11
        have HJK := Lib.hid hjk; have HND := Lib.hid hnd; clear hjk hjj hnd hp c11
        obtain ⟨wo, hwo⟩ : ∃ wo, wo = wr := ⟨_, rfl⟩; subst hwo

        have hbV : Below w.heap.size w wo := hb
        have HRv := Lib.hid (show RdI wo Ao (ints E) from HR.out)
        have HJv := Lib.hid (show JAt wo g (o + k * 13) j from HJ.out)
        have HA2 := Lib.hid (hA.out.later hbV)
        go_upto_block 2 with fail
        go_cut [5] (fun sv wx => ∃ a : Nat, sv = .int .i64 a ∧ a ≤ q ∧ Hid (insB ((fun i y => tryB (jat l i) (jat l y)) k) k E = E.take a ++ k :: E.drop a) ∧ Below wo.heap.size wo wx)
        case first =>
          go_wp2_with fail
          go_loopw [5] (fun i wi => ∃ a : Nat, a ≤ q ∧ i = .int .i64 a ∧ Hid ((E.drop a).all ((fun i y => tryB (jat l i) (jat l y)) k) = true) ∧ Below wo.heap.size wo wi) (fun i wi => (intOf i).toNat)
          case atStart => exact ⟨q, Nat.le_refl _, rfl, (show _ = _ by rw [HQ.out, List.drop_length]; rfl), Below.refl _ _⟩
          case round =>
            obtain ⟨a, ha, rfl, HB, hbi⟩ := hrel
            by_cases ha0 : a = 0
            · subst ha0
              go_wp2_with fail
              refine wp_region_later (by kernel_rfl) (by kernel_rfl) ?_; have hL : ∀ (w : World) (x : Later w) (b o : Nat), b < w.heap.size → x.to.cell? ⟨b, o, none⟩ = w.cell? ⟨b, o, none⟩ := fun w x b o hb => x.cell hb; have hN := Later.some; (repeat (go_big_quiet_step (((fail))))); refine wpQuiet_nil ?_; intro w3 hw3; have hb3 := Later.out hw3; clear hw3 hL hN
              go_wp2_with fail
              go_meet
              exact ⟨0, rfl, Nat.zero_le _, place_back HB.out (.inl rfl) (Nat.zero_le _), hbi.trans (hb3.mono hbi.size)⟩
            · obtain ⟨d, hd⟩ : ∃ d, a = d + 1 := ⟨a - 1, by omega⟩
              subst hd
              have hdE : d < E.length := by have := HQ.out; omega
              obtain ⟨g7, o7, hA7, hg7, c7⟩ := ((HRv.out.later hbi).at (i := d) (by simpa [ints] using hdE))
              obtain ⟨y, hy⟩ : ∃ y, y = E[d] := ⟨_, rfl⟩
              rw [show (ints E)[d]'(by simpa [ints] using hdE) = (y : Int) by rw [hy]; simp [ints]] at c7
              have hyl : y < l.length := by rw [hy]; exact HElt.out _ (List.getElem_mem hdE)
              have hyn : y < n := by have := hn.out; omega
              subst hA7
              obtain ⟨g2, o2, hA2, hg2, hj2⟩ := (HA2.out.later hbi).at hyl
              injection hA2 with hA2; injection hA2 with e1 e2; subst e1 e2
              obtain ⟨j2, hj2k⟩ : ∃ j2, j2 = l[y] := ⟨_, rfl⟩
              rw [← hj2k] at hj2
              have HJ2 := Lib.hid hj2; clear hj2
              have HJ1 := Lib.hid (HJv.out.later hbi)
              obtain ⟨R, hR⟩ : ∃ R, tryB j j2 = R := ⟨_, rfl⟩
              have hRd : tryB (jat l k) (jat l E[d]) = R := by rw [HJJ.out, ← hy, jat_at hyl, ← hj2k]; exact hR
              have ks := fun W => rahead14_any j j2 W
              rw [hR] at ks
              have KS := Lib.hid ks; have HRd := Lib.hid hRd
              have zg7 : g7 < wr.heap.size := hg7
              have wrap1 : wrap64 (((d + 1 : Nat) : Int) - 1) = (d : Int) := by unfold wrap64; omega
              have wrapI : IntKind.i64.wrap (((d + 1 : Nat) : Int) - 1) = (d : Int) := by rw [IntKind.wrap_i64]; omega
              have wrapJ : IntKind.i64.wrap (((d : Int) + 1) - 1) = (d : Int) := by rw [IntKind.wrap_i64]; omega
              have wrapK : IntKind.i64.wrap (d : Int) = (d : Int) := by rw [IntKind.wrap_i64]; omega
              have hdq : d < q := by omega
              have hda : 0 < d + 1 := by omega
              clear ks hRd hR hy hj2k
              go_wp2_with fail
              refine wp_region_held_drew (S := fun W => Below wr.heap.size wr W) (by kernel_rfl) (Below.drew (Below.refl _ _)) (fun hS0 => ?_)
              refine wpAnyH_take (i := 0) (v := ?_) rfl (by kernel_rfl) (by kernel_rfl) (by kernel_rfl) (fun _ _ _ h => h) (Or.inl ⟨by rfl, ?_⟩) hS0 ?_
              rotate_left
              · intro W _; go_simp; try with_reducible rfl
              try simp only [Act.put, List.getElem_toArray, List.getElem_cons_zero, List.setIfInBounds_toArray, List.set_cons_zero, List.set_cons_succ]
              refine wpAnyH_take (i := 1) (v := ?_) rfl (by kernel_rfl) (by kernel_rfl) (by kernel_rfl) (fun _ _ _ h => h) (Or.inl ⟨by rfl, ?_⟩) hS0 ?_
              rotate_left
              · intro W _; go_simp; try with_reducible rfl
              try simp only [Act.put, List.getElem_toArray, List.getElem_cons_zero, List.getElem_cons_succ, List.setIfInBounds_toArray, List.set_cons_zero, List.set_cons_succ]
              refine wpAnyH_take (i := 2) (v := ?_) rfl (by kernel_rfl) (by kernel_rfl) (by kernel_rfl) (fun _ _ _ h => h) (Or.inl ⟨by rfl, ?_⟩) hS0 ?_
              rotate_left
              · intro W _; go_simp; try with_reducible rfl
              try simp only [Act.put, List.getElem_toArray, List.getElem_cons_zero, List.getElem_cons_succ, List.setIfInBounds_toArray, List.set_cons_zero, List.set_cons_succ]
              refine wpAnyH_take (i := 3) (v := ?_) rfl (by kernel_rfl) (by kernel_rfl) (by kernel_rfl) (fun _ _ _ h => h) (Or.inl ⟨by rfl, ?_⟩) hS0 ?_
              rotate_left
              · intro W _; go_simp; try with_reducible rfl
              try simp only [Act.put, List.getElem_toArray, List.getElem_cons_zero, List.getElem_cons_succ, List.setIfInBounds_toArray, List.set_cons_zero, List.set_cons_succ]
              refine wpAnyH_take (i := 4) (v := ?_) rfl (by kernel_rfl) (by kernel_rfl) (by kernel_rfl) (fun _ _ _ h => h) (Or.inl ⟨by rfl, ?_⟩) hS0 ?_
              rotate_left
              · intro W _; go_simp; try with_reducible rfl
              try simp only [Act.put, List.getElem_toArray, List.getElem_cons_zero, List.getElem_cons_succ, List.setIfInBounds_toArray, List.set_cons_zero, List.set_cons_succ]
              refine wpAnyH_take (i := 5) (v := ?_) rfl (by kernel_rfl) (by kernel_rfl) (by kernel_rfl) (fun _ _ _ h => h) (Or.inl ⟨by rfl, ?_⟩) hS0 ?_
              rotate_left
              · intro W _; go_simp; try with_reducible rfl
              try simp only [Act.put, List.getElem_toArray, List.getElem_cons_zero, List.getElem_cons_succ, List.setIfInBounds_toArray, List.set_cons_zero, List.set_cons_succ]
              refine wpAnyH_take (i := 6) (v := .agg j.arr) rfl (by kernel_rfl) (by kernel_rfl) (by kernel_rfl) (fun _ _ _ h => h) (yields_rg rfl 29 _ rfl g (o + k * 13) rfl j.arr _ (fun W hW => (HJ1.out.later hW).rg) Try.underlying29 rfl (by kernel_rfl)) hS0 ?_
              try simp only [Act.put, List.getElem_toArray, List.getElem_cons_zero, List.getElem_cons_succ, List.setIfInBounds_toArray, List.set_cons_zero, List.set_cons_succ]
              refine wpAnyH_take (i := 7) (v := ?_) rfl (by kernel_rfl) (by kernel_rfl) (by kernel_rfl) (fun _ _ _ h => h) (Or.inl ⟨by rfl, ?_⟩) hS0 ?_
              rotate_left
              · intro W _; go_simp; try with_reducible rfl
              try simp only [Act.put, List.getElem_toArray, List.getElem_cons_zero, List.getElem_cons_succ, List.setIfInBounds_toArray, List.set_cons_zero, List.set_cons_succ]
              refine wpAnyH_take (i := 8) (v := ?_) rfl (by kernel_rfl) (by kernel_rfl) (by kernel_rfl) (fun _ _ _ h => h) (Or.inl ⟨by rfl, ?_⟩) hS0 ?_
              rotate_left
              · intro W _; go_simp; try with_reducible rfl
              try simp only [Act.put, List.getElem_toArray, List.getElem_cons_zero, List.getElem_cons_succ, List.setIfInBounds_toArray, List.set_cons_zero, List.set_cons_succ]
              refine wpAnyH_take (i := 9) (v := ?_) rfl (by kernel_rfl) (by kernel_rfl) (by kernel_rfl) (fun _ _ _ h => h) (Or.inl ⟨by rfl, ?_⟩) hS0 ?_
              rotate_left
              · intro W _; go_simp; try with_reducible rfl
              try simp only [Act.put, List.getElem_toArray, List.getElem_cons_zero, List.getElem_cons_succ, List.setIfInBounds_toArray, List.set_cons_zero, List.set_cons_succ]
              refine wpAnyH_take (i := 10) (v := ?_) rfl (by kernel_rfl) (by kernel_rfl) (by kernel_rfl) (fun _ _ _ h => h) (Or.inl ⟨by rfl, ?_⟩) hS0 ?_
              rotate_left
              · intro W _; go_simp; try with_reducible rfl
              try simp only [Act.put, List.getElem_toArray, List.getElem_cons_zero, List.getElem_cons_succ, List.setIfInBounds_toArray, List.set_cons_zero, List.set_cons_succ]
              try simp only [wrapI, wrapJ, wrapK]
              refine wpAnyH_take (i := 11) (v := ?_) rfl (by kernel_rfl) (by kernel_rfl) (by kernel_rfl) (fun _ _ _ h => h) (Or.inl ⟨by rfl, ?_⟩) hS0 ?_
              rotate_left
              · intro W _; go_simp; try with_reducible rfl
              try simp only [Act.put, List.getElem_toArray, List.getElem_cons_zero, List.getElem_cons_succ, List.setIfInBounds_toArray, List.set_cons_zero, List.set_cons_succ]
              refine wpAnyH_take (i := 12) (v := ?_) rfl (by kernel_rfl) (by kernel_rfl) (by kernel_rfl) (fun _ _ _ h => h) (Or.inl ⟨by rfl, ?_⟩) hS0 ?_
              rotate_left
              · intro W hSW; have hx : ∀ b o, b < wr.heap.size → W.cell? ⟨b, o, none⟩ = wr.cell? ⟨b, o, none⟩ := fun b o h => hSW.cell (p := ⟨b, o, none⟩) h; go_simp; try with_reducible rfl
              try simp only [Act.put, List.getElem_toArray, List.getElem_cons_zero, List.getElem_cons_succ, List.setIfInBounds_toArray, List.set_cons_zero, List.set_cons_succ]
              refine wpAnyH_take (i := 13) (v := ?_) rfl (by kernel_rfl) (by kernel_rfl) (by kernel_rfl) (fun _ _ _ h => h) (Or.inl ⟨by rfl, ?_⟩) hS0 ?_
              rotate_left
              · intro W _; go_simp; try with_reducible rfl
              try simp only [Act.put, List.getElem_toArray, List.getElem_cons_zero, List.getElem_cons_succ, List.setIfInBounds_toArray, List.set_cons_zero, List.set_cons_succ]
              refine wpAnyH_take (i := 14) (v := .agg j2.arr) rfl (by kernel_rfl) (by kernel_rfl) (by kernel_rfl) (fun _ _ _ h => h) (yields_rg rfl 29 _ rfl g (o + y * 13) rfl j2.arr _ (fun W hW => (HJ2.out.later hW).rg) Try.underlying29 rfl (by kernel_rfl)) hS0 ?_
              try simp only [Act.put, List.getElem_toArray, List.getElem_cons_zero, List.getElem_cons_succ, List.setIfInBounds_toArray, List.set_cons_zero, List.set_cons_succ]
              refine wpAnyH_ready (rs := [15]) (by kernel_rfl) (by simp) ?_
              refine AllReadyH.cons rfl (fun K hK => ?_) AllReadyH.nil
              go_simp
              refine (KS.out _).mono ?_
              rintro v w4 ⟨rfl, hbl⟩
              go_simp
              refine hK.out _ _ (hS0.trans (hbl.mono hS0.size)) (fun hS1 => ?_)
              clear hK K
              try simp only [Act.put, List.getElem_toArray, List.getElem_cons_zero, List.getElem_cons_succ, List.setIfInBounds_toArray, List.set_cons_zero, List.set_cons_succ]
              refine wpAnyH_take (i := 16) (v := ?_) rfl (by kernel_rfl) (by kernel_rfl) (by kernel_rfl) (fun _ _ _ h => h) (Or.inl ⟨by rfl, ?_⟩) hS1 ?_
              rotate_left
              · intro W _; go_simp; try with_reducible rfl
              try simp only [Act.put, List.getElem_toArray, List.getElem_cons_zero, List.getElem_cons_succ, List.setIfInBounds_toArray, List.set_cons_zero, List.set_cons_succ]
              refine wpAnyH_done (by kernel_rfl) ?_ _
              have hbi2 : Below wo.heap.size wo w4 := hbi.trans (hS1.mono hbi.size)
              cases R
              · go_wp2_with fail
                go_meet
                exact ⟨d + 1, rfl, ha, place_back HB.out (.inr ⟨by rw [Nat.add_sub_cancel]; exact hdE, HRd.out⟩) (by rw [← HQ.out]; exact ha), hbi2⟩
              · have HB2 : Hid ((E.drop d).all ((fun i y => tryB (jat l i) (jat l y)) k) = true) := by
                  show _ = _
                  rw [List.drop_eq_getElem_cons hdE, List.all_cons, HB.out, Bool.and_true]
                  exact HRd.out
                go_wp2_with fail
                go_round
                case rel => exact ⟨d, by omega, by go_num, HB2, hbi2⟩
                case measure => simp [intOf]
        case rest =>
          obtain ⟨a, rfl, ha, HI, hbc⟩ := hcut
          have HE2 : Hid (srt14 l (k + 1) = E.take a ++ k :: E.drop a) := by
            show _ = _
            rw [← HI.out, HE.out]
            exact wk_yes HCk.out
          clear HI
          have hBc : Below w.heap.size w wc := hbV.trans (hbc.mono hbV.size)

          have hrd := HRv.out.later hbc
          have hac : a ≤ co := by omega
          have hEq : E.length = q := HQ.out.symm
          have HRt := Lib.hid (show RdK wc 1 Ao (cellsI ((ints E).take a)) from hrd.take a)
          have HRd2 := Lib.hid (show RdK wc 1 (if co = a then Ao else Option.map (fun x => x.add a) Ao) (cellsI ((ints E).drop a)) from hrd.drop (j := a) (cap := co) (by simp [ints]; omega))
          have HMa : Hid (a = (cellsI ((ints E).take a)).length) := by show _ = _; rw [cellsI_length, List.length_take]; simp [ints]; omega
          have HMd : Hid (q - a = (cellsI ((ints E).drop a)).length) := by show _ = _; rw [cellsI_length, List.length_drop]; simp [ints]; omega
          have zc : w.heap.size ≤ wc.heap.size := hBc.size
          clear hrd
          go_wp2_with (first | ((with_reducible refine append_kn _ rfl (.tmp 39) (.tmp 42) 37 rfl wc.heap.size 3 _ 1 8 Try.underlying37 infoI rfl (by omega) (.slice none 0 0) [] rfl (OwnK.nil _ _ _ _) _ _ _ (cellsI ((ints E).take a)) rfl HRt.out (cellsI_k _) (cellsI_one _) HMa.out (by simp [cellsI, ints, maxLen]; omega) (by simp [cellsI, ints, maxLen]; omega) (Nat.le_refl _) ?_); intro u1 x1 hV1 hg1; have HV1 := Lib.hid (show OwnK _ _ _ _ _ (cellsI ((ints E).take a)) from hV1); clear hV1; have bl1 : Below wc.heap.size wc x1 := grown_base hg1 (Nat.le_refl _) (by intro kk ee; cases ee); clear hg1) | ((with_reducible refine append_k _ rfl (.tmp 44) (.tmp 46) 37 rfl wc.heap.size 3 _ 1 8 Try.underlying37 infoI rfl (by omega) u1 (cellsI ((ints E).take a)) rfl (HV1.out.alloc _) ⟨x1.heap.size, 0, none⟩ 1 1 (cellsI [(k : Int)]) rfl (fresh_k x1 1 _ _ rfl) (cellsI_k _) (cellsI_one _) rfl (by simp [cellsI, ints, maxLen]; omega) (by simp [cellsI, ints, maxLen]; omega) (by have := bl1.size; simp; omega) ?_); intro u2 x2 hV2 hg2; rw [← cellsI_append] at hV2; have HV2 := Lib.hid hV2; clear hV2; have bl2 : Below wc.heap.size wc x2 := (bl1.alloc bl1.size _).grown hg2 (by have := bl1.size; simp; omega) (fun g e => HV1.out.block g e); clear hg2) | ((with_reducible refine append_kn _ rfl (.tmp 48) (.tmp 51) 37 rfl wc.heap.size 3 _ 1 8 Try.underlying37 infoI rfl (by omega) u2 (cellsI ((ints E).take a ++ [(k : Int)])) rfl HV2.out _ _ _ (cellsI ((ints E).drop a)) rfl (RdK.later HRd2.out bl2) (cellsI_k _) (cellsI_one _) HMd.out (by simp [cellsI, ints, maxLen]; omega) (by simp [cellsI, ints, maxLen]; omega) bl2.size ?_); intro u3 x3 hV3 hg3; rw [← cellsI_append] at hV3; have HV3 := Lib.hid hV3; clear hV3; have bl3 : Below wc.heap.size wc x3 := bl2.trans (grown_base hg3 bl2.size HV2.out.block); clear hg3))
          have hzb : w.heap.size ≤ wc.heap.size := zc
          go_round
          case rel => exact ⟨k + 1, by omega, by go_num, (by show OwnK _ _ _ _ _ _; rw [HE2.out]; have h := HV3.out.base hzb; simpa [ints] using h), hBc.trans (bl3.mono hBc.size)⟩
          case measure => simp [intOf]; omega
      · obtain ⟨hf1, hf2⟩ := full_of hp
        have HE2 : Hid (srt14 l (k + 1) = E) := by
          show _ = _
          rw [HE.out]
          exact wk_no (by unfold waitC; rw [HJJ.out, decide_eq_false hp])
        have HJK := Lib.hid hjk; clear hjk hjj hp
        go_wp2_with fail
        go_round
        case rel => exact ⟨k + 1, by omega, by go_num, (by show OwnK _ _ _ _ _ _; rw [HE2.out]; exact HO7.out), hb⟩
        case measure => simp [intOf]; omega
    · have hk' : k = n := by omega
      subst hk'
      have H7 := Lib.hid (HO.out.base (b' := w.heap.size) (by omega))
      go_wp2_with fail
      go_ret
      exact ⟨⟨_, rfl, H7.out⟩, hb⟩
end Go.Proofs.Ytamlcjepkoagmaa
