/- The walk of VictimFewest. No condition beyond the form's own. -/
import Derived.Test.YtpifleheammanaaVp
import Derived.Test.YtpifleheammanaaRtx
namespace Go.Proofs.Ytpifleheammanaa
open Go.RowKit
set_option linter.unusedSimpArgs false
set_option linter.unusedVariables false
namespace victimFewest

section
variable {L : List Ml} {t : Kt} {tl : List Lb} {l : List Jb} {oc : Option Ch}
/-- Has one of the first k machines a plan? Is one of them the chosen one? -/
def somK (L : List Ml) (t : Kt) (tl : List Lb) (l : List Jb) (k : Nat) : Bool := (List.range k).any fun i => (plansOf L t tl l i).isSome
def ownB (L : List Ml) (t : Kt) (tl : List Lb) (l : List Jb) (Ns : ByteArray) (Gs : List ByteArray) (i : Nat) : Bool := (plansOf L t tl l i).isSome && (sE (nmAt L i) Ns && sameS (namesAt l ((plansOf L t tl l i).getD [])) Gs)
def ownK (L : List Ml) (t : Kt) (tl : List Lb) (l : List Jb) (Ns : ByteArray) (Gs : List ByteArray) (k : Nat) : Bool := (List.range k).any (ownB L t tl l Ns Gs)
theorem somK_succ (k : Nat) : somK L t tl l (k + 1) = (somK L t tl l k || (plansOf L t tl l k).isSome) := by unfold somK; rw [List.range_succ, List.any_append]; simp
theorem ownK_succ (Ns : ByteArray) (Gs : List ByteArray) (k : Nat) : ownK L t tl l Ns Gs (k + 1) = (ownK L t tl l Ns Gs k || ownB L t tl l Ns Gs k) := by unfold ownK; rw [List.range_succ, List.any_append]; simp
theorem som_end (h : cho (plansOf L t tl l) l L L.length = oc) : somK L t tl l L.length = oc.isSome := by
  unfold somK
  cases oc with
  | none =>
    rw [Option.isSome_none, List.any_eq_false]
    intro i hi
    rw [cho_none h i (List.mem_range.1 hi)]; simp
  | some x =>
    obtain ⟨⟨G, h1, _, _, h4⟩, _⟩ := cho_is h
    rw [Option.isSome_some, List.any_eq_true]
    exact ⟨x.1, List.mem_range.2 h4, by rw [h1]; rfl⟩
theorem own_end (h : cho (plansOf L t tl l) l L L.length = oc) : ownK L t tl l (chN L oc) (chG L t tl l oc) L.length = oc.isSome := by
  unfold ownK
  cases oc with
  | none =>
    rw [Option.isSome_none, List.any_eq_false]
    intro i hi
    unfold ownB
    rw [cho_none h i (List.mem_range.1 hi)]; simp
  | some x =>
    obtain ⟨⟨G, h1, _, _, h4⟩, _⟩ := cho_is h
    rw [Option.isSome_some, List.any_eq_true]
    refine ⟨x.1, List.mem_range.2 h4, ?_⟩
    unfold ownB
    show ((plansOf L t tl l x.1).isSome && (sE (nmAt L x.1) (nmAt L x.1) && sameS (namesAt l ((plansOf L t tl l x.1).getD [])) (namesAt l ((plansOf L t tl l x.1).getD [])))) = true
    rw [h1, sE_refl]
    simp [sameS]
theorem not_less (h : cho (plansOf L t tl l) l L L.length = oc) {i : Nat} (hi : i < L.length) {G : List Nat} (hG : plansOf L t tl l i = some G) : ¬ G.length < (chG L t tl l oc).length := by
  cases oc with
  | none => rw [cho_none h i hi] at hG; cases hG
  | some x =>
    obtain ⟨b, m, tp⟩ := x
    obtain ⟨⟨G2, h1, h2, _, _⟩, hb⟩ := cho_is h
    have := betr_not.1 (hb i hi G hG)
    show ¬ G.length < (namesAt l ((plansOf L t tl l b).getD [])).length
    simp only at h1 h2
    rw [namesAt_len, h1]
    show ¬ G.length < G2.length
    omega
end

set_option maxHeartbeats 12800000 in
set_option maxRecDepth 100000 in
theorem walk (A0 : Option Addr) (N c0 : Nat) (L : List Ml) (A : Option Addr) (n cap : Nat) (l : List Jb) (t : Kt) (tl : List Lb) (w : World) (hN : N = L.length) (hL : RdM w A0 (mcs L)) (hc0 : N ≤ c0) (hc02 : c0 ≤ 9223372036854775807) (hLo : MsOk w L) (hn : n = l.length) (hA : RdJ w A l) (hc : n ≤ cap) (hc2 : cap ≤ 9223372036854775807) (ht : KtOk w t tl) :
    Calls Try.prog 5 #[.slice A0 N c0, .slice A n cap, .agg t.arr] w fun r w' => r = .returned (.bool true) ∧ Below w.heap.size w w' := by
  obtain ⟨FW, hFW⟩ : ∃ FW, few13 (mcs L) n t.n = FW := ⟨_, rfl⟩
  have kf := fun (W : World) (h : RdM W A0 (mcs L)) => few13_any A0 N c0 (mcs L) A n cap t W (show N = (mcs L).length by rw [hN]; simp [mcs]) (by omega) (by omega) (by have h1 := ht.lb.cap; have h2 := ht.lb.cap2; omega) h
  rw [hFW] at kf
  obtain ⟨oc, hoc⟩ : ∃ oc, cho (plansOf L t tl l) l L N = oc := ⟨_, rfl⟩
  have k1 := fun (hl : n ≤ 1000000) (x : Ml) (r : Option (List Nat)) (hr : Hid (places x.1 x.2 t tl l = r)) (W : World) (h1 : RdJ W A l) (h2 : McOk W x.1 x.2) (h3 : KtOk W t tl) => vplan_any x.1 x.2 A n cap l t tl W hn hl h1 h2 h3 r hr
  have k3 := fun (hNl : N ≤ 1000000) (hl : n ≤ 1000000) (W : World) (h1 : RdM W A0 (mcs L)) (h2 : MsOk W L) (h3 : RdJ W A l) (h4 : KtOk W t tl) => vchoose_any A0 N c0 L A n cap l t tl W hN hNl h1 h2 hn hl h3 h4 oc hoc
  have hGl : (n ≤ 1000000) → (chG L t tl l oc).length ≤ 1000000 := fun h => by rw [chG_is, List.length_map]; exact chJ_len hoc (by omega) (by omega)
  have hoc' : cho (plansOf L t tl l) l L L.length = oc := by rw [← hN]; exact hoc
  have hs := som_end hoc'
  have ho := own_end hoc'
  have hnl : ∀ i, i < L.length → ∀ G, plansOf L t tl l i = some G → ¬ G.length < (chG L t tl l oc).length := fun i hi G hG => not_less hoc' hi hG
  have hno : oc.isSome = false → chN L oc = ⟨#[]⟩ ∧ chG L t tl l oc = [] := fun h => by
    cases oc with
    | none => exact ⟨rfl, rfl⟩
    | some x => cases h
  generalize chG L t tl l oc = Gs at k3 hGl ho hnl hno
  generalize chN L oc = Ns at k3 ho hno
  generalize oc.isSome = ob at k3 hs ho hno
  have KF := Lib.hid kf; have K1 := Lib.hid k1; have K3 := Lib.hid k3; have HGl := Lib.hid hGl; have HSe := Lib.hid hs; have HOe := Lib.hid ho; have HNl := Lib.hid hnl; have HNo := Lib.hid hno; have HFW := Lib.hid hFW; have HA := Lib.hid hA; have HL := Lib.hid hL; have HLo := Lib.hid hLo; have HK := Lib.hid ht; have HN := Lib.hid hN; have Hn := Lib.hid hn; have HC := Lib.hid hc; have HC0 := Lib.hid hc0
  clear kf k1 k3 hGl hoc hoc' hs ho hnl hno hFW hA hL hLo ht hN hn hc hc0 hc2 hc02
  go_enter Try.func5, Try.ntmps5
  have HT0 := Lib.hid (show Bk (w.alloc (.cells t.arr 28)) w.heap.size 28 t.arr from Bk.fresh _ _ _)
  have hB0 : Below w.heap.size w (w.alloc (.cells t.arr 28)) := (Below.refl _ _).alloc (Nat.le_refl _) _
  go_wp2_with fail
  refine (awake13_any _).mono ?_; rintro v w1 ⟨rfl, hb1⟩
  have hB1 : Below w.heap.size w w1 := hB0.trans (hb1.mono hB0.size)
  have HT1 := Lib.hid (HT0.out.later hb1); clear HT0 hB0 hb1
  go_wp2_with (with_reducible refine load_bk rfl 28 _ rfl w.heap.size 0 rfl 28 t.arr t.arr _ HT1.out (Part.whole _) Try.underlying28 rfl (by kernel_rfl) ?_)
  refine (KF.out _ (HL.out.later hB1)).mono ?_; rintro v w2 ⟨rfl, hb2⟩
  have hB2 : Below w.heap.size w w2 := hB1.trans (hb2.mono hB1.size)
  have HT2 := Lib.hid (HT1.out.later hb2); clear HT1 hB1 hb2
  cases FW
  case false =>
    go_wp2_with fail
    refine (awake13_any _).mono ?_; rintro v wz ⟨rfl, hbz⟩
    go_wp2_with fail
    go_ret
    exact ⟨rfl, hB2.trans (hbz.mono hB2.size)⟩
  case true =>
    have hfw : N ≤ 30 ∧ n ≤ 60 := by
      have h := HFW.out; unfold few13 at h; simp only [Bool.and_eq_true, decide_eq_true_eq] at h
      have := HN.out
      have e : (mcs L).length = L.length := by simp [mcs]
      omega
    obtain ⟨hN4, hn1⟩ := hfw
    have hNl : N ≤ 1000000 := by omega
    have hl : n ≤ 1000000 := by omega
    have lt2 : w.heap.size < w2.heap.size := HT2.out.here
    go_wp2_with (with_reducible refine load_bk rfl 28 _ rfl w.heap.size 0 rfl 28 t.arr t.arr _ HT2.out (Part.whole _) Try.underlying28 rfl (by kernel_rfl) ?_)
    refine (K3.out hNl hl _ (HL.out.later hB2) (HLo.out.later hB2) (HA.out.later hB2) (HK.out.later hB2)).mono ?_; rintro v w3 ⟨⟨uG, rfl, hO⟩, hb3⟩
    obtain ⟨BG, cG, hv, hrG, hcG, hmG⟩ := hO.rds
    subst hv
    have hGl := HGl.out hl
    obtain ⟨eg, heg⟩ : ∃ e, e = Gs.length := ⟨_, rfl⟩
    rw [← heg] at hGl hcG ⊢
    have HEg : Hid (Gs.length = eg) := heg.symm
    have hB3 : Below w.heap.size w w3 := hB2.trans (hb3.mono hB2.size)
    have HT3 := Lib.hid (HT2.out.later hb3); have HRG3 := Lib.hid hrG; clear HT2 hB2 hb3 heg hrG hO lt2
    go_wp2_with fail
    go_loopw [10, 11, 35] (fun v10 v11 i wr => ∃ (k : Nat) (so ow : Bool), k ≤ N ∧ i = .int .i64 k ∧ v10 = .bool so ∧ v11 = .bool ow ∧ Hid (somK L t tl l k = so) ∧ Hid (ownK L t tl l Ns Gs k = ow) ∧ Hid (RdS wr BG Gs) ∧ Hid (Bk wr w.heap.size 28 t.arr) ∧ Below w.heap.size w wr) (fun _ _ i wr => N - (intOf i).toNat)
    case atStart => exact ⟨0, false, false, Nat.zero_le _, rfl, rfl, rfl, (show _ = _ from rfl), (show _ = _ from rfl), HRG3, HT3, hB3⟩
    case round =>
      clear HT3 hB3 HRG3
      obtain ⟨k, so, ow, hk, rfl, rfl, rfl, HSo, HOw, HRG, HTb, hb⟩ := hrel
      have lt0 : w.heap.size < wr.heap.size := HTb.out.here
      by_cases hlt : k < N
      · have hlk : k < L.length := by have := HN.out; omega
        obtain ⟨g, o, rfl, hg, hm⟩ := (HL.out.later hb).at (i := k) (by simpa [mcs] using hlk)
        rw [mcs_at hlk] at hm
        obtain ⟨x, hx⟩ : ∃ x, x = L[k] := ⟨_, rfl⟩
        rw [← hx] at hm
        have HMt1 := Lib.hid hm; clear hm
        have hxo : McOk w x.1 x.2 := by rw [hx]; exact HLo.out.at hlk
        have HXo := Lib.hid hxo; clear hxo
        obtain ⟨r, hr⟩ : ∃ r, places x.1 x.2 t tl l = r := ⟨_, rfl⟩
        have hpl : plansOf L t tl l k = r := by rw [plansOf_at hlk, ← hx]; exact hr
        have hnk : nmAt L k = x.1.nm := by rw [nmAt_at hlk, ← hx]
        have KS := Lib.hid (K1.out hl x r hr)
        have hel : (namesAt l (r.getD [])).length ≤ 1000000 := by
          rw [namesAt_len]
          cases r with
          | none => simp
          | some G => have := places_len hr; have := Hn.out; simp; omega
        have hnl : r.isSome = true → ¬ (namesAt l (r.getD [])).length < eg := fun h => by
          cases r with
          | none => cases h
          | some G => rw [namesAt_len, ← HEg.out]; exact HNl.out k hlk G hpl
        have hso := somK_succ (L := L) (t := t) (tl := tl) (l := l) k
        have how := ownK_succ (L := L) (t := t) (tl := tl) (l := l) Ns Gs k
        unfold ownB at how
        rw [HOw.out, hpl, hnk] at how
        rw [HSo.out, hpl] at hso
        generalize namesAt l (r.getD []) = E at KS hel hnl how
        generalize r.isSome = sb at KS hnl how hso
        obtain ⟨e, he⟩ : ∃ e, e = E.length := ⟨_, rfl⟩
        rw [← he] at hel hnl
        have HEl : Hid (E.length = e) := he.symm
        obtain ⟨X, hX⟩ : ∃ X, sE x.1.nm Ns = X := ⟨_, rfl⟩
        obtain ⟨T, hT⟩ : ∃ T, sameS E Gs = T := ⟨_, rfl⟩
        rw [hX, hT] at how
        have HX := Lib.hid hX; have HT := Lib.hid hT; have HSo2 := Lib.hid hso; have HOw2 := Lib.hid how; have HNL := Lib.hid hnl
        clear hx hr he hpl hnk hso how HSo HOw hX hT hnl
        go_wp2_with fail
        refine wp_region_held_drew (S := fun X => Below wr.heap.size wr X) (by kernel_rfl) (Below.drew (Below.refl _ _)) (fun hS0 => ?_)
        refine wpAnyH_take (i := 0) (v := ?_) rfl (by kernel_rfl) (by kernel_rfl) (by kernel_rfl) (fun _ _ _ h => h) (Or.inl ⟨by rfl, ?_⟩) hS0 ?_
        rotate_left
        · intro W _; go_simp; try with_reducible rfl
        try simp only [Act.put, List.getElem_toArray, List.getElem_cons_zero, List.getElem_cons_succ, List.setIfInBounds_toArray, List.set_cons_zero, List.set_cons_succ]
        refine wpAnyH_take (i := 1) (v := ?_) rfl (by kernel_rfl) (by kernel_rfl) (by kernel_rfl) (fun _ _ _ h => h) (Or.inl ⟨by rfl, ?_⟩) hS0 ?_
        rotate_left
        · intro W _; go_simp; try with_reducible rfl
        try simp only [Act.put, List.getElem_toArray, List.getElem_cons_zero, List.getElem_cons_succ, List.setIfInBounds_toArray, List.set_cons_zero, List.set_cons_succ]
        refine wpAnyH_take (i := 2) (v := ?_) rfl (by kernel_rfl) (by kernel_rfl) (by kernel_rfl) (fun _ _ _ h => h) (Or.inl ⟨by rfl, ?_⟩) hS0 ?_
        rotate_left
        · intro W _; go_simp; try with_reducible rfl
        try simp only [Act.put, List.getElem_toArray, List.getElem_cons_zero, List.getElem_cons_succ, List.setIfInBounds_toArray, List.set_cons_zero, List.set_cons_succ]
        refine wpAnyH_take (i := 3) (v := .agg x.1.arr) rfl (by kernel_rfl) (by kernel_rfl) (by kernel_rfl) (fun _ _ _ h => h) (yields_rg rfl 37 _ rfl g (o + k * 7) rfl x.1.arr _ (fun W hW => (HMt1.out.later hW).rg) Try.underlying37 rfl (by kernel_rfl)) hS0 ?_
        try simp only [Act.put, List.getElem_toArray, List.getElem_cons_zero, List.getElem_cons_succ, List.setIfInBounds_toArray, List.set_cons_zero, List.set_cons_succ]
        refine wpAnyH_take (i := 4) (v := ?_) rfl (by kernel_rfl) (by kernel_rfl) (by kernel_rfl) (fun _ _ _ h => h) (Or.inl ⟨by rfl, ?_⟩) hS0 ?_
        rotate_left
        · intro W _; go_simp; try with_reducible rfl
        try simp only [Act.put, List.getElem_toArray, List.getElem_cons_zero, List.getElem_cons_succ, List.setIfInBounds_toArray, List.set_cons_zero, List.set_cons_succ]
        refine wpAnyH_take (i := 5) (v := .agg t.arr) rfl (by kernel_rfl) (by kernel_rfl) (by kernel_rfl) (fun _ _ _ h => h) (yields_bk rfl 28 _ rfl (w.heap.size) 0 rfl 28 t.arr t.arr _ (fun W hW => HTb.out.later hW) (Part.whole _) Try.underlying28 rfl (by kernel_rfl)) hS0 ?_
        try simp only [Act.put, List.getElem_toArray, List.getElem_cons_zero, List.getElem_cons_succ, List.setIfInBounds_toArray, List.set_cons_zero, List.set_cons_succ]
        refine wpAnyH_ready (rs := [6]) (by kernel_rfl) (by simp) ?_
        refine AllReadyH.cons rfl (fun K hK => ?_) AllReadyH.nil
        go_simp
        have hBS : Below w.heap.size w _ := hb.trans (hS0.mono hb.size)
        refine (KS.out _ (HA.out.later hBS) (HXo.out.later hBS) (HK.out.later hBS)).mono ?_
        rintro v v1 ⟨⟨uP, rfl, hO⟩, hbl⟩
        obtain ⟨BP, cP, hv, hrP, hcP, hmP⟩ := hO.rds
        subst hv
        have HRP := Lib.hid hrP; clear hrP hO
        rw [HEl.out]
        go_simp
        refine hK.out _ _ (hS0.trans (hbl.mono hS0.size)) (fun hS1 => ?_)
        clear hK K hBS hbl
        try simp only [Act.put, List.getElem_toArray, List.getElem_cons_zero, List.getElem_cons_succ, List.setIfInBounds_toArray, List.set_cons_zero, List.set_cons_succ]
        refine wpAnyH_take (i := 7) (v := ?_) rfl (by kernel_rfl) (by kernel_rfl) (by kernel_rfl) (fun _ _ _ h => h) (Or.inl ⟨by rfl, ?_⟩) hS1 ?_
        rotate_left
        · intro W _; go_simp; try with_reducible rfl
        try simp only [Act.put, List.getElem_toArray, List.getElem_cons_zero, List.getElem_cons_succ, List.setIfInBounds_toArray, List.set_cons_zero, List.set_cons_succ]
        refine wpAnyH_take (i := 8) (v := ?_) rfl (by kernel_rfl) (by kernel_rfl) (by kernel_rfl) (fun _ _ _ h => h) (Or.inl ⟨by rfl, ?_⟩) hS1 ?_
        rotate_left
        · intro W _; go_simp; try with_reducible rfl
        try simp only [Act.put, List.getElem_toArray, List.getElem_cons_zero, List.getElem_cons_succ, List.setIfInBounds_toArray, List.set_cons_zero, List.set_cons_succ]
        refine wpAnyH_take (i := 9) (v := ?_) rfl (by kernel_rfl) (by kernel_rfl) (by kernel_rfl) (fun _ _ _ h => h) (Or.inl ⟨by rfl, ?_⟩) hS1 ?_
        rotate_left
        · intro W _; go_simp; try with_reducible rfl
        try simp only [Act.put, List.getElem_toArray, List.getElem_cons_zero, List.getElem_cons_succ, List.setIfInBounds_toArray, List.set_cons_zero, List.set_cons_succ]
        refine wpAnyH_take (i := 10) (v := ?_) rfl (by kernel_rfl) (by kernel_rfl) (by kernel_rfl) (fun _ _ _ h => h) (Or.inl ⟨by rfl, ?_⟩) hS1 ?_
        rotate_left
        · intro W _; go_simp; try with_reducible rfl
        try simp only [Act.put, List.getElem_toArray, List.getElem_cons_zero, List.getElem_cons_succ, List.setIfInBounds_toArray, List.set_cons_zero, List.set_cons_succ]
        refine wpAnyH_take (i := 11) (v := ?_) rfl (by kernel_rfl) (by kernel_rfl) (by kernel_rfl) (fun _ _ _ h => h) (Or.inl ⟨by rfl, ?_⟩) hS1 ?_
        rotate_left
        · intro W _; go_simp; try with_reducible rfl
        try simp only [Act.put, List.getElem_toArray, List.getElem_cons_zero, List.getElem_cons_succ, List.setIfInBounds_toArray, List.set_cons_zero, List.set_cons_succ]
        refine wpAnyH_done (by kernel_rfl) ?_ _
        have hB1 : Below w.heap.size w v1 := hb.trans (hS1.mono hb.size)
        have HT1 := Lib.hid (HTb.out.later hS1); have HMt2 := Lib.hid (HMt1.out.later hS1); have HRG1 := Lib.hid (HRG.out.later hS1)
        have cn : v1.cell? ⟨g, o + k * 7, none⟩ = some (.string x.1.nm) := HMt2.out.nm
        have CN := Lib.hid cn
        clear HTb HMt1 hS0 hS1 hb hg HRG HMt2 cn
        cases sb
        case false =>
          cases so <;> cases ow
          · go_wp2_with fail
            go_round
            case rel => exact ⟨k + 1, false, false, by omega, by go_num, rfl, rfl, HSo2.out, HOw2.out, HRG1, HT1, hB1⟩
            case measure => simp [intOf]; omega
          · go_wp2_with fail
            go_round
            case rel => exact ⟨k + 1, false, true, by omega, by go_num, rfl, rfl, HSo2.out, HOw2.out, HRG1, HT1, hB1⟩
            case measure => simp [intOf]; omega
          · go_wp2_with fail
            go_round
            case rel => exact ⟨k + 1, true, false, by omega, by go_num, rfl, rfl, HSo2.out, HOw2.out, HRG1, HT1, hB1⟩
            case measure => simp [intOf]; omega
          · go_wp2_with fail
            go_round
            case rel => exact ⟨k + 1, true, true, by omega, by go_num, rfl, rfl, HSo2.out, HOw2.out, HRG1, HT1, hB1⟩
            case measure => simp [intOf]; omega
        case true =>
          have hle := HNL.out rfl
          have dle : decide ((e : Int) < (eg : Int)) = false := by rw [decide_eq_false_iff_not]; omega
          have dle2 : decide (e < eg) = false := decide_eq_false hle
          cases so <;> cases ow
          · cases X
            · have hX' : (x.1.nm.toList == Ns.toList) = false := HX.out
              have cn := CN.out
              go_wp2_with fail
              go_round
              case rel => exact ⟨k + 1, true, false, by omega, by go_num, rfl, rfl, HSo2.out, HOw2.out, HRG1, HT1, hB1⟩
              case measure => simp [intOf]; omega
            · have hX' : (x.1.nm.toList == Ns.toList) = true := HX.out
              have cn := CN.out
              go_wp2_with fail
              refine (rtexts_any BP e cP E BG eg cG Gs _ HEl.out.symm HEg.out.symm (by omega) (by omega) HRP.out HRG1.out).mono ?_; rintro v v2 ⟨rfl, hb2⟩
              rw [HT.out]
              have HT2 := Lib.hid (HT1.out.later hb2); have HRG2 := Lib.hid (HRG1.out.later hb2); have hB2 : Below w.heap.size w v2 := hB1.trans (hb2.mono hB1.size)
              clear HT1 HRG1 hB1 hb2 cn CN
              go_wp2_with fail
              go_round
              case rel => exact ⟨k + 1, true, T, by omega, by go_num, rfl, rfl, HSo2.out, HOw2.out, HRG2, HT2, hB2⟩
              case measure => simp [intOf]; omega
          · go_wp2_with fail
            go_round
            case rel => exact ⟨k + 1, true, true, by omega, by go_num, rfl, rfl, HSo2.out, HOw2.out, HRG1, HT1, hB1⟩
            case measure => simp [intOf]; omega
          · cases X
            · have hX' : (x.1.nm.toList == Ns.toList) = false := HX.out
              have cn := CN.out
              go_wp2_with fail
              go_round
              case rel => exact ⟨k + 1, true, false, by omega, by go_num, rfl, rfl, HSo2.out, HOw2.out, HRG1, HT1, hB1⟩
              case measure => simp [intOf]; omega
            · have hX' : (x.1.nm.toList == Ns.toList) = true := HX.out
              have cn := CN.out
              go_wp2_with fail
              refine (rtexts_any BP e cP E BG eg cG Gs _ HEl.out.symm HEg.out.symm (by omega) (by omega) HRP.out HRG1.out).mono ?_; rintro v v2 ⟨rfl, hb2⟩
              rw [HT.out]
              have HT2 := Lib.hid (HT1.out.later hb2); have HRG2 := Lib.hid (HRG1.out.later hb2); have hB2 : Below w.heap.size w v2 := hB1.trans (hb2.mono hB1.size)
              clear HT1 HRG1 hB1 hb2 cn CN
              go_wp2_with fail
              go_round
              case rel => exact ⟨k + 1, true, T, by omega, by go_num, rfl, rfl, HSo2.out, HOw2.out, HRG2, HT2, hB2⟩
              case measure => simp [intOf]; omega
          · go_wp2_with fail
            go_round
            case rel => exact ⟨k + 1, true, true, by omega, by go_num, rfl, rfl, HSo2.out, HOw2.out, HRG1, HT1, hB1⟩
            case measure => simp [intOf]; omega
      · have hk' : k = N := by omega
        subst hk'
        have h1 : so = ob := by rw [← HSo.out, HN.out]; exact HSe.out
        have h2 : ow = ob := by rw [← HOw.out, HN.out]; exact HOe.out
        subst h1 h2
        cases ow
        case true =>
          go_wp2_with fail
          go_ret
          exact ⟨rfl, hb⟩
        case false =>
          obtain ⟨e1, e2⟩ := HNo.out rfl
          subst e1 e2
          have he : eg = 0 := by rw [← HEg.out]; rfl
          subst he
          go_wp2_with fail
          go_ret
          exact ⟨rfl, hb⟩
end victimFewest
end Go.Proofs.Ytpifleheammanaa
