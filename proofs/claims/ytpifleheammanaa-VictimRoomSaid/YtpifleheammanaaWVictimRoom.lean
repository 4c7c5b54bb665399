/- The walk of VictimRoom. No condition beyond the form's own. -/
import Derived.Test.YtpifleheammanaaVp
namespace Go.Proofs.Ytpifleheammanaa
open Go.RowKit
set_option linter.unusedSimpArgs false
set_option linter.unusedVariables false
namespace victimRoom

/-- Is this job of that name, on that machine, and weaker? -/
def ofB (m : Mc) (t : Kt) (s : ByteArray) (j : Jb) : Bool := sE j.nm s && (sE j.nd m.nm && decide (j.pr < t.pr))
theorem any_takeJ {l : List Jb} {p : Jb → Bool} {k : Nat} (h : k < l.length) : (l.take (k + 1)).any p = ((l.take k).any p || p l[k]) := by
  rw [List.take_succ_eq_append_getElem h, List.any_append]; simp
theorem namesAt_at {l : List Jb} {G : List Nat} {i : Nat} (h : i < (namesAt l G).length) : (namesAt l G)[i] = (jat l (G[i]'(by rwa [namesAt_len] at h))).nm := by simp [namesAt]
theorem ofB_some {m : Mc} {ml : List Lb} {t : Kt} {tl : List Lb} {l : List Jb} {G : List Nat} (h : places m ml t tl l = some G) {i : Nat} (hi : i < (namesAt l G).length) : l.any (ofB m t (namesAt l G)[i]) = true := by
  have hi' : i < G.length := by rwa [namesAt_len] at hi
  obtain ⟨h1, h2, h3⟩ := plan_each h G[i] (List.getElem_mem hi')
  rw [List.any_eq_true]
  refine ⟨jat l G[i], by rw [jat_at h1]; exact List.getElem_mem h1, ?_⟩
  unfold ofB
  rw [namesAt_at hi, sE_refl, h2, sE_refl, decide_eq_true h3]; rfl
theorem names_last (l : List Jb) (G : List Nat) {k : Nat} (h : G.length = k + 1) : (namesAt l G).take k = namesAt l G.dropLast := by
  unfold namesAt
  rw [List.dropLast_eq_take, List.map_take, h]; rfl

set_option maxHeartbeats 12800000 in
set_option maxRecDepth 100000 in
theorem walk (m : Mc) (ml : List Lb) (A : Option Addr) (n cap : Nat) (l : List Jb) (t : Kt) (tl : List Lb) (w : World) (hm : McOk w m ml) (hn : n = l.length) (hA : RdJ w A l) (hc : n ≤ cap) (hc2 : cap ≤ 9223372036854775807) (ht : KtOk w t tl) :
    Calls Try.prog 4 #[.agg m.arr, .slice A n cap, .agg t.arr] w fun r w' => r = .returned (.bool true) ∧ Below w.heap.size w w' := by
  obtain ⟨FX, hFX⟩ : ∃ FX, few13 [m] n t.n = FX := ⟨_, rfl⟩
  have htn : t.n ≤ 9223372036854775807 := by have h1 := ht.lb.cap; have h2 := ht.lb.cap2; omega
  have kx := fun (B : Option Addr) (W : World) (h : RdM W B [m]) => few13_any B 1 1 [m] A n cap t W (show 1 = 1 from rfl) (by omega) (by omega) htn h
  rw [hFX] at kx
  obtain ⟨r, hr⟩ : ∃ r, places m ml t tl l = r := ⟨_, rfl⟩
  obtain ⟨y, hy⟩ : ∃ y, why m ml t tl l = y := ⟨_, rfl⟩
  have k1 := fun (hl : n ≤ 1000000) (W : World) (h1 : RdJ W A l) (h2 : McOk W m ml) (h3 : KtOk W t tl) => vplan_any m ml A n cap l t tl W hn hl h1 h2 h3 r hr
  have k2 := fun (hl : n ≤ 1000000) (W : World) (h1 : RdJ W A l) (h2 : McOk W m ml) (h3 : KtOk W t tl) => why_any m ml A n cap l t tl W hn hl h1 h2 h3 y hy
  have k3 := fun (q c : Nat) (B : Option Addr) (l' : List Jb) (z : Int) (hz : why m ml t tl l' = z) (hq : q = l'.length) (hl : q ≤ 1000000) (W : World) (h1 : RdJ W B l') (h2 : McOk W m ml) (h3 : KtOk W t tl) => why_any m ml B q c l' t tl W hq hl h1 h2 h3 z hz
  have k4 := fun (hl : n ≤ 1000000) (W : World) (h1 : RdJ W A l) => unlike_any A n cap l W hn hl h1
  have k5 := fun (hl : n ≤ 1000000) (B : Option Addr) (q c : Nat) (G : List ByteArray) (hq : q = G.length) (hql : q ≤ 1000000) (W : World) (h1 : RdJ W A l) (h2 : RdS W B G) => outN_any A n cap l B q c G W hn hl h1 hq hql h2
  have hyn : r = none → y ≠ 0 := fun h => by rw [← hy]; exact places_none (by rw [hr]; exact h)
  have KX := Lib.hid kx; have K1 := Lib.hid k1; have K2 := Lib.hid k2; have K3 := Lib.hid k3; have K4 := Lib.hid k4; have K5 := Lib.hid k5; have HYn := Lib.hid hyn; have HPl := Lib.hid hr; have HFX := Lib.hid hFX; have HA := Lib.hid hA; have HMo := Lib.hid hm; have HK := Lib.hid ht; have Hn := Lib.hid hn; have HC := Lib.hid hc
  clear kx k1 k2 k3 k4 k5 hyn hr hy hFX hA hm ht hn hc hc2 htn
  go_enter Try.func4, Try.ntmps4
  have HM0 := Lib.hid (show Bk ((w.alloc (.cells m.arr 37)).alloc (.cells t.arr 28)) w.heap.size 37 m.arr from (Bk.fresh w _ _).later ((Below.refl _ _).alloc (Nat.le_refl _) _))
  have HT0 := Lib.hid (show Bk ((w.alloc (.cells m.arr 37)).alloc (.cells t.arr 28)) (w.heap.size + 1) 28 t.arr from Bk.freshAt _ _ _ (by simp))
  have hB0 : Below w.heap.size w ((w.alloc (.cells m.arr 37)).alloc (.cells t.arr 28)) := ((Below.refl _ _).alloc (Nat.le_refl _) _).alloc (by simp) _
  go_wp2_with fail
  refine (awake13_any _).mono ?_; rintro v w1 ⟨rfl, hb1⟩
  have hB1 : Below w.heap.size w w1 := hB0.trans (hb1.mono hB0.size)
  have HM1 := Lib.hid (HM0.out.later hb1); have HT1 := Lib.hid (HT0.out.later hb1); clear HM0 HT0 hB0 hb1
  have HT1' := Lib.hid (HT1.out.later (w' := w1.alloc (.cells m.arr 37)) ((Below.refl _ _).alloc (Nat.le_refl _) _))
  go_wp2_with (first | (with_reducible refine load_bk rfl 37 _ rfl w.heap.size 0 rfl 37 m.arr m.arr _ HM1.out (Part.whole _) Try.underlying37 rfl (by kernel_rfl) ?_) | (with_reducible refine load_bk rfl 28 _ rfl (w.heap.size + 1) 0 rfl 28 t.arr t.arr _ HT1'.out (Part.whole _) Try.underlying28 rfl (by kernel_rfl) ?_))
  have hF1 : RdM (w1.alloc (.cells m.arr 37)) (some ⟨w1.heap.size, 0, none⟩) [m] := fresh_k w1 7 m.cells 37 rfl
  have bl1 : Below w1.heap.size w1 (w1.alloc (.cells m.arr 37)) := (Below.refl _ _).alloc (Nat.le_refl _) _
  refine (KX.out _ _ hF1).mono ?_; rintro v w2 ⟨rfl, hb2⟩
  have hB1' : Below w.heap.size w (w1.alloc (.cells m.arr 37)) := hB1.alloc hB1.size _
  have hB2 : Below w.heap.size w w2 := hB1'.trans (hb2.mono hB1'.size)
  have HM2 := Lib.hid ((HM1.out.later bl1).later hb2); have HT2 := Lib.hid ((HT1.out.later bl1).later hb2); clear HM1 HT1 HT1'
  clear hF1 bl1 hb2 hB1 hB1'
  cases FX
  case false =>
    go_wp2_with fail
    refine (awake13_any _).mono ?_; rintro v wz ⟨rfl, hbz⟩
    go_wp2_with fail
    go_ret
    exact ⟨rfl, hB2.trans (hbz.mono hB2.size)⟩
  case true =>
    have hn1 : n ≤ 60 := by
      have h := HFX.out; unfold few13 at h; simp only [Bool.and_eq_true, decide_eq_true_eq] at h
      omega
    have hl : n ≤ 1000000 := by omega
    have lt2 : w.heap.size + 1 < w2.heap.size := HT2.out.here
    go_wp2_with fail
    refine (K4.out hl _ (HA.out.later hB2)).mono ?_; rintro v w3 ⟨⟨b, rfl, hU⟩, hb3⟩
    have hB3 : Below w.heap.size w w3 := hB2.trans (hb3.mono hB2.size)
    have HM3 := Lib.hid (HM2.out.later hb3); have HT3 := Lib.hid (HT2.out.later hb3); clear HM2 HT2 hB2 hb3 lt2
    cases b
    case false =>
      clear hU
      go_wp2_with fail
      refine (awake13_any _).mono ?_; rintro v wz ⟨rfl, hbz⟩
      go_wp2_with fail
      go_ret
      exact ⟨rfl, hB3.trans (hbz.mono hB3.size)⟩
    case true =>
      have HU := Lib.hid (hU rfl); clear hU
      go_wp2_with (first | (with_reducible refine load_bk rfl 37 _ rfl w.heap.size 0 rfl 37 m.arr m.arr _ HM3.out (Part.whole _) Try.underlying37 rfl (by kernel_rfl) ?_) | (with_reducible refine load_bk rfl 28 _ rfl (w.heap.size + 1) 0 rfl 28 t.arr t.arr _ HT3.out (Part.whole _) Try.underlying28 rfl (by kernel_rfl) ?_))
      refine (K1.out hl _ (HA.out.later hB3) (HMo.out.later hB3) (HK.out.later hB3)).mono ?_; rintro v w4 ⟨⟨uP, rfl, hO⟩, hb4⟩
      have hB4 : Below w.heap.size w w4 := hB3.trans (hb4.mono hB3.size)
      have HM4 := Lib.hid (HM3.out.later hb4); have HT4 := Lib.hid (HT3.out.later hb4); clear HM3 HT3 hB3 hb4
      have lt4 : w.heap.size + 1 < w4.heap.size := HT4.out.here
      obtain ⟨BP, cP, hv, hrP, hcP, hmP⟩ := hO.rds
      subst hv
      clear hO
      cases r with
      | none =>
        have e0 : (namesAt l ((none : Option (List Nat)).getD [])).length = 0 := rfl
        rw [e0]
        have hy0 := HYn.out rfl
        have dy : (y == 0) = false := by simpa using hy0
        have ns : (none : Option (List Nat)).isSome = false := rfl
        rw [ns]
        clear hrP hcP e0 ns hy0
        go_wp2_with (first | (with_reducible refine load_bk rfl 37 _ rfl w.heap.size 0 rfl 37 m.arr m.arr _ HM4.out (Part.whole _) Try.underlying37 rfl (by kernel_rfl) ?_) | (with_reducible refine load_bk rfl 28 _ rfl (w.heap.size + 1) 0 rfl 28 t.arr t.arr _ HT4.out (Part.whole _) Try.underlying28 rfl (by kernel_rfl) ?_))
        refine (K2.out hl _ (HA.out.later hB4) (HMo.out.later hB4) (HK.out.later hB4)).mono ?_; rintro v w5 ⟨rfl, hb5⟩
        go_wp2_with fail
        go_ret
        exact ⟨by show Ending.returned (Value.bool (!(y == 0))) = _; rw [dy]; rfl, hB4.trans (hb5.mono hB4.size)⟩
      | some G =>
        have ns : (some G).isSome = true := rfl
        rw [ns]
        have e0 : namesAt l ((some G).getD []) = namesAt l G := rfl
        rw [e0] at hrP hcP ⊢
        have hGn : G.length ≤ n := by have := places_len HPl.out; have := Hn.out; omega
        obtain ⟨E, hE⟩ : ∃ E, E = namesAt l G := ⟨_, rfl⟩
        have hEl : E.length = G.length := by rw [hE, namesAt_len]
        rw [← hE] at hrP hcP ⊢
        obtain ⟨e, he⟩ : ∃ e, e = E.length := ⟨_, rfl⟩
        rw [← he] at hcP ⊢
        have hel : e ≤ 1000000 := by omega
        have HEl := Lib.hid he; have HE := Lib.hid hE; have HGl : Hid (G.length = e) := by show _ = _; omega
        have HRP4 := Lib.hid hrP
        have ho1 : outN E l = outJ G l l.length := by rw [hE]; exact outN_names HU.out (places_lt HPl.out)
        have hw1 : why m ml t tl (outN E l) = 0 := by rw [ho1]; exact plan_room HPl.out
        have hn2 : ∀ G', (outN G' l).length ≤ 1000000 := fun G' => Nat.le_trans (List.length_filter_le _ _) (by have := Hn.out; omega)
        have HW1 := Lib.hid hw1; have HN2 := Lib.hid hn2
        clear hrP hE hEl he ns e0 ho1 hw1 hn2
        go_wp2_with fail
        refine wp_region_held_drew (S := fun X => Below w4.heap.size w4 X) (by kernel_rfl) (Below.drew (Below.refl _ _)) (fun hS0 => ?_)
        refine wpAnyH_take (i := 0) (v := .agg m.arr) rfl (by kernel_rfl) (by kernel_rfl) (by kernel_rfl) (fun _ _ _ h => h) (yields_bk rfl 37 _ rfl w.heap.size 0 rfl 37 m.arr m.arr _ (fun W hW => HM4.out.later hW) (Part.whole _) Try.underlying37 rfl (by kernel_rfl)) hS0 ?_
        try simp only [Act.put, List.getElem_toArray, List.getElem_cons_zero, List.getElem_cons_succ, List.setIfInBounds_toArray, List.set_cons_zero, List.set_cons_succ]
        refine wpAnyH_take (i := 1) (v := ?_) rfl (by kernel_rfl) (by kernel_rfl) (by kernel_rfl) (fun _ _ _ h => h) (Or.inl ⟨by rfl, ?_⟩) hS0 ?_
        rotate_left
        · intro W _; go_simp; try with_reducible rfl
        try simp only [Act.put, List.getElem_toArray, List.getElem_cons_zero, List.getElem_cons_succ, List.setIfInBounds_toArray, List.set_cons_zero, List.set_cons_succ]
        refine wpAnyH_take (i := 2) (v := ?_) rfl (by kernel_rfl) (by kernel_rfl) (by kernel_rfl) (fun _ _ _ h => h) (Or.inl ⟨by rfl, ?_⟩) hS0 ?_
        rotate_left
        · intro W _; go_simp; try with_reducible rfl
        try simp only [Act.put, List.getElem_toArray, List.getElem_cons_zero, List.getElem_cons_succ, List.setIfInBounds_toArray, List.set_cons_zero, List.set_cons_succ]
        refine wpAnyH_take (i := 4) (v := .agg t.arr) rfl (by kernel_rfl) (by kernel_rfl) (by kernel_rfl) (fun _ _ _ h => h) (yields_bk rfl 28 _ rfl (w.heap.size + 1) 0 rfl 28 t.arr t.arr _ (fun W hW => HT4.out.later hW) (Part.whole _) Try.underlying28 rfl (by kernel_rfl)) hS0 ?_
        try simp only [Act.put, List.getElem_toArray, List.getElem_cons_zero, List.getElem_cons_succ, List.setIfInBounds_toArray, List.set_cons_zero, List.set_cons_succ]
        refine wpAnyH_ready (rs := [3]) (by kernel_rfl) (by simp) ?_
        refine AllReadyH.cons rfl (fun K hK => ?_) AllReadyH.nil
        go_simp
        have hBS : Below w.heap.size w _ := hB4.trans (hS0.mono hB4.size)
        refine (K5.out hl BP e cP E HEl.out hel _ (HA.out.later hBS) (HRP4.out.later hS0)).mono ?_
        rintro v x5 ⟨⟨u5, rfl, hO⟩, hbl⟩
        obtain ⟨B5, c5, hv, hr5, hc5, hm5⟩ := hO.rdj
        subst hv
        have HR5 := Lib.hid hr5; clear hr5 hO
        go_simp
        refine hK.out _ _ (hS0.trans (hbl.mono hS0.size)) (fun hS1 => ?_)
        clear hK K hBS hbl
        try simp only [Act.put, List.getElem_toArray, List.getElem_cons_zero, List.getElem_cons_succ, List.setIfInBounds_toArray, List.set_cons_zero, List.set_cons_succ]
        refine wpAnyH_ready (rs := [5]) (by kernel_rfl) (by simp) ?_
        refine AllReadyH.cons rfl (fun K hK => ?_) AllReadyH.nil
        go_simp
        have hBS : Below w.heap.size w _ := hB4.trans (hS1.mono hB4.size)
        refine (K3.out _ c5 B5 (outN E l) 0 HW1.out rfl (HN2.out _) _ HR5.out (HMo.out.later hBS) (HK.out.later hBS)).mono ?_
        rintro v x6 ⟨rfl, hbl⟩
        go_simp
        refine hK.out _ _ (hS1.trans (hbl.mono hS1.size)) (fun hS2 => ?_)
        clear hK K hBS hbl
        try simp only [Act.put, List.getElem_toArray, List.getElem_cons_zero, List.getElem_cons_succ, List.setIfInBounds_toArray, List.set_cons_zero, List.set_cons_succ]
        refine wpAnyH_take (i := 6) (v := ?_) rfl (by kernel_rfl) (by kernel_rfl) (by kernel_rfl) (fun _ _ _ h => h) (Or.inl ⟨by rfl, ?_⟩) hS2 ?_
        rotate_left
        · intro W _; go_simp; try with_reducible rfl
        try simp only [Act.put, List.getElem_toArray, List.getElem_cons_zero, List.getElem_cons_succ, List.setIfInBounds_toArray, List.set_cons_zero, List.set_cons_succ]
        refine wpAnyH_done (by kernel_rfl) ?_ _
        have hB6 : Below w.heap.size w x6 := hB4.trans (hS2.mono hB4.size)
        have HM6 := Lib.hid (HM4.out.later hS2); have HT6 := Lib.hid (HT4.out.later hS2); have HRP6 := Lib.hid (HRP4.out.later hS2)
        clear hS0 hS1 hS2 HM4 HT4 HRP4 hB4 lt4 HR5
        have lt6 : w.heap.size + 1 < x6.heap.size := HT6.out.here
        go_wp2_with fail
        by_cases he0 : e = 0
        case pos =>
          subst he0
          have de0 : decide ((0 : Int) < 0) = false := rfl
          refine wp_region_later (by kernel_rfl) (by kernel_rfl) ?_; have hL : ∀ (w : World) (x : Later w) (b o : Nat), b < w.heap.size → x.to.cell? ⟨b, o, none⟩ = w.cell? ⟨b, o, none⟩ := fun w x b o hb => x.cell hb; have hN := Later.some; (repeat (go_big_quiet_step (((fail))))); refine wpQuiet_nil ?_; intro w2 hw2; have hb2 := Later.out hw2; clear hw2 hL hN
          go_wp2_with fail
          refine wp_loop_rounds 1 ?_
          rw [rounds_succ]
          go_wp2_with fail
          go_ret
          exact ⟨rfl, hB6.trans (hb2.mono hB6.size)⟩
        case neg =>
          obtain ⟨d, hd⟩ : ∃ d, e = d + 1 := ⟨e - 1, by omega⟩
          have dpos : decide ((0 : Int) < (e : Int)) = true := decide_eq_true (by omega)
          have dpos2 : decide (0 < e) = true := decide_eq_true (by omega)
          have hwr : wrap64 ((e : Int) - 1) = (d : Int) := by rw [hd]; simp [wrap64]; omega
          have hdc : d ≤ cP := by omega
          have hdc' : (d : Int) ≤ (cP : Int) := by omega
          have hde' : (d : Int) ≤ (e : Int) := by omega
          have hd1 : d ≤ 1000000 := by omega
          have hnl := names_last l G (k := d) (by rw [HGl.out]; exact hd)
          have hGne : G ≠ [] := fun e9 => by have h9 := HGl.out; rw [e9] at h9; simp at h9; omega
          have ho1 : outN (E.take d) l = outJ G.dropLast l l.length := by rw [HE.out, hnl]; exact outN_names HU.out (fun i hi => places_lt HPl.out i (List.dropLast_subset G hi))
          have hw4 : why m ml t tl (outN (E.take d) l) = 4 := by rw [ho1]; exact plan_last HPl.out hGne
          have hdl : d = (E.take d).length := by rw [List.length_take, ← HEl.out]; omega
          have HW4 := Lib.hid hw4; have HDl := Lib.hid hdl; have HPd := Lib.hid (RdS.take HRP6.out d); have HWr := Lib.hid hwr; have HWr2 : Hid (IntKind.i64.wrap ((e : Int) - 1) = (d : Int)) := by show _ = _; rw [IntKind.wrap_i64]; omega
          have HD := Lib.hid hd
          clear hnl hGne ho1 hw4 hdl hwr hd
          refine wp_region_held_drew (S := fun X => Below x6.heap.size x6 X) (by kernel_rfl) (Below.drew (Below.refl _ _)) (fun hS0 => ?_)
          refine wpAnyH_take (i := 0) (v := ?_) rfl (by kernel_rfl) (by kernel_rfl) (by kernel_rfl) (fun _ _ _ h => h) (Or.inl ⟨by rfl, ?_⟩) hS0 ?_
          rotate_left
          · intro W _; go_simp; try with_reducible rfl
          try simp only [Act.put, List.getElem_toArray, List.getElem_cons_zero, List.getElem_cons_succ, List.setIfInBounds_toArray, List.set_cons_zero, List.set_cons_succ]
          refine wpAnyH_take (i := 1) (v := ?_) rfl (by kernel_rfl) (by kernel_rfl) (by kernel_rfl) (fun _ _ _ h => h) (Or.inl ⟨by rfl, ?_⟩) hS0 ?_
          rotate_left
          · intro W _; go_simp; try with_reducible rfl
          try simp only [Act.put, List.getElem_toArray, List.getElem_cons_zero, List.getElem_cons_succ, List.setIfInBounds_toArray, List.set_cons_zero, List.set_cons_succ]
          refine wpAnyH_take (i := 2) (v := ?_) rfl (by kernel_rfl) (by kernel_rfl) (by kernel_rfl) (fun _ _ _ h => h) (Or.inl ⟨by rfl, ?_⟩) hS0 ?_
          rotate_left
          · intro W _; go_simp; try with_reducible rfl
          try simp only [Act.put, List.getElem_toArray, List.getElem_cons_zero, List.getElem_cons_succ, List.setIfInBounds_toArray, List.set_cons_zero, List.set_cons_succ]
          refine wpAnyH_take (i := 3) (v := ?_) rfl (by kernel_rfl) (by kernel_rfl) (by kernel_rfl) (fun _ _ _ h => h) (Or.inl ⟨by rfl, ?_⟩) hS0 ?_
          rotate_left
          · intro W _; go_simp; try with_reducible rfl
          try simp only [Act.put, List.getElem_toArray, List.getElem_cons_zero, List.getElem_cons_succ, List.setIfInBounds_toArray, List.set_cons_zero, List.set_cons_succ]
          refine wpAnyH_take (i := 4) (v := .agg m.arr) rfl (by kernel_rfl) (by kernel_rfl) (by kernel_rfl) (fun _ _ _ h => h) (yields_bk rfl 37 _ rfl w.heap.size 0 rfl 37 m.arr m.arr _ (fun W hW => HM6.out.later hW) (Part.whole _) Try.underlying37 rfl (by kernel_rfl)) hS0 ?_
          try simp only [Act.put, List.getElem_toArray, List.getElem_cons_zero, List.getElem_cons_succ, List.setIfInBounds_toArray, List.set_cons_zero, List.set_cons_succ]
          refine wpAnyH_take (i := 5) (v := ?_) rfl (by kernel_rfl) (by kernel_rfl) (by kernel_rfl) (fun _ _ _ h => h) (Or.inl ⟨by rfl, ?_⟩) hS0 ?_
          rotate_left
          · intro W _; go_simp; try with_reducible rfl
          try simp only [Act.put, List.getElem_toArray, List.getElem_cons_zero, List.getElem_cons_succ, List.setIfInBounds_toArray, List.set_cons_zero, List.set_cons_succ]
          refine wpAnyH_take (i := 6) (v := ?_) rfl (by kernel_rfl) (by kernel_rfl) (by kernel_rfl) (fun _ _ _ h => h) (Or.inl ⟨by rfl, ?_⟩) hS0 ?_
          rotate_left
          · intro W _; go_simp; try with_reducible rfl
          try simp only [Act.put, List.getElem_toArray, List.getElem_cons_zero, List.getElem_cons_succ, List.setIfInBounds_toArray, List.set_cons_zero, List.set_cons_succ]
          refine wpAnyH_take (i := 7) (v := ?_) rfl (by kernel_rfl) (by kernel_rfl) (by kernel_rfl) (fun _ _ _ h => h) (Or.inl ⟨by rfl, ?_⟩) hS0 ?_
          rotate_left
          · intro W _; go_simp; try with_reducible rfl
          try simp only [Act.put, List.getElem_toArray, List.getElem_cons_zero, List.getElem_cons_succ, List.setIfInBounds_toArray, List.set_cons_zero, List.set_cons_succ]
          refine wpAnyH_take (i := 8) (v := ?_) rfl (by kernel_rfl) (by kernel_rfl) (by kernel_rfl) (fun _ _ _ h => h) (Or.inl ⟨by rfl, ?_⟩) hS0 ?_
          rotate_left
          · intro W _; go_simp; try with_reducible rfl
          try simp only [Act.put, List.getElem_toArray, List.getElem_cons_zero, List.getElem_cons_succ, List.setIfInBounds_toArray, List.set_cons_zero, List.set_cons_succ]
          refine wpAnyH_take (i := 9) (v := ?_) rfl (by kernel_rfl) (by kernel_rfl) (by kernel_rfl) (fun _ _ _ h => h) (Or.inl ⟨by rfl, ?_⟩) hS0 ?_
          rotate_left
          · intro W _; go_simp; try with_reducible rfl
          try simp only [Act.put, List.getElem_toArray, List.getElem_cons_zero, List.getElem_cons_succ, List.setIfInBounds_toArray, List.set_cons_zero, List.set_cons_succ]
          first | rw [HWr.out] | rw [HWr2.out]
          refine wpAnyH_take (i := 10) (v := ?_) rfl (by kernel_rfl) (by kernel_rfl) (by kernel_rfl) (fun _ _ _ h => h) (Or.inl ⟨by rfl, ?_⟩) hS0 ?_
          rotate_left
          · intro W _; go_simp; try with_reducible rfl
          try simp only [Act.put, List.getElem_toArray, List.getElem_cons_zero, List.getElem_cons_succ, List.setIfInBounds_toArray, List.set_cons_zero, List.set_cons_succ]
          refine wpAnyH_take (i := 12) (v := .agg t.arr) rfl (by kernel_rfl) (by kernel_rfl) (by kernel_rfl) (fun _ _ _ h => h) (yields_bk rfl 28 _ rfl (w.heap.size + 1) 0 rfl 28 t.arr t.arr _ (fun W hW => HT6.out.later hW) (Part.whole _) Try.underlying28 rfl (by kernel_rfl)) hS0 ?_
          try simp only [Act.put, List.getElem_toArray, List.getElem_cons_zero, List.getElem_cons_succ, List.setIfInBounds_toArray, List.set_cons_zero, List.set_cons_succ]
          refine wpAnyH_ready (rs := [11]) (by kernel_rfl) (by simp) ?_
          refine AllReadyH.cons rfl (fun K hK => ?_) AllReadyH.nil
          go_simp
          have hBS : Below w.heap.size w _ := hB6.trans (hS0.mono hB6.size)
          refine (K5.out hl BP d cP (E.take d) HDl.out hd1 _ (HA.out.later hBS) (HPd.out.later hS0)).mono ?_
          rintro v x7 ⟨⟨u7, rfl, hO⟩, hbl⟩
          obtain ⟨B7, c7, hv, hr7, hc7, hm7⟩ := hO.rdj
          subst hv
          have HR7 := Lib.hid hr7; clear hr7 hO
          go_simp
          refine hK.out _ _ (hS0.trans (hbl.mono hS0.size)) (fun hS1 => ?_)
          clear hK K hBS hbl
          try simp only [Act.put, List.getElem_toArray, List.getElem_cons_zero, List.getElem_cons_succ, List.setIfInBounds_toArray, List.set_cons_zero, List.set_cons_succ]
          refine wpAnyH_ready (rs := [13]) (by kernel_rfl) (by simp) ?_
          refine AllReadyH.cons rfl (fun K hK => ?_) AllReadyH.nil
          go_simp
          have hBS : Below w.heap.size w _ := hB6.trans (hS1.mono hB6.size)
          refine (K3.out _ c7 B7 (outN (E.take d) l) 4 HW4.out rfl (HN2.out _) _ HR7.out (HMo.out.later hBS) (HK.out.later hBS)).mono ?_
          rintro v x8 ⟨rfl, hbl⟩
          go_simp
          refine hK.out _ _ (hS1.trans (hbl.mono hS1.size)) (fun hS2 => ?_)
          clear hK K hBS hbl
          try simp only [Act.put, List.getElem_toArray, List.getElem_cons_zero, List.getElem_cons_succ, List.setIfInBounds_toArray, List.set_cons_zero, List.set_cons_succ]
          refine wpAnyH_take (i := 14) (v := ?_) rfl (by kernel_rfl) (by kernel_rfl) (by kernel_rfl) (fun _ _ _ h => h) (Or.inl ⟨by rfl, ?_⟩) hS2 ?_
          rotate_left
          · intro W _; go_simp; try with_reducible rfl
          try simp only [Act.put, List.getElem_toArray, List.getElem_cons_zero, List.getElem_cons_succ, List.setIfInBounds_toArray, List.set_cons_zero, List.set_cons_succ]
          refine wpAnyH_take (i := 15) (v := ?_) rfl (by kernel_rfl) (by kernel_rfl) (by kernel_rfl) (fun _ _ _ h => h) (Or.inl ⟨by rfl, ?_⟩) hS2 ?_
          rotate_left
          · intro W _; go_simp; try with_reducible rfl
          try simp only [Act.put, List.getElem_toArray, List.getElem_cons_zero, List.getElem_cons_succ, List.setIfInBounds_toArray, List.set_cons_zero, List.set_cons_succ]
          refine wpAnyH_done (by kernel_rfl) ?_ _
          have hB8 : Below w.heap.size w x8 := hB6.trans (hS2.mono hB6.size)
          have HM8 := Lib.hid (HM6.out.later hS2); have HT8 := Lib.hid (HT6.out.later hS2); have HRP8 := Lib.hid (HRP6.out.later hS2)
          clear hS0 hS1 hS2 HM6 HT6 HRP6 hB6 lt6 HR7 HPd
          have lt8 : w.heap.size + 1 < x8.heap.size := HT8.out.here
          go_wp2_with fail
          go_loopw [72] (fun i wr => ∃ a : Nat, a ≤ e ∧ i = .int .i64 a ∧ Hid (RdS wr BP E) ∧ Hid (Bk wr w.heap.size 37 m.arr) ∧ Hid (Bk wr (w.heap.size + 1) 28 t.arr) ∧ Below w.heap.size w wr) (fun i wr => e - (intOf i).toNat)
          case atStart => exact ⟨0, Nat.zero_le _, rfl, HRP8, HM8, HT8, hB8⟩
          case round =>
            clear HRP8 HM8 HT8 hB8 lt8
            obtain ⟨a, ha, rfl, HRS, HMb, HTb, hb⟩ := hrel
            have lt1 : w.heap.size + 1 < wr.heap.size := HTb.out.here
            have lt0 : w.heap.size < wr.heap.size := by omega
            by_cases hae : a < e
            · have haE : a < E.length := by have := HEl.out; omega
              obtain ⟨g2, o2, hBP, hg2, cs⟩ := HRS.out.at haE
              subst hBP
              have hany : l.any (ofB m t E[a]) = true := by have h9 := HE.out; subst h9; exact ofB_some HPl.out haE
              obtain ⟨s, hs⟩ : ∃ s, s = E[a] := ⟨_, rfl⟩
              rw [← hs] at cs hany
              have HAny := Lib.hid hany; have HCs := Lib.hid cs
              clear hs hany cs
              obtain ⟨wo, hwo⟩ : ∃ wo, wo = wr := ⟨_, rfl⟩
              subst hwo
              go_wp2_with fail
              go_loopw [10, 77] (fun th i wi => ∃ b : Nat, b ≤ n ∧ i = .int .i64 b ∧ th = .bool ((l.take b).any (ofB m t s)) ∧ Below wo.heap.size wo wi) (fun _ i wi => n - (intOf i).toNat)
              case atStart => exact ⟨0, Nat.zero_le _, rfl, (by simp), Below.refl _ _⟩
              case round =>
                obtain ⟨b, hbn, rfl, rfl, hbi⟩ := hrel
                have hz := hbi.size
                by_cases hbq : b < n
                · have hbl : b < l.length := by have := Hn.out; omega
                  obtain ⟨g, o, hAg, hg, hj⟩ := ((HA.out.later hb).later hbi).at hbl
                  subst hAg
                  have hct := any_takeJ (p := ofB m t s) hbl
                  obtain ⟨j, hjk⟩ : ∃ j, j = l[b] := ⟨_, rfl⟩
                  rw [← hjk] at hj hct
                  have c1 := hj.nm
                  have c2 := hj.nd
                  have c3 := hj.pr
                  have c4 : wr.cell? ⟨g2, o2 + a, none⟩ = some (.string s) := (hbi.cell (p := ⟨g2, o2 + a, none⟩) hg2).trans HCs.out
                  have c5 : wr.cell? ⟨w.heap.size, 0, none⟩ = some (.string m.nm) := (HMb.out.later hbi).cellAt 0
                  have c6 : wr.cell? ⟨w.heap.size + 1, 2, none⟩ = some (.int .i64 t.pr) := (HTb.out.later hbi).cellAt 2
                  have z2 : g2 < wr.heap.size := by omega
                  have z0 : w.heap.size < wr.heap.size := by omega
                  have z1 : w.heap.size + 1 < wr.heap.size := by omega
                  obtain ⟨T, hT⟩ : ∃ T, (l.take b).any (ofB m t s) = T := ⟨_, rfl⟩
                  rw [hT] at hct ⊢
                  have HCT := Lib.hid hct
                  clear hj hjk hct hT
                  cases T
                  case true =>
                    have HN : Hid ((l.take (b + 1)).any (ofB m t s) = true) := by show _ = _; rw [HCT.out]; rfl
                    clear HCT
                    go_wp2_with fail
                    refine wp_region_later (by kernel_rfl) (by kernel_rfl) ?_; have hL : ∀ (w : World) (x : Later w) (b o : Nat), b < w.heap.size → x.to.cell? ⟨b, o, none⟩ = w.cell? ⟨b, o, none⟩ := fun w x b o hb => x.cell hb; have hN := Later.some; (repeat (go_big_quiet_step (((fail))))); refine wpQuiet_nil ?_; intro w2 hw2; have hb2 := Later.out hw2; clear hw2 hL hN
                    go_wp2_with fail
                    go_round
                    case rel => exact ⟨b + 1, by omega, by go_num, by rw [HN.out], hbi.trans (hb2.mono hbi.size)⟩
                    case measure => simp [intOf]; omega
                  case false =>
                    cases hX : sE j.nm s
                    case false =>
                      have hX' : (j.nm.toList == s.toList) = false := hX
                      have HN : Hid ((l.take (b + 1)).any (ofB m t s) = false) := by show _ = _; rw [HCT.out]; unfold ofB; rw [hX]; rfl
                      clear HCT hX
                      go_wp2_with fail
                      refine wp_region_later (by kernel_rfl) (by kernel_rfl) ?_; have hL : ∀ (w : World) (x : Later w) (b o : Nat), b < w.heap.size → x.to.cell? ⟨b, o, none⟩ = w.cell? ⟨b, o, none⟩ := fun w x b o hb => x.cell hb; have hN := Later.some; (repeat (go_big_quiet_step (((fail))))); refine wpQuiet_nil ?_; intro w2 hw2; have hb2 := Later.out hw2; clear hw2 hL hN
                      go_wp2_with fail
                      go_round
                      case rel => exact ⟨b + 1, by omega, by go_num, by rw [HN.out], hbi.trans (hb2.mono hbi.size)⟩
                      case measure => simp [intOf]; omega
                    case true =>
                      have hX' : (j.nm.toList == s.toList) = true := hX
                      cases hY : sE j.nd m.nm
                      case false =>
                        have hY' : (j.nd.toList == m.nm.toList) = false := hY
                        have HN : Hid ((l.take (b + 1)).any (ofB m t s) = false) := by show _ = _; rw [HCT.out]; unfold ofB; rw [hX, hY]; rfl
                        clear HCT hX hY
                        go_wp2_with fail
                        refine wp_region_later (by kernel_rfl) (by kernel_rfl) ?_; have hL : ∀ (w : World) (x : Later w) (b o : Nat), b < w.heap.size → x.to.cell? ⟨b, o, none⟩ = w.cell? ⟨b, o, none⟩ := fun w x b o hb => x.cell hb; have hN := Later.some; (repeat (go_big_quiet_step (((fail))))); refine wpQuiet_nil ?_; intro w2 hw2; have hb2 := Later.out hw2; clear hw2 hL hN
                        go_wp2_with fail
                        go_round
                        case rel => exact ⟨b + 1, by omega, by go_num, by rw [HN.out], hbi.trans (hb2.mono hbi.size)⟩
                        case measure => simp [intOf]; omega
                      case true =>
                        have hY' : (j.nd.toList == m.nm.toList) = true := hY
                        have HN : Hid ((l.take (b + 1)).any (ofB m t s) = decide (j.pr < t.pr)) := by show _ = _; rw [HCT.out]; unfold ofB; rw [hX, hY]; rfl
                        clear HCT hX hY
                        go_wp2_with fail
                        refine wp_region_later (by kernel_rfl) (by kernel_rfl) ?_; have hL : ∀ (w : World) (x : Later w) (b o : Nat), b < w.heap.size → x.to.cell? ⟨b, o, none⟩ = w.cell? ⟨b, o, none⟩ := fun w x b o hb => x.cell hb; have hN := Later.some; (repeat (go_big_quiet_step (((fail))))); refine wpQuiet_nil ?_; intro w2 hw2; have hb2 := Later.out hw2; clear hw2 hL hN
                        go_wp2_with fail
                        go_round
                        case rel => exact ⟨b + 1, by omega, by go_num, by rw [HN.out], hbi.trans (hb2.mono hbi.size)⟩
                        case measure => simp [intOf]; omega
                · have hbq' : b = n := by omega
                  subst hbq'
                  have hlk : l.take b = l := by rw [Hn.out]; exact List.take_length
                  rw [hlk, HAny.out]
                  have HRSb := Lib.hid (HRS.out.later hbi); have HMb2 := Lib.hid (HMb.out.later hbi); have HTb2 := Lib.hid (HTb.out.later hbi); have hbb : Below w.heap.size w wr := hb.trans (hbi.mono hb.size)
                  clear hlk HRS HMb HTb hbi hb HCs
                  go_wp2_with fail
                  go_round
                  case rel => exact ⟨a + 1, by omega, by go_num, HRSb, HMb2, HTb2, hbb⟩
                  case measure => simp [intOf]; omega
            · have hae' : a = e := by omega
              subst hae'
              go_wp2_with fail
              go_ret
              exact ⟨rfl, hb⟩
end victimRoom
end Go.Proofs.Ytpifleheammanaa
