/- Remove. Condition: at most 900 entries. -/
import Derived.Test.YtkadcaihihgceaaHp9
namespace Go.Proofs.Ytkadcaihihgceaa
open Go.RowKit
set_option linter.unusedSimpArgs false
set_option linter.unusedVariables false
theorem SetI.grp {w w' : World} {b : Nat} {f : Int → Bool} {p : Nat → Prop} (h : SetI w b f) (hg : GrP p w w') (hn : ¬ p b) : SetI w' b f := by
  have hlt := h.lt
  obtain ⟨es, clock, hb, h1⟩ := h
  exact ⟨es, clock, (hg.block b hlt hn).trans hb, h1⟩
/-- The turns of those of l that are chosen. -/
def cho (wh : Px → Bool) (l : List (Px × Int)) (s : Int) : Bool := l.any fun x => wh x.1 && decide (x.2 = s)
theorem cho_at {wh : Px → Bool} {l : List (Px × Int)} (h : (l.map Prod.snd).Nodup) {x : Px × Int} (hx : x ∈ l) : cho wh l x.2 = wh x.1 := by
  unfold cho
  cases e : wh x.1 with
  | true => exact List.any_eq_true.2 ⟨x, hx, by simp [e]⟩
  | false =>
    refine Bool.eq_false_iff.2 fun hh => ?_
    obtain ⟨y, hy, h2⟩ := List.any_eq_true.1 hh
    simp only [Bool.and_eq_true, decide_eq_true_eq] at h2
    have := inj_turn h hy hx h2.2
    rw [this, e] at h2
    cases h2.1
theorem cho_snoc {wh : Px → Bool} {l : List (Px × Int)} {x : Px × Int} (h : wh x.1 = true) : (fun s' => cho wh l s' || decide (x.2 = s')) = cho wh (l ++ [x]) := by
  funext s
  unfold cho
  rw [List.any_append]
  simp [h]
theorem cho_skip {wh : Px → Bool} {l : List (Px × Int)} {x : Px × Int} (h : wh x.1 = false) : cho wh (l ++ [x]) = cho wh l := by
  funext s
  unfold cho
  rw [List.any_append]
  simp [h]
/-- While entries are chosen: the boxes, the set, the copy. -/
structure RmR (w wr : World) (G : FuncId) (b3 bm b5 : Nat) (wh : Px → Bool) (l : List (Px × Int)) (k : Nat) (vC : Value) : Prop where
  c3 : Bk wr b3 39 #[(.func (.func G) #[] #[])]
  c5 : Bk wr b5 65 #[.map (some bm)]
  st : SetI wr bm (cho wh (l.take k))
  cl : OwnK wr w.heap.size 62 3 vC (l.map eP)
  be : Below w.heap.size w wr
  ge : w.heap.size ≤ bm
section
variable {w wr w' : World} {G : FuncId} {b3 bm b5 k : Nat} {wh : Px → Bool} {l : List (Px × Int)} {vC : Value}
theorem RmR.below (H : RmR w wr G b3 bm b5 wh l k vC) (hb : Below wr.heap.size wr w') : RmR w w' G b3 bm b5 wh l k vC :=
  ⟨H.c3.later hb, H.c5.later hb, H.st.later hb, H.cl.below hb, H.be.trans (hb.mono H.be.size), H.ge⟩
theorem RmR.skip (H : RmR w wr G b3 bm b5 wh l k vC) (hk : k < l.length) (h : wh l[k].1 = false) : RmR w wr G b3 bm b5 wh l (k + 1) vC :=
  ⟨H.c3, H.c5, by rw [List.take_succ_eq_append_getElem hk, cho_skip h]; exact H.st, H.cl, H.be, H.ge⟩
theorem RmR.put (H : RmR w wr G b3 bm b5 wh l k vC) (hk : k < l.length) (h : wh l[k].1 = true) (hs : SetI w' bm (fun s' => cho wh (l.take k) s' || decide (l[k].2 = s'))) (hg : wr.grownBy w' (some bm)) : RmR w w' G b3 bm b5 wh l (k + 1) vC :=
  ⟨H.c3.stays hg (fun e => H.st.notBk H.c3 (Option.some.inj e).symm), H.c5.stays hg (fun e => H.st.notBk H.c5 (Option.some.inj e).symm), by rw [List.take_succ_eq_append_getElem hk, ← cho_snoc h]; exact hs,
    H.cl.grp (GrP.of hg) (fun q hq e => H.cl.notSet H.st (by rw [hq]; exact e.symm)), H.be.grown hg H.be.size (fun q e => by have := Option.some.inj e; have := H.ge; omega), H.ge⟩
end
set_option maxHeartbeats 12800000 in
set_option maxRecDepth 100000 in
theorem rem_any (b h : Nat) (F v : Value) (m : Int) (l B : List (Px × Int)) (lt : Px → Px → Bool) (G : FuncId) (wh : Px → Bool) (w : World) (hbig : l.length ≤ 900) (hO : Hid (IsOP F lt)) (hW : Hid (WkO lt)) (hC : Hid (Chs G wh)) (hH : Hid (HpP w b h F v m l)) (hA : Hid (Hol lt m l B)) :
    Calls Try.prog 16 #[.pointer (some ⟨h, 0, none⟩), (.func (.func G) #[] #[])] w fun e w' => e = .returned (.int .i64 ((B.length : Int) - ((B.filter fun x => !wh x.1).length : Int))) ∧ ∃ l', UpP w w' b h F v m l' ∧ Hol lt m l' (B.filter fun x => !wh x.1) := by
  obtain ⟨A, c, hv, hc1, hc2, har⟩ := hH.out.sl
  subst hv
  have hmf : ∀ (fn : Fn) (first cap : Array Value) (w : World), (Instr.makeFunc fn first cap).run Try.prog w = .ok (.func fn first cap) w := fun _ _ _ _ => rfl
  have K1 := Lib.hid (fun (W : World) (hb : Below w.heap.size w W) => lenP_any b h F _ m l W (Lib.hid (hH.out.below hb)))
  have hb0 : Below w.heap.size w (w.alloc (.cells #[(.func (.func G) #[] #[])] 39)) := (Below.refl _ _).alloc (Nat.le_refl _) _
  have HB0 := Lib.hid hb0
  clear hb0
  by_cases hl : l = []
  · have hz : ((l.length : Int) == 0) = true := by simp [hl]
    have hB : B = [] := List.length_eq_zero_iff.1 (by rw [← hA.out.len, hl]; rfl)
    have HB := Lib.hid hB
    have HL := Lib.hid hl
    clear hl har hB
    go_enter Try.func16, Try.ntmps16
    go_wp2_with fail
    refine (K1.out _ HB0.out).mono ?_; rintro e w1 ⟨rfl, hw1⟩; rw [hw1]; clear hw1 w1
    go_wp2_with fail
    go_ret
    refine ⟨by rw [HB.out]; rfl, l, UpP.same hH.out HB0.out, ?_⟩
    have := hA.out
    rw [HB.out] at this ⊢
    exact this
  · have hz : ((l.length : Int) == 0) = false := by simp; exact hl
    have hpos : 0 < l.length := List.length_pos_iff.2 hl
    obtain ⟨g, hAg, hgh, hr0⟩ := har 0 hpos
    subst hAg
    obtain ⟨n, hn⟩ : ∃ n, n = l.length := ⟨_, rfl⟩
    rw [← hn] at hc1 hz hbig K1
    have hHn : Hid (HpP w b h F (.slice (some ⟨g, 0, none⟩) n c) m l) := hn ▸ hH
    have HRD : Hid (RdK w 3 (some ⟨g, 0, none⟩) (l.map eP)) := by
      obtain ⟨A', c', hv', hr', _⟩ := hHn.out.ow.sl
      injection hv' with e1 e2; rw [e1]; exact hr'
    have HN := Lib.hid hn
    have HPOS : Hid (0 < l.length) := hpos
    have KC := Lib.hid (fun (W : World) (hb : Below w.heap.size w W) => cloneP_any (some ⟨g, 0, none⟩) n c l W HN (Lib.hid (HRD.out.later hb)) (by omega))
    have hnf : ∀ w, (binOp .eql 39 (.func (.func G) #[] #[]) .nilFunc).run Try.prog w = .ok (.bool false) w := fun w => rfl
    have hmm := @run_makeMap Try.prog
    obtain ⟨W2, hW2⟩ : ∃ W, W = ((w.alloc (.cells #[(.func (.func G) #[] #[])] 39)).alloc (.map #[] 0)).alloc (.cells #[.map (some (w.heap.size + 1))] 65) := ⟨_, rfl⟩
    have h3 : Bk W2 w.heap.size 39 #[(.func (.func G) #[] #[])] := by rw [hW2]; exact ((Bk.fresh w _ _).later ((Below.refl _ _).alloc (Nat.le_refl _) _)).later ((Below.refl _ _).alloc (Nat.le_refl _) _)
    have h5 : Bk W2 (w.heap.size + 1 + 1) 65 #[.map (some (w.heap.size + 1))] := by rw [hW2]; exact Bk.freshAt _ _ _ (by simp)
    have hm2 : SetI W2 (w.heap.size + 1) fun _ => false := by
      rw [hW2]
      have := SetI.made (w.alloc (.cells #[(.func (.func G) #[] #[])] 39))
      simp only [World.size_alloc] at this
      exact this.later ((Below.refl _ _).alloc (Nat.le_refl _) _)
    have hb2 : Below w.heap.size w W2 := by rw [hW2]; exact (((Below.refl _ _).alloc (Nat.le_refl _) _).alloc (by simp) _).alloc (by simp; omega) _
    have H3 := Lib.hid h3; have H5 := Lib.hid h5; have HM2 := Lib.hid hm2; have HB2 := Lib.hid hb2
    have hc : w.cell? ⟨h, 1, none⟩ = some (.slice (some ⟨g, 0, none⟩) n c) := hHn.out.bk.cellAt 1
    have hlt : h < w.heap.size := hHn.out.bk.here
    have hlt1 : h < w.heap.size + 1 := by omega
    have hlt2 : h < w.heap.size + 1 + 1 := by omega
    have HGH := Lib.hid hgh
    clear hl har hpos hn hr0 h3 h5 hm2 hb2 hgh
    go_enter Try.func16, Try.ntmps16
    go_wp2_with fail
    refine (K1.out _ HB0.out).mono ?_; rintro e w1 ⟨rfl, hw1⟩; rw [hw1]; clear hw1 w1 K1 HB0
    go_wp2_with fail
    rw [← hW2]
    clear hW2 hc hlt hlt1 hlt2
    refine (KC.out _ HB2.out).mono ?_
    rintro e w3 ⟨vC, rfl, hC3, hb3⟩
    have hb23 : Below w.heap.size w w3 := HB2.out.trans (hb3.mono HB2.out.size)
    obtain ⟨gC, cC, hvC, hcC1, hcC2⟩ : ∃ gC cC, vC = .slice (some ⟨gC, 0, none⟩) n cC ∧ n ≤ cC ∧ cC ≤ 9223372036854775807 := by
      rcases hC3.2.2 with ⟨hv, h0⟩ | ⟨g', cap, cur, hv, _, _, hn1, hm1, _⟩
      · rw [List.length_map] at h0; have := HPOS.out; omega
      · rw [List.length_map, ← HN.out] at hv hn1
        exact ⟨g', cap, hv, hn1, by unfold maxLen at hm1; omega⟩
    subst hvC
    have HR3 : Hid (RmR w w3 G w.heap.size (w.heap.size + 1) (w.heap.size + 1 + 1) wh l 0 (.slice (some ⟨gC, 0, none⟩) n cC)) :=
      ⟨H3.out.later hb3, H5.out.later hb3, HM2.out.later hb3, hC3.base HB2.out.size, hb23, Nat.le_succ _⟩
    clear hC3 hb3 hb23 H3 H5 HM2 HB2 KC HRD
    go_wp2_with fail
    go_loopw [25] (fun s25 wr => ∃ k : Nat, k ≤ n ∧ s25 = .int .i64 k ∧ Hid (RmR w wr G w.heap.size (w.heap.size + 1) (w.heap.size + 1 + 1) wh l k (.slice (some ⟨gC, 0, none⟩) n cC))) (fun s25 wr => n - (intOf s25).toNat)
    case atStart => exact ⟨0, Nat.zero_le _, rfl, HR3⟩
    case round =>
      clear HR3
      obtain ⟨k, hk, rfl, HR⟩ := hrel
      by_cases hkn : k < n
      · have hkl : Hid (k < l.length) := by show k < l.length; rw [← HN.out]; exact hkn
        obtain ⟨x, ex⟩ : ∃ x, x = l[k]'hkl.out := ⟨_, rfl⟩
        have hrg : wr.rangeAt gC (k * 3) (arrE x).toList := by
          have := HR.out.cl.range (p := k) (by rw [List.length_map]; exact hkl.out)
          rw [List.getElem_map, ← ex] at this
          exact this
        have HX := Lib.hid hrg; have EX := Lib.hid ex
        have hwk : wrap64 ((k : Int) + 1) = ((k + 1 : Nat) : Int) := by unfold wrap64; omega
        have hba : Below wr.heap.size wr (wr.alloc (.cells (arrE x) 62)) := (Below.refl _ _).alloc (Nat.le_refl _) _
        have HFR : Hid (Bk (wr.alloc (.cells (arrE x) 62)) wr.heap.size 62 (arrE x)) := Bk.fresh _ _ _
        have HRA : Hid (RmR w (wr.alloc (.cells (arrE x) 62)) G w.heap.size (w.heap.size + 1) (w.heap.size + 1 + 1) wh l k (.slice (some ⟨gC, 0, none⟩) n cC)) := HR.out.below hba
        have HBA := Lib.hid hba
        have HA := holds_any 34 #[.pointer (some ⟨w.heap.size, 0, none⟩), .pointer (some ⟨wr.heap.size, 0, none⟩)] (wh x.1) (wr.alloc (.cells (arrE x) 62)) (fun w => rfl) (Lib.hid (remC_any G wh w.heap.size wr.heap.size x _ hC (Lib.hid (HRA.out.c3.cellAt 0)) HFR))
        clear ex hrg hba
        cases hf : wh x.1 with
        | true =>
          rw [hf] at HA
          have HFX := Lib.hid hf
          clear hf
          go_wp2_with (with_reducible refine load_rg rfl 62 _ rfl gC (k * 3) rfl (arrE x) _ HX.out Try.underlying62 rfl (by kernel_rfl) ?_)
          refine HA.mono ?_; rintro e w4 ⟨rfl, hb4⟩
          have HR4 := Lib.hid (HRA.out.below hb4)
          have c5 : w4.cell? ⟨w.heap.size + 1 + 1, 0, none⟩ = some (.map (some (w.heap.size + 1))) := HR4.out.c5.cellAt 0
          have c7 : w4.cell? ⟨wr.heap.size, 2, none⟩ = some (.int .i64 x.2) := (HFR.out.later hb4).cellAt 2
          clear hb4 HA HBA HRA HFR HX HR
          go_wp2_with ((with_reducible refine store_seti _ rfl (.tmp 31) (.tmp 33) (.tmp 34) 65 rfl 3 _ .i64 Try.underlying65 Try.underlying3 (w.heap.size + 1) _ rfl HR4.out.st x.2 rfl rfl ?_); intro w5 hS5 hg5 hs5; have HS5 := Lib.hid hS5; have HG5 := Lib.hid hg5; clear hS5 hg5 hs5)
          have HR5 : Hid (RmR w w5 G w.heap.size (w.heap.size + 1) (w.heap.size + 1 + 1) wh l (k + 1) (.slice (some ⟨gC, 0, none⟩) n cC)) := HR4.out.put hkl.out (by rw [← EX.out]; exact HFX.out) (by rw [← EX.out]; exact HS5.out) HG5.out
          clear HS5 HG5 HR4 c5 c7
          go_round
          case rel => exact ⟨k + 1, by omega, by go_num, HR5⟩
          case measure => simp [intOf]; omega
        | false =>
          rw [hf] at HA
          have HFX := Lib.hid hf
          clear hf
          go_wp2_with (with_reducible refine load_rg rfl 62 _ rfl gC (k * 3) rfl (arrE x) _ HX.out Try.underlying62 rfl (by kernel_rfl) ?_)
          refine HA.mono ?_; rintro e w4 ⟨rfl, hb4⟩
          have HR4 := Lib.hid ((HRA.out.below hb4).skip hkl.out (by rw [← EX.out]; exact HFX.out))
          clear hb4 HA HBA HRA HFR HX HR
          go_wp2_with fail
          go_round
          case rel => exact ⟨k + 1, by omega, by go_num, HR4⟩
          case measure => simp [intOf]; omega
      · have hkE : k = n := by omega
        subst hkE
        clear hk hkn
        have hH4 : HpP wr b h F (.slice (some ⟨g, 0, none⟩) k c) m l := hHn.out.below HR.out.be
        have H4 := Lib.hid hH4
        have c1 : wr.cell? ⟨h, 1, none⟩ = some (.slice (some ⟨g, 0, none⟩) k c) := hH4.bk.cellAt 1
        have HCH : Hid (SetI wr (w.heap.size + 1) (cho wh l)) := by
          have := HR.out.st
          rw [List.take_of_length_le (by rw [← HN.out]; exact Nat.le_refl _)] at this
          exact this
        have HN5 : Hid (w.heap.size + 1 + 1 ≠ g) := fun e => by
          rcases H4.out.ow.notBk HR.out.c5 (by decide) with h1 | h1
          · cases h1
          · exact h1 (by rw [e]; rfl)
        have HNM : Hid (w.heap.size + 1 ≠ g) := fun e => H4.out.ow.notSet HCH.out (by rw [e]; rfl)
        have KD := dfn_any b g k c (w.heap.size + 1 + 1) l (cho wh l) wr (by omega) (Lib.hid H4.out.ow) (Lib.hid (fun W hg x => delC_any (w.heap.size + 1 + 1) (w.heap.size + 1) (cho wh l) x W (Lib.hid ((HR.out.c5.grp hg HN5.out).cellAt 0)) (Lib.hid (HCH.out.grp hg HNM.out))))
        have hfe : l.filter (fun x => !cho wh l x.2) = l.filter (fun x => !wh x.1) := List.filter_congr fun x hx => by
          have hnd : (l.map Prod.snd).Nodup := ((hA.out.pm.map Prod.snd).nodup_iff).2 hA.out.un
          rw [cho_at hnd hx]
        rw [hfe] at KD
        clear hfe hH4
        go_wp2_with fail
        refine KD.mono ?_
        rintro e w5 ⟨i, rfl, hO5, hg5⟩
        clear KD
        have hli : i = (l.filter fun x => !wh x.1).length := by
          obtain ⟨A', c', hv, _⟩ := hO5.sl
          injection hv with _ e
          rw [e, List.length_map]
        have hB5 : Bk w5 h 60 #[F, .slice (some ⟨g, 0, none⟩) k c, .int .i64 m] := H4.out.bk.grp hg5 (fun e => HGH.out e.symm)
        have c5 : w5.cell? ⟨h, 1, none⟩ = some (.slice (some ⟨g, 0, none⟩) k c) := hB5.cellAt 1
        have f5 : w5.frozen? ⟨h, 1, none⟩ = false := hB5.free 1
        have HU := Lib.hid (H4.out.turn (hg5.wide fun q _ e => by rw [e]; rfl) hO5 fun q hq => .inl hq)
        have HLI := Lib.hid hli
        have hik : i ≤ k := by rw [hli, HN.out]; exact List.length_filter_le _ _
        have hw1 : wrap64 ((k : Int) - (i : Int)) = (k : Int) - (i : Int) := by unfold wrap64; omega
        obtain ⟨q0, hq0⟩ : ∃ q0, q0 = i / 2 := ⟨_, rfl⟩
        have hw2 : Int.tdiv (i : Int) 2 = (q0 : Int) := by rw [Int.tdiv_eq_ediv_of_nonneg (by omega)]; omega
        have hw3 : wrap64 (q0 : Int) = (q0 : Int) := by unfold wrap64; omega
        have hw4 : wrap64 ((q0 : Int) - 1) = (q0 : Int) - 1 := by unfold wrap64; omega
        have HBE := Lib.hid HR.out.be
        have HQ0 := Lib.hid hq0
        clear hO5 hg5 hB5 hli HR H4 HCH HN5 HNM c1 hq0
        go_wp2_with fail
        obtain ⟨W6, hW6⟩ : ∃ W, W = w5.setCell ⟨h, 1, none⟩ (.slice (some ⟨g, 0, none⟩) i c) := ⟨_, rfl⟩
        rw [← hW6] at HU ⊢
        have HHW : Hid (HwP W6 W6 b h F (some ⟨g, 0, none⟩) i c m (l.filter fun x => !wh x.1) (l.filter fun x => !wh x.1)) := ⟨HU.out.2.1, List.Perm.refl _, GrP.refl _ _⟩
        have HHP : Hid (HpF (leO lt) q0 (l.filter fun x => !wh x.1)) := HpF.end _ _ (by rw [← HLI.out, HQ0.out]; omega)
        have hq01 : q0 ≤ 900 := by rw [HQ0.out]; omega
        have KS := Lib.hid (fun (W : World) (l' : List (Px × Int)) (p : Nat) (hp : p ≤ 900) (H : HpP W b h F (.slice (some ⟨g, 0, none⟩) i c) m l') (hI : HpF (leO lt) (p + 1) l') => sinkP_any b h F (some ⟨g, 0, none⟩) i c m l' lt p p W (by omega) (by omega) (Nat.le_refl _) hO hW (Lib.hid H) (Lib.hid hI.sink))
        have HW4 := Lib.hid hw4
        clear hW6 c5 f5 hw2 hw3 hw4
        go_loopw [10] (fun s10 wx => ∃ (q : Nat) (z : Int) (l' : List (Px × Int)), q ≤ 900 ∧ s10 = .int .i64 z ∧ z = (q : Int) - 1 ∧ Hid (HwP W6 wx b h F (some ⟨g, 0, none⟩) i c m (l.filter fun x => !wh x.1) l') ∧ Hid (HpF (leO lt) q l')) (fun s10 wx => (intOf s10 + 1).toNat)
        case atStart => exact ⟨q0, _, _, hq01, rfl, HW4.out, HHW, HHP⟩
        case round =>
          clear HHW HHP hq01
          obtain ⟨q, z, l', hq, rfl, hz, HW2, HP2⟩ := hrel
          cases q with
          | zero =>
            have hz1 : z = -1 := by omega
            subst hz1
            clear hz
            go_wp2_with fail
            go_ret
            have hp1 := HW2.out.1
            refine ⟨?_, l', ⟨⟨_, hp1, fun q hq => .inl (hq.imp id id)⟩, ((GrP.ofBelow HBE.out).trans HU.out.1.2 |>.andThen HW2.out.2.2 fun q _ e => .inr e)⟩, hA.out.keep hW.out (fun x => !wh x.1) HW2.out.2.1 HP2.out⟩
            have e1 : B.length = k := by rw [← hA.out.len, ← HN.out]
            have e2 : (B.filter fun x => !wh x.1).length = i := by rw [HLI.out]; exact ((hA.out.pm.filter _).length_eq).symm
            rw [e1, e2]
            rfl
          | succ p =>
            have hz1 : z = (p : Int) := by omega
            subst hz1
            clear hz
            have hwp : wrap64 ((p : Int) - 1) = (p : Int) - 1 := by unfold wrap64; omega
            have hge : (0 : Int) ≤ (p : Int) := by omega
            go_wp2_with fail
            refine (KS.out _ l' p (by omega) HW2.out.1 HP2.out).mono ?_
            rintro e w7 ⟨rfl, l7, ⟨h7, hpm7, hgr7⟩, hp7⟩
            have HW7 : Hid (HwP W6 w7 b h F (some ⟨g, 0, none⟩) i c m (l.filter fun x => !wh x.1) l7) := ⟨h7, hpm7.trans HW2.out.2.1, HW2.out.2.2.trans hgr7⟩
            have HP7 := Lib.hid hp7
            clear h7 hpm7 hgr7 hp7 HW2 HP2
            go_wp2_with fail
            go_round
            case rel => exact ⟨p, _, l7, by omega, rfl, by first | rfl | omega, HW7, HP7⟩
            case measure => simp [intOf] <;> omega
end Go.Proofs.Ytkadcaihihgceaa
