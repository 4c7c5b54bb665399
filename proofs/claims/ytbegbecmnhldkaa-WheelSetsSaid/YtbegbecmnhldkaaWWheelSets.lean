/- The walk of WheelSets. No condition beyond the form's own. -/
import Derived.Test.YtbegbecmnhldkaaTwa
import Derived.Test.YtbegbecmnhldkaaTwo
import Derived.Test.YtbegbecmnhldkaaTw5
import Derived.Test.YtbegbecmnhldkaaRge
import Derived.Deep.RegionHeld3
import Derived.Lib.MinMax
namespace Go.Proofs.Ytbegbecmnhldkaa
open Go.RowKit
set_option linter.unusedSimpArgs false
set_option linter.unusedVariables false
theorem getT_put (E : List NT) (s : ByteArray) (t : Int) : getT (delT E s ++ [(s, t)]) s = some t := by
  unfold getT
  rw [List.find?_append, List.find?_eq_none.2 (fun p hp => by have := (delT_mem.1 hp).2; simpa using this)]
  simp
theorem getT_rest {E : List NT} (hn : (E.map Prod.fst).Nodup) {s : ByteArray} {t : Int} (h : getT E s = some t) (now : Int) : getT (restT E now) s = if t < now then none else some t := by
  have hm := getT_mem h
  by_cases hu : t < now
  · rw [if_pos hu]
    refine getT_none.2 fun p hp e => ?_
    obtain ⟨h1, h2⟩ := List.mem_filter.1 hp
    have := nt_one hn h1 hm e
    rw [this] at h2
    simp [dueB, hu] at h2
  · rw [if_neg hu]
    have hn2 : ((restT E now).map Prod.fst).Nodup := (List.filter_sublist.map _).nodup hn
    have hm2 : (s, t) ∈ restT E now := List.mem_filter.2 ⟨hm, by simp [dueB]; omega⟩
    exact getT_some hn2 hm2
theorem told_has {E : List NT} (hn : (E.map Prod.fst).Nodup) {s : ByteArray} {t now : Int} (h : getT E s = some t) {l : List ByteArray} (ht : ToldT E now l) : s ∈ l ↔ t < now := by
  have hm := getT_mem h
  rw [ht.1.mem_iff, List.mem_map]
  constructor
  · rintro ⟨p, hp, e⟩
    obtain ⟨h1, h2⟩ := List.mem_filter.1 hp
    have := nt_one hn h1 hm e
    rw [this] at h2
    simpa [dueB] using h2
  · intro hu
    exact ⟨(s, t), List.mem_filter.2 ⟨hm, by simpa [dueB] using hu⟩, rfl⟩
theorem told_none {E : List NT} {s : ByteArray} {now : Int} (h : getT E s = none) {l : List ByteArray} (ht : ToldT E now l) : s ∉ l := fun hs => by
  obtain ⟨p, hp, e⟩ := List.mem_map.1 (ht.1.mem_iff.1 hs)
  exact getT_none.1 h p (List.mem_filter.1 hp).1 e
theorem any_snoc (l : List ByteArray) (s : ByteArray) {j : Nat} (hj : j < l.length) : (l.take (j + 1)).any (fun y => sE y s) = ((l.take j).any (fun y => sE y s) || sE l[j] s) := by
  rw [List.take_succ_eq_append_getElem hj, List.any_append]; simp
theorem any_mem (l : List ByteArray) (s : ByteArray) : l.any (fun y => sE y s) = true ↔ s ∈ l := by
  rw [List.any_eq_true]
  constructor
  · rintro ⟨y, hy, h⟩; rw [← sE_iff.1 h]; exact hy
  · intro h; exact ⟨s, h, sE_iff.2 rfl⟩
namespace wheelSets
set_option maxHeartbeats 51200000 in
set_option maxRecDepth 100000 in
theorem walk (B0 : Option Addr) (N cap : Nat) (z : List Oe) (nm : ByteArray) (at_ now : Int) (w : World) (hn0 : N = z.length) (hr0 : RdK w 3 B0 (z.map eE)) (hc1 : N ≤ cap) (hc2 : cap ≤ 9223372036854775807) (hnm : nm.size ≤ 140737488351232) (_hw2 : (Lit.int .i64 at_).wf = true) (_hw3 : (Lit.int .i64 now).wf = true) :
    Calls Try.prog 5 #[.slice B0 N cap, .string nm, .int .i64 at_, .int .i64 now] w fun r w' => r = .returned (.bool true) ∧ Below w.heap.size w w' := by
  have K1 := Lib.hid (fun W => awake19_any W)
  have K7 := Lib.hid (fun (A : Option Addr) (n c : Nat) (l : List Oe) (W : World) (hn : n = l.length) (hm : n ≤ 9223372036854775807) (hr : RdK W 3 A (l.map eE)) => few19_any A n c l W (Lib.hid hn) hm (Lib.hid hr))
  have HN := Lib.hid hn0
  have HRD : Hid (RdK w 3 B0 (z.map eE)) := hr0
  have HNM : Hid (N ≤ 9223372036854775807) := by show _ ≤ _; omega
  clear hn0 hr0 hc1 hc2
  have KN := Lib.hid (fun (W : World) (h : Below w.heap.size w W) => wx_new (w := w) W h)
  have KP := Lib.hid (fun (W : World) (g : Nat) (M : Nat → Value) (D : List NT) (s : ByteArray) (t : Int) (H : Wxe w W g M D) => wx_set s t H)
  have KA := Lib.hid (fun (W : World) (g : Nat) (M : Nat → Value) (D : List NT) (t : Int) (hl : D.length ≤ 1000) (H : Wxe w W g M D) => wx_due t hl H)
  have KG := Lib.hid (fun (W : World) (g : Nat) (M : Nat → Value) (D : List NT) (s : ByteArray) (H : Wxe w W g M D) => atT_any w.heap.size g M D s W (Lib.hid H.ix))
  have KD := Lib.hid (fun (W : World) (g : Nat) (M : Nat → Value) (D : List NT) (s : ByteArray) (H : Wxe w W g M D) => wx_del s H)
  obtain ⟨mx, hmx⟩ : ∃ mx, mx = max at_ now := ⟨_, rfl⟩
  have hmxe : (max at_ now : Int) = mx := hmx.symm
  clear hmx
  go_enter Try.func5, Try.ntmps5
  go_wp2_with fail
  refine (K1.out _).mono ?_; rintro e w1 ⟨rfl, hb1⟩
  have HB1 := Lib.hid hb1
  clear hb1
  go_wp2_with fail
  refine (K7.out B0 N cap z _ HN.out HNM.out (HRD.out.later HB1.out)).mono ?_; rintro e w2 ⟨⟨b, rfl, hfew⟩, hb2⟩
  have HB2 := Lib.hid (HB1.out.trans (hb2.mono HB1.out.size))
  clear hb2 HB1 HNM
  cases b with
  | false =>
    go_wp2_with fail
    refine (K1.out _).mono ?_; rintro e w3 ⟨rfl, hb3⟩
    go_wp2_with fail
    go_ret
    exact ⟨rfl, HB2.out.trans (hb3.mono HB2.out.size)⟩
  | true =>
    have HN300 : Hid (N ≤ 300) := hfew rfl
    clear hfew
    by_cases hns : nm.size ≤ 1000
    case neg =>
      have hni : (1000 : Int) < (nm.size : Int) := by omega
      clear hns
      go_wp2_with fail
      refine (K1.out _).mono ?_; rintro e w3 ⟨rfl, hb3⟩
      go_wp2_with fail
      go_ret
      exact ⟨rfl, HB2.out.trans (hb3.mono HB2.out.size)⟩
    have hni : ¬ (1000 : Int) < (nm.size : Int) := by omega
    clear hns
    go_wp2_with fail
    refine (KN.out _ HB2.out).mono ?_; rintro e w3 ⟨⟨rfl, hX3⟩, -⟩
    obtain ⟨g, hg⟩ : ∃ g, g = w2.heap.size := ⟨_, rfl⟩
    rw [← hg] at hX3 ⊢
    have HX3 := Lib.hid hX3
    clear hX3 hg HB2
    go_wp2_with fail
    clear hni
    go_loopw [37] (fun s37 wr => ∃ (i : Nat) (M : Nat → Value) (E : List NT), i ≤ N ∧ s37 = .int .i64 i ∧ Hid (E.length ≤ i) ∧ Hid (Wxe w wr g M E)) (fun s37 wr => N - (intOf s37).toNat)
    case atStart => exact ⟨0, _, _, Nat.zero_le _, rfl, Nat.le_refl _, HX3⟩
    case round =>
      clear HX3
      obtain ⟨i, M, E, hi, rfl, HLL, HB⟩ := hrel
      by_cases hin : i < N
      · skip
        obtain ⟨q, o, hA, hx⟩ := HRD.out.at (i := i) (by rw [List.length_map, ← HN.out]; exact hin)
        rw [List.getElem_map] at hx
        obtain ⟨⟨kd, t, s⟩, ex⟩ : ∃ x, x = z[i]'(by rw [← HN.out]; exact hin) := ⟨_, rfl⟩
        rw [← ex] at hx
        subst hA
        have hc2 : w.cell? ⟨q, o + i * 3 + 2, none⟩ = some (.string s) := by simpa using hx 2 _ rfl
        have hc1 : w.cell? ⟨q, o + i * 3 + 1, none⟩ = some (.int .i64 t) := by simpa using hx 1 _ rfl
        have hqb : q < w.heap.size := World.block_lt_of_cell? w _ hc2
        have HC2 : Hid (∀ W, Below w.heap.size w W → W.cell? ⟨q, o + i * 3 + 2, none⟩ = some (.string s)) := fun W hb => (hb.cell (p := ⟨q, o + i * 3 + 2, none⟩) hqb).trans hc2
        have HC1 : Hid (∀ W, Below w.heap.size w W → W.cell? ⟨q, o + i * 3 + 1, none⟩ = some (.int .i64 t)) := fun W hb => (hb.cell (p := ⟨q, o + i * 3 + 1, none⟩) hqb).trans hc1
        have hw1 : wrap64 ((i : Int) + 1) = ((i + 1 : Nat) : Int) := by have := HN300.out; unfold wrap64; omega
        clear hx ex hc1 hc2 hqb
        go_wp2_with fail
        refine wp_region_held_drew (S := fun W => Below w.heap.size w W) (by kernel_rfl) ((HB.out.be).trans (Below.drew (Below.refl _ _))) (fun hS0 => ?_)
        refine wpAnyH_take (i := 0) (v := ?_) rfl (by kernel_rfl) (by kernel_rfl) (by kernel_rfl) (fun _ _ _ h => h) (Or.inl ⟨by rfl, ?_⟩) hS0 ?_
        rotate_left
        · intro W _; go_simp; try with_reducible rfl
        try simp only [Act.put, List.getElem_toArray, List.getElem_cons_zero, List.setIfInBounds_toArray, List.set_cons_zero, List.set_cons_succ]
        refine wpAnyH_take (i := 1) (v := ?_) rfl (by kernel_rfl) (by kernel_rfl) (by kernel_rfl) (fun _ _ _ h => h) (Or.inl ⟨by rfl, ?_⟩) hS0 ?_
        rotate_left
        · intro W _; go_simp; try with_reducible rfl
        try simp only [Act.put, List.getElem_toArray, List.getElem_cons_zero, List.getElem_cons_succ, List.setIfInBounds_toArray, List.set_cons_zero, List.set_cons_succ]
        refine wpAnyH_take (i := 2) (v := ?_) rfl (by kernel_rfl) (by kernel_rfl) (by kernel_rfl) (fun _ _ _ h => h) (Or.inl ⟨by rfl, ?_⟩) hS0 ?_
        rotate_left
        · intro W _; go_simp; try with_reducible rfl
        try simp only [Act.put, List.getElem_toArray, List.getElem_cons_zero, List.getElem_cons_succ, List.setIfInBounds_toArray, List.set_cons_zero, List.set_cons_succ]
        refine wpAnyH_take (i := 3) (v := ?_) rfl (by kernel_rfl) (by kernel_rfl) (by kernel_rfl) (fun _ _ _ h => h) (Or.inl ⟨by rfl, ?_⟩) hS0 ?_
        rotate_left
        · intro W _; go_simp; try with_reducible rfl
        try simp only [Act.put, List.getElem_toArray, List.getElem_cons_zero, List.getElem_cons_succ, List.setIfInBounds_toArray, List.set_cons_zero, List.set_cons_succ]
        refine wpAnyH_take (i := 4) (v := ?_) rfl (by kernel_rfl) (by kernel_rfl) (by kernel_rfl) (fun _ _ _ h => h) (Or.inl ⟨by rfl, ?_⟩) hS0 ?_
        rotate_left
        · intro W _; go_simp; try with_reducible rfl
        try simp only [Act.put, List.getElem_toArray, List.getElem_cons_zero, List.getElem_cons_succ, List.setIfInBounds_toArray, List.set_cons_zero, List.set_cons_succ]
        refine wpAnyH_take (i := 5) (v := ?_) rfl (by kernel_rfl) (by kernel_rfl) (by kernel_rfl) (fun _ _ _ h => h) (Or.inl ⟨by rfl, ?_⟩) hS0 ?_
        rotate_left
        · intro W hSW; have hx := HC2.out W hSW; go_simp; try with_reducible rfl
        try simp only [Act.put, List.getElem_toArray, List.getElem_cons_zero, List.getElem_cons_succ, List.setIfInBounds_toArray, List.set_cons_zero, List.set_cons_succ]
        refine wpAnyH_take (i := 6) (v := ?_) rfl (by kernel_rfl) (by kernel_rfl) (by kernel_rfl) (fun _ _ _ h => h) (Or.inl ⟨by rfl, ?_⟩) hS0 ?_
        rotate_left
        · intro W _; go_simp; try with_reducible rfl
        try simp only [Act.put, List.getElem_toArray, List.getElem_cons_zero, List.getElem_cons_succ, List.setIfInBounds_toArray, List.set_cons_zero, List.set_cons_succ]
        refine wpAnyH_take (i := 7) (v := ?_) rfl (by kernel_rfl) (by kernel_rfl) (by kernel_rfl) (fun _ _ _ h => h) (Or.inl ⟨by rfl, ?_⟩) hS0 ?_
        rotate_left
        · intro W _; go_simp; try with_reducible rfl
        try simp only [Act.put, List.getElem_toArray, List.getElem_cons_zero, List.getElem_cons_succ, List.setIfInBounds_toArray, List.set_cons_zero, List.set_cons_succ]
        refine wpAnyH_take (i := 8) (v := ?_) rfl (by kernel_rfl) (by kernel_rfl) (by kernel_rfl) (fun _ _ _ h => h) (Or.inl ⟨by rfl, ?_⟩) hS0 ?_
        rotate_left
        · intro W _; go_simp; try with_reducible rfl
        try simp only [Act.put, List.getElem_toArray, List.getElem_cons_zero, List.getElem_cons_succ, List.setIfInBounds_toArray, List.set_cons_zero, List.set_cons_succ]
        refine wpAnyH_take (i := 9) (v := ?_) rfl (by kernel_rfl) (by kernel_rfl) (by kernel_rfl) (fun _ _ _ h => h) (Or.inl ⟨by rfl, ?_⟩) hS0 ?_
        rotate_left
        · intro W _; go_simp; try with_reducible rfl
        try simp only [Act.put, List.getElem_toArray, List.getElem_cons_zero, List.getElem_cons_succ, List.setIfInBounds_toArray, List.set_cons_zero, List.set_cons_succ]
        refine wpAnyH_take (i := 10) (v := ?_) rfl (by kernel_rfl) (by kernel_rfl) (by kernel_rfl) (fun _ _ _ h => h) (Or.inl ⟨by rfl, ?_⟩) hS0 ?_
        rotate_left
        · intro W hSW; have hx := HC1.out W hSW; go_simp; try with_reducible rfl
        try simp only [Act.put, List.getElem_toArray, List.getElem_cons_zero, List.getElem_cons_succ, List.setIfInBounds_toArray, List.set_cons_zero, List.set_cons_succ]
        refine wpAnyH_ready (rs := [11]) (by kernel_rfl) (by simp) ?_
        refine AllReadyH.cons rfl (fun K hK => ?_) AllReadyH.nil
        go_simp
        refine (KP.out _ g M E s t (HB.out.below (Below.drew (Below.refl _ _)))).mono ?_
        rintro e w4 ⟨rfl, ⟨M', hO, hM'⟩, hg⟩
        have H4 := Lib.hid hO
        clear hO hM' hg
        go_simp
        refine hK.out _ _ (H4.out.be) (fun hS1 => ?_)
        clear hK K
        try simp only [Act.put, List.getElem_toArray, List.getElem_cons_zero, List.getElem_cons_succ, List.setIfInBounds_toArray, List.set_cons_zero, List.set_cons_succ]
        refine wpAnyH_done (by kernel_rfl) ?_ _
        have HLI : Hid ((delT E s ++ [(s, t)]).length ≤ i + 1) := by show _ ≤ _; have h2 := delT_len E s; have h3 := HLL.out; rw [List.length_append]; simp only [List.length_cons, List.length_nil]; omega
        clear hS0 hS1 HB HC1 HC2
        go_wp2_with fail
        go_round
        case rel => exact ⟨i + 1, _, _, by omega, by go_num, HLI, H4⟩
        case measure =>
          first
          | (rw [hw1]; show N - ((i + 1 : Nat) : Int).toNat < N - ((i : Nat) : Int).toNat; rw [Int.toNat_natCast, Int.toNat_natCast]; omega)
          | (show N - ((i : Int) + 1).toNat < N - ((i : Nat) : Int).toNat; omega)
      · have hie : i = N := by omega
        subst hie
        clear hi hin
        have HD1L : Hid ((delT E nm ++ [(nm, at_)]).length ≤ 301) := by show _ ≤ _; have h2 := delT_len E nm; have h3 := HLL.out; have := HN300.out; rw [List.length_append]; simp only [List.length_cons, List.length_nil]; omega
        go_wp2_with fail
        refine (KP.out _ g M E nm at_ HB.out).mono ?_
        rintro e w4 ⟨rfl, ⟨M4, hO, -⟩, -⟩
        obtain ⟨D1, hD1⟩ : ∃ D, D = delT E nm ++ [(nm, at_)] := ⟨_, rfl⟩
        have HG1 : Hid (getT D1 nm = some at_) := by show _ = _; rw [hD1]; exact getT_put E nm at_
        rw [← hD1] at hO HD1L
        have H4 := Lib.hid hO
        clear hO hD1 HB HLL
        go_wp2_with fail
        refine (KG.out w4 g M4 D1 nm H4.out).mono ?_
        rintro e w5 ⟨rfl, hb5⟩
        rw [HG1.out]
        have H5 := Lib.hid (H4.out.below hb5)
        clear hb5 H4
        go_wp2_with fail
        refine (KA.out w5 g M4 D1 now (by have := HD1L.out; omega) H5.out).mono ?_
        rintro e w6 ⟨⟨l, n, A, c, rfl, hn, hn1, ho6, ht⟩, hO, -⟩
        have HHAS : Hid (nm ∈ l ↔ at_ < now) := told_has H5.out.ix.nodup HG1.out ht
        have HG2 : Hid (getT (restT D1 now) nm = if at_ < now then none else some at_) := getT_rest H5.out.ix.nodup HG1.out now
        have HD2L : Hid ((restT D1 now).length ≤ 301) := Nat.le_trans (List.length_filter_le _ _) HD1L.out
        obtain ⟨D2, hD2⟩ : ∃ D, D = restT D1 now := ⟨_, rfl⟩
        rw [← hD2] at hO HG2 HD2L
        have H6 := Lib.hid hO
        have HNl := Lib.hid hn
        have HN1 := Lib.hid hn1
        have HSl : Hid (RdS w6 A l) := by
          obtain ⟨A', c', hv, hr6, -, -⟩ := ho6.rds
          injection hv with e1
          subst e1
          exact hr6
        clear hO hD2 H5 HG1 hn hn1 ho6 ht HD1L
        go_wp2_with fail
        go_loopw [75, 14] (fun s75 s14 wr => ∃ (j : Nat) (f : Bool), j ≤ n ∧ s75 = .int .i64 j ∧ s14 = .bool f ∧ Hid (f = (l.take j).any (fun y => sE y nm)) ∧ wr = w6) (fun s75 s14 wr => n - (intOf s75).toNat)
        case atStart => exact ⟨0, false, Nat.zero_le _, rfl, rfl, rfl, rfl⟩
        case round =>
          obtain ⟨j, f, hj, rfl, rfl, HF, hwr⟩ := hrel
          rw [hwr]
          clear hwr wr
          by_cases hjn : j < n
          · have hjl : Hid (j < l.length) := by show j < l.length; rw [← HNl.out]; exact hjn
            obtain ⟨y, hy⟩ : ∃ y, y = l[j]'hjl.out := ⟨_, rfl⟩
            obtain ⟨gl, ol, hA, hgl, hcl⟩ := HSl.out.at hjl.out
            rw [← hy] at hcl
            have HF2 : Hid ((l.take (j + 1)).any (fun y => sE y nm) = (f || sE y nm)) := by show _ = _; rw [any_snoc l nm hjl.out, ← HF.out, hy]
            subst hA
            have hw1 : wrap64 ((j : Int) + 1) = ((j + 1 : Nat) : Int) := by have := HN1.out; unfold wrap64; omega
            clear hy hgl
            cases f with
            | true =>
              have HF3 : Hid (true = (l.take (j + 1)).any (fun y => sE y nm)) := by show _ = _; rw [HF2.out]; rfl
              clear HF HF2 hcl
              go_wp2_with fail
              go_round
              case rel => exact ⟨j + 1, true, by omega, by go_num, rfl, HF3, trivial⟩
              case measure =>
                first
                | (rw [hw1]; show n - ((j + 1 : Nat) : Int).toNat < n - ((j : Nat) : Int).toNat; rw [Int.toNat_natCast, Int.toNat_natCast]; omega)
                | (show n - ((j : Int) + 1).toNat < n - ((j : Nat) : Int).toNat; omega)
            | false =>
              obtain ⟨f2, hf2⟩ : ∃ f2, f2 = (y.toList == nm.toList) := ⟨_, rfl⟩
              have hf2e : (y.toList == nm.toList) = f2 := hf2.symm
              have HF3 : Hid (f2 = (l.take (j + 1)).any (fun y => sE y nm)) := by show _ = _; rw [HF2.out, hf2]; rfl
              clear HF HF2 hf2
              go_wp2_with fail
              go_round
              case rel => exact ⟨j + 1, f2, by omega, by go_num, rfl, HF3, trivial⟩
              case measure =>
                first
                | (rw [hw1]; show n - ((j + 1 : Nat) : Int).toNat < n - ((j : Nat) : Int).toNat; rw [Int.toNat_natCast, Int.toNat_natCast]; omega)
                | (show n - ((j : Int) + 1).toNat < n - ((j : Nat) : Int).toNat; omega)
          · have hjn2 : j = n := by omega
            have HFa : Hid (f = true ↔ at_ < now) := by
              have h1 := HF.out
              rw [hjn2, HNl.out, List.take_length] at h1
              show _ ↔ _
              rw [h1, any_mem]
              exact HHAS.out
            clear HF hj hjn HSl HNl HN1 HHAS
            subst hjn2
            go_wp2_with fail
            refine (KG.out w6 g M4 D2 nm H6.out).mono ?_
            rintro e w7 ⟨rfl, hb7⟩
            have H7 := Lib.hid (H6.out.below hb7)
            obtain ⟨d, hd⟩ : ∃ d, d = (getT D2 nm).isSome := ⟨_, rfl⟩
            obtain ⟨y, hy⟩ : ∃ y, y = (getT D2 nm).getD 0 := ⟨_, rfl⟩
            rw [← hd, ← hy]
            have HDF : Hid (d = !f) := by
              show d = !f
              rw [hd, HG2.out]
              by_cases hu : at_ < now
              · rw [if_pos hu, HFa.out.2 hu]; rfl
              · rw [if_neg hu]
                cases f with
                | true => exact absurd (HFa.out.1 rfl) hu
                | false => rfl
            clear hb7 hd hy H6 HG2
            have key : decide (at_ < now) = f := by
              cases f with
              | true => exact decide_eq_true (HFa.out.1 rfl)
              | false => exact decide_eq_false fun h => by have := HFa.out.2 h; cases this
            have HD3 : Hid ((delT D2 nm ++ [(nm, at_)]).length ≤ 302) := by show _ ≤ _; have h2 := delT_len D2 nm; have h3 := HD2L.out; rw [List.length_append]; simp only [List.length_cons, List.length_nil]; omega
            have hdf : d = !f := HDF.out
            subst hdf
            clear HDF HFa HD2L
            cases f with
            | true =>
              have hu : at_ < now := of_decide_eq_true key
              clear key
              go_wp2_with fail
              refine (KP.out w7 g M4 D2 nm at_ H7.out).mono ?_
              rintro e w8 ⟨rfl, ⟨M8, hO, -⟩, -⟩
              obtain ⟨D3, hD3⟩ : ∃ D, D = delT D2 nm ++ [(nm, at_)] := ⟨_, rfl⟩
              have HG3 : Hid ((getT D3 nm).isSome = true) := by show _ = _; rw [hD3, getT_put D2 nm at_]; rfl
              rw [← hD3] at hO HD3
              have H8 := Lib.hid hO
              clear hO hD3 H7 hu
              go_wp2_with fail
              refine (KD.out w8 g M8 D3 nm H8.out).mono ?_
              rintro e w9 ⟨rfl, hO, -⟩
              rw [HG3.out]
              have H9 := Lib.hid hO
              have HG4 : Hid ((getT (delT D3 nm) nm).isSome = false) := by show _ = _; rw [getT_del D3 nm]; rfl
              clear hO H8 HG3
              go_wp2_with fail
              refine (KD.out w9 g M8 (delT D3 nm) nm H9.out).mono ?_
              rintro e wa ⟨rfl, hO, -⟩
              rw [HG4.out]
              obtain ⟨D5, hD5⟩ : ∃ D, D = delT (delT D3 nm) nm := ⟨_, rfl⟩
              have HG5 : Hid (getT D5 nm = none) := by show _ = _; rw [hD5]; exact getT_del _ nm
              have HD5L : Hid (D5.length ≤ 1000) := by show _ ≤ _; rw [hD5]; have h1 := delT_len (delT D3 nm) nm; have h2 := delT_len D3 nm; have h3 := HD3.out; omega
              rw [← hD5] at hO
              have HA := Lib.hid hO
              clear hO hD5 H9 HG4 HD3
              go_wp2_with fail
              refine (KA.out wa g M8 D5 mx HD5L.out HA.out).mono ?_
              rintro e wb ⟨⟨l2, n2, A2, c2, rfl, hn, hn1, ho6, ht⟩, hO, -⟩
              have HNOT : Hid (nm ∉ l2) := told_none HG5.out ht
              have HNl := Lib.hid hn
              have HN1 := Lib.hid hn1
              have HBE := Lib.hid hO.be
              have HSl : Hid (RdS wb A2 l2) := by
                obtain ⟨A', c', hv, hr6, -, -⟩ := ho6.rds
                injection hv with e1
                subst e1
                exact hr6
              clear hO hn hn1 ho6 ht HA HG5 HD5L
              go_wp2_with fail
              go_loopw [124] (fun s124 wr => ∃ j : Nat, j ≤ n2 ∧ s124 = .int .i64 j ∧ wr = wb) (fun s124 wr => n2 - (intOf s124).toNat)
              case atStart => exact ⟨0, Nat.zero_le _, rfl, rfl⟩
              case round =>
                obtain ⟨j2, hj, rfl, hwr⟩ := hrel
                rw [hwr]
                clear hwr wr
                by_cases hjn : j2 < n2
                · have hjl : Hid (j2 < l2.length) := by show j2 < l2.length; rw [← HNl.out]; exact hjn
                  obtain ⟨y2, hy⟩ : ∃ y, y = l2[j2]'hjl.out := ⟨_, rfl⟩
                  obtain ⟨gl, ol, hA, hgl, hcl⟩ := HSl.out.at hjl.out
                  rw [← hy] at hcl
                  have hne : (y2.toList == nm.toList) = false := by
                    cases h : sE y2 nm with
                    | false => exact h
                    | true =>
                      refine absurd ?_ HNOT.out
                      rw [← sE_iff.1 h, hy]
                      exact List.getElem_mem _
                  subst hA
                  have hw1 : wrap64 ((j2 : Int) + 1) = ((j2 + 1 : Nat) : Int) := by have := HN1.out; unfold wrap64; omega
                  clear hy hgl
                  go_wp2_with fail
                  go_round
                  case rel => exact ⟨j2 + 1, by omega, by go_num, trivial⟩
                  case measure =>
                    first
                    | (rw [hw1]; show n2 - ((j2 + 1 : Nat) : Int).toNat < n2 - ((j2 : Nat) : Int).toNat; rw [Int.toNat_natCast, Int.toNat_natCast]; omega)
                    | (show n2 - ((j2 : Int) + 1).toNat < n2 - ((j2 : Nat) : Int).toNat; omega)
                · have hjn2 : j2 = n2 := by omega
                  subst hjn2
                  clear hj hjn
                  go_wp2_with fail
                  go_ret
                  exact ⟨rfl, HBE.out⟩
            | false =>
              have hu : ¬ at_ < now := of_decide_eq_false key
              clear key
              go_wp2_with fail
              refine (KP.out w7 g M4 D2 nm at_ H7.out).mono ?_
              rintro e w8 ⟨rfl, ⟨M8, hO, -⟩, -⟩
              obtain ⟨D3, hD3⟩ : ∃ D, D = delT D2 nm ++ [(nm, at_)] := ⟨_, rfl⟩
              have HG3 : Hid ((getT D3 nm).isSome = true) := by show _ = _; rw [hD3, getT_put D2 nm at_]; rfl
              rw [← hD3] at hO HD3
              have H8 := Lib.hid hO
              clear hO hD3 H7 hu
              go_wp2_with fail
              refine (KD.out w8 g M8 D3 nm H8.out).mono ?_
              rintro e w9 ⟨rfl, hO, -⟩
              rw [HG3.out]
              have H9 := Lib.hid hO
              have HG4 : Hid ((getT (delT D3 nm) nm).isSome = false) := by show _ = _; rw [getT_del D3 nm]; rfl
              clear hO H8 HG3
              go_wp2_with fail
              refine (KD.out w9 g M8 (delT D3 nm) nm H9.out).mono ?_
              rintro e wa ⟨rfl, hO, -⟩
              rw [HG4.out]
              obtain ⟨D5, hD5⟩ : ∃ D, D = delT (delT D3 nm) nm := ⟨_, rfl⟩
              have HG5 : Hid (getT D5 nm = none) := by show _ = _; rw [hD5]; exact getT_del _ nm
              have HD5L : Hid (D5.length ≤ 1000) := by show _ ≤ _; rw [hD5]; have h1 := delT_len (delT D3 nm) nm; have h2 := delT_len D3 nm; have h3 := HD3.out; omega
              rw [← hD5] at hO
              have HA := Lib.hid hO
              clear hO hD5 H9 HG4 HD3
              go_wp2_with fail
              refine (KA.out wa g M8 D5 mx HD5L.out HA.out).mono ?_
              rintro e wb ⟨⟨l2, n2, A2, c2, rfl, hn, hn1, ho6, ht⟩, hO, -⟩
              have HNOT : Hid (nm ∉ l2) := told_none HG5.out ht
              have HNl := Lib.hid hn
              have HN1 := Lib.hid hn1
              have HBE := Lib.hid hO.be
              have HSl : Hid (RdS wb A2 l2) := by
                obtain ⟨A', c', hv, hr6, -, -⟩ := ho6.rds
                injection hv with e1
                subst e1
                exact hr6
              clear hO hn hn1 ho6 ht HA HG5 HD5L
              go_wp2_with fail
              go_loopw [124] (fun s124 wr => ∃ j : Nat, j ≤ n2 ∧ s124 = .int .i64 j ∧ wr = wb) (fun s124 wr => n2 - (intOf s124).toNat)
              case atStart => exact ⟨0, Nat.zero_le _, rfl, rfl⟩
              case round =>
                obtain ⟨j2, hj, rfl, hwr⟩ := hrel
                rw [hwr]
                clear hwr wr
                by_cases hjn : j2 < n2
                · have hjl : Hid (j2 < l2.length) := by show j2 < l2.length; rw [← HNl.out]; exact hjn
                  obtain ⟨y2, hy⟩ : ∃ y, y = l2[j2]'hjl.out := ⟨_, rfl⟩
                  obtain ⟨gl, ol, hA, hgl, hcl⟩ := HSl.out.at hjl.out
                  rw [← hy] at hcl
                  have hne : (y2.toList == nm.toList) = false := by
                    cases h : sE y2 nm with
                    | false => exact h
                    | true =>
                      refine absurd ?_ HNOT.out
                      rw [← sE_iff.1 h, hy]
                      exact List.getElem_mem _
                  subst hA
                  have hw1 : wrap64 ((j2 : Int) + 1) = ((j2 + 1 : Nat) : Int) := by have := HN1.out; unfold wrap64; omega
                  clear hy hgl
                  go_wp2_with fail
                  go_round
                  case rel => exact ⟨j2 + 1, by omega, by go_num, trivial⟩
                  case measure =>
                    first
                    | (rw [hw1]; show n2 - ((j2 + 1 : Nat) : Int).toNat < n2 - ((j2 : Nat) : Int).toNat; rw [Int.toNat_natCast, Int.toNat_natCast]; omega)
                    | (show n2 - ((j2 : Int) + 1).toNat < n2 - ((j2 : Nat) : Int).toNat; omega)
                · have hjn2 : j2 = n2 := by omega
                  subst hjn2
                  clear hj hjn
                  go_wp2_with fail
                  go_ret
                  exact ⟨rfl, HBE.out⟩
end wheelSets
end Go.Proofs.Ytbegbecmnhldkaa
