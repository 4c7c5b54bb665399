/- The walk of BucketMore. No condition beyond the form's own. -/
import Derived.Test.YtiklogoookngaaaBwk
import Derived.Test.YtiklogoookngaaaBop
import Derived.Test.YtiklogoookngaaaRge
import Derived.Deep.RegionHeld3
namespace Go.Proofs.Ytiklogoookngaaa
open Go.RowKit
set_option linter.unusedSimpArgs false
set_option linter.unusedVariables false
/-- What is still to be found stands from here on. -/
def Ahead (l m : List ByteArray) (at_ i : Nat) : Prop := ∀ j (hj : j < m.length), i ≤ j → ∃ k, ∃ hk : k < l.length, at_ ≤ k ∧ l[k] = m[j]
theorem ahead_start {l m : List ByteArray} (h : ∀ x ∈ m, x ∈ l) : Ahead l m 0 0 := fun j hj _ => by
  obtain ⟨k, hk, e⟩ := List.getElem_of_mem (h _ (List.getElem_mem hj))
  exact ⟨k, hk, Nat.zero_le _, e⟩
theorem ahead_next {l m : List ByteArray} {a i : Nat} (h : Ahead l m a i) : Ahead l m a (i + 1) := fun j hj hij => h j hj (by omega)
theorem ahead_in {l m : List ByteArray} {a i : Nat} (h : Ahead l m a i) (hi : i < m.length) : a < l.length := by
  obtain ⟨k, hk, h1, _⟩ := h i hi (Nat.le_refl _)
  omega
theorem ahead_skip {l m : List ByteArray} {a i : Nat} (hl : l.Pairwise fun x y => sL x y = true) (hm : m.Pairwise fun x y => sL x y = true) (h : Ahead l m a i) (hi : i < m.length) (ha : a < l.length) (hne : l[a] ≠ m[i]) : Ahead l m (a + 1) i := fun j hj hij => by
  obtain ⟨k, hk, h1, h2⟩ := h j hj hij
  rcases Nat.lt_or_ge a k with h3 | h3
  · exact ⟨k, hk, h3, h2⟩
  · have hka : k = a := by omega
    subst hka
    obtain ⟨k', hk', h4, h5⟩ := h i hi (Nat.le_refl _)
    have hij' : i < j := by
      rcases Nat.lt_or_ge i j with h6 | h6
      · exact h6
      · have : j = i := by omega
        subst this
        exact absurd h2 hne
    have h6 := List.pairwise_iff_getElem.1 hm i j hi hj hij'
    rcases Nat.lt_or_ge k k' with h7 | h7
    · have h8 := List.pairwise_iff_getElem.1 hl k k' hk hk' h7
      rw [h2, h5] at h8
      have := sL_asymm h6
      rw [h8] at this; cases this
    · have : k' = k := by omega
      subst this
      exact absurd h5 hne
theorem told_sub {D : List NV} {t u : R3} {l m : List ByteArray} (h1 : t.1 ≤ u.1) (h2 : t.2.1 ≤ u.2.1) (h3 : t.2.2 ≤ u.2.2) (hl : Told D t l) (hm : Told D u m) : ∀ x ∈ m, x ∈ l := fun x hx => by
  have h := hm.1.mem_iff.1 hx
  obtain ⟨p, hp, rfl⟩ := List.mem_map.1 h
  obtain ⟨hp1, hp2⟩ := List.mem_filter.1 hp
  have := fitV_iff.1 hp2
  exact hl.1.mem_iff.2 (List.mem_map.2 ⟨p, List.mem_filter.2 ⟨hp1, fitV_iff.2 ⟨by omega, by omega, by omega⟩⟩, rfl⟩)
namespace bucketMore
set_option maxHeartbeats 51200000 in
set_option maxRecDepth 100000 in
theorem walk (B0 : Option Addr) (N cap : Nat) (z : List Oq) (a1 a2 a3 m1 m2 m3 : Int) (w : World) (hn0 : N = z.length) (hr0 : RdK w 5 B0 (z.map eQ)) (hc1 : N ≤ cap) (hc2 : cap ≤ 9223372036854775807) (hv0 : ∀ y ∈ z, okV y.2.2) (ha0 : -9223372036854775808 ≤ a1 ∧ a1 ≤ 9223372036854775807) (hm0 : -9223372036854775808 ≤ m1 ∧ m1 ≤ 9223372036854775807) :
    Calls Try.prog 5 #[.slice B0 N cap, .agg #[.int .i64 a1, .int .i64 a2, .int .i64 a3], .agg #[.int .i64 m1, .int .i64 m2, .int .i64 m3]] w fun r w' => r = .returned (.bool true) ∧ Below w.heap.size w w' := by
  obtain ⟨a, ha⟩ : ∃ a : R3, a = (a1, a2, a3) := ⟨_, rfl⟩
  obtain rfl : a1 = a.1 := by rw [ha]
  obtain rfl : a2 = a.2.1 := by rw [ha]
  obtain rfl : a3 = a.2.2 := by rw [ha]
  clear ha
  have HA0 : Hid (okV a) := ha0
  have HM0 := Lib.hid hm0
  clear ha0 hm0
  have K1 := Lib.hid (fun W => awake17_any W)
  have K7 := Lib.hid (fun (A : Option Addr) (n c : Nat) (l : List Oq) (W : World) (hn : n = l.length) (hm : n ≤ 9223372036854775807) (hr : RdK W 5 A (l.map eQ)) => few17_any A n c l W (Lib.hid hn) hm (Lib.hid hr))
  have HN := Lib.hid hn0
  have HRD : Hid (RdK w 5 B0 (z.map eQ)) := hr0
  have HVZ := Lib.hid hv0
  have HNM : Hid (N ≤ 9223372036854775807) := by show _ ≤ _; omega
  clear hn0 hr0 hv0 hc1 hc2
  have KN := Lib.hid (fun (W : World) (h : Below w.heap.size w W) => x_new (w := w) W h)
  have KP := Lib.hid (fun (W : World) (g : Nat) (M : Nat → Value) (D : List NV) (s : ByteArray) (t : R3) (ht : okV t) (H : Xe w W g M D) => x_put s t ht H)
  have KA := Lib.hid (fun (W : World) (g : Nat) (M : Nat → Value) (D : List NV) (t : R3) (ht : okV t) (hl : D.length ≤ 1000) (H : Xe w W g M D) => x_atLeast t ht hl H)
  obtain ⟨p, hp⟩ : ∃ p, p = w.heap.size := ⟨_, rfl⟩
  obtain ⟨p2, hp2⟩ : ∃ p, p = w.heap.size + 1 := ⟨_, rfl⟩
  obtain ⟨W0, hW0⟩ : ∃ W, W = (w.alloc (.cells #[.int .i64 a.1, .int .i64 a.2.1, .int .i64 a.2.2] 37)).alloc (.cells #[.int .i64 m1, .int .i64 m2, .int .i64 m3] 37) := ⟨_, rfl⟩
  have hal1 : Below w.heap.size w (w.alloc (.cells #[.int .i64 a.1, .int .i64 a.2.1, .int .i64 a.2.2] 37)) := (Below.refl _ _).alloc (Nat.le_refl _) _
  have hal2 : Below (w.alloc (.cells #[.int .i64 a.1, .int .i64 a.2.1, .int .i64 a.2.2] 37)).heap.size (w.alloc (.cells #[.int .i64 a.1, .int .i64 a.2.1, .int .i64 a.2.2] 37)) W0 := by rw [hW0]; exact (Below.refl _ _).alloc (Nat.le_refl _) _
  have HB0 : Hid (Below w.heap.size w W0) := hal1.trans (hal2.mono hal1.size)
  have HBA0 : Hid (Bk W0 p 37 #[.int .i64 a.1, .int .i64 a.2.1, .int .i64 a.2.2]) := by rw [hp]; exact (Bk.fresh _ _ _).later hal2
  have HBM0 : Hid (Bk W0 p2 37 #[.int .i64 m1, .int .i64 m2, .int .i64 m3]) := by rw [hp2, hW0, show w.heap.size + 1 = (w.alloc (.cells #[.int .i64 a.1, .int .i64 a.2.1, .int .i64 a.2.2] 37)).heap.size by simp]; exact Bk.fresh _ _ _
  have HPW := Lib.hid hp
  have HPW2 := Lib.hid hp2
  have HP3 : Hid (p2 < W0.heap.size) := HBM0.out.here
  clear hal1 hal2
  go_enter Try.func5, Try.ntmps5
  go_wp2_with fail
  rw [← hW0, ← hp2, ← hp]
  clear hW0 hp hp2
  refine (K1.out _).mono ?_; rintro e w1 ⟨rfl, hb1⟩
  have HB1 := Lib.hid hb1
  clear hb1
  go_wp2_with fail
  refine (K7.out B0 N cap z _ HN.out HNM.out (HRD.out.later (HB0.out.trans (HB1.out.mono HB0.out.size)))).mono ?_; rintro e w2 ⟨⟨b, rfl, hfew⟩, hb2⟩
  have HB2 := Lib.hid (HB1.out.trans (hb2.mono HB1.out.size))
  clear hb2 HB1 HNM
  have HBW2 : Hid (Below w.heap.size w w2) := HB0.out.trans (HB2.out.mono HB0.out.size)
  cases b with
  | false =>
    go_wp2_with fail
    refine (K1.out _).mono ?_; rintro e w3 ⟨rfl, hb3⟩
    go_wp2_with fail
    go_ret
    exact ⟨rfl, HBW2.out.trans (hb3.mono HBW2.out.size)⟩
  | true =>
    have HN300 : Hid (N ≤ 300) := hfew rfl
    clear hfew
    go_wp2_with fail
    refine (KN.out _ HBW2.out).mono ?_; rintro e w3 ⟨⟨rfl, hX3⟩, hb3⟩
    obtain ⟨g, hg⟩ : ∃ g, g = w2.heap.size := ⟨_, rfl⟩
    rw [← hg] at hX3 ⊢
    have HX3 := Lib.hid hX3
    have HBA3 := Lib.hid ((HBA0.out.later HB2.out).later hb3)
    have HBM3 := Lib.hid ((HBM0.out.later HB2.out).later hb3)
    have HXB3 : Hid (∀ k, IxB g (fun _ => .map none) k → p2 < k) := fun k hk => by
      have h1 := HP3.out; have h2 := HB2.out.size
      rcases hk with rfl | ⟨i, _, h⟩
      · omega
      · cases h
    clear hX3 hb3 hg HB2 HB0 HBA0 HBM0
    have HW3 : Hid (p2 < w3.heap.size) := HBM3.out.here
    go_wp2_with fail
    go_loopw [27] (fun s27 wr => ∃ (i : Nat) (M : Nat → Value) (E : List NV), i ≤ N ∧ s27 = .int .i64 i ∧ Hid (E.length ≤ i) ∧ Hid (Xe w wr g M E) ∧ Hid (Bk wr p 37 #[.int .i64 a.1, .int .i64 a.2.1, .int .i64 a.2.2]) ∧ Hid (Bk wr p2 37 #[.int .i64 m1, .int .i64 m2, .int .i64 m3]) ∧ Hid (∀ k, IxB g M k → p2 < k)) (fun s27 wr => N - (intOf s27).toNat)
    case atStart => exact ⟨0, _, _, Nat.zero_le _, rfl, Nat.le_refl _, HX3, HBA3, HBM3, HXB3⟩
    case round =>
      clear HX3 HBA3 HBM3 HXB3
      obtain ⟨i, M, E, hi, rfl, HLL, HB, HBA, HBM, HXB⟩ := hrel
      by_cases hin : i < N
      · skip
        have hil : i < z.length := by rw [← HN.out]; exact hin
        obtain ⟨q, o, hA, hx⟩ := (HRD.out.later HB.out.be).at (i := i) (by rw [List.length_map]; exact hil)
        rw [List.getElem_map] at hx
        have htk : okV z[i].2.2 := HVZ.out _ (List.getElem_mem hil)
        obtain ⟨⟨kd, s, t⟩, ex⟩ : ∃ x, x = z[i] := ⟨_, rfl⟩
        have HEX : Hid (z[i]? = some (kd, s, t)) := by show _ = _; rw [ex]; exact List.getElem?_eq_getElem hil
        rw [← ex] at hx htk
        have HTK : Hid (okV t) := htk
        subst hA
        have hcn : wr.cell? ⟨q, o + i * 5 + 1, none⟩ = some (.string s) := by simpa using hx 1 _ rfl
        have hqb : q < wr.heap.size := World.block_lt_of_cell? wr _ hcn
        have HCN : Hid (∀ W, Below wr.heap.size wr W → W.cell? ⟨q, o + i * 5 + 1, none⟩ = some (.string s)) := fun W hb => (hb.cell (p := ⟨q, o + i * 5 + 1, none⟩) hqb).trans hcn
        have hrg : wr.rangeAt q (o + i * 5 + 2) (#[.int .i64 t.1, .int .i64 t.2.1, .int .i64 t.2.2] : Array Value).toList := fun j v hv => by
          have h3 := hx (j + 2) v (by
            match j, hv with
            | 0, hv => exact hv
            | 1, hv => exact hv
            | 2, hv => exact hv
            | j + 3, hv => simp at hv)
          rw [show o + i * 5 + 2 + j = o + i * 5 + (j + 2) by omega]
          exact h3
        have HRG := Lib.hid hrg
        have hw1 : wrap64 ((i : Int) + 1) = ((i + 1 : Nat) : Int) := by have := HN300.out; unfold wrap64; omega
        clear hx ex hil htk hcn hqb hrg
        have HXN : Hid (∀ (M' : Nat → Value), (∀ k, IxB g M' k → IxB g M k ∨ wr.heap.size ≤ k) → ∀ k, IxB g M' k → p2 < k) := fun M' h k hk => by
          rcases h k hk with h1 | h1
          · exact HXB.out k h1
          · have := HBM.out.here; omega
        go_wp2_with fail
        refine wp_region_E (S := fun W => Below wr.heap.size wr W) 11 (by kernel_rfl) (Below.drew (Below.refl _ _)) (fun hS0 => ?_)
        refine wpAnyE_takeF (i := 0) (v := ?_) rfl (by kernel_rfl) (by kernel_rfl) (by kernel_rfl) (by kernel_rfl) (fun _ _ _ h => h) (Or.inl ⟨by rfl, ?_⟩) hS0 ?_
        rotate_left
        · intro W _; go_simp; try with_reducible rfl
        try simp only [Act.put, List.getElem_toArray, List.getElem_cons_zero, List.setIfInBounds_toArray, List.set_cons_zero, List.set_cons_succ]
        refine wpAnyE_takeF (i := 1) (v := ?_) rfl (by kernel_rfl) (by kernel_rfl) (by kernel_rfl) (by kernel_rfl) (fun _ _ _ h => h) (Or.inl ⟨by rfl, ?_⟩) hS0 ?_
        rotate_left
        · intro W _; go_simp; try with_reducible rfl
        try simp only [Act.put, List.getElem_toArray, List.getElem_cons_zero, List.getElem_cons_succ, List.setIfInBounds_toArray, List.set_cons_zero, List.set_cons_succ]
        refine wpAnyE_takeF (i := 2) (v := ?_) rfl (by kernel_rfl) (by kernel_rfl) (by kernel_rfl) (by kernel_rfl) (fun _ _ _ h => h) (Or.inl ⟨by rfl, ?_⟩) hS0 ?_
        rotate_left
        · intro W _; go_simp; try with_reducible rfl
        try simp only [Act.put, List.getElem_toArray, List.getElem_cons_zero, List.getElem_cons_succ, List.setIfInBounds_toArray, List.set_cons_zero, List.set_cons_succ]
        refine wpAnyE_takeF (i := 3) (v := ?_) rfl (by kernel_rfl) (by kernel_rfl) (by kernel_rfl) (by kernel_rfl) (fun _ _ _ h => h) (Or.inl ⟨by rfl, ?_⟩) hS0 ?_
        rotate_left
        · intro W _; go_simp; try with_reducible rfl
        try simp only [Act.put, List.getElem_toArray, List.getElem_cons_zero, List.getElem_cons_succ, List.setIfInBounds_toArray, List.set_cons_zero, List.set_cons_succ]
        refine wpAnyE_takeF (i := 4) (v := ?_) rfl (by kernel_rfl) (by kernel_rfl) (by kernel_rfl) (by kernel_rfl) (fun _ _ _ h => h) (Or.inl ⟨by rfl, ?_⟩) hS0 ?_
        rotate_left
        · intro W _; go_simp; try with_reducible rfl
        try simp only [Act.put, List.getElem_toArray, List.getElem_cons_zero, List.getElem_cons_succ, List.setIfInBounds_toArray, List.set_cons_zero, List.set_cons_succ]
        refine wpAnyE_take (i := 5) (v := ?_) rfl (by kernel_rfl) (by kernel_rfl) (by kernel_rfl) (by kernel_rfl) (by kernel_rfl) (fun _ _ _ h => h) (Or.inl ⟨by rfl, ?_⟩) hS0 ?_
        rotate_left
        · intro W hSW; have hx := HCN.out W hSW; go_simp; try with_reducible rfl
        try simp only [Act.put, List.getElem_toArray, List.getElem_cons_zero, List.getElem_cons_succ, List.setIfInBounds_toArray, List.set_cons_zero, List.set_cons_succ]
        refine wpAnyE_takeF (i := 6) (v := ?_) rfl (by kernel_rfl) (by kernel_rfl) (by kernel_rfl) (by kernel_rfl) (fun _ _ _ h => h) (Or.inl ⟨by rfl, ?_⟩) hS0 ?_
        rotate_left
        · intro W _; go_simp; try with_reducible rfl
        try simp only [Act.put, List.getElem_toArray, List.getElem_cons_zero, List.getElem_cons_succ, List.setIfInBounds_toArray, List.set_cons_zero, List.set_cons_succ]
        refine wpAnyE_takeF (i := 7) (v := ?_) rfl (by kernel_rfl) (by kernel_rfl) (by kernel_rfl) (by kernel_rfl) (fun _ _ _ h => h) (Or.inl ⟨by rfl, ?_⟩) hS0 ?_
        rotate_left
        · intro W _; go_simp; try with_reducible rfl
        try simp only [Act.put, List.getElem_toArray, List.getElem_cons_zero, List.getElem_cons_succ, List.setIfInBounds_toArray, List.set_cons_zero, List.set_cons_succ]
        refine wpAnyE_takeF (i := 8) (v := ?_) rfl (by kernel_rfl) (by kernel_rfl) (by kernel_rfl) (by kernel_rfl) (fun _ _ _ h => h) (Or.inl ⟨by rfl, ?_⟩) hS0 ?_
        rotate_left
        · intro W _; go_simp; try with_reducible rfl
        try simp only [Act.put, List.getElem_toArray, List.getElem_cons_zero, List.getElem_cons_succ, List.setIfInBounds_toArray, List.set_cons_zero, List.set_cons_succ]
        refine wpAnyE_takeF (i := 9) (v := ?_) rfl (by kernel_rfl) (by kernel_rfl) (by kernel_rfl) (by kernel_rfl) (fun _ _ _ h => h) (Or.inl ⟨by rfl, ?_⟩) hS0 ?_
        rotate_left
        · intro W _; go_simp; try with_reducible rfl
        try simp only [Act.put, List.getElem_toArray, List.getElem_cons_zero, List.getElem_cons_succ, List.setIfInBounds_toArray, List.set_cons_zero, List.set_cons_succ]
        refine wpAnyE_take (i := 10) (v := .agg #[.int .i64 t.1, .int .i64 t.2.1, .int .i64 t.2.2]) rfl (by kernel_rfl) (by kernel_rfl) (by kernel_rfl) (by kernel_rfl) (by kernel_rfl) (fun _ _ _ h => h) (yields_rg (by rfl) 37 _ rfl q (o + i * 5 + 2) rfl #[.int .i64 t.1, .int .i64 t.2.1, .int .i64 t.2.2] _ (fun W hW => range_keep HRG.out hW) Try.underlying37 rfl (by kernel_rfl)) hS0 ?_
        try simp only [Act.put, List.getElem_toArray, List.getElem_cons_zero, List.getElem_cons_succ, List.setIfInBounds_toArray, List.set_cons_zero, List.set_cons_succ]
        refine wpAnyE_ready (rs := [11]) (by kernel_rfl) (by simp) ?_
        refine AllReadyE.last rfl (by kernel_rfl) (fun K hK => ?_) AllReadyE.nil
        go_simp
        refine (KP.out _ g M E s t HTK.out (HB.out.below hS0)).mono ?_
        rintro e w4 ⟨rfl, ⟨M', hO, hM'⟩, hg⟩
        have H4 := Lib.hid hO
        have HBA4 : Hid (Bk w4 p 37 #[.int .i64 a.1, .int .i64 a.2.1, .int .i64 a.2.2]) := (HBA.out.later hS0).grp hg fun e => by have h1 := HXB.out _ e; have h2 := HPW.out; have h3 := HPW2.out; omega
        have HBM4 : Hid (Bk w4 p2 37 #[.int .i64 m1, .int .i64 m2, .int .i64 m3]) := (HBM.out.later hS0).grp hg fun e => by have h1 := HXB.out _ e; have h3 := HPW2.out; omega
        have HX4 : Hid (∀ k, IxB g M' k → p2 < k) := fun k hk => HXN.out M' (fun k2 hk2 => (hM' k2 hk2).imp id fun h => Nat.le_trans hS0.size h) k hk
        clear hO hg hM'
        go_simp
        refine hK.out _ _ ?_
        clear hK K
        try simp only [Act.put, List.getElem_toArray, List.getElem_cons_zero, List.getElem_cons_succ, List.setIfInBounds_toArray, List.set_cons_zero, List.set_cons_succ]
        refine wpAny_of_held (S := fun _ => True) _ _ _ _ ?_
        refine wpAnyH_done (by kernel_rfl) ?_ _
        have HLI : Hid ((delN E s ++ [(s, t)]).length ≤ i + 1) := by show _ ≤ _; have h2 := delN_len E s; have h3 := HLL.out; rw [List.length_append]; simp only [List.length_cons, List.length_nil]; omega
        clear hS0 HB HBA HBM HXB HXN HCN HRG HTK HEX
        go_wp2_with fail
        go_round
        case rel => exact ⟨i + 1, _, _, by omega, by go_num, HLI, H4, HBA4, HBM4, HX4⟩
        case measure =>
          first
          | (rw [hw1]; show N - ((i + 1 : Nat) : Int).toNat < N - ((i : Nat) : Int).toNat; rw [Int.toNat_natCast, Int.toNat_natCast]; omega)
          | (show N - ((i : Int) + 1).toNat < N - ((i : Nat) : Int).toNat; omega)
      · have hie : i = N := by omega
        subst hie
        clear hi hin
        obtain ⟨w4, hw4⟩ : ∃ W, W = wr := ⟨_, rfl⟩
        rw [← hw4] at HB HBA HBM ⊢
        clear hw4 wr
        obtain ⟨wa0, hwa⟩ : ∃ W, W = w4 := ⟨_, rfl⟩
        rw [← hwa] at HB HBA HBM ⊢
        clear hwa w4
        go_wp2_with fail
        refine wp_loop_rounds 4 ?_
        rw [rounds_succ]
        go_wp2_with fail
        refine wp_region_E (S := fun W => Bk W p 37 #[.int .i64 a.1, .int .i64 a.2.1, .int .i64 a.2.2] ∧ Bk W p2 37 #[.int .i64 m1, .int .i64 m2, .int .i64 m3]) 9 (by kernel_rfl) (⟨HBA.out.drewB, HBM.out.drewB⟩) (fun hS0 => ?_)
        refine wpAnyE_take (i := 0) (v := ?_) rfl (by kernel_rfl) (by kernel_rfl) (by kernel_rfl) (by kernel_rfl) (by kernel_rfl) (fun _ _ _ h => h) (Or.inl ⟨by rfl, ?_⟩) hS0 ?_
        rotate_left
        · intro W _; go_simp; try with_reducible rfl
        try simp only [Act.put, List.getElem_toArray, List.getElem_cons_zero, List.setIfInBounds_toArray, List.set_cons_zero, List.set_cons_succ]
        refine wpAnyE_take (i := 1) (v := ?_) rfl (by kernel_rfl) (by kernel_rfl) (by kernel_rfl) (by kernel_rfl) (by kernel_rfl) (fun _ _ _ h => h) (Or.inl ⟨by rfl, ?_⟩) hS0 ?_
        rotate_left
        · intro W _; go_simp; try with_reducible rfl
        try simp only [Act.put, List.getElem_toArray, List.getElem_cons_zero, List.getElem_cons_succ, List.setIfInBounds_toArray, List.set_cons_zero, List.set_cons_succ]
        refine wpAnyE_take (i := 2) (v := ?_) rfl (by kernel_rfl) (by kernel_rfl) (by kernel_rfl) (by kernel_rfl) (by kernel_rfl) (fun _ _ _ h => h) (Or.inl ⟨by rfl, ?_⟩) hS0 ?_
        rotate_left
        · intro W _; go_simp; try with_reducible rfl
        try simp only [Act.put, List.getElem_toArray, List.getElem_cons_zero, List.getElem_cons_succ, List.setIfInBounds_toArray, List.set_cons_zero, List.set_cons_succ]
        refine wpAnyE_take (i := 3) (v := ?_) rfl (by kernel_rfl) (by kernel_rfl) (by kernel_rfl) (by kernel_rfl) (by kernel_rfl) (fun _ _ _ h => h) (Or.inl ⟨by rfl, ?_⟩) hS0 ?_
        rotate_left
        · intro W hSW; have hx := hSW.2.cellAt 0; try simp only [List.getElem?_toArray, List.getElem?_cons_succ, List.getElem?_cons_zero] at hx; go_simp; try with_reducible rfl
        try simp only [Act.put, List.getElem_toArray, List.getElem_cons_zero, List.getElem_cons_succ, List.setIfInBounds_toArray, List.set_cons_zero, List.set_cons_succ]
        refine wpAnyE_take (i := 4) (v := ?_) rfl (by kernel_rfl) (by kernel_rfl) (by kernel_rfl) (by kernel_rfl) (by kernel_rfl) (fun _ _ _ h => h) (Or.inl ⟨by rfl, ?_⟩) hS0 ?_
        rotate_left
        · intro W _; go_simp; try with_reducible rfl
        try simp only [Act.put, List.getElem_toArray, List.getElem_cons_zero, List.getElem_cons_succ, List.setIfInBounds_toArray, List.set_cons_zero, List.set_cons_succ]
        refine wpAnyE_take (i := 5) (v := ?_) rfl (by kernel_rfl) (by kernel_rfl) (by kernel_rfl) (by kernel_rfl) (by kernel_rfl) (fun _ _ _ h => h) (Or.inl ⟨by rfl, ?_⟩) hS0 ?_
        rotate_left
        · intro W _; go_simp; try with_reducible rfl
        try simp only [Act.put, List.getElem_toArray, List.getElem_cons_zero, List.getElem_cons_succ, List.setIfInBounds_toArray, List.set_cons_zero, List.set_cons_succ]
        refine wpAnyE_take (i := 6) (v := ?_) rfl (by kernel_rfl) (by kernel_rfl) (by kernel_rfl) (by kernel_rfl) (by kernel_rfl) (fun _ _ _ h => h) (Or.inl ⟨by rfl, ?_⟩) hS0 ?_
        rotate_left
        · intro W hSW; have hx := hSW.1.cellAt 0; try simp only [List.getElem?_toArray, List.getElem?_cons_succ, List.getElem?_cons_zero] at hx; go_simp; try with_reducible rfl
        try simp only [Act.put, List.getElem_toArray, List.getElem_cons_zero, List.getElem_cons_succ, List.setIfInBounds_toArray, List.set_cons_zero, List.set_cons_succ]
        refine wpAnyE_take (i := 7) (v := ?_) rfl (by kernel_rfl) (by kernel_rfl) (by kernel_rfl) (by kernel_rfl) (by kernel_rfl) (fun _ _ _ h => h) (Or.inl ⟨by rfl, ?_⟩) hS0 ?_
        rotate_left
        · intro W _; go_simp; try with_reducible rfl
        try simp only [Act.put, List.getElem_toArray, List.getElem_cons_zero, List.getElem_cons_succ, List.setIfInBounds_toArray, List.set_cons_zero, List.set_cons_succ]
        refine wpAnyE_take (i := 8) (v := ?_) rfl (by kernel_rfl) (by kernel_rfl) (by kernel_rfl) (by kernel_rfl) (by kernel_rfl) (fun _ _ _ h => h) (Or.inl ⟨by rfl, ?_⟩) hS0 ?_
        rotate_left
        · intro W _; go_simp; try with_reducible rfl
        try simp only [Act.put, List.getElem_toArray, List.getElem_cons_zero, List.getElem_cons_succ, List.setIfInBounds_toArray, List.set_cons_zero, List.set_cons_succ]
        have cst : wa0.drew.cell? ⟨p2, 0, none⟩ = some (.int .i64 m1) := hS0.2.cellAt 0; have fst : wa0.drew.frozen? ⟨p2, 0, none⟩ = false := hS0.2.free 0
        refine wpAnyE_ready (rs := [9]) (by kernel_rfl) (by simp) ?_
        refine AllReadyE.last rfl (by kernel_rfl) (fun K hK => ?_) AllReadyE.nil
        go_simp
        refine hK.out _ _ ?_
        clear hK K
        try simp only [Act.put, List.getElem_toArray, List.getElem_cons_zero, List.getElem_cons_succ, List.setIfInBounds_toArray, List.set_cons_zero, List.set_cons_succ]
        refine wpAny_of_held (S := fun _ => True) _ _ _ _ ?_
        refine wpAnyH_done (by kernel_rfl) ?_ _
        obtain ⟨n1, hn0⟩ : ∃ x : Int, x = max m1 a.1 := ⟨_, rfl⟩
        rw [← hn0]
        obtain ⟨wa1, hwa⟩ : ∃ W, W = (wa0.setCell ⟨p2, 0, none⟩ (.int .i64 n1)).drew := ⟨_, rfl⟩
        rw [← hwa]
        have hg : GrP (fun k => k = p2) wa0 wa1 := by rw [hwa]; exact ((GrP.refl (fun k => k = p2) wa0).set (a := ⟨p2, 0, none⟩) rfl _).trans (GrP.ofBelow (Below.drew (Below.refl _ _)))
        have hbm : Bk wa1 p2 37 #[.int .i64 n1, .int .i64 m2, .int .i64 m3] := by rw [hwa]; exact (HBM.out.put 0 _).drewB
        have hba : Bk wa1 p 37 #[.int .i64 a.1, .int .i64 a.2.1, .int .i64 a.2.2] := HBA.out.grp hg (fun e => by have h2 := HPW.out; have h3 := HPW2.out; omega)
        have hxe : Xe w wa1 g M E := ⟨HB.out.ix.grp hg (fun k hk e => by have := HXB.out k hk; omega), HB.out.be.trans (hg.below HB.out.be.size (fun k hk => by have h3 := HPW2.out; omega))⟩
        have HNE0 := Lib.hid hn0
        clear HB HBA HBM hS0 cst fst hwa hg
        have HB := Lib.hid hxe
        have HBA := Lib.hid hba
        have HBM := Lib.hid hbm
        clear hxe hba hbm hn0
        go_wp2_with fail
        rw [rounds_succ]
        go_wp2_with fail
        refine wp_region_E (S := fun W => Bk W p 37 #[.int .i64 a.1, .int .i64 a.2.1, .int .i64 a.2.2] ∧ Bk W p2 37 #[.int .i64 n1, .int .i64 m2, .int .i64 m3]) 9 (by kernel_rfl) (⟨HBA.out.drewB, HBM.out.drewB⟩) (fun hS0 => ?_)
        refine wpAnyE_take (i := 0) (v := ?_) rfl (by kernel_rfl) (by kernel_rfl) (by kernel_rfl) (by kernel_rfl) (by kernel_rfl) (fun _ _ _ h => h) (Or.inl ⟨by rfl, ?_⟩) hS0 ?_
        rotate_left
        · intro W _; go_simp; try with_reducible rfl
        try simp only [Act.put, List.getElem_toArray, List.getElem_cons_zero, List.setIfInBounds_toArray, List.set_cons_zero, List.set_cons_succ]
        refine wpAnyE_take (i := 1) (v := ?_) rfl (by kernel_rfl) (by kernel_rfl) (by kernel_rfl) (by kernel_rfl) (by kernel_rfl) (fun _ _ _ h => h) (Or.inl ⟨by rfl, ?_⟩) hS0 ?_
        rotate_left
        · intro W _; go_simp; try with_reducible rfl
        try simp only [Act.put, List.getElem_toArray, List.getElem_cons_zero, List.getElem_cons_succ, List.setIfInBounds_toArray, List.set_cons_zero, List.set_cons_succ]
        refine wpAnyE_take (i := 2) (v := ?_) rfl (by kernel_rfl) (by kernel_rfl) (by kernel_rfl) (by kernel_rfl) (by kernel_rfl) (fun _ _ _ h => h) (Or.inl ⟨by rfl, ?_⟩) hS0 ?_
        rotate_left
        · intro W _; go_simp; try with_reducible rfl
        try simp only [Act.put, List.getElem_toArray, List.getElem_cons_zero, List.getElem_cons_succ, List.setIfInBounds_toArray, List.set_cons_zero, List.set_cons_succ]
        refine wpAnyE_take (i := 3) (v := ?_) rfl (by kernel_rfl) (by kernel_rfl) (by kernel_rfl) (by kernel_rfl) (by kernel_rfl) (fun _ _ _ h => h) (Or.inl ⟨by rfl, ?_⟩) hS0 ?_
        rotate_left
        · intro W hSW; have hx := hSW.2.cellAt 1; try simp only [List.getElem?_toArray, List.getElem?_cons_succ, List.getElem?_cons_zero] at hx; go_simp; try with_reducible rfl
        try simp only [Act.put, List.getElem_toArray, List.getElem_cons_zero, List.getElem_cons_succ, List.setIfInBounds_toArray, List.set_cons_zero, List.set_cons_succ]
        refine wpAnyE_take (i := 4) (v := ?_) rfl (by kernel_rfl) (by kernel_rfl) (by kernel_rfl) (by kernel_rfl) (by kernel_rfl) (fun _ _ _ h => h) (Or.inl ⟨by rfl, ?_⟩) hS0 ?_
        rotate_left
        · intro W _; go_simp; try with_reducible rfl
        try simp only [Act.put, List.getElem_toArray, List.getElem_cons_zero, List.getElem_cons_succ, List.setIfInBounds_toArray, List.set_cons_zero, List.set_cons_succ]
        refine wpAnyE_take (i := 5) (v := ?_) rfl (by kernel_rfl) (by kernel_rfl) (by kernel_rfl) (by kernel_rfl) (by kernel_rfl) (fun _ _ _ h => h) (Or.inl ⟨by rfl, ?_⟩) hS0 ?_
        rotate_left
        · intro W _; go_simp; try with_reducible rfl
        try simp only [Act.put, List.getElem_toArray, List.getElem_cons_zero, List.getElem_cons_succ, List.setIfInBounds_toArray, List.set_cons_zero, List.set_cons_succ]
        refine wpAnyE_take (i := 6) (v := ?_) rfl (by kernel_rfl) (by kernel_rfl) (by kernel_rfl) (by kernel_rfl) (by kernel_rfl) (fun _ _ _ h => h) (Or.inl ⟨by rfl, ?_⟩) hS0 ?_
        rotate_left
        · intro W hSW; have hx := hSW.1.cellAt 1; try simp only [List.getElem?_toArray, List.getElem?_cons_succ, List.getElem?_cons_zero] at hx; go_simp; try with_reducible rfl
        try simp only [Act.put, List.getElem_toArray, List.getElem_cons_zero, List.getElem_cons_succ, List.setIfInBounds_toArray, List.set_cons_zero, List.set_cons_succ]
        refine wpAnyE_take (i := 7) (v := ?_) rfl (by kernel_rfl) (by kernel_rfl) (by kernel_rfl) (by kernel_rfl) (by kernel_rfl) (fun _ _ _ h => h) (Or.inl ⟨by rfl, ?_⟩) hS0 ?_
        rotate_left
        · intro W _; go_simp; try with_reducible rfl
        try simp only [Act.put, List.getElem_toArray, List.getElem_cons_zero, List.getElem_cons_succ, List.setIfInBounds_toArray, List.set_cons_zero, List.set_cons_succ]
        refine wpAnyE_take (i := 8) (v := ?_) rfl (by kernel_rfl) (by kernel_rfl) (by kernel_rfl) (by kernel_rfl) (by kernel_rfl) (fun _ _ _ h => h) (Or.inl ⟨by rfl, ?_⟩) hS0 ?_
        rotate_left
        · intro W _; go_simp; try with_reducible rfl
        try simp only [Act.put, List.getElem_toArray, List.getElem_cons_zero, List.getElem_cons_succ, List.setIfInBounds_toArray, List.set_cons_zero, List.set_cons_succ]
        have cst : wa1.drew.cell? ⟨p2, 1, none⟩ = some (.int .i64 m2) := hS0.2.cellAt 1; have fst : wa1.drew.frozen? ⟨p2, 1, none⟩ = false := hS0.2.free 1
        refine wpAnyE_ready (rs := [9]) (by kernel_rfl) (by simp) ?_
        refine AllReadyE.last rfl (by kernel_rfl) (fun K hK => ?_) AllReadyE.nil
        go_simp
        refine hK.out _ _ ?_
        clear hK K
        try simp only [Act.put, List.getElem_toArray, List.getElem_cons_zero, List.getElem_cons_succ, List.setIfInBounds_toArray, List.set_cons_zero, List.set_cons_succ]
        refine wpAny_of_held (S := fun _ => True) _ _ _ _ ?_
        refine wpAnyH_done (by kernel_rfl) ?_ _
        obtain ⟨n2, hn1⟩ : ∃ x : Int, x = max m2 a.2.1 := ⟨_, rfl⟩
        rw [← hn1]
        obtain ⟨wa2, hwa⟩ : ∃ W, W = (wa1.setCell ⟨p2, 1, none⟩ (.int .i64 n2)).drew := ⟨_, rfl⟩
        rw [← hwa]
        have hg : GrP (fun k => k = p2) wa1 wa2 := by rw [hwa]; exact ((GrP.refl (fun k => k = p2) wa1).set (a := ⟨p2, 1, none⟩) rfl _).trans (GrP.ofBelow (Below.drew (Below.refl _ _)))
        have hbm : Bk wa2 p2 37 #[.int .i64 n1, .int .i64 n2, .int .i64 m3] := by rw [hwa]; exact (HBM.out.put 1 _).drewB
        have hba : Bk wa2 p 37 #[.int .i64 a.1, .int .i64 a.2.1, .int .i64 a.2.2] := HBA.out.grp hg (fun e => by have h2 := HPW.out; have h3 := HPW2.out; omega)
        have hxe : Xe w wa2 g M E := ⟨HB.out.ix.grp hg (fun k hk e => by have := HXB.out k hk; omega), HB.out.be.trans (hg.below HB.out.be.size (fun k hk => by have h3 := HPW2.out; omega))⟩
        have HNE1 := Lib.hid hn1
        clear HB HBA HBM hS0 cst fst hwa hg
        have HB := Lib.hid hxe
        have HBA := Lib.hid hba
        have HBM := Lib.hid hbm
        clear hxe hba hbm hn1
        go_wp2_with fail
        rw [rounds_succ]
        go_wp2_with fail
        refine wp_region_E (S := fun W => Bk W p 37 #[.int .i64 a.1, .int .i64 a.2.1, .int .i64 a.2.2] ∧ Bk W p2 37 #[.int .i64 n1, .int .i64 n2, .int .i64 m3]) 9 (by kernel_rfl) (⟨HBA.out.drewB, HBM.out.drewB⟩) (fun hS0 => ?_)
        refine wpAnyE_take (i := 0) (v := ?_) rfl (by kernel_rfl) (by kernel_rfl) (by kernel_rfl) (by kernel_rfl) (by kernel_rfl) (fun _ _ _ h => h) (Or.inl ⟨by rfl, ?_⟩) hS0 ?_
        rotate_left
        · intro W _; go_simp; try with_reducible rfl
        try simp only [Act.put, List.getElem_toArray, List.getElem_cons_zero, List.setIfInBounds_toArray, List.set_cons_zero, List.set_cons_succ]
        refine wpAnyE_take (i := 1) (v := ?_) rfl (by kernel_rfl) (by kernel_rfl) (by kernel_rfl) (by kernel_rfl) (by kernel_rfl) (fun _ _ _ h => h) (Or.inl ⟨by rfl, ?_⟩) hS0 ?_
        rotate_left
        · intro W _; go_simp; try with_reducible rfl
        try simp only [Act.put, List.getElem_toArray, List.getElem_cons_zero, List.getElem_cons_succ, List.setIfInBounds_toArray, List.set_cons_zero, List.set_cons_succ]
        refine wpAnyE_take (i := 2) (v := ?_) rfl (by kernel_rfl) (by kernel_rfl) (by kernel_rfl) (by kernel_rfl) (by kernel_rfl) (fun _ _ _ h => h) (Or.inl ⟨by rfl, ?_⟩) hS0 ?_
        rotate_left
        · intro W _; go_simp; try with_reducible rfl
        try simp only [Act.put, List.getElem_toArray, List.getElem_cons_zero, List.getElem_cons_succ, List.setIfInBounds_toArray, List.set_cons_zero, List.set_cons_succ]
        refine wpAnyE_take (i := 3) (v := ?_) rfl (by kernel_rfl) (by kernel_rfl) (by kernel_rfl) (by kernel_rfl) (by kernel_rfl) (fun _ _ _ h => h) (Or.inl ⟨by rfl, ?_⟩) hS0 ?_
        rotate_left
        · intro W hSW; have hx := hSW.2.cellAt 2; try simp only [List.getElem?_toArray, List.getElem?_cons_succ, List.getElem?_cons_zero] at hx; go_simp; try with_reducible rfl
        try simp only [Act.put, List.getElem_toArray, List.getElem_cons_zero, List.getElem_cons_succ, List.setIfInBounds_toArray, List.set_cons_zero, List.set_cons_succ]
        refine wpAnyE_take (i := 4) (v := ?_) rfl (by kernel_rfl) (by kernel_rfl) (by kernel_rfl) (by kernel_rfl) (by kernel_rfl) (fun _ _ _ h => h) (Or.inl ⟨by rfl, ?_⟩) hS0 ?_
        rotate_left
        · intro W _; go_simp; try with_reducible rfl
        try simp only [Act.put, List.getElem_toArray, List.getElem_cons_zero, List.getElem_cons_succ, List.setIfInBounds_toArray, List.set_cons_zero, List.set_cons_succ]
        refine wpAnyE_take (i := 5) (v := ?_) rfl (by kernel_rfl) (by kernel_rfl) (by kernel_rfl) (by kernel_rfl) (by kernel_rfl) (fun _ _ _ h => h) (Or.inl ⟨by rfl, ?_⟩) hS0 ?_
        rotate_left
        · intro W _; go_simp; try with_reducible rfl
        try simp only [Act.put, List.getElem_toArray, List.getElem_cons_zero, List.getElem_cons_succ, List.setIfInBounds_toArray, List.set_cons_zero, List.set_cons_succ]
        refine wpAnyE_take (i := 6) (v := ?_) rfl (by kernel_rfl) (by kernel_rfl) (by kernel_rfl) (by kernel_rfl) (by kernel_rfl) (fun _ _ _ h => h) (Or.inl ⟨by rfl, ?_⟩) hS0 ?_
        rotate_left
        · intro W hSW; have hx := hSW.1.cellAt 2; try simp only [List.getElem?_toArray, List.getElem?_cons_succ, List.getElem?_cons_zero] at hx; go_simp; try with_reducible rfl
        try simp only [Act.put, List.getElem_toArray, List.getElem_cons_zero, List.getElem_cons_succ, List.setIfInBounds_toArray, List.set_cons_zero, List.set_cons_succ]
        refine wpAnyE_take (i := 7) (v := ?_) rfl (by kernel_rfl) (by kernel_rfl) (by kernel_rfl) (by kernel_rfl) (by kernel_rfl) (fun _ _ _ h => h) (Or.inl ⟨by rfl, ?_⟩) hS0 ?_
        rotate_left
        · intro W _; go_simp; try with_reducible rfl
        try simp only [Act.put, List.getElem_toArray, List.getElem_cons_zero, List.getElem_cons_succ, List.setIfInBounds_toArray, List.set_cons_zero, List.set_cons_succ]
        refine wpAnyE_take (i := 8) (v := ?_) rfl (by kernel_rfl) (by kernel_rfl) (by kernel_rfl) (by kernel_rfl) (by kernel_rfl) (fun _ _ _ h => h) (Or.inl ⟨by rfl, ?_⟩) hS0 ?_
        rotate_left
        · intro W _; go_simp; try with_reducible rfl
        try simp only [Act.put, List.getElem_toArray, List.getElem_cons_zero, List.getElem_cons_succ, List.setIfInBounds_toArray, List.set_cons_zero, List.set_cons_succ]
        have cst : wa2.drew.cell? ⟨p2, 2, none⟩ = some (.int .i64 m3) := hS0.2.cellAt 2; have fst : wa2.drew.frozen? ⟨p2, 2, none⟩ = false := hS0.2.free 2
        refine wpAnyE_ready (rs := [9]) (by kernel_rfl) (by simp) ?_
        refine AllReadyE.last rfl (by kernel_rfl) (fun K hK => ?_) AllReadyE.nil
        go_simp
        refine hK.out _ _ ?_
        clear hK K
        try simp only [Act.put, List.getElem_toArray, List.getElem_cons_zero, List.getElem_cons_succ, List.setIfInBounds_toArray, List.set_cons_zero, List.set_cons_succ]
        refine wpAny_of_held (S := fun _ => True) _ _ _ _ ?_
        refine wpAnyH_done (by kernel_rfl) ?_ _
        obtain ⟨n3, hn2⟩ : ∃ x : Int, x = max m3 a.2.2 := ⟨_, rfl⟩
        rw [← hn2]
        obtain ⟨wa3, hwa⟩ : ∃ W, W = (wa2.setCell ⟨p2, 2, none⟩ (.int .i64 n3)).drew := ⟨_, rfl⟩
        rw [← hwa]
        have hg : GrP (fun k => k = p2) wa2 wa3 := by rw [hwa]; exact ((GrP.refl (fun k => k = p2) wa2).set (a := ⟨p2, 2, none⟩) rfl _).trans (GrP.ofBelow (Below.drew (Below.refl _ _)))
        have hbm : Bk wa3 p2 37 #[.int .i64 n1, .int .i64 n2, .int .i64 n3] := by rw [hwa]; exact (HBM.out.put 2 _).drewB
        have hba : Bk wa3 p 37 #[.int .i64 a.1, .int .i64 a.2.1, .int .i64 a.2.2] := HBA.out.grp hg (fun e => by have h2 := HPW.out; have h3 := HPW2.out; omega)
        have hxe : Xe w wa3 g M E := ⟨HB.out.ix.grp hg (fun k hk e => by have := HXB.out k hk; omega), HB.out.be.trans (hg.below HB.out.be.size (fun k hk => by have h3 := HPW2.out; omega))⟩
        have HNE2 := Lib.hid hn2
        clear HB HBA HBM hS0 cst fst hwa hg
        have HB := Lib.hid hxe
        have HBA := Lib.hid hba
        have HBM := Lib.hid hbm
        clear hxe hba hbm hn2
        go_wp2_with fail
        rw [rounds_succ]
        go_wp2_with fail
        have HOU : Hid (okV (n1, n2, n3)) := by show _ ∧ _; have h1 := HNE0.out; have h2 := HA0.out; have h3 := HM0.out; unfold okV at h2; constructor <;> simp only <;> omega
        have HL0 : Hid (E.length ≤ 1000) := by show _ ≤ _; have := HLL.out; have := HN300.out; omega
        refine wp_region_held_drew (S := fun W => Below wa3.heap.size wa3 W) (by kernel_rfl) (Below.drew (Below.refl _ _)) (fun hS0 => ?_)
        refine wpAnyH_take (i := 0) (v := ?_) rfl (by kernel_rfl) (by kernel_rfl) (by kernel_rfl) (fun _ _ _ h => h) (Or.inl ⟨by rfl, ?_⟩) hS0 ?_
        rotate_left
        · intro W _; go_simp; try with_reducible rfl
        try simp only [Act.put, List.getElem_toArray, List.getElem_cons_zero, List.setIfInBounds_toArray, List.set_cons_zero, List.set_cons_succ]
        refine wpAnyH_take (i := 1) (v := .agg #[.int .i64 a.1, .int .i64 a.2.1, .int .i64 a.2.2]) rfl (by kernel_rfl) (by kernel_rfl) (by kernel_rfl) (fun _ _ _ h => h) (yields_bk (by rfl) 37 _ rfl p 0 rfl 37 #[.int .i64 a.1, .int .i64 a.2.1, .int .i64 a.2.2] #[.int .i64 a.1, .int .i64 a.2.1, .int .i64 a.2.2] _ (fun W hW => HBA.out.later hW) (Part.whole _) Try.underlying37 rfl (by kernel_rfl)) hS0 ?_
        try simp only [Act.put, List.getElem_toArray, List.getElem_cons_zero, List.getElem_cons_succ, List.setIfInBounds_toArray, List.set_cons_zero, List.set_cons_succ]
        refine wpAnyH_take (i := 3) (v := ?_) rfl (by kernel_rfl) (by kernel_rfl) (by kernel_rfl) (fun _ _ _ h => h) (Or.inl ⟨by rfl, ?_⟩) hS0 ?_
        rotate_left
        · intro W _; go_simp; try with_reducible rfl
        try simp only [Act.put, List.getElem_toArray, List.getElem_cons_zero, List.getElem_cons_succ, List.setIfInBounds_toArray, List.set_cons_zero, List.set_cons_succ]
        refine wpAnyH_take (i := 4) (v := .agg #[.int .i64 n1, .int .i64 n2, .int .i64 n3]) rfl (by kernel_rfl) (by kernel_rfl) (by kernel_rfl) (fun _ _ _ h => h) (yields_bk (by rfl) 37 _ rfl p2 0 rfl 37 #[.int .i64 n1, .int .i64 n2, .int .i64 n3] #[.int .i64 n1, .int .i64 n2, .int .i64 n3] _ (fun W hW => HBM.out.later hW) (Part.whole _) Try.underlying37 rfl (by kernel_rfl)) hS0 ?_
        try simp only [Act.put, List.getElem_toArray, List.getElem_cons_zero, List.getElem_cons_succ, List.setIfInBounds_toArray, List.set_cons_zero, List.set_cons_succ]
        refine wpAnyH_ready (rs := [2]) (by kernel_rfl) (by simp) ?_
        refine AllReadyH.cons rfl (fun K hK => ?_) AllReadyH.nil
        go_simp
        refine (KA.out _ g M E a HA0.out HL0.out (HB.out.below hS0)).mono ?_
        rintro e w8 ⟨⟨l, n8, A8, c8, rfl, hn4, hm4, ho4, ht4⟩, hb4⟩
        have HSl : Hid (RdS w8 A8 l) := by
          obtain ⟨A', c', hv, hr, -, -⟩ := ho4.rds
          injection hv with e1
          subst e1
          exact hr
        have HNl := Lib.hid hn4
        have HTl := Lib.hid ht4
        have HMl := Lib.hid hm4
        have HBl := Lib.hid hb4
        clear ho4 hn4 ht4 hm4
        go_simp
        refine hK.out _ _ ((hS0).trans (hb4.mono (hS0).size)) (fun hS1 => ?_)
        clear hK K
        try simp only [Act.put, List.getElem_toArray, List.getElem_cons_zero, List.getElem_cons_succ, List.setIfInBounds_toArray, List.set_cons_zero, List.set_cons_succ]
        clear hb4
        refine wpAnyH_ready (rs := [5]) (by kernel_rfl) (by simp) ?_
        refine AllReadyH.cons rfl (fun K hK => ?_) AllReadyH.nil
        go_simp
        refine (KA.out _ g M E (n1, n2, n3) HOU.out HL0.out (HB.out.below hS1)).mono ?_
        rintro e w9 ⟨⟨m, n9, A9, c9, rfl, hn4, hm4, ho4, ht4⟩, hb4⟩
        have HSm : Hid (RdS w9 A9 m) := by
          obtain ⟨A', c', hv, hr, -, -⟩ := ho4.rds
          injection hv with e1
          subst e1
          exact hr
        have HNm := Lib.hid hn4
        have HTm := Lib.hid ht4
        have HMm := Lib.hid hm4
        have HBm := Lib.hid hb4
        clear ho4 hn4 ht4 hm4
        go_simp
        refine hK.out _ _ ((hS1).trans (hb4.mono (hS1).size)) (fun hS2 => ?_)
        clear hK K
        try simp only [Act.put, List.getElem_toArray, List.getElem_cons_zero, List.getElem_cons_succ, List.setIfInBounds_toArray, List.set_cons_zero, List.set_cons_succ]
        clear hb4
        refine wpAnyH_take (i := 6) (v := ?_) rfl (by kernel_rfl) (by kernel_rfl) (by kernel_rfl) (fun _ _ _ h => h) (Or.inl ⟨by rfl, ?_⟩) hS2 ?_
        rotate_left
        · intro W _; go_simp; try with_reducible rfl
        try simp only [Act.put, List.getElem_toArray, List.getElem_cons_zero, List.getElem_cons_succ, List.setIfInBounds_toArray, List.set_cons_zero, List.set_cons_succ]
        refine wpAnyH_take (i := 7) (v := ?_) rfl (by kernel_rfl) (by kernel_rfl) (by kernel_rfl) (fun _ _ _ h => h) (Or.inl ⟨by rfl, ?_⟩) hS2 ?_
        rotate_left
        · intro W _; go_simp; try with_reducible rfl
        try simp only [Act.put, List.getElem_toArray, List.getElem_cons_zero, List.getElem_cons_succ, List.setIfInBounds_toArray, List.set_cons_zero, List.set_cons_succ]
        refine wpAnyH_done (by kernel_rfl) ?_ _
        have HSl9 := Lib.hid (HSl.out.later HBm.out)
        have HW9 : Hid (Below w.heap.size w w9) := HB.out.be.trans (hS2.mono HB.out.be.size)
        have HSUB : Hid (Ahead l m 0 0) := ahead_start (told_sub (by have := HNE0.out; show a.1 ≤ n1; omega) (by have := HNE1.out; show a.2.1 ≤ n2; omega) (by have := HNE2.out; show a.2.2 ≤ n3; omega) HTl.out HTm.out)
        have HPl : Hid (l.Pairwise fun x y => sL x y = true) := HTl.out.2
        have HPm : Hid (m.Pairwise fun x y => sL x y = true) := HTm.out.2
        clear hS0 hS1 hS2 HB HBA HBM HSl HXB HL0 HOU HTl HTm HBl HBm
        go_wp2_with fail
        go_loopw [64, 12] (fun s64 s12 wr => ∃ (i at_ : Nat), i ≤ n9 ∧ s64 = .int .i64 i ∧ s12 = .int .i64 at_ ∧ Hid (Ahead l m at_ i) ∧ Hid (Below w9.heap.size w9 wr)) (fun s64 s12 wr => n9 - (intOf s64).toNat)
        case atStart => exact ⟨0, 0, Nat.zero_le _, rfl, rfl, HSUB, Below.refl _ _⟩
        case round =>
          clear HSUB
          obtain ⟨i, at_, hi, rfl, rfl, HAH, HBW⟩ := hrel
          by_cases hin : i < n9
          · have him : Hid (i < m.length) := by show _ < _; rw [← HNm.out]; exact hin
            obtain ⟨y, hy⟩ : ∃ y, y = m[i]'him.out := ⟨_, rfl⟩
            obtain ⟨gm, om, hA, hgm, hcm⟩ := HSm.out.at him.out
            rw [← hy] at hcm
            subst hA
            have HCM : Hid (∀ W, Below w9.heap.size w9 W → W.cell? ⟨gm, om + i, none⟩ = some (.string y)) := fun W hb => (hb.cell (p := ⟨gm, om + i, none⟩) hgm).trans hcm
            have HY := Lib.hid hy
            have hw1 : wrap64 ((i : Int) + 1) = ((i + 1 : Nat) : Int) := by have := HMm.out; unfold wrap64; omega
            clear hy hgm hcm
            go_wp2_with fail
            go_loopw [12] (fun s12 wq => ∃ (k : Nat), s12 = .int .i64 k ∧ Hid (Ahead l m k i) ∧ Hid (Below w9.heap.size w9 wq)) (fun s12 wq => n8 - (intOf s12).toNat)
            case atStart => exact ⟨at_, rfl, HAH, HBW⟩
            case round =>
              clear HAH HBW
              obtain ⟨k, rfl, HAH, HBW⟩ := hrel
              have hkl : Hid (k < l.length) := ahead_in HAH.out him.out
              have hkn : k < n8 := by rw [HNl.out]; exact hkl.out
              obtain ⟨x, hx⟩ : ∃ x, x = l[k]'hkl.out := ⟨_, rfl⟩
              obtain ⟨gl, ol, hA, hgl, hcl⟩ := HSl9.out.at hkl.out
              rw [← hx] at hcl
              subst hA
              have hc1 : wr.cell? ⟨gl, ol + k, none⟩ = some (.string x) := (HBW.out.cell (p := ⟨gl, ol + k, none⟩) hgl).trans hcl
              have hc2 : wr.cell? ⟨gm, om + i, none⟩ = some (.string y) := HCM.out wr HBW.out
              have HX := Lib.hid hx
              have hki : (k : Int) < (n8 : Int) := by omega
              have hii : (i : Int) < (n9 : Int) := by omega
              clear hx hgl hcl
              by_cases he : x = y
              · subst he
                have hke : ((k : Int) == (n8 : Int)) = false := by simp; omega
                go_wp2_with fail
                go_quiet (fail)
                have HB2 : Hid (Below w9.heap.size w9 (wr.drewN nq)) := bdrewN HBW.out _
                go_wp2_with fail
                go_round
                case rel => exact ⟨i + 1, k, by omega, by go_num, rfl, ahead_next HAH.out, HB2⟩
                case measure =>
                  first
                  | (rw [hw1]; show n9 - ((i + 1 : Nat) : Int).toNat < n9 - ((i : Nat) : Int).toNat; rw [Int.toNat_natCast, Int.toNat_natCast]; omega)
                  | (show n9 - ((i : Int) + 1).toNat < n9 - ((i : Nat) : Int).toNat; omega)
              · have he' : (x.toList == y.toList) = false := by cases h : sE x y with
                  | false => exact h
                  | true => exact absurd (sE_iff.1 h) he
                have HA2 : Hid (Ahead l m (k + 1) i) := ahead_skip HPl.out HPm.out HAH.out him.out hkl.out (by rw [← HX.out, ← HY.out]; exact he)
                have hw2 : wrap64 ((k : Int) + 1) = ((k + 1 : Nat) : Int) := by have := HMl.out; unfold wrap64; omega
                clear he HAH
                go_wp2_with fail
                go_quiet (fail)
                have HB2 : Hid (Below w9.heap.size w9 (wr.drewN nq)) := bdrewN HBW.out _
                go_wp2_with fail
                go_round
                case rel => exact ⟨k + 1, by go_num, HA2, HB2⟩
                case measure =>
                  first
                  | (rw [hw2]; show n8 - ((k + 1 : Nat) : Int).toNat < n8 - ((k : Nat) : Int).toNat; rw [Int.toNat_natCast, Int.toNat_natCast]; omega)
                  | (show n8 - ((k : Int) + 1).toNat < n8 - ((k : Nat) : Int).toNat; omega)
          · have hie : i = n9 := by omega
            subst hie
            clear hi hin
            go_wp2_with fail
            go_ret
            exact ⟨rfl, HW9.out.trans (HBW.out.mono HW9.out.size)⟩
end bucketMore
end Go.Proofs.Ytiklogoookngaaa
