/- The walk of BucketOrder. No condition beyond the form's own. -/
import Derived.Test.YtiklogoookngaaaBwk
import Derived.Test.YtiklogoookngaaaBop
import Derived.Test.YtiklogoookngaaaRge
import Derived.Test.YtiklogoookngaaaLat
import Derived.Deep.RegionHeld3
import Derived.Laws.Cover1
namespace Go.Proofs.Ytiklogoookngaaa
open Go.RowKit
set_option linter.unusedSimpArgs false
set_option linter.unusedVariables false
/-- Two indexes that lie apart. -/
structure Tw (w wr : World) (g : Nat) (M : Nat → Value) (D : List NV) (h : Nat) (K : Nat → Value) (E : List NV) : Prop where
  x : Xe w wr g M D
  y : Xe w wr h K E
  ap : ∀ k, IxB g M k → IxB h K k → False
section
variable {w wr w' : World} {g h : Nat} {M M' K K' : Nat → Value} {D D' E E' : List NV}
theorem Tw.below (H : Tw w wr g M D h K E) (hb : Below wr.heap.size wr w') : Tw w w' g M D h K E := ⟨H.x.below hb, H.y.below hb, H.ap⟩
theorem Tw.left (H : Tw w wr g M D h K E) (hx : Xe w w' g M' D') (hn : ∀ k, IxB g M' k → IxB g M k ∨ wr.heap.size ≤ k) (hg : GrP (IxB g M) wr w') : Tw w w' g M' D' h K E :=
  ⟨hx, ⟨H.y.ix.grp hg fun k hk hk2 => H.ap k hk2 hk, H.y.be.trans (hg.below H.y.be.size fun k hk => H.x.ix.low k hk)⟩, fun k h1 h2 => by
    rcases hn k h1 with h3 | h3
    · exact H.ap k h3 h2
    · have := (H.y.ix.blk h2).2; omega⟩
theorem Tw.right (H : Tw w wr g M D h K E) (hy : Xe w w' h K' E') (hn : ∀ k, IxB h K' k → IxB h K k ∨ wr.heap.size ≤ k) (hg : GrP (IxB h K) wr w') : Tw w w' g M D h K' E' :=
  ⟨⟨H.x.ix.grp hg fun k hk hk2 => H.ap k hk hk2, H.x.be.trans (hg.below H.x.be.size fun k hk => H.y.ix.low k hk)⟩, hy, fun k h1 h2 => by
    rcases hn k h2 with h3 | h3
    · exact H.ap k h1 h3
    · have := (H.x.ix.blk h1).2; omega⟩
end
theorem getN_cons (p : NV) (D : List NV) (s : ByteArray) : getN (p :: D) s = if p.1 = s then some p.2 else getN D s := by
  unfold getN
  rw [List.find?_cons]
  by_cases h : p.1 = s
  · rw [decide_eq_true h, if_pos h]; rfl
  · rw [decide_eq_false h, if_neg h]
theorem getN_append (D E : List NV) (s : ByteArray) : getN (D ++ E) s = (getN D s).or (getN E s) := by
  induction D with
  | nil => simp [getN]
  | cons p D ih =>
    rw [List.cons_append, getN_cons, getN_cons, ih]
    split
    · rfl
    · rfl
theorem getN_delN (D : List NV) (n s : ByteArray) : getN (delN D n) s = if n = s then none else getN D s := by
  induction D with
  | nil => simp [delN, getN]
  | cons p D ih =>
    unfold delN at ih ⊢
    rw [List.filter_cons]
    by_cases h : p.1 = n
    · rw [if_neg (by simp [h]), ih, getN_cons]
      by_cases h2 : n = s
      · rw [if_pos h2, if_pos h2]
      · rw [if_neg h2, if_neg h2, if_neg (by rw [h]; exact h2)]
    · rw [if_pos (by simp [h]), getN_cons, ih, getN_cons]
      by_cases h2 : p.1 = s
      · rw [if_pos h2, if_pos h2, if_neg (by rw [← h2]; exact fun e => h e.symm)]
      · rw [if_neg h2, if_neg h2]
theorem getN_put (D : List NV) (n : ByteArray) (t : R3) (s : ByteArray) : getN (delN D n ++ [(n, t)]) s = if n = s then some t else getN D s := by
  rw [getN_append, getN_delN, getN_cons]
  by_cases h : n = s
  · rw [if_pos h, if_pos h, if_pos h]; rfl
  · rw [if_neg h, if_neg h, if_neg h]
    cases getN D s <;> simp [getN]
theorem perm_of_getN {D E : List NV} (hD : (D.map Prod.fst).Nodup) (hE : (E.map Prod.fst).Nodup) (h : ∀ s, getN D s = getN E s) : D.Perm E := by
  have nd : ∀ {X : List NV}, (X.map Prod.fst).Nodup → X.Nodup := fun h => by
    rw [List.Nodup, List.pairwise_map] at h
    exact h.imp fun hne e => hne (by rw [e])
  refine (List.perm_ext_iff_of_nodup (nd hD) (nd hE)).2 fun p => ⟨fun hp => ?_, fun hp => ?_⟩
  · have := getN_some hD hp
    rw [h] at this
    exact getN_mem this
  · have := getN_some hE hp
    rw [← h] at this
    exact getN_mem this
/-- What was put last counts. -/
def Lst (z : List Oq) (i : Nat) (D : List NV) : Prop := ∀ s, getN D s = getN (((z.take i).map Prod.snd).reverse) s
/-- .. told from the end. -/
def Fst (z : List Oq) (i : Nat) (D : List NV) : Prop := ∀ s, getN D s = getN (((z.drop i).map Prod.snd).reverse) s
theorem lst_next {z : List Oq} {i : Nat} {D : List NV} (h : Lst z i D) {k : Int} {n : ByteArray} {t : R3} (hz : z[i]? = some (k, n, t)) : Lst z (i + 1) (delN D n ++ [(n, t)]) := fun s => by
  obtain ⟨hi, e⟩ := List.getElem?_eq_some_iff.1 hz
  rw [getN_put, List.take_succ_eq_append_getElem hi, List.map_append, List.reverse_append, e]
  show _ = getN ((n, t) :: _) s
  rw [getN_cons, h s]
  rfl
theorem fst_next {z : List Oq} {i : Nat} {D : List NV} (h : Fst z (i + 1) D) {k : Int} {n : ByteArray} {t : R3} (hz : z[i]? = some (k, n, t)) : Fst z i (if (getN D n).isSome then D else delN D n ++ [(n, t)]) := fun s => by
  obtain ⟨hi, e⟩ := List.getElem?_eq_some_iff.1 hz
  have h1 : ((z.drop i).map Prod.snd).reverse = ((z.drop (i + 1)).map Prod.snd).reverse ++ [(n, t)] := by
    rw [List.drop_eq_getElem_cons hi, List.map_cons, List.reverse_cons, e]
  rw [h1, getN_append, ← h s, getN_cons]
  cases hd : getN D n with
  | some u =>
    simp only [Option.isSome_some, if_true]
    by_cases hs : n = s
    · subst hs; rw [hd]; rfl
    · rw [if_neg hs]; cases getN D s <;> simp [getN]
  | none =>
    rw [if_neg (by simp), getN_put]
    by_cases hs : n = s
    · subst hs; rw [hd, if_pos rfl, if_pos rfl]; rfl
    · rw [if_neg hs, if_neg hs]; cases getN D s <;> simp [getN]
theorem both_perm {z : List Oq} {D E : List NV} (hD : (D.map Prod.fst).Nodup) (hE : (E.map Prod.fst).Nodup) (h1 : Lst z z.length D) (h2 : Fst z 0 E) : D.Perm E := perm_of_getN hD hE fun s => by rw [h1 s, h2 s, List.take_length, List.drop_zero]
namespace bucketOrder
set_option maxHeartbeats 51200000 in
set_option maxRecDepth 100000 in
theorem walk (B0 : Option Addr) (N cap : Nat) (z : List Oq) (a1 a2 a3 : Int) (w : World) (hn0 : N = z.length) (hr0 : RdK w 5 B0 (z.map eQ)) (hc1 : N ≤ cap) (hc2 : cap ≤ 9223372036854775807) (hv0 : ∀ y ∈ z, okV y.2.2) (ha0 : -9223372036854775808 ≤ a1 ∧ a1 ≤ 9223372036854775807) :
    Calls Try.prog 4 #[.slice B0 N cap, .agg #[.int .i64 a1, .int .i64 a2, .int .i64 a3]] w fun r w' => r = .returned (.bool true) ∧ Below w.heap.size w w' := by
  obtain ⟨a, ha⟩ : ∃ a : R3, a = (a1, a2, a3) := ⟨_, rfl⟩
  obtain rfl : a1 = a.1 := by rw [ha]
  obtain rfl : a2 = a.2.1 := by rw [ha]
  obtain rfl : a3 = a.2.2 := by rw [ha]
  clear ha
  have HA0 : Hid (okV a) := ha0
  clear ha0
  have K1 := Lib.hid (fun W => awake17_any W)
  have K7 := Lib.hid (fun (A : Option Addr) (n c : Nat) (l : List Oq) (W : World) (hn : n = l.length) (hm : n ≤ 9223372036854775807) (hr : RdK W 5 A (l.map eQ)) => few17_any A n c l W (Lib.hid hn) hm (Lib.hid hr))
  have HN := Lib.hid hn0
  have HRD : Hid (RdK w 5 B0 (z.map eQ)) := hr0
  have HVZ := Lib.hid hv0
  have HNM : Hid (N ≤ 9223372036854775807) := by show _ ≤ _; omega
  clear hn0 hr0 hv0 hc1 hc2
  obtain ⟨p, hp⟩ : ∃ p, p = w.heap.size := ⟨_, rfl⟩
  obtain ⟨W0, hW0⟩ : ∃ W, W = w.alloc (.cells #[.int .i64 a.1, .int .i64 a.2.1, .int .i64 a.2.2] 37) := ⟨_, rfl⟩
  have HB0 : Hid (Below w.heap.size w W0) := by rw [hW0]; exact (Below.refl _ _).alloc (Nat.le_refl _) _
  have HBA0 : Hid (Bk W0 p 37 #[.int .i64 a.1, .int .i64 a.2.1, .int .i64 a.2.2]) := by rw [hp, hW0]; exact Bk.fresh _ _ _
  have HP3 : Hid (p < W0.heap.size) := HBA0.out.here
  have KN := Lib.hid (fun (W : World) (h : Below W0.heap.size W0 W) => x_new (w := W0) W h)
  have KP := Lib.hid (fun (W : World) (g : Nat) (M : Nat → Value) (D : List NV) (s : ByteArray) (t : R3) (ht : okV t) (H : Xe W0 W g M D) => x_put s t ht H)
  have KG := Lib.hid (fun (W : World) (g : Nat) (M : Nat → Value) (D : List NV) (s : ByteArray) (H : Xe W0 W g M D) => get_any W0.heap.size g M D s W (Lib.hid H.ix))
  have KA := Lib.hid (fun (W : World) (g : Nat) (M : Nat → Value) (D : List NV) (t : R3) (ht : okV t) (hl : D.length ≤ 1000) (H : Xe W0 W g M D) => x_atLeast t ht hl H)
  have KL := Lib.hid (fun (W : World) (g : Nat) (M : Nat → Value) (D : List NV) (hl : D.length ≤ 1000) (H : Xe W0 W g M D) => len_any W0.heap.size g M D W (by omega) (Lib.hid H.ix))
  have KX := Lib.hid (fun (A : Option Addr) (n c : Nat) (l : List ByteArray) (B : Option Addr) (m d : Nat) (r : List ByteArray) (W : World) (hn : n = l.length) (hm : m = r.length) (hl : n ≤ 9223372036854775807) (hl2 : m ≤ 9223372036854775807) (hA : RdS W A l) (hB : RdS W B r) => rtexts_any A n c l B m d r W (Lib.hid hn) (Lib.hid hm) hl hl2 (Lib.hid hA) (Lib.hid hB))
  go_enter Try.func4, Try.ntmps4
  go_wp2_with fail
  rw [← hW0, ← hp]
  clear hW0 hp
  refine (K1.out _).mono ?_; rintro e w1 ⟨rfl, hb1⟩
  have HB1 := Lib.hid hb1
  clear hb1
  go_wp2_with fail
  refine (K7.out B0 N cap z _ HN.out HNM.out (HRD.out.later (HB0.out.trans (HB1.out.mono HB0.out.size)))).mono ?_; rintro e w2 ⟨⟨b, rfl, hfew⟩, hb2⟩
  have HB2 := Lib.hid (HB1.out.trans (hb2.mono HB1.out.size))
  clear hb2 HB1 HNM
  cases b with
  | false =>
    go_wp2_with fail
    refine (K1.out _).mono ?_; rintro e w3 ⟨rfl, hb3⟩
    go_wp2_with fail
    go_ret
    exact ⟨rfl, HB0.out.trans ((HB2.out.trans (hb3.mono HB2.out.size)).mono HB0.out.size)⟩
  | true =>
    have HN300 : Hid (N ≤ 300) := hfew rfl
    clear hfew
    go_wp2_with fail
    refine (KN.out _ HB2.out).mono ?_; rintro e w3 ⟨⟨rfl, hX3⟩, hb3⟩
    obtain ⟨g, hg⟩ : ∃ g, g = w2.heap.size := ⟨_, rfl⟩
    rw [← hg] at hX3 ⊢
    have HX3 := Lib.hid hX3
    have HBA3 := Lib.hid ((HBA0.out.later HB2.out).later hb3)
    have HGL : Hid (g < w3.heap.size) := hX3.ix.bk.here
    clear hX3 hb3 hg HB2 HBA0
    go_wp2_with fail
    refine (KN.out _ HX3.out.be).mono ?_; rintro e w4 ⟨⟨rfl, hY4⟩, hb4⟩
    obtain ⟨h, hh⟩ : ∃ g, g = w3.heap.size := ⟨_, rfl⟩
    rw [← hh] at hY4 ⊢
    have HTW : Hid (Tw W0 w4 g (fun _ => .map none) [] h (fun _ => .map none) []) := ⟨HX3.out.below hb4, hY4, fun k h1 h2 => by
      have h3 := HGL.out
      rcases h1 with rfl | ⟨_, _, h4⟩
      · rcases h2 with rfl | ⟨_, _, h4⟩
        · omega
        · cases h4
      · cases h4⟩
    have HBA4 := Lib.hid (HBA3.out.later hb4)
    have HL0 : Hid (Lst z 0 []) := fun s => rfl
    clear hY4 hb4 hh HX3 HBA3 HGL
    go_wp2_with fail
    go_loopw [33] (fun s33 wr => ∃ (i : Nat) (M : Nat → Value) (E : List NV), i ≤ N ∧ s33 = .int .i64 i ∧ Hid (E.length ≤ i) ∧ Hid (Lst z i E) ∧ Hid (Tw W0 wr g M E h (fun _ => .map none) []) ∧ Hid (Bk wr p 37 #[.int .i64 a.1, .int .i64 a.2.1, .int .i64 a.2.2])) (fun s33 wr => N - (intOf s33).toNat)
    case atStart => exact ⟨0, _, _, Nat.zero_le _, rfl, Nat.le_refl _, HL0, HTW, HBA4⟩
    case round =>
      clear HL0 HTW HBA4
      obtain ⟨i, M, E, hi, rfl, HLL, HLS, HB, HBA⟩ := hrel
      obtain ⟨Ky, hKy⟩ : ∃ K : Nat → Value, K = fun _ => .map none := ⟨_, rfl⟩
      obtain ⟨F, hF⟩ : ∃ F : List NV, F = [] := ⟨_, rfl⟩
      rw [← hKy, ← hF] at HB
      by_cases hin : i < N
      · have HK := Lib.hid hKy
        have HF := Lib.hid hF
        clear hKy hF
        have hil : i < z.length := by rw [← HN.out]; exact hin
        obtain ⟨q, o, hA, hx⟩ := (HRD.out.later (HB0.out.trans (HB.out.x.be.mono HB0.out.size))).at (i := i) (by rw [List.length_map]; exact hil)
        rw [List.getElem_map] at hx
        have htk : okV z[i].2.2 := HVZ.out _ (List.getElem_mem hil)
        obtain ⟨⟨kd, s, t⟩, ex⟩ : ∃ x, x = z[i] := ⟨_, rfl⟩
        have HEX : Hid (z[i]? = some (kd, s, t)) := by show _ = _; rw [ex]; exact List.getElem?_eq_getElem hil
        rw [← ex] at hx htk
        have HTK : Hid (okV t) := htk
        subst hA
        have hcn : wr.cell? ⟨q, o + i * 5 + 1, none⟩ = some (.string s) := by simpa using hx 1 _ rfl
        have hqb : q < wr.heap.size := World.block_lt_of_cell? wr _ hcn
        have HCN : Hid (∀ W, Below wr.heap.size wr W → W.cell? ⟨q, o + i * 5 + 1, none⟩ = some (.string s)) := fun W hb => (hb.cell (p := ⟨q, o + i * 5 + 1, none⟩) hqb).trans hcn
        have hrg : wr.rangeAt q (o + i * 5 + 2) (#[.int .i64 t.1, .int .i64 t.2.1, .int .i64 t.2.2] : Array Value).toList := fun j v hv => by
          have h3 := hx (j + 2) v (by
            match j, hv with
            | 0, hv => exact hv
            | 1, hv => exact hv
            | 2, hv => exact hv
            | j + 3, hv => simp at hv)
          rw [show o + i * 5 + 2 + j = o + i * 5 + (j + 2) by omega]
          exact h3
        have HRG := Lib.hid hrg
        have hw1 : wrap64 ((i : Int) + 1) = ((i + 1 : Nat) : Int) := by have := HN300.out; unfold wrap64; omega
        clear hx ex hil htk hcn hqb hrg
        go_wp2_with fail
        refine wp_region_E (S := fun W => Below wr.heap.size wr W) 11 (by kernel_rfl) (Below.drew (Below.refl _ _)) (fun hS0 => ?_)
        refine wpAnyE_takeF (i := 0) (v := ?_) rfl (by kernel_rfl) (by kernel_rfl) (by kernel_rfl) (by kernel_rfl) (fun _ _ _ h => h) (Or.inl ⟨by rfl, ?_⟩) hS0 ?_
        rotate_left
        · intro W _; go_simp; try with_reducible rfl
        try simp only [Act.put, List.getElem_toArray, List.getElem_cons_zero, List.setIfInBounds_toArray, List.set_cons_zero, List.set_cons_succ]
        refine wpAnyE_takeF (i := 1) (v := ?_) rfl (by kernel_rfl) (by kernel_rfl) (by kernel_rfl) (by kernel_rfl) (fun _ _ _ h => h) (Or.inl ⟨by rfl, ?_⟩) hS0 ?_
        rotate_left
        · intro W _; go_simp; try with_reducible rfl
        try simp only [Act.put, List.getElem_toArray, List.getElem_cons_zero, List.getElem_cons_succ, List.setIfInBounds_toArray, List.set_cons_zero, List.set_cons_succ]
        refine wpAnyE_takeF (i := 2) (v := ?_) rfl (by kernel_rfl) (by kernel_rfl) (by kernel_rfl) (by kernel_rfl) (fun _ _ _ h => h) (Or.inl ⟨by rfl, ?_⟩) hS0 ?_
        rotate_left
        · intro W _; go_simp; try with_reducible rfl
        try simp only [Act.put, List.getElem_toArray, List.getElem_cons_zero, List.getElem_cons_succ, List.setIfInBounds_toArray, List.set_cons_zero, List.set_cons_succ]
        refine wpAnyE_takeF (i := 3) (v := ?_) rfl (by kernel_rfl) (by kernel_rfl) (by kernel_rfl) (by kernel_rfl) (fun _ _ _ h => h) (Or.inl ⟨by rfl, ?_⟩) hS0 ?_
        rotate_left
        · intro W _; go_simp; try with_reducible rfl
        try simp only [Act.put, List.getElem_toArray, List.getElem_cons_zero, List.getElem_cons_succ, List.setIfInBounds_toArray, List.set_cons_zero, List.set_cons_succ]
        refine wpAnyE_takeF (i := 4) (v := ?_) rfl (by kernel_rfl) (by kernel_rfl) (by kernel_rfl) (by kernel_rfl) (fun _ _ _ h => h) (Or.inl ⟨by rfl, ?_⟩) hS0 ?_
        rotate_left
        · intro W _; go_simp; try with_reducible rfl
        try simp only [Act.put, List.getElem_toArray, List.getElem_cons_zero, List.getElem_cons_succ, List.setIfInBounds_toArray, List.set_cons_zero, List.set_cons_succ]
        refine wpAnyE_take (i := 5) (v := ?_) rfl (by kernel_rfl) (by kernel_rfl) (by kernel_rfl) (by kernel_rfl) (by kernel_rfl) (fun _ _ _ h => h) (Or.inl ⟨by rfl, ?_⟩) hS0 ?_
        rotate_left
        · intro W hSW; have hx := HCN.out W hSW; go_simp; try with_reducible rfl
        try simp only [Act.put, List.getElem_toArray, List.getElem_cons_zero, List.getElem_cons_succ, List.setIfInBounds_toArray, List.set_cons_zero, List.set_cons_succ]
        refine wpAnyE_takeF (i := 6) (v := ?_) rfl (by kernel_rfl) (by kernel_rfl) (by kernel_rfl) (by kernel_rfl) (fun _ _ _ h => h) (Or.inl ⟨by rfl, ?_⟩) hS0 ?_
        rotate_left
        · intro W _; go_simp; try with_reducible rfl
        try simp only [Act.put, List.getElem_toArray, List.getElem_cons_zero, List.getElem_cons_succ, List.setIfInBounds_toArray, List.set_cons_zero, List.set_cons_succ]
        refine wpAnyE_takeF (i := 7) (v := ?_) rfl (by kernel_rfl) (by kernel_rfl) (by kernel_rfl) (by kernel_rfl) (fun _ _ _ h => h) (Or.inl ⟨by rfl, ?_⟩) hS0 ?_
        rotate_left
        · intro W _; go_simp; try with_reducible rfl
        try simp only [Act.put, List.getElem_toArray, List.getElem_cons_zero, List.getElem_cons_succ, List.setIfInBounds_toArray, List.set_cons_zero, List.set_cons_succ]
        refine wpAnyE_takeF (i := 8) (v := ?_) rfl (by kernel_rfl) (by kernel_rfl) (by kernel_rfl) (by kernel_rfl) (fun _ _ _ h => h) (Or.inl ⟨by rfl, ?_⟩) hS0 ?_
        rotate_left
        · intro W _; go_simp; try with_reducible rfl
        try simp only [Act.put, List.getElem_toArray, List.getElem_cons_zero, List.getElem_cons_succ, List.setIfInBounds_toArray, List.set_cons_zero, List.set_cons_succ]
        refine wpAnyE_takeF (i := 9) (v := ?_) rfl (by kernel_rfl) (by kernel_rfl) (by kernel_rfl) (by kernel_rfl) (fun _ _ _ h => h) (Or.inl ⟨by rfl, ?_⟩) hS0 ?_
        rotate_left
        · intro W _; go_simp; try with_reducible rfl
        try simp only [Act.put, List.getElem_toArray, List.getElem_cons_zero, List.getElem_cons_succ, List.setIfInBounds_toArray, List.set_cons_zero, List.set_cons_succ]
        refine wpAnyE_take (i := 10) (v := .agg #[.int .i64 t.1, .int .i64 t.2.1, .int .i64 t.2.2]) rfl (by kernel_rfl) (by kernel_rfl) (by kernel_rfl) (by kernel_rfl) (by kernel_rfl) (fun _ _ _ h => h) (yields_rg (by rfl) 37 _ rfl q (o + i * 5 + 2) rfl #[.int .i64 t.1, .int .i64 t.2.1, .int .i64 t.2.2] _ (fun W hW => range_keep HRG.out hW) Try.underlying37 rfl (by kernel_rfl)) hS0 ?_
        try simp only [Act.put, List.getElem_toArray, List.getElem_cons_zero, List.getElem_cons_succ, List.setIfInBounds_toArray, List.set_cons_zero, List.set_cons_succ]
        refine wpAnyE_ready (rs := [11]) (by kernel_rfl) (by simp) ?_
        refine AllReadyE.last rfl (by kernel_rfl) (fun K hK => ?_) AllReadyE.nil
        go_simp
        refine (KP.out _ g M E s t HTK.out (HB.out.below hS0).x).mono ?_
        rintro e w4 ⟨rfl, ⟨M', hO, hM'⟩, hg⟩
        have H4 : Hid (Tw W0 w4 g M' (delN E s ++ [(s, t)]) h Ky F) := (HB.out.below hS0).left hO hM' hg
        have HBA4 : Hid (Bk w4 p 37 #[.int .i64 a.1, .int .i64 a.2.1, .int .i64 a.2.2]) := (HBA.out.later hS0).grp hg fun e => by have h1 := ((HB.out.below hS0).x.ix.blk e).1; have h2 := HP3.out; omega
        clear hO hg hM'
        go_simp
        refine hK.out _ _ ?_
        clear hK K
        try simp only [Act.put, List.getElem_toArray, List.getElem_cons_zero, List.getElem_cons_succ, List.setIfInBounds_toArray, List.set_cons_zero, List.set_cons_succ]
        refine wpAny_of_held (S := fun _ => True) _ _ _ _ ?_
        refine wpAnyH_done (by kernel_rfl) ?_ _
        have HLI : Hid ((delN E s ++ [(s, t)]).length ≤ i + 1) := by show _ ≤ _; have h2 := delN_len E s; have h3 := HLL.out; rw [List.length_append]; simp only [List.length_cons, List.length_nil]; omega
        have HLS2 : Hid (Lst z (i + 1) (delN E s ++ [(s, t)])) := lst_next HLS.out HEX.out
        rw [HK.out, HF.out] at H4
        clear hS0 HB HBA HCN HRG HTK HEX
        go_wp2_with fail
        go_round
        case rel => exact ⟨i + 1, _, _, by omega, by go_num, HLI, HLS2, H4, HBA4⟩
        case measure =>
          first
          | (rw [hw1]; show N - ((i + 1 : Nat) : Int).toNat < N - ((i : Nat) : Int).toNat; rw [Int.toNat_natCast, Int.toNat_natCast]; omega)
          | (show N - ((i : Int) + 1).toNat < N - ((i : Nat) : Int).toNat; omega)
      · have hie : N = i := by omega
        subst hie
        have HKK : Hid (∀ k, IxB h Ky k → k = h) := fun k hk => by
          rw [hKy] at hk
          rcases hk with e | ⟨_, _, e⟩
          · exact e
          · cases e
        have HFL : Hid (F.length = 0) := by show _ = _; rw [hF]; rfl
        have HFS : Hid (Fst z N F) := fun s => by rw [hF, HN.out, List.drop_length]; rfl
        clear hi hin hKy hF HKK
        have HD300 : Hid (E.length ≤ 300) := by show _ ≤ _; have := HLL.out; have := HN300.out; omega
        clear HLL
        have HWI : Hid (wrap64 ((N : Int) - 1) = (N : Int) - 1) := by show _ = _; have := HN300.out; unfold wrap64; omega
        have HTW := HB
        have HBA0 := HBA
        clear HB HBA
        go_wp2_with fail
        go_loopw [8] (fun s8 wr => ∃ (j : Nat) (iz : Int) (K : Nat → Value) (F : List NV), j ≤ N ∧ s8 = .int .i64 iz ∧ Hid (iz = (j : Int) - 1) ∧ Hid (F.length + j ≤ N) ∧ Hid (Fst z j F) ∧ Hid (Tw W0 wr g M E h K F) ∧ Hid (Bk wr p 37 #[.int .i64 a.1, .int .i64 a.2.1, .int .i64 a.2.2])) (fun s8 wr => (intOf s8 + 1).toNat)
        case atStart => exact ⟨N, _, Ky, F, Nat.le_refl _, rfl, HWI, by show _ ≤ _; have := HFL.out; omega, HFS, HTW, HBA0⟩
        case round =>
          clear HFS HTW HBA0 HFL HWI
          obtain ⟨j, iz, Ky, F, hj, h8, HIZ, HLL, HFS, HB, HBA⟩ := hrel
          subst h8
          cases j with
          | zero =>
            have hiz : ¬ (0 : Int) ≤ iz := by have := HIZ.out; omega
            clear hj
            have HE1 : Hid (E.length ≤ 1000) := by show _ ≤ _; have := HD300.out; omega
            have HF1 : Hid (F.length ≤ 1000) := by show _ ≤ _; have := HLL.out; have := HN300.out; omega
            have HPERM : Hid (E.Perm F) := both_perm HB.out.x.ix.nodup HB.out.y.ix.nodup (by have := HLS.out; rw [HN.out] at this; exact this) HFS.out
            have c0 : wr.cell? ⟨p, 0, none⟩ = some (.int .i64 a.1) := HBA.out.cellAt 0
            have c1 : wr.cell? ⟨p, 1, none⟩ = some (.int .i64 a.2.1) := HBA.out.cellAt 1
            have c2 : wr.cell? ⟨p, 2, none⟩ = some (.int .i64 a.2.2) := HBA.out.cellAt 2
            clear HIZ HLL HFS HLS
            go_wp2_with fail
            refine (KA.out _ g M E a HA0.out HE1.out HB.out.x).mono ?_
            rintro e w7 ⟨⟨l, n8, A8, c8, rfl, hn4, hm4, ho4, ht4⟩, hb7⟩
            have HSl : Hid (RdS w7 A8 l) := by
              obtain ⟨A', c', hv, hr, -, -⟩ := ho4.rds
              injection hv with e1
              subst e1
              exact hr
            have HNl := Lib.hid hn4
            have HTl := Lib.hid ht4
            have HMl := Lib.hid hm4
            have HB7 := Lib.hid (HB.out.below hb7)
            have HBA7 := Lib.hid (HBA.out.later hb7)
            clear ho4 hn4 ht4 hm4 hb7 HB HBA c0 c1 c2
            have c0 : w7.cell? ⟨p, 0, none⟩ = some (.int .i64 a.1) := HBA7.out.cellAt 0
            have c1 : w7.cell? ⟨p, 1, none⟩ = some (.int .i64 a.2.1) := HBA7.out.cellAt 1
            have c2 : w7.cell? ⟨p, 2, none⟩ = some (.int .i64 a.2.2) := HBA7.out.cellAt 2
            go_wp2_with fail
            refine (KA.out _ h Ky F a HA0.out HF1.out HB7.out.y).mono ?_
            rintro e w8 ⟨⟨m, n9, A9, c9, rfl, hn4, hm4, ho4, ht4⟩, hb8⟩
            have HSm : Hid (RdS w8 A9 m) := by
              obtain ⟨A', c', hv, hr, -, -⟩ := ho4.rds
              injection hv with e1
              subst e1
              exact hr
            have HSl8 := Lib.hid (HSl.out.later hb8)
            have HNm := Lib.hid hn4
            have HLM : Hid (l = m) := told_one HPERM.out HTl.out ht4
            have HMm := Lib.hid hm4
            have HB8 := Lib.hid (HB7.out.below hb8)
            have HBA8 := Lib.hid (HBA7.out.later hb8)
            clear ho4 hn4 ht4 hm4 hb8 HB7 HBA7 c0 c1 c2 HSl
            go_wp2_with fail
            refine (KX.out A8 n8 c8 l A9 n9 c9 m w8 HNl.out HNm.out (Nat.le_trans HMl.out (by decide)) (Nat.le_trans HMm.out (by decide)) HSl8.out HSm.out).mono ?_
            rintro e wt ⟨rfl, hbt⟩
            rw [show sameS l m = true from decide_eq_true HLM.out]
            have HBt := Lib.hid (HB8.out.below hbt)
            have HBAt := Lib.hid (HBA8.out.later hbt)
            have HSlt := Lib.hid (HSl8.out.later hbt)
            clear hbt HB8 HBA8 HSl8 HSm HNm HLM HMm
            go_wp2_with fail
            refine (KL.out _ g M E HE1.out HBt.out.x).mono ?_
            rintro e wl1 ⟨rfl, hbl⟩
            have HBl := Lib.hid (HBt.out.below hbl)
            have HBAl := Lib.hid (HBAt.out.later hbl)
            have HSll := Lib.hid (HSlt.out.later hbl)
            clear hbl HBt HBAt HSlt
            go_wp2_with fail
            refine (KL.out _ h Ky F HF1.out HBl.out.y).mono ?_
            rintro e w9 ⟨rfl, hb9⟩
            rw [← HPERM.out.length_eq]
            have HX9 := Lib.hid (HBl.out.below hb9).x
            have HBA9 := Lib.hid (HBAl.out.later hb9)
            have HSl9 := Lib.hid (HSll.out.later hb9)
            have HND : Hid ((E.map Prod.fst).Nodup) := HX9.out.ix.nodup
            have HW9 : Hid (Below w.heap.size w w9) := HB0.out.trans (HX9.out.be.mono HB0.out.size)
            clear hb9 HBl HBAl HSll HF1 HPERM
            go_wp2_with fail
            go_loopw [98] (fun s98 wr => ∃ i : Nat, i ≤ n8 ∧ s98 = .int .i64 i ∧ Hid (Below w9.heap.size w9 wr)) (fun s98 wr => n8 - (intOf s98).toNat)
            case atStart => exact ⟨0, Nat.zero_le _, rfl, Below.refl _ _⟩
            case round =>
              obtain ⟨i, hi, rfl, HBW⟩ := hrel
              by_cases hin : i < n8
              · skip
                have hil : Hid (i < l.length) := by show _ < _; rw [← HNl.out]; exact hin
                obtain ⟨x, hx⟩ : ∃ x, x = l[i]'hil.out := ⟨_, rfl⟩
                obtain ⟨gl, ol, hA, hgl, hcl⟩ := HSl9.out.at hil.out
                rw [← hx] at hcl
                have hmem : x ∈ l := by rw [hx]; exact List.getElem_mem _
                obtain ⟨pr, hpr, hpe⟩ := List.mem_map.1 (HTl.out.1.mem_iff.1 hmem)
                obtain ⟨hpD, hpf⟩ := List.mem_filter.1 hpr
                have hfit := fitV_iff.1 hpf
                have hgx : getN E x = some pr.2 := by rw [← hpe]; exact getN_some HND.out hpD
                obtain ⟨⟨y1, y2, y3⟩, hy⟩ : ∃ y, y = pr.2 := ⟨_, rfl⟩
                rw [← hy] at hgx hfit
                have HGX := Lib.hid hgx
                have HFIT : Hid (a.1 ≤ y1 ∧ a.2.1 ≤ y2 ∧ a.2.2 ≤ y3) := hfit
                have HX := Lib.hid hx
                subst hA
                have hc1 : wr.cell? ⟨gl, ol + i, none⟩ = some (.string x) := (HBW.out.cell (p := ⟨gl, ol + i, none⟩) hgl).trans hcl
                have HCL : Hid (∀ W, Below w9.heap.size w9 W → W.cell? ⟨gl, ol + i, none⟩ = some (.string x)) := fun W hb => (hb.cell (p := ⟨gl, ol + i, none⟩) hgl).trans hcl
                have hii : (i : Int) < (n8 : Int) := by omega
                have HGL := Lib.hid hgl
                clear hx hgl hcl hmem hpr hpe hpD hpf hfit hgx hy
                go_wp2_with fail
                refine (KG.out _ g M E x (HX9.out.below HBW.out)).mono ?_
                rintro e w10 ⟨rfl, hb10⟩
                rw [HGX.out]
                have HB10 := Lib.hid (HBW.out.trans (hb10.mono HBW.out.size))
                clear hb10 hc1 HBW
                obtain ⟨w11, hw11⟩ : ∃ W, W = w10.alloc (.cells #[.int .i64 y1, .int .i64 y2, .int .i64 y3] 37) := ⟨_, rfl⟩
                have hal : Below w10.heap.size w10 w11 := by rw [hw11]; exact (Below.refl _ _).alloc (Nat.le_refl _) _
                have HB11 := Lib.hid (HB10.out.trans (hal.mono HB10.out.size))
                have HY11 : Hid (Bk w11 w10.heap.size 37 #[.int .i64 y1, .int .i64 y2, .int .i64 y3]) := by rw [hw11]; exact Bk.fresh _ _ _
                obtain ⟨py, hpy⟩ : ∃ p, p = w10.heap.size := ⟨_, rfl⟩
                rw [← hpy] at HY11
                clear hal
                go_wp2_with fail
                rw [← hw11, ← hpy]
                clear hw11 hpy
                have c0 : w11.cell? ⟨p, 0, none⟩ = some (.int .i64 a.1) := (HBA9.out.later HB11.out).cellAt 0
                have c1 : w11.cell? ⟨p, 1, none⟩ = some (.int .i64 a.2.1) := (HBA9.out.later HB11.out).cellAt 1
                have c2 : w11.cell? ⟨p, 2, none⟩ = some (.int .i64 a.2.2) := (HBA9.out.later HB11.out).cellAt 2
                have d0 : w11.cell? ⟨py, 0, none⟩ = some (.int .i64 y1) := HY11.out.cellAt 0
                have d1 : w11.cell? ⟨py, 1, none⟩ = some (.int .i64 y2) := HY11.out.cellAt 1
                have d2 : w11.cell? ⟨py, 2, none⟩ = some (.int .i64 y3) := HY11.out.cellAt 2
                have f0 : ¬ y1 < a.1 := by have := HFIT.out; omega
                have f1 : ¬ y2 < a.2.1 := by have := HFIT.out; omega
                have f2 : ¬ y3 < a.2.2 := by have := HFIT.out; omega
                have hxi : w11.cell? ⟨gl, ol + i, none⟩ = some (.string x) := HCL.out w11 HB11.out
                have g0 : decide (y1 < a.1) = false := decide_eq_false f0
                have g1 : decide (y2 < a.2.1) = false := decide_eq_false f1
                have g2 : decide (y3 < a.2.2) = false := decide_eq_false f2
                have b1 : p < w11.heap.size := (HBA9.out.later HB11.out).here
                have b2 : py < w11.heap.size := HY11.out.here
                have b3 : gl < w11.heap.size := World.block_lt_of_cell? w11 _ hxi
                by_cases hz : 0 < i
                · obtain ⟨j, hj⟩ : ∃ j, i = j + 1 := ⟨i - 1, by omega⟩
                  have hjl : Hid (j < l.length) := by show _ < _; have := hil.out; omega
                  obtain ⟨x0, hx0⟩ : ∃ x, x = l[j]'hjl.out := ⟨_, rfl⟩
                  have hxj : w11.cell? ⟨gl, ol + j, none⟩ = some (.string x0) := by
                    obtain ⟨gl2, ol2, hA2, hgl2, hcl2⟩ := HSl9.out.at hjl.out
                    injection hA2 with hA2
                    injection hA2 with e1 e2
                    subst e1 e2
                    rw [← hx0] at hcl2
                    exact (HB11.out.cell (p := ⟨gl, ol + j, none⟩) hgl2).trans hcl2
                  have hlss : Op.bytesLess x0.toList x.toList = true := by
                    have := (List.pairwise_iff_getElem.1 HTl.out.2) j i hjl.out hil.out (by omega)
                    rw [← hx0, ← HX.out] at this
                    exact this
                  have hw2 : wrap64 ((i : Int) - 1) = (j : Int) := by have := HMl.out; unfold wrap64; omega
                  have hw3 : IntKind.i64.wrap ((i : Int) - 1) = (j : Int) := by have := HMl.out; rw [IntKind.wrap_i64]; omega
                  have hjn : j < n8 := by omega
                  have hz1 : decide ((0 : Int) < (i : Int)) = true := decide_eq_true (by omega)
                  have hz2 : decide (0 < i) = true := decide_eq_true hz
                  clear hx0 hj
                  go_wp2_with fail
                  refine wp_region_later (by kernel_rfl) (by kernel_rfl) ?_; have hL : ∀ (w : World) (x : Later w) (b o : Nat), b < w.heap.size → x.to.cell? ⟨b, o, none⟩ = w.cell? ⟨b, o, none⟩ := fun w x b o hb => x.cell hb; have hN := Later.some; (repeat (go_big_quiet_step ((fail)))); refine wpQuiet_nil ?_; intro w12 hw12; have hb12 := Later.out hw12; clear hw12 hL hN
                  have HBN : Hid (Below w9.heap.size w9 w12) := HB11.out.trans (hb12.mono HB11.out.size)
                  have hw1 : wrap64 ((i : Int) + 1) = ((i + 1 : Nat) : Int) := by have := HMl.out; unfold wrap64; omega
                  clear c0 c1 c2 d0 d1 d2 hxi hxj hw2 hw3 hjn hb12 b1 b2 b3
                  go_wp2_with fail
                  go_round
                  case rel => exact ⟨i + 1, by omega, by go_num, HBN⟩
                  case measure =>
                    first
                    | (rw [hw1]; show n8 - ((i + 1 : Nat) : Int).toNat < n8 - ((i : Nat) : Int).toNat; rw [Int.toNat_natCast, Int.toNat_natCast]; omega)
                    | (show n8 - ((i : Int) + 1).toNat < n8 - ((i : Nat) : Int).toNat; omega)
                · have hz0 : i = 0 := by omega
                  subst hz0
                  clear hz hii
                  go_wp2_with fail
                  refine wp_region_later (by kernel_rfl) (by kernel_rfl) ?_; have hL : ∀ (w : World) (x : Later w) (b o : Nat), b < w.heap.size → x.to.cell? ⟨b, o, none⟩ = w.cell? ⟨b, o, none⟩ := fun w x b o hb => x.cell hb; have hN := Later.some; (repeat (go_big_quiet_step ((fail)))); refine wpQuiet_nil ?_; intro w12 hw12; have hb12 := Later.out hw12; clear hw12 hL hN
                  have HBN : Hid (Below w9.heap.size w9 w12) := HB11.out.trans (hb12.mono HB11.out.size)
                  clear c0 c1 c2 d0 d1 d2 hxi hb12 b1 b2 b3
                  go_wp2_with fail
                  go_round
                  case rel => exact ⟨1, by omega, by go_num, HBN⟩
                  case measure => show n8 - (1 : Int).toNat < n8 - (0 : Int).toNat; simp; omega
              · have hie : i = n8 := by omega
                subst hie
                clear hi hin
                go_wp2_with fail
                go_ret
                exact ⟨rfl, HW9.out.trans (HBW.out.mono HW9.out.size)⟩
          | succ i =>
            have hin : i < N := by omega
            have hiz : iz = (i : Int) := by have := HIZ.out; push_cast at this; omega
            subst hiz
            have hil : i < z.length := by rw [← HN.out]; exact hin
            obtain ⟨q, o, hA, hx⟩ := (HRD.out.later (HB0.out.trans (HB.out.x.be.mono HB0.out.size))).at (i := i) (by rw [List.length_map]; exact hil)
            rw [List.getElem_map] at hx
            have htk : okV z[i].2.2 := HVZ.out _ (List.getElem_mem hil)
            obtain ⟨⟨kd, s, t⟩, ex⟩ : ∃ x, x = z[i] := ⟨_, rfl⟩
            have HEX : Hid (z[i]? = some (kd, s, t)) := by show _ = _; rw [ex]; exact List.getElem?_eq_getElem hil
            rw [← ex] at hx htk
            have HTK : Hid (okV t) := htk
            subst hA
            have hcn : wr.cell? ⟨q, o + i * 5 + 1, none⟩ = some (.string s) := by simpa using hx 1 _ rfl
            have hqb : q < wr.heap.size := World.block_lt_of_cell? wr _ hcn
            have HCN : Hid (∀ W, Below wr.heap.size wr W → W.cell? ⟨q, o + i * 5 + 1, none⟩ = some (.string s)) := fun W hb => (hb.cell (p := ⟨q, o + i * 5 + 1, none⟩) hqb).trans hcn
            have hrg : wr.rangeAt q (o + i * 5 + 2) (#[.int .i64 t.1, .int .i64 t.2.1, .int .i64 t.2.2] : Array Value).toList := fun j v hv => by
              have h3 := hx (j + 2) v (by
                match j, hv with
                | 0, hv => exact hv
                | 1, hv => exact hv
                | 2, hv => exact hv
                | j + 3, hv => simp at hv)
              rw [show o + i * 5 + 2 + j = o + i * 5 + (j + 2) by omega]
              exact h3
            have HRG := Lib.hid hrg
            have hw9 : wrap64 ((i : Int) + 1) = ((i + 1 : Nat) : Int) := by have := HN300.out; unfold wrap64; omega
            clear hx ex hil htk hcn hqb hrg
            clear hw9
            have HWD : Hid (wrap64 ((i : Int) - 1) = (i : Int) - 1) := by show _ = _; have := HN300.out; unfold wrap64; omega
            have hge : (0 : Int) ≤ (i : Int) := by omega
            have hii : (i : Int) < (N : Int) := by omega
            have hcn : wr.cell? ⟨q, o + i * 5 + 1, none⟩ = some (.string s) := HCN.out wr (Below.refl _ _)
            clear hj HIZ
            go_wp2_with fail
            refine (KG.out _ h Ky F s HB.out.y).mono ?_
            rintro e w5 ⟨rfl, hb5⟩
            obtain ⟨⟨y1, y2, y3⟩, hy⟩ : ∃ y, y = (getN F s).getD (0, 0, 0) := ⟨_, rfl⟩
            rw [← hy]
            obtain ⟨w6, hw6⟩ : ∃ W, W = w5.alloc (.cells #[.int .i64 y1, .int .i64 y2, .int .i64 y3] 37) := ⟨_, rfl⟩
            have hal : Below w5.heap.size w5 w6 := by rw [hw6]; exact (Below.refl _ _).alloc (Nat.le_refl _) _
            have hb6 : Below wr.heap.size wr w6 := hb5.trans (hal.mono hb5.size)
            have HB6 := Lib.hid (HB.out.below hb6)
            have HBA6 := Lib.hid (HBA.out.later hb6)
            have HCN6 : Hid (∀ W, Below w6.heap.size w6 W → W.cell? ⟨q, o + i * 5 + 1, none⟩ = some (.string s)) := fun W hb => HCN.out W (hb6.trans (hb.mono hb6.size))
            have HRG6 := Lib.hid (range_keep HRG.out hb6)
            clear hy hb5 hal hb6 HB HBA HCN HRG hcn
            cases hd : getN F s with
            | some u =>
              have HFS2 : Hid (Fst z i F) := by have := fst_next HFS.out HEX.out; rw [hd] at this; exact this
              have HL2 : Hid (F.length + i ≤ N) := by show _ ≤ _; have := HLL.out; omega
              clear hd HFS HLL HEX HCN6 HRG6 HTK
              go_wp2_with fail
              rw [← hw6]
              clear hw6
              go_wp2_with fail
              go_round
              case rel => exact ⟨i, _, Ky, F, by omega, rfl, HWD, HL2, HFS2, HB6, HBA6⟩
              case measure => show (wrap64 ((i : Int) - 1) + 1).toNat < ((i : Int) + 1).toNat; rw [HWD.out]; omega
            | none =>
              have HFS2 : Hid (Fst z i (delN F s ++ [(s, t)])) := by have := fst_next HFS.out HEX.out; rw [hd] at this; exact this
              have HL2 : Hid ((delN F s ++ [(s, t)]).length + i ≤ N) := by show _ ≤ _; have h2 := delN_len F s; have h3 := HLL.out; rw [List.length_append]; simp only [List.length_cons, List.length_nil]; omega
              clear hd HFS HLL HEX
              go_wp2_with fail
              rw [← hw6]
              clear hw6
              refine wp_region_E (S := fun W => Below w6.heap.size w6 W) 11 (by kernel_rfl) (Below.drew (Below.refl _ _)) (fun hS0 => ?_)
              refine wpAnyE_takeF (i := 0) (v := ?_) rfl (by kernel_rfl) (by kernel_rfl) (by kernel_rfl) (by kernel_rfl) (fun _ _ _ h => h) (Or.inl ⟨by rfl, ?_⟩) hS0 ?_
              rotate_left
              · intro W _; go_simp; try with_reducible rfl
              try simp only [Act.put, List.getElem_toArray, List.getElem_cons_zero, List.setIfInBounds_toArray, List.set_cons_zero, List.set_cons_succ]
              refine wpAnyE_takeF (i := 1) (v := ?_) rfl (by kernel_rfl) (by kernel_rfl) (by kernel_rfl) (by kernel_rfl) (fun _ _ _ h => h) (Or.inl ⟨by rfl, ?_⟩) hS0 ?_
              rotate_left
              · intro W _; go_simp; try with_reducible rfl
              try simp only [Act.put, List.getElem_toArray, List.getElem_cons_zero, List.getElem_cons_succ, List.setIfInBounds_toArray, List.set_cons_zero, List.set_cons_succ]
              refine wpAnyE_takeF (i := 2) (v := ?_) rfl (by kernel_rfl) (by kernel_rfl) (by kernel_rfl) (by kernel_rfl) (fun _ _ _ h => h) (Or.inl ⟨by rfl, ?_⟩) hS0 ?_
              rotate_left
              · intro W _; go_simp; try with_reducible rfl
              try simp only [Act.put, List.getElem_toArray, List.getElem_cons_zero, List.getElem_cons_succ, List.setIfInBounds_toArray, List.set_cons_zero, List.set_cons_succ]
              refine wpAnyE_takeF (i := 3) (v := ?_) rfl (by kernel_rfl) (by kernel_rfl) (by kernel_rfl) (by kernel_rfl) (fun _ _ _ h => h) (Or.inl ⟨by rfl, ?_⟩) hS0 ?_
              rotate_left
              · intro W _; go_simp; try with_reducible rfl
              try simp only [Act.put, List.getElem_toArray, List.getElem_cons_zero, List.getElem_cons_succ, List.setIfInBounds_toArray, List.set_cons_zero, List.set_cons_succ]
              refine wpAnyE_takeF (i := 4) (v := ?_) rfl (by kernel_rfl) (by kernel_rfl) (by kernel_rfl) (by kernel_rfl) (fun _ _ _ h => h) (Or.inl ⟨by rfl, ?_⟩) hS0 ?_
              rotate_left
              · intro W _; go_simp; try with_reducible rfl
              try simp only [Act.put, List.getElem_toArray, List.getElem_cons_zero, List.getElem_cons_succ, List.setIfInBounds_toArray, List.set_cons_zero, List.set_cons_succ]
              refine wpAnyE_take (i := 5) (v := ?_) rfl (by kernel_rfl) (by kernel_rfl) (by kernel_rfl) (by kernel_rfl) (by kernel_rfl) (fun _ _ _ h => h) (Or.inl ⟨by rfl, ?_⟩) hS0 ?_
              rotate_left
              · intro W hSW; have hx := HCN6.out W hSW; go_simp; try with_reducible rfl
              try simp only [Act.put, List.getElem_toArray, List.getElem_cons_zero, List.getElem_cons_succ, List.setIfInBounds_toArray, List.set_cons_zero, List.set_cons_succ]
              refine wpAnyE_takeF (i := 6) (v := ?_) rfl (by kernel_rfl) (by kernel_rfl) (by kernel_rfl) (by kernel_rfl) (fun _ _ _ h => h) (Or.inl ⟨by rfl, ?_⟩) hS0 ?_
              rotate_left
              · intro W _; go_simp; try with_reducible rfl
              try simp only [Act.put, List.getElem_toArray, List.getElem_cons_zero, List.getElem_cons_succ, List.setIfInBounds_toArray, List.set_cons_zero, List.set_cons_succ]
              refine wpAnyE_takeF (i := 7) (v := ?_) rfl (by kernel_rfl) (by kernel_rfl) (by kernel_rfl) (by kernel_rfl) (fun _ _ _ h => h) (Or.inl ⟨by rfl, ?_⟩) hS0 ?_
              rotate_left
              · intro W _; go_simp; try with_reducible rfl
              try simp only [Act.put, List.getElem_toArray, List.getElem_cons_zero, List.getElem_cons_succ, List.setIfInBounds_toArray, List.set_cons_zero, List.set_cons_succ]
              refine wpAnyE_takeF (i := 8) (v := ?_) rfl (by kernel_rfl) (by kernel_rfl) (by kernel_rfl) (by kernel_rfl) (fun _ _ _ h => h) (Or.inl ⟨by rfl, ?_⟩) hS0 ?_
              rotate_left
              · intro W _; go_simp; try with_reducible rfl
              try simp only [Act.put, List.getElem_toArray, List.getElem_cons_zero, List.getElem_cons_succ, List.setIfInBounds_toArray, List.set_cons_zero, List.set_cons_succ]
              refine wpAnyE_takeF (i := 9) (v := ?_) rfl (by kernel_rfl) (by kernel_rfl) (by kernel_rfl) (by kernel_rfl) (fun _ _ _ h => h) (Or.inl ⟨by rfl, ?_⟩) hS0 ?_
              rotate_left
              · intro W _; go_simp; try with_reducible rfl
              try simp only [Act.put, List.getElem_toArray, List.getElem_cons_zero, List.getElem_cons_succ, List.setIfInBounds_toArray, List.set_cons_zero, List.set_cons_succ]
              refine wpAnyE_take (i := 10) (v := .agg #[.int .i64 t.1, .int .i64 t.2.1, .int .i64 t.2.2]) rfl (by kernel_rfl) (by kernel_rfl) (by kernel_rfl) (by kernel_rfl) (by kernel_rfl) (fun _ _ _ h => h) (yields_rg (by rfl) 37 _ rfl q (o + i * 5 + 2) rfl #[.int .i64 t.1, .int .i64 t.2.1, .int .i64 t.2.2] _ (fun W hW => range_keep HRG6.out hW) Try.underlying37 rfl (by kernel_rfl)) hS0 ?_
              try simp only [Act.put, List.getElem_toArray, List.getElem_cons_zero, List.getElem_cons_succ, List.setIfInBounds_toArray, List.set_cons_zero, List.set_cons_succ]
              refine wpAnyE_ready (rs := [11]) (by kernel_rfl) (by simp) ?_
              refine AllReadyE.last rfl (by kernel_rfl) (fun K hK => ?_) AllReadyE.nil
              go_simp
              refine (KP.out _ h Ky F s t HTK.out (HB6.out.below hS0).y).mono ?_
              rintro e w4 ⟨rfl, ⟨M', hO, hM'⟩, hg⟩
              have H4 : Hid (Tw W0 w4 g M E h M' (delN F s ++ [(s, t)])) := (HB6.out.below hS0).right hO hM' hg
              have HBA4 : Hid (Bk w4 p 37 #[.int .i64 a.1, .int .i64 a.2.1, .int .i64 a.2.2]) := (HBA6.out.later hS0).grp hg fun e => by have h1 := ((HB6.out.below hS0).y.ix.blk e).1; have h2 := HP3.out; omega
              clear hO hg hM'
              go_simp
              refine hK.out _ _ ?_
              clear hK K
              try simp only [Act.put, List.getElem_toArray, List.getElem_cons_zero, List.getElem_cons_succ, List.setIfInBounds_toArray, List.set_cons_zero, List.set_cons_succ]
              refine wpAny_of_held (S := fun _ => True) _ _ _ _ ?_
              refine wpAnyH_done (by kernel_rfl) ?_ _
              clear hS0 HB6 HBA6 HCN6 HRG6 HTK
              go_wp2_with fail
              go_round
              case rel => exact ⟨i, _, M', (delN F s ++ [(s, t)]), by omega, rfl, HWD, HL2, HFS2, H4, HBA4⟩
              case measure => show (wrap64 ((i : Int) - 1) + 1).toNat < ((i : Int) + 1).toNat; rw [HWD.out]; omega
end bucketOrder
end Go.Proofs.Ytiklogoookngaaa
