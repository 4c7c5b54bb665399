/- The walk of WheelPlays, zero being true. No condition beyond the form's own. -/
import Derived.Test.YtbegbecmnhldkaaTwk
import Derived.Test.YtbegbecmnhldkaaTwo
namespace Go.Proofs.Ytbegbecmnhldkaa
open Go.RowKit
set_option linter.unusedSimpArgs false
set_option linter.unusedVariables false
namespace wheelPlays
set_option maxHeartbeats 51200000 in
set_option maxRecDepth 100000 in
theorem walkT (B0 : Option Addr) (N cap : Nat) (z : List Oe) (w : World) (hn0 : N = z.length) (hr0 : RdK w 3 B0 (z.map eE)) (hc1 : N ≤ cap) (hc2 : cap ≤ 9223372036854775807) :
    Calls Try.prog 3 #[.slice B0 N cap, .bool true] w fun r w' => r = .returned (.bool true) ∧ Below w.heap.size w w' := by
  have K1 := Lib.hid (fun W => awake19_any W)
  have K7 := Lib.hid (fun (A : Option Addr) (n c : Nat) (l : List Oe) (W : World) (hn : n = l.length) (hm : n ≤ 9223372036854775807) (hr : RdK W 3 A (l.map eE)) => few19_any A n c l W (Lib.hid hn) hm (Lib.hid hr))
  have HN := Lib.hid hn0
  have HRD : Hid (RdK w 3 B0 (z.map eE)) := hr0
  have HNM : Hid (N ≤ 9223372036854775807) := by show _ ≤ _; omega
  clear hn0 hr0 hc1 hc2
  have KN := Lib.hid (fun (W : World) (h : Below w.heap.size w W) => wx_new (w := w) W h)
  have KP := Lib.hid (fun (W : World) (g : Nat) (M : Nat → Value) (D : List NT) (s : ByteArray) (t : Int) (H : Wxe w W g M D) => wx_set s t H)
  have KD := Lib.hid (fun (W : World) (g : Nat) (M : Nat → Value) (D : List NT) (s : ByteArray) (H : Wxe w W g M D) => wx_del s H)
  have KG := Lib.hid (fun (W : World) (g : Nat) (M : Nat → Value) (D : List NT) (s : ByteArray) (H : Wxe w W g M D) => atT_any w.heap.size g M D s W (Lib.hid H.ix))
  have KA := Lib.hid (fun (W : World) (g : Nat) (M : Nat → Value) (D : List NT) (t : Int) (hl : D.length ≤ 1000) (H : Wxe w W g M D) => wx_due t hl H)
  have KL := Lib.hid (fun (W : World) (g : Nat) (M : Nat → Value) (D : List NT) (hl : D.length ≤ 1000) (H : Wxe w W g M D) => lenT_any w.heap.size g M D W (by omega) (Lib.hid H.ix))
  have KX := Lib.hid (fun (A : Option Addr) (n c : Nat) (l : List ByteArray) (B : Option Addr) (m d : Nat) (r : List ByteArray) (W : World) (hn : n = l.length) (hm : m = r.length) (hl : n ≤ 9223372036854775807) (hl2 : m ≤ 9223372036854775807) (hA : RdS W A l) (hB : RdS W B r) => rtexts_any A n c l B m d r W (Lib.hid hn) (Lib.hid hm) hl hl2 (Lib.hid hA) (Lib.hid hB))
  have RP := Lib.hid (fun (W : World) (r : Nat) (vN vA : Value) (D : List NT) (s : ByteArray) (t : Int) (hb : D.length ≤ 900) (R : Ry W w.heap.size r vN vA D) (h : w.heap.size ≤ W.heap.size) => rsetT_any w.heap.size r vN vA D s t W hb (Lib.hid R) h)
  have RD := Lib.hid (fun (W : World) (r : Nat) (vN vA : Value) (D : List NT) (s : ByteArray) (hb : D.length ≤ 1000) (R : Ry W w.heap.size r vN vA D) (h : w.heap.size ≤ W.heap.size) => rdelT_any w.heap.size r vN vA D s W hb (Lib.hid R) h)
  have RG := Lib.hid (fun (W : World) (r : Nat) (vN vA : Value) (D : List NT) (s : ByteArray) (hb : D.length ≤ 1000) (hn : (D.map Prod.fst).Nodup) (R : Ry W w.heap.size r vN vA D) => rwhen_any w.heap.size r vN vA D s W hb (Lib.hid hn) (Lib.hid R))
  have RA := Lib.hid (fun (W : World) (r : Nat) (vN vA : Value) (D : List NT) (t : Int) (hb : D.length ≤ 1000) (hn : (D.map Prod.fst).Nodup) (R : Ry W w.heap.size r vN vA D) (h : w.heap.size ≤ W.heap.size) => rdueT_any w.heap.size r vN vA D t W hb (Lib.hid hn) (Lib.hid R) h)
  go_enter Try.func3, Try.ntmps3
  go_wp2_with fail
  refine (K1.out _).mono ?_; rintro e w1 ⟨rfl, hb1⟩
  have HB1 := Lib.hid hb1
  clear hb1
  go_wp2_with fail
  refine (K7.out B0 N cap z _ HN.out HNM.out (HRD.out.later HB1.out)).mono ?_; rintro e w2 ⟨⟨b, rfl, hfew⟩, hb2⟩
  have HB2 := Lib.hid (HB1.out.trans (hb2.mono HB1.out.size))
  clear hb2 HB1 HNM
  cases b with
  | false =>
    go_wp2_with fail
    refine (K1.out _).mono ?_; rintro e w3 ⟨rfl, hb3⟩
    go_wp2_with fail
    go_ret
    exact ⟨rfl, HB2.out.trans (hb3.mono HB2.out.size)⟩
  | true =>
    have HN300 : Hid (N ≤ 300) := hfew rfl
    clear hfew
    go_wp2_with fail
    refine (KN.out _ HB2.out).mono ?_; rintro e w3 ⟨⟨rfl, hX3⟩, hb3⟩
    have HW3 := Lib.hid hX3.be
    obtain ⟨r, hr⟩ : ∃ r, r = w3.heap.size := ⟨_, rfl⟩
    obtain ⟨W4, hW4⟩ : ∃ W, W = w3.alloc (.cells #[.slice none 0 0, .slice none 0 0] 31) := ⟨_, rfl⟩
    have hb4 : Below w3.heap.size w3 W4 := by rw [hW4]; exact (Below.refl _ _).alloc (Nat.le_refl _) _
    have HRX4 : Hid (Ry W4 w.heap.size r (.slice none 0 0) (.slice none 0 0) []) := by
      rw [hW4, hr]
      exact ⟨Bk.fresh _ _ _, OwnK.nil _ _ _ _, OwnK.nil _ _ _ _, hX3.be.size⟩
    obtain ⟨g0, hg0⟩ : ∃ g, g = w2.heap.size := ⟨_, rfl⟩
    rw [← hg0] at hX3 ⊢
    have HX4 := Lib.hid (hX3.below hb4)
    clear hX3 hb3 hb4 HB2 hg0
    have HL : Hid (cT (fun _ => .map none) = #[.map none, .map none, .map none, .map none, .map none, .map none, .map none, .map none, .map none, .map none, .map none, .map none, .map none, .map none, .map none, .map none]) := by show _ = _; kernel_rfl
    obtain ⟨g, hg⟩ : ∃ g, g = W4.heap.size := ⟨_, rfl⟩
    obtain ⟨W5, hW5⟩ : ∃ W, W = W4.alloc (.cells #[.map none, .map none, .map none, .map none, .map none, .map none, .map none, .map none, .map none, .map none, .map none, .map none, .map none, .map none, .map none, .map none] 35) := ⟨_, rfl⟩
    have hb5 : Below W4.heap.size W4 W5 := by rw [hW5]; exact (Below.refl _ _).alloc (Nat.le_refl _) _
    have HBO : Hid (Wt w W5 g (fun _ => .map none) r (.slice none 0 0) (.slice none 0 0) []) := by
      refine ⟨⟨?_, HX4.out.be.trans (hb5.mono HX4.out.be.size)⟩, HRX4.out.later hb5, List.Pairwise.nil⟩
      rw [hg]
      refine Wx.fresh HX4.out.be.size ?_
      rw [HL.out, hW5]
      exact Bk.fresh _ _ _
    have hg1 : g = w3.heap.size + 1 := by rw [hg, hW4]; simp
    rw [hW4] at hW5
    clear hb5 HL hg hW4
    go_wp2_with fail
    rw [← hg1, ← hr, ← hW5]
    clear hW5 hg1 hr HX4 HRX4
    go_loopw [31] (fun s31 wr => ∃ (i : Nat) (M : Nat → Value) (vN vA : Value) (E : List NT), i ≤ N ∧ s31 = .int .i64 i ∧ Hid (E.length ≤ i) ∧ Hid (Wt w wr g M r vN vA E)) (fun s31 wr => N - (intOf s31).toNat)
    case atStart => exact ⟨0, _, _, _, _, Nat.zero_le _, rfl, Nat.le_refl _, HBO⟩
    case round =>
      clear HBO
      obtain ⟨i, M, vN, vA, E, hi, rfl, HLL, HB⟩ := hrel
      by_cases hin : i < N
      · have hil : i < z.length := by rw [← HN.out]; exact hin
        obtain ⟨q, o, hA, hx⟩ := (HRD.out.later HB.out.ix.be).at (i := i) (by rw [List.length_map]; exact hil)
        subst hA
        rw [List.getElem_map] at hx
        obtain ⟨⟨kd, t, s⟩, ex⟩ : ∃ x, x = z[i] := ⟨_, rfl⟩
        rw [← ex] at hx
        have HX : Hid (wr.rangeAt q (o + i * 3) (#[.int .i64 kd, .int .i64 t, .string s] : Array Value).toList) := hx
        have hw1 : wrap64 ((i : Int) + 1) = ((i + 1 : Nat) : Int) := by have := HN300.out; unfold wrap64; omega
        have HFR : Hid (Bk (wr.alloc (.cells #[.int .i64 kd, .int .i64 t, .string s] 37)) wr.heap.size 37 #[.int .i64 kd, .int .i64 t, .string s]) := Bk.fresh _ _ _
        have HB1 : Hid (Wt w (wr.alloc (.cells #[.int .i64 kd, .int .i64 t, .string s] 37)) g M r vN vA E) := HB.out.below ((Below.refl _ _).alloc (Nat.le_refl _) _)
        have HLT : Hid (∀ k, WxB g M k → k < wr.heap.size) := fun k hk => (HB.out.ix.ix.blk hk).2
        have HRL : Hid (r < wr.heap.size) := HB.out.rx.bk.here
        clear hx ex hil HB
        by_cases q1 : kd = 1
        · subst q1
          go_wp2_with (with_reducible refine load_rg rfl 37 _ rfl q (o + i * 3) rfl #[.int .i64 1, .int .i64 t, .string s] _ HX.out Try.underlying37 rfl (by kernel_rfl) ?_)
          refine (KP.out _ g M E s t HB1.out.ix).mono ?_
          rintro e w4 ⟨rfl, ⟨M', hO, -⟩, hg⟩
          have HR4 := Lib.hid (HB1.out.left hg)
          have H4 := Lib.hid hO
          have HF4 : Hid (Bk w4 wr.heap.size 37 #[.int .i64 1, .int .i64 t, .string s]) := HFR.out.grp hg (fun e => by have := HLT.out _ e; omega)
          have c2 : w4.cell? ⟨wr.heap.size, 2, none⟩ = some (.string s) := HF4.out.cellAt 2
          have c1 : w4.cell? ⟨wr.heap.size, 1, none⟩ = some (.int .i64 t) := HF4.out.cellAt 1
          have hl4 : wr.heap.size < w4.heap.size := HF4.out.here
          clear hO hg HFR
          go_wp2_with fail
          refine (RP.out w4 r vN vA E s t (by have := HLL.out; have := HN300.out; omega) HR4.out (H4.out.be.size)).mono ?_
          rintro e w5 ⟨rfl, ⟨vN', vA', hR⟩, hg5⟩
          have HH := Lib.hid ((H4.out.rxk HR4.out hg5).perm (putT_perm E s t))
          have HF := Lib.hid hR
          have HAS := Lib.hid (HB1.out.asc.put s t)
          have HLI : Hid ((putT E s t).length ≤ i + 1) := by show _ ≤ _; have h1 := (putT_perm E s t).length_eq; have h2 := delT_len E s; have h3 := HLL.out; rw [List.length_append] at h1; simp only [List.length_cons, List.length_nil] at h1; omega
          clear hR hg5 H4 HR4 HF4 HB1 c1 c2 hl4 HX
          go_wp2_with fail
          obtain ⟨A9, c9, hv9, -, -, -⟩ := HF.out.nm.rds
          obtain ⟨n9, hn9⟩ : ∃ n, n = List.length (putT E s t) := ⟨_, rfl⟩
          rw [List.length_map, ← hn9] at hv9
          subst hv9
          have HRB := Lib.hid HF.out.bk
          have HN9 := Lib.hid hn9
          have HL9 : Hid (List.length (putT E s t) ≤ 1000) := by show _ ≤ _; have h1 := HLI.out; have h2 := HN300.out; omega
          clear hn9
          refine wp_region_held_drew (S := fun W => Below w5.heap.size w5 W) (by kernel_rfl) (Below.drew (Below.refl _ _)) (fun hS0 => ?_)
          refine wpAnyH_take (i := 0) (v := ?_) rfl (by kernel_rfl) (by kernel_rfl) (by kernel_rfl) (fun _ _ _ h => h) (Or.inl ⟨by rfl, ?_⟩) hS0 ?_
          rotate_left
          · intro W _; go_simp; try with_reducible rfl
          try simp only [Act.put, List.getElem_toArray, List.getElem_cons_zero, List.setIfInBounds_toArray, List.set_cons_zero, List.set_cons_succ]
          refine wpAnyH_take (i := 2) (v := ?_) rfl (by kernel_rfl) (by kernel_rfl) (by kernel_rfl) (fun _ _ _ h => h) (Or.inl ⟨by rfl, ?_⟩) hS0 ?_
          rotate_left
          · intro W _; go_simp; try with_reducible rfl
          try simp only [Act.put, List.getElem_toArray, List.getElem_cons_zero, List.getElem_cons_succ, List.setIfInBounds_toArray, List.set_cons_zero, List.set_cons_succ]
          refine wpAnyH_take (i := 3) (v := ?_) rfl (by kernel_rfl) (by kernel_rfl) (by kernel_rfl) (fun _ _ _ h => h) (Or.inl ⟨by rfl, ?_⟩) hS0 ?_
          rotate_left
          · intro W _; go_simp; try with_reducible rfl
          try simp only [Act.put, List.getElem_toArray, List.getElem_cons_zero, List.getElem_cons_succ, List.setIfInBounds_toArray, List.set_cons_zero, List.set_cons_succ]
          refine wpAnyH_take (i := 4) (v := ?_) rfl (by kernel_rfl) (by kernel_rfl) (by kernel_rfl) (fun _ _ _ h => h) (Or.inl ⟨by rfl, ?_⟩) hS0 ?_
          rotate_left
          · intro W _; go_simp; try with_reducible rfl
          try simp only [Act.put, List.getElem_toArray, List.getElem_cons_zero, List.getElem_cons_succ, List.setIfInBounds_toArray, List.set_cons_zero, List.set_cons_succ]
          refine wpAnyH_take (i := 5) (v := ?_) rfl (by kernel_rfl) (by kernel_rfl) (by kernel_rfl) (fun _ _ _ h => h) (Or.inl ⟨by rfl, ?_⟩) hS0 ?_
          rotate_left
          · intro W hSW; have hx := (HRB.out.later hSW).cellAt 0; try simp only [List.getElem?_toArray, List.getElem?_cons_zero] at hx; go_simp; try with_reducible rfl
          try simp only [Act.put, List.getElem_toArray, List.getElem_cons_zero, List.getElem_cons_succ, List.setIfInBounds_toArray, List.set_cons_zero, List.set_cons_succ]
          refine wpAnyH_take (i := 6) (v := ?_) rfl (by kernel_rfl) (by kernel_rfl) (by kernel_rfl) (fun _ _ _ h => h) (Or.inl ⟨by rfl, ?_⟩) hS0 ?_
          rotate_left
          · intro W _; go_simp; try with_reducible rfl
          try simp only [Act.put, List.getElem_toArray, List.getElem_cons_zero, List.getElem_cons_succ, List.setIfInBounds_toArray, List.set_cons_zero, List.set_cons_succ]
          refine wpAnyH_ready (rs := [1]) (by kernel_rfl) (by simp) ?_
          refine AllReadyH.cons rfl (fun K hK => ?_) AllReadyH.nil
          go_simp
          refine (KL.out _ g _ (putT E s t) HL9.out (HH.out.below hS0)).mono ?_
          rintro e w8 ⟨rfl, hb8⟩
          rw [← HN9.out]
          go_simp
          refine hK.out _ _ (hS0.trans (hb8.mono hS0.size)) (fun hS1 => ?_)
          clear hK K
          try simp only [Act.put, List.getElem_toArray, List.getElem_cons_zero, List.getElem_cons_succ, List.setIfInBounds_toArray, List.set_cons_zero, List.set_cons_succ]
          refine wpAnyH_take (i := 7) (v := ?_) rfl (by kernel_rfl) (by kernel_rfl) (by kernel_rfl) (fun _ _ _ h => h) (Or.inl ⟨by rfl, ?_⟩) hS1 ?_
          rotate_left
          · intro W _; go_simp; try with_reducible rfl
          try simp only [Act.put, List.getElem_toArray, List.getElem_cons_zero, List.getElem_cons_succ, List.setIfInBounds_toArray, List.set_cons_zero, List.set_cons_succ]
          refine wpAnyH_done (by kernel_rfl) ?_ _
          have HBB := Lib.hid ((Wt.mk HH.out HF.out HAS.out).below hS1)
          clear hS0 hS1 HH HF HAS HRB HN9 HL9
          go_wp2_with fail
          go_round
          case rel => exact ⟨i + 1, _, _, _, _, by omega, by go_num, HLI, HBB⟩
          case measure =>
            first
            | (rw [hw1]; show N - ((i + 1 : Nat) : Int).toNat < N - ((i : Nat) : Int).toNat; rw [Int.toNat_natCast, Int.toNat_natCast]; omega)
            | (show N - ((i : Int) + 1).toNat < N - ((i : Nat) : Int).toNat; omega)
        · have e1 : (kd == 1) = false := by simpa using q1
          by_cases q2 : kd = 2
          · subst q2
            clear e1 q1
            have HL0 : Hid (E.length ≤ 1000) := by show _ ≤ _; have := HLL.out; have := HN300.out; omega
            go_wp2_with (with_reducible refine load_rg rfl 37 _ rfl q (o + i * 3) rfl #[.int .i64 2, .int .i64 t, .string s] _ HX.out Try.underlying37 rfl (by kernel_rfl) ?_)
            refine wp_region_held_drew (S := fun W => Bk W wr.heap.size 37 #[.int .i64 2, .int .i64 t, .string s]) (by kernel_rfl) (HFR.out.drewB) (fun hS0 => ?_)
            refine wpAnyH_take (i := 0) (v := ?_) rfl (by kernel_rfl) (by kernel_rfl) (by kernel_rfl) (fun _ _ _ h => h) (Or.inl ⟨by rfl, ?_⟩) hS0 ?_
            rotate_left
            · intro W _; go_simp; try with_reducible rfl
            try simp only [Act.put, List.getElem_toArray, List.getElem_cons_zero, List.setIfInBounds_toArray, List.set_cons_zero, List.set_cons_succ]
            refine wpAnyH_take (i := 1) (v := ?_) rfl (by kernel_rfl) (by kernel_rfl) (by kernel_rfl) (fun _ _ _ h => h) (Or.inl ⟨by rfl, ?_⟩) hS0 ?_
            rotate_left
            · intro W _; go_simp; try with_reducible rfl
            try simp only [Act.put, List.getElem_toArray, List.getElem_cons_zero, List.getElem_cons_succ, List.setIfInBounds_toArray, List.set_cons_zero, List.set_cons_succ]
            refine wpAnyH_take (i := 2) (v := ?_) rfl (by kernel_rfl) (by kernel_rfl) (by kernel_rfl) (fun _ _ _ h => h) (Or.inl ⟨by rfl, ?_⟩) hS0 ?_
            rotate_left
            · intro W hSW; have hx := hSW.cellAt 2; try simp only [List.getElem?_toArray, List.getElem?_cons_succ, List.getElem?_cons_zero] at hx; go_simp; try with_reducible rfl
            try simp only [Act.put, List.getElem_toArray, List.getElem_cons_zero, List.getElem_cons_succ, List.setIfInBounds_toArray, List.set_cons_zero, List.set_cons_succ]
            refine wpAnyH_take (i := 4) (v := ?_) rfl (by kernel_rfl) (by kernel_rfl) (by kernel_rfl) (fun _ _ _ h => h) (Or.inl ⟨by rfl, ?_⟩) hS0 ?_
            rotate_left
            · intro W _; go_simp; try with_reducible rfl
            try simp only [Act.put, List.getElem_toArray, List.getElem_cons_zero, List.getElem_cons_succ, List.setIfInBounds_toArray, List.set_cons_zero, List.set_cons_succ]
            refine wpAnyH_take (i := 5) (v := ?_) rfl (by kernel_rfl) (by kernel_rfl) (by kernel_rfl) (fun _ _ _ h => h) (Or.inl ⟨by rfl, ?_⟩) hS0 ?_
            rotate_left
            · intro W _; go_simp; try with_reducible rfl
            try simp only [Act.put, List.getElem_toArray, List.getElem_cons_zero, List.getElem_cons_succ, List.setIfInBounds_toArray, List.set_cons_zero, List.set_cons_succ]
            refine wpAnyH_take (i := 6) (v := ?_) rfl (by kernel_rfl) (by kernel_rfl) (by kernel_rfl) (fun _ _ _ h => h) (Or.inl ⟨by rfl, ?_⟩) hS0 ?_
            rotate_left
            · intro W hSW; have hx := hSW.cellAt 2; try simp only [List.getElem?_toArray, List.getElem?_cons_succ, List.getElem?_cons_zero] at hx; go_simp; try with_reducible rfl
            try simp only [Act.put, List.getElem_toArray, List.getElem_cons_zero, List.getElem_cons_succ, List.setIfInBounds_toArray, List.set_cons_zero, List.set_cons_succ]
            refine wpAnyH_ready (rs := [3]) (by kernel_rfl) (by simp) ?_
            refine AllReadyH.cons rfl (fun K hK => ?_) AllReadyH.nil
            go_simp
            refine (KD.out _ g M E s (HB1.out.ix.below (Below.drew (Below.refl _ _)))).mono ?_
            rintro e w4 ⟨rfl, hO, hg⟩
            have HR4 := Lib.hid ((HB1.out.below (Below.drew (Below.refl _ _))).left hg)
            have H4 := Lib.hid hO
            go_simp
            refine hK.out _ _ ((hS0).grp hg (fun e => by have := HLT.out _ e; omega)) (fun hS1 => ?_)
            clear hK K
            try simp only [Act.put, List.getElem_toArray, List.getElem_cons_zero, List.getElem_cons_succ, List.setIfInBounds_toArray, List.set_cons_zero, List.set_cons_succ]
            clear hO hg
            refine wpAnyH_ready (rs := [7]) (by kernel_rfl) (by simp) ?_
            refine AllReadyH.cons rfl (fun K hK => ?_) AllReadyH.nil
            go_simp
            refine (RD.out w4 r vN vA E s HL0.out HR4.out (H4.out.be.size)).mono ?_
            rintro e w5 ⟨rfl, ⟨vN', vA', hR⟩, hg5⟩
            have HH := Lib.hid (H4.out.rxk HR4.out hg5)
            have HF := Lib.hid hR
            go_simp
            refine hK.out _ _ ((hS1).grp hg5 (fun e => by have := HRL.out; omega)) (fun hS2 => ?_)
            clear hK K
            try simp only [Act.put, List.getElem_toArray, List.getElem_cons_zero, List.getElem_cons_succ, List.setIfInBounds_toArray, List.set_cons_zero, List.set_cons_succ]
            clear hR hg5
            refine wpAnyH_take (i := 8) (v := ?_) rfl (by kernel_rfl) (by kernel_rfl) (by kernel_rfl) (fun _ _ _ h => h) (Or.inl ⟨by rfl, ?_⟩) hS2 ?_
            rotate_left
            · intro W _; go_simp; try with_reducible rfl
            try simp only [Act.put, List.getElem_toArray, List.getElem_cons_zero, List.getElem_cons_succ, List.setIfInBounds_toArray, List.set_cons_zero, List.set_cons_succ]
            refine wpAnyH_done (by kernel_rfl) ?_ _
            have HAS := Lib.hid (HB1.out.asc.del s)
            have HLI : Hid ((delT E s).length ≤ i + 1) := by show _ ≤ _; have h2 := delT_len E s; have h3 := HLL.out; omega
            clear hS0 hS1 hS2 H4 HR4 HB1 HX HFR HL0
            go_wp2_with fail
            obtain ⟨A9, c9, hv9, -, -, -⟩ := HF.out.nm.rds
            obtain ⟨n9, hn9⟩ : ∃ n, n = List.length (delT E s) := ⟨_, rfl⟩
            rw [List.length_map, ← hn9] at hv9
            subst hv9
            have HRB := Lib.hid HF.out.bk
            have HN9 := Lib.hid hn9
            have HL9 : Hid (List.length (delT E s) ≤ 1000) := by show _ ≤ _; have h1 := HLI.out; have h2 := HN300.out; omega
            clear hn9
            refine wp_region_held_drew (S := fun W => Below w5.heap.size w5 W) (by kernel_rfl) (Below.drew (Below.refl _ _)) (fun hS0 => ?_)
            refine wpAnyH_take (i := 0) (v := ?_) rfl (by kernel_rfl) (by kernel_rfl) (by kernel_rfl) (fun _ _ _ h => h) (Or.inl ⟨by rfl, ?_⟩) hS0 ?_
            rotate_left
            · intro W _; go_simp; try with_reducible rfl
            try simp only [Act.put, List.getElem_toArray, List.getElem_cons_zero, List.setIfInBounds_toArray, List.set_cons_zero, List.set_cons_succ]
            refine wpAnyH_take (i := 2) (v := ?_) rfl (by kernel_rfl) (by kernel_rfl) (by kernel_rfl) (fun _ _ _ h => h) (Or.inl ⟨by rfl, ?_⟩) hS0 ?_
            rotate_left
            · intro W _; go_simp; try with_reducible rfl
            try simp only [Act.put, List.getElem_toArray, List.getElem_cons_zero, List.getElem_cons_succ, List.setIfInBounds_toArray, List.set_cons_zero, List.set_cons_succ]
            refine wpAnyH_take (i := 3) (v := ?_) rfl (by kernel_rfl) (by kernel_rfl) (by kernel_rfl) (fun _ _ _ h => h) (Or.inl ⟨by rfl, ?_⟩) hS0 ?_
            rotate_left
            · intro W _; go_simp; try with_reducible rfl
            try simp only [Act.put, List.getElem_toArray, List.getElem_cons_zero, List.getElem_cons_succ, List.setIfInBounds_toArray, List.set_cons_zero, List.set_cons_succ]
            refine wpAnyH_take (i := 4) (v := ?_) rfl (by kernel_rfl) (by kernel_rfl) (by kernel_rfl) (fun _ _ _ h => h) (Or.inl ⟨by rfl, ?_⟩) hS0 ?_
            rotate_left
            · intro W _; go_simp; try with_reducible rfl
            try simp only [Act.put, List.getElem_toArray, List.getElem_cons_zero, List.getElem_cons_succ, List.setIfInBounds_toArray, List.set_cons_zero, List.set_cons_succ]
            refine wpAnyH_take (i := 5) (v := ?_) rfl (by kernel_rfl) (by kernel_rfl) (by kernel_rfl) (fun _ _ _ h => h) (Or.inl ⟨by rfl, ?_⟩) hS0 ?_
            rotate_left
            · intro W hSW; have hx := (HRB.out.later hSW).cellAt 0; try simp only [List.getElem?_toArray, List.getElem?_cons_zero] at hx; go_simp; try with_reducible rfl
            try simp only [Act.put, List.getElem_toArray, List.getElem_cons_zero, List.getElem_cons_succ, List.setIfInBounds_toArray, List.set_cons_zero, List.set_cons_succ]
            refine wpAnyH_take (i := 6) (v := ?_) rfl (by kernel_rfl) (by kernel_rfl) (by kernel_rfl) (fun _ _ _ h => h) (Or.inl ⟨by rfl, ?_⟩) hS0 ?_
            rotate_left
            · intro W _; go_simp; try with_reducible rfl
            try simp only [Act.put, List.getElem_toArray, List.getElem_cons_zero, List.getElem_cons_succ, List.setIfInBounds_toArray, List.set_cons_zero, List.set_cons_succ]
            refine wpAnyH_ready (rs := [1]) (by kernel_rfl) (by simp) ?_
            refine AllReadyH.cons rfl (fun K hK => ?_) AllReadyH.nil
            go_simp
            refine (KL.out _ g _ (delT E s) HL9.out (HH.out.below hS0)).mono ?_
            rintro e w8 ⟨rfl, hb8⟩
            rw [← HN9.out]
            go_simp
            refine hK.out _ _ (hS0.trans (hb8.mono hS0.size)) (fun hS1 => ?_)
            clear hK K
            try simp only [Act.put, List.getElem_toArray, List.getElem_cons_zero, List.getElem_cons_succ, List.setIfInBounds_toArray, List.set_cons_zero, List.set_cons_succ]
            refine wpAnyH_take (i := 7) (v := ?_) rfl (by kernel_rfl) (by kernel_rfl) (by kernel_rfl) (fun _ _ _ h => h) (Or.inl ⟨by rfl, ?_⟩) hS1 ?_
            rotate_left
            · intro W _; go_simp; try with_reducible rfl
            try simp only [Act.put, List.getElem_toArray, List.getElem_cons_zero, List.getElem_cons_succ, List.setIfInBounds_toArray, List.set_cons_zero, List.set_cons_succ]
            refine wpAnyH_done (by kernel_rfl) ?_ _
            have HBB := Lib.hid ((Wt.mk HH.out HF.out HAS.out).below hS1)
            clear hS0 hS1 HH HF HAS HRB HN9 HL9
            go_wp2_with fail
            go_round
            case rel => exact ⟨i + 1, _, _, _, _, by omega, by go_num, HLI, HBB⟩
            case measure =>
              first
              | (rw [hw1]; show N - ((i + 1 : Nat) : Int).toNat < N - ((i : Nat) : Int).toNat; rw [Int.toNat_natCast, Int.toNat_natCast]; omega)
              | (show N - ((i : Int) + 1).toNat < N - ((i : Nat) : Int).toNat; omega)
          · have e2 : (kd == 2) = false := by simpa using q2
            by_cases q3 : kd = 3
            · subst q3
              clear e1 e2 q1 q2
              have HL0 : Hid (E.length ≤ 1000) := by show _ ≤ _; have := HLL.out; have := HN300.out; omega
              go_wp2_with (with_reducible refine load_rg rfl 37 _ rfl q (o + i * 3) rfl #[.int .i64 3, .int .i64 t, .string s] _ HX.out Try.underlying37 rfl (by kernel_rfl) ?_)
              refine (KG.out _ g M E s HB1.out.ix).mono ?_
              rintro e w4 ⟨rfl, hb4⟩
              obtain ⟨y, hy⟩ : ∃ y, y = (getT E s).getD 0 := ⟨_, rfl⟩
              obtain ⟨d, hd⟩ : ∃ d, d = (getT E s).isSome := ⟨_, rfl⟩
              rw [← hy, ← hd]
              have HY := Lib.hid hy; have HD := Lib.hid hd
              have HB4 := Lib.hid (HB1.out.below hb4)
              have HF4 := Lib.hid (HFR.out.later hb4)
              have c2 : w4.cell? ⟨wr.heap.size, 2, none⟩ = some (.string s) := HF4.out.cellAt 2
              have hl4 : wr.heap.size < w4.heap.size := HF4.out.here
              clear hy hd hb4 HB1 HFR
              go_wp2_with fail
              refine (RG.out _ r vN vA E s HL0.out HB4.out.asc.nodup HB4.out.rx).mono ?_
              rintro e w6 ⟨rfl, hb6⟩
              rw [← HY.out, ← HD.out]
              have HB6 := Lib.hid (HB4.out.below hb6)
              have HH := Lib.hid HB6.out.ix
              have HF := Lib.hid HB6.out.rx
              have HAS := Lib.hid HB6.out.asc
              have HLI : Hid (E.length ≤ i + 1) := by show _ ≤ _; have h3 := HLL.out; omega
              clear hb6 HB4 HF4 c2 hl4 HB6 HY HD HX HL0
              go_wp2_with fail
              obtain ⟨A9, c9, hv9, -, -, -⟩ := HF.out.nm.rds
              obtain ⟨n9, hn9⟩ : ∃ n, n = List.length E := ⟨_, rfl⟩
              rw [List.length_map, ← hn9] at hv9
              subst hv9
              have HRB := Lib.hid HF.out.bk
              have HN9 := Lib.hid hn9
              have HL9 : Hid (List.length E ≤ 1000) := by show _ ≤ _; have h1 := HLI.out; have h2 := HN300.out; omega
              clear hn9
              refine wp_region_held_drew (S := fun W => Below w6.heap.size w6 W) (by kernel_rfl) (Below.drew (Below.refl _ _)) (fun hS0 => ?_)
              refine wpAnyH_take (i := 0) (v := ?_) rfl (by kernel_rfl) (by kernel_rfl) (by kernel_rfl) (fun _ _ _ h => h) (Or.inl ⟨by rfl, ?_⟩) hS0 ?_
              rotate_left
              · intro W _; go_simp; try with_reducible rfl
              try simp only [Act.put, List.getElem_toArray, List.getElem_cons_zero, List.setIfInBounds_toArray, List.set_cons_zero, List.set_cons_succ]
              refine wpAnyH_take (i := 2) (v := ?_) rfl (by kernel_rfl) (by kernel_rfl) (by kernel_rfl) (fun _ _ _ h => h) (Or.inl ⟨by rfl, ?_⟩) hS0 ?_
              rotate_left
              · intro W _; go_simp; try with_reducible rfl
              try simp only [Act.put, List.getElem_toArray, List.getElem_cons_zero, List.getElem_cons_succ, List.setIfInBounds_toArray, List.set_cons_zero, List.set_cons_succ]
              refine wpAnyH_take (i := 3) (v := ?_) rfl (by kernel_rfl) (by kernel_rfl) (by kernel_rfl) (fun _ _ _ h => h) (Or.inl ⟨by rfl, ?_⟩) hS0 ?_
              rotate_left
              · intro W _; go_simp; try with_reducible rfl
              try simp only [Act.put, List.getElem_toArray, List.getElem_cons_zero, List.getElem_cons_succ, List.setIfInBounds_toArray, List.set_cons_zero, List.set_cons_succ]
              refine wpAnyH_take (i := 4) (v := ?_) rfl (by kernel_rfl) (by kernel_rfl) (by kernel_rfl) (fun _ _ _ h => h) (Or.inl ⟨by rfl, ?_⟩) hS0 ?_
              rotate_left
              · intro W _; go_simp; try with_reducible rfl
              try simp only [Act.put, List.getElem_toArray, List.getElem_cons_zero, List.getElem_cons_succ, List.setIfInBounds_toArray, List.set_cons_zero, List.set_cons_succ]
              refine wpAnyH_take (i := 5) (v := ?_) rfl (by kernel_rfl) (by kernel_rfl) (by kernel_rfl) (fun _ _ _ h => h) (Or.inl ⟨by rfl, ?_⟩) hS0 ?_
              rotate_left
              · intro W hSW; have hx := (HRB.out.later hSW).cellAt 0; try simp only [List.getElem?_toArray, List.getElem?_cons_zero] at hx; go_simp; try with_reducible rfl
              try simp only [Act.put, List.getElem_toArray, List.getElem_cons_zero, List.getElem_cons_succ, List.setIfInBounds_toArray, List.set_cons_zero, List.set_cons_succ]
              refine wpAnyH_take (i := 6) (v := ?_) rfl (by kernel_rfl) (by kernel_rfl) (by kernel_rfl) (fun _ _ _ h => h) (Or.inl ⟨by rfl, ?_⟩) hS0 ?_
              rotate_left
              · intro W _; go_simp; try with_reducible rfl
              try simp only [Act.put, List.getElem_toArray, List.getElem_cons_zero, List.getElem_cons_succ, List.setIfInBounds_toArray, List.set_cons_zero, List.set_cons_succ]
              refine wpAnyH_ready (rs := [1]) (by kernel_rfl) (by simp) ?_
              refine AllReadyH.cons rfl (fun K hK => ?_) AllReadyH.nil
              go_simp
              refine (KL.out _ g _ E HL9.out (HH.out.below hS0)).mono ?_
              rintro e w8 ⟨rfl, hb8⟩
              rw [← HN9.out]
              go_simp
              refine hK.out _ _ (hS0.trans (hb8.mono hS0.size)) (fun hS1 => ?_)
              clear hK K
              try simp only [Act.put, List.getElem_toArray, List.getElem_cons_zero, List.getElem_cons_succ, List.setIfInBounds_toArray, List.set_cons_zero, List.set_cons_succ]
              refine wpAnyH_take (i := 7) (v := ?_) rfl (by kernel_rfl) (by kernel_rfl) (by kernel_rfl) (fun _ _ _ h => h) (Or.inl ⟨by rfl, ?_⟩) hS1 ?_
              rotate_left
              · intro W _; go_simp; try with_reducible rfl
              try simp only [Act.put, List.getElem_toArray, List.getElem_cons_zero, List.getElem_cons_succ, List.setIfInBounds_toArray, List.set_cons_zero, List.set_cons_succ]
              refine wpAnyH_done (by kernel_rfl) ?_ _
              have HBB := Lib.hid ((Wt.mk HH.out HF.out HAS.out).below hS1)
              clear hS0 hS1 HH HF HAS HRB HN9 HL9
              go_wp2_with fail
              go_round
              case rel => exact ⟨i + 1, _, _, _, _, by omega, by go_num, HLI, HBB⟩
              case measure =>
                first
                | (rw [hw1]; show N - ((i + 1 : Nat) : Int).toNat < N - ((i : Nat) : Int).toNat; rw [Int.toNat_natCast, Int.toNat_natCast]; omega)
                | (show N - ((i : Int) + 1).toNat < N - ((i : Nat) : Int).toNat; omega)
            · have e3 : (kd == 3) = false := by simpa using q3
              by_cases q4 : kd = 4
              · subst q4
                clear e1 e2 e3 q1 q2 q3
                have HL0 : Hid (E.length ≤ 1000) := by show _ ≤ _; have := HLL.out; have := HN300.out; omega
                go_wp2_with (with_reducible refine load_rg rfl 37 _ rfl q (o + i * 3) rfl #[.int .i64 4, .int .i64 t, .string s] _ HX.out Try.underlying37 rfl (by kernel_rfl) ?_)
                refine wp_region_held_drew (S := fun W => Bk W wr.heap.size 37 #[.int .i64 4, .int .i64 t, .string s]) (by kernel_rfl) (HFR.out.drewB) (fun hS0 => ?_)
                refine wpAnyH_take (i := 0) (v := ?_) rfl (by kernel_rfl) (by kernel_rfl) (by kernel_rfl) (fun _ _ _ h => h) (Or.inl ⟨by rfl, ?_⟩) hS0 ?_
                rotate_left
                · intro W _; go_simp; try with_reducible rfl
                try simp only [Act.put, List.getElem_toArray, List.getElem_cons_zero, List.setIfInBounds_toArray, List.set_cons_zero, List.set_cons_succ]
                refine wpAnyH_take (i := 1) (v := ?_) rfl (by kernel_rfl) (by kernel_rfl) (by kernel_rfl) (fun _ _ _ h => h) (Or.inl ⟨by rfl, ?_⟩) hS0 ?_
                rotate_left
                · intro W _; go_simp; try with_reducible rfl
                try simp only [Act.put, List.getElem_toArray, List.getElem_cons_zero, List.getElem_cons_succ, List.setIfInBounds_toArray, List.set_cons_zero, List.set_cons_succ]
                refine wpAnyH_take (i := 2) (v := ?_) rfl (by kernel_rfl) (by kernel_rfl) (by kernel_rfl) (fun _ _ _ h => h) (Or.inl ⟨by rfl, ?_⟩) hS0 ?_
                rotate_left
                · intro W hSW; have hx := hSW.cellAt 1; try simp only [List.getElem?_toArray, List.getElem?_cons_succ, List.getElem?_cons_zero] at hx; go_simp; try with_reducible rfl
                try simp only [Act.put, List.getElem_toArray, List.getElem_cons_zero, List.getElem_cons_succ, List.setIfInBounds_toArray, List.set_cons_zero, List.set_cons_succ]
                refine wpAnyH_take (i := 4) (v := ?_) rfl (by kernel_rfl) (by kernel_rfl) (by kernel_rfl) (fun _ _ _ h => h) (Or.inl ⟨by rfl, ?_⟩) hS0 ?_
                rotate_left
                · intro W _; go_simp; try with_reducible rfl
                try simp only [Act.put, List.getElem_toArray, List.getElem_cons_zero, List.getElem_cons_succ, List.setIfInBounds_toArray, List.set_cons_zero, List.set_cons_succ]
                refine wpAnyH_take (i := 5) (v := ?_) rfl (by kernel_rfl) (by kernel_rfl) (by kernel_rfl) (fun _ _ _ h => h) (Or.inl ⟨by rfl, ?_⟩) hS0 ?_
                rotate_left
                · intro W _; go_simp; try with_reducible rfl
                try simp only [Act.put, List.getElem_toArray, List.getElem_cons_zero, List.getElem_cons_succ, List.setIfInBounds_toArray, List.set_cons_zero, List.set_cons_succ]
                refine wpAnyH_take (i := 6) (v := ?_) rfl (by kernel_rfl) (by kernel_rfl) (by kernel_rfl) (fun _ _ _ h => h) (Or.inl ⟨by rfl, ?_⟩) hS0 ?_
                rotate_left
                · intro W hSW; have hx := hSW.cellAt 1; try simp only [List.getElem?_toArray, List.getElem?_cons_succ, List.getElem?_cons_zero] at hx; go_simp; try with_reducible rfl
                try simp only [Act.put, List.getElem_toArray, List.getElem_cons_zero, List.getElem_cons_succ, List.setIfInBounds_toArray, List.set_cons_zero, List.set_cons_succ]
                refine wpAnyH_ready (rs := [3]) (by kernel_rfl) (by simp) ?_
                refine AllReadyH.cons rfl (fun K hK => ?_) AllReadyH.nil
                go_simp
                refine (KA.out _ g M E t HL0.out (HB1.out.ix.below (Below.drew (Below.refl _ _)))).mono ?_
                rintro e w4 ⟨⟨l, n4, A4, c4, rfl, hn4, hm4, ho4, ht4⟩, hO, hg⟩
                have HR4 := Lib.hid ((HB1.out.below (Below.drew (Below.refl _ _))).left hg)
                have H4 := Lib.hid hO
                have HO4 := Lib.hid ho4
                have HN4 := Lib.hid hn4
                have HT4 := Lib.hid ht4
                have HM4 := Lib.hid hm4
                clear ho4 hn4 ht4 hm4
                go_simp
                refine hK.out _ _ ((hS0).grp hg (fun e => by have := HLT.out _ e; omega)) (fun hS1 => ?_)
                clear hK K
                try simp only [Act.put, List.getElem_toArray, List.getElem_cons_zero, List.getElem_cons_succ, List.setIfInBounds_toArray, List.set_cons_zero, List.set_cons_succ]
                clear hO hg
                refine wpAnyH_ready (rs := [7]) (by kernel_rfl) (by simp) ?_
                refine AllReadyH.cons rfl (fun K hK => ?_) AllReadyH.nil
                go_simp
                refine (RA.out w4 r vN vA E t HL0.out HB1.out.asc.nodup HR4.out (H4.out.be.size)).mono ?_
                rintro e w5 ⟨⟨A5, c5, rfl, ho5⟩, ⟨vN', vA', hR⟩, hg5⟩
                obtain ⟨l5, hl5⟩ : ∃ l, l = (E.filter (dueB t)).map Prod.fst := ⟨_, rfl⟩
                rw [← hl5] at ho5 ⊢
                obtain ⟨n5, hn5⟩ : ∃ n, n = l5.length := ⟨_, rfl⟩
                rw [← hn5] at ho5 ⊢
                have HE5 : Hid (l = l5) := by
                  show l = l5
                  rw [hl5]
                  refine toldT_one (List.Perm.refl _) HT4.out ⟨List.Perm.refl _, ?_⟩
                  rw [List.pairwise_map]
                  exact List.Pairwise.filter _ HB1.out.asc
                have HS5 : Hid (RdS w5 A5 l5) := by
                  obtain ⟨A', c', hv, hr, -, -⟩ := ho5.rds
                  injection hv with e1
                  subst e1
                  exact hr
                have HS45 : Hid (RdS w5 A4 l) := by
                  have ho : OwnK w5 _ 9 1 (.slice A4 n4 c4) (cellsS l) := HO4.out.grp hg5 fun k hk e => by have h1 := HO4.out.block k hk; have h2 := HRL.out; have h3 := (World.size_alloc wr (.cells #[.int .i64 4, .int .i64 t, .string s] 37)); subst e; simp only [World.drew, World.size_alloc] at h1; omega
                  obtain ⟨A', c', hv, hr, -, -⟩ := ho.rds
                  injection hv with e1
                  subst e1
                  exact hr
                have HH := Lib.hid (H4.out.rxk HR4.out hg5)
                have HF := Lib.hid hR
                have HN5 := Lib.hid hn5
                have HM5 : Hid (n5 ≤ 1000) := by
                  show _ ≤ _
                  have h1 := HE5.out; have h2 := HN4.out
                  rw [hn5, ← h1, ← h2]; exact HM4.out
                clear ho5 hn5 hl5
                go_simp
                refine hK.out _ _ ((hS1).grp hg5 (fun e => by have := HRL.out; omega)) (fun hS2 => ?_)
                clear hK K
                try simp only [Act.put, List.getElem_toArray, List.getElem_cons_zero, List.getElem_cons_succ, List.setIfInBounds_toArray, List.set_cons_zero, List.set_cons_succ]
                clear hR hg5
                refine wpAnyH_ready (rs := [8]) (by kernel_rfl) (by simp) ?_
                refine AllReadyH.cons rfl (fun K hK => ?_) AllReadyH.nil
                go_simp
                refine (KX.out A4 n4 c4 l A5 n5 c5 l5 w5 HN4.out HN5.out (Nat.le_trans HM4.out (by decide)) (Nat.le_trans HM5.out (by decide)) HS45.out HS5.out).mono ?_
                rintro e w6 ⟨rfl, hb6⟩
                have HH6 := Lib.hid (HH.out.below hb6)
                have HF6 := Lib.hid (HF.out.later hb6)
                rw [show sameS l l5 = true from decide_eq_true HE5.out]
                go_simp
                refine hK.out _ _ ((hS2).later hb6) (fun hS3 => ?_)
                clear hK K
                try simp only [Act.put, List.getElem_toArray, List.getElem_cons_zero, List.getElem_cons_succ, List.setIfInBounds_toArray, List.set_cons_zero, List.set_cons_succ]
                refine wpAnyH_take (i := 9) (v := ?_) rfl (by kernel_rfl) (by kernel_rfl) (by kernel_rfl) (fun _ _ _ h => h) (Or.inl ⟨by rfl, ?_⟩) hS3 ?_
                rotate_left
                · intro W _; go_simp; try with_reducible rfl
                try simp only [Act.put, List.getElem_toArray, List.getElem_cons_zero, List.getElem_cons_succ, List.setIfInBounds_toArray, List.set_cons_zero, List.set_cons_succ]
                refine wpAnyH_done (by kernel_rfl) ?_ _
                have HAS : Hid (AscT (restT E t)) := List.Pairwise.filter _ HB1.out.asc
                have HLI : Hid ((restT E t).length ≤ i + 1) := by show _ ≤ _; have h2 : (restT E t).length ≤ E.length := List.length_filter_le _ _; have h3 := HLL.out; omega
                clear hS0 hS1 hS2 hS3 hb6 HO4 HS5 HS45 HN4 HN5 HM5 HE5 HT4 HB1 HFR HX HL0 HM4 H4 HR4 HH HF
                have HH := HH6
                have HF : Hid (Ry w6 w.heap.size r vN' vA' (restT E t)) := HF6
                clear HH6 HF6
                go_wp2_with fail
                obtain ⟨A9, c9, hv9, -, -, -⟩ := HF.out.nm.rds
                obtain ⟨n9, hn9⟩ : ∃ n, n = List.length (restT E t) := ⟨_, rfl⟩
                rw [List.length_map, ← hn9] at hv9
                subst hv9
                have HRB := Lib.hid HF.out.bk
                have HN9 := Lib.hid hn9
                have HL9 : Hid (List.length (restT E t) ≤ 1000) := by show _ ≤ _; have h1 := HLI.out; have h2 := HN300.out; omega
                clear hn9
                refine wp_region_held_drew (S := fun W => Below w6.heap.size w6 W) (by kernel_rfl) (Below.drew (Below.refl _ _)) (fun hS0 => ?_)
                refine wpAnyH_take (i := 0) (v := ?_) rfl (by kernel_rfl) (by kernel_rfl) (by kernel_rfl) (fun _ _ _ h => h) (Or.inl ⟨by rfl, ?_⟩) hS0 ?_
                rotate_left
                · intro W _; go_simp; try with_reducible rfl
                try simp only [Act.put, List.getElem_toArray, List.getElem_cons_zero, List.setIfInBounds_toArray, List.set_cons_zero, List.set_cons_succ]
                refine wpAnyH_take (i := 2) (v := ?_) rfl (by kernel_rfl) (by kernel_rfl) (by kernel_rfl) (fun _ _ _ h => h) (Or.inl ⟨by rfl, ?_⟩) hS0 ?_
                rotate_left
                · intro W _; go_simp; try with_reducible rfl
                try simp only [Act.put, List.getElem_toArray, List.getElem_cons_zero, List.getElem_cons_succ, List.setIfInBounds_toArray, List.set_cons_zero, List.set_cons_succ]
                refine wpAnyH_take (i := 3) (v := ?_) rfl (by kernel_rfl) (by kernel_rfl) (by kernel_rfl) (fun _ _ _ h => h) (Or.inl ⟨by rfl, ?_⟩) hS0 ?_
                rotate_left
                · intro W _; go_simp; try with_reducible rfl
                try simp only [Act.put, List.getElem_toArray, List.getElem_cons_zero, List.getElem_cons_succ, List.setIfInBounds_toArray, List.set_cons_zero, List.set_cons_succ]
                refine wpAnyH_take (i := 4) (v := ?_) rfl (by kernel_rfl) (by kernel_rfl) (by kernel_rfl) (fun _ _ _ h => h) (Or.inl ⟨by rfl, ?_⟩) hS0 ?_
                rotate_left
                · intro W _; go_simp; try with_reducible rfl
                try simp only [Act.put, List.getElem_toArray, List.getElem_cons_zero, List.getElem_cons_succ, List.setIfInBounds_toArray, List.set_cons_zero, List.set_cons_succ]
                refine wpAnyH_take (i := 5) (v := ?_) rfl (by kernel_rfl) (by kernel_rfl) (by kernel_rfl) (fun _ _ _ h => h) (Or.inl ⟨by rfl, ?_⟩) hS0 ?_
                rotate_left
                · intro W hSW; have hx := (HRB.out.later hSW).cellAt 0; try simp only [List.getElem?_toArray, List.getElem?_cons_zero] at hx; go_simp; try with_reducible rfl
                try simp only [Act.put, List.getElem_toArray, List.getElem_cons_zero, List.getElem_cons_succ, List.setIfInBounds_toArray, List.set_cons_zero, List.set_cons_succ]
                refine wpAnyH_take (i := 6) (v := ?_) rfl (by kernel_rfl) (by kernel_rfl) (by kernel_rfl) (fun _ _ _ h => h) (Or.inl ⟨by rfl, ?_⟩) hS0 ?_
                rotate_left
                · intro W _; go_simp; try with_reducible rfl
                try simp only [Act.put, List.getElem_toArray, List.getElem_cons_zero, List.getElem_cons_succ, List.setIfInBounds_toArray, List.set_cons_zero, List.set_cons_succ]
                refine wpAnyH_ready (rs := [1]) (by kernel_rfl) (by simp) ?_
                refine AllReadyH.cons rfl (fun K hK => ?_) AllReadyH.nil
                go_simp
                refine (KL.out _ g _ (restT E t) HL9.out (HH.out.below hS0)).mono ?_
                rintro e w8 ⟨rfl, hb8⟩
                rw [← HN9.out]
                go_simp
                refine hK.out _ _ (hS0.trans (hb8.mono hS0.size)) (fun hS1 => ?_)
                clear hK K
                try simp only [Act.put, List.getElem_toArray, List.getElem_cons_zero, List.getElem_cons_succ, List.setIfInBounds_toArray, List.set_cons_zero, List.set_cons_succ]
                refine wpAnyH_take (i := 7) (v := ?_) rfl (by kernel_rfl) (by kernel_rfl) (by kernel_rfl) (fun _ _ _ h => h) (Or.inl ⟨by rfl, ?_⟩) hS1 ?_
                rotate_left
                · intro W _; go_simp; try with_reducible rfl
                try simp only [Act.put, List.getElem_toArray, List.getElem_cons_zero, List.getElem_cons_succ, List.setIfInBounds_toArray, List.set_cons_zero, List.set_cons_succ]
                refine wpAnyH_done (by kernel_rfl) ?_ _
                have HBB := Lib.hid ((Wt.mk HH.out HF.out HAS.out).below hS1)
                clear hS0 hS1 HH HF HAS HRB HN9 HL9
                go_wp2_with fail
                go_round
                case rel => exact ⟨i + 1, _, _, _, _, by omega, by go_num, HLI, HBB⟩
                case measure =>
                  first
                  | (rw [hw1]; show N - ((i + 1 : Nat) : Int).toNat < N - ((i : Nat) : Int).toNat; rw [Int.toNat_natCast, Int.toNat_natCast]; omega)
                  | (show N - ((i : Int) + 1).toNat < N - ((i : Nat) : Int).toNat; omega)
              · have e4 : (kd == 4) = false := by simpa using q4
                clear q1 q2 q3 q4
                go_wp2_with (with_reducible refine load_rg rfl 37 _ rfl q (o + i * 3) rfl #[.int .i64 kd, .int .i64 t, .string s] _ HX.out Try.underlying37 rfl (by kernel_rfl) ?_)
                have HH := Lib.hid HB1.out.ix
                have HF := Lib.hid HB1.out.rx
                have HAS := Lib.hid HB1.out.asc
                have HLI : Hid (E.length ≤ i + 1) := by show _ ≤ _; have h3 := HLL.out; omega
                clear HB1 HFR HX
                obtain ⟨A9, c9, hv9, -, -, -⟩ := HF.out.nm.rds
                obtain ⟨n9, hn9⟩ : ∃ n, n = List.length E := ⟨_, rfl⟩
                rw [List.length_map, ← hn9] at hv9
                subst hv9
                have HRB := Lib.hid HF.out.bk
                have HN9 := Lib.hid hn9
                have HL9 : Hid (List.length E ≤ 1000) := by show _ ≤ _; have h1 := HLI.out; have h2 := HN300.out; omega
                clear hn9
                refine wp_region_held_drew (S := fun W => Below (wr.alloc (.cells #[.int .i64 kd, .int .i64 t, .string s] 37)).heap.size (wr.alloc (.cells #[.int .i64 kd, .int .i64 t, .string s] 37)) W) (by kernel_rfl) (Below.drew (Below.refl _ _)) (fun hS0 => ?_)
                refine wpAnyH_take (i := 0) (v := ?_) rfl (by kernel_rfl) (by kernel_rfl) (by kernel_rfl) (fun _ _ _ h => h) (Or.inl ⟨by rfl, ?_⟩) hS0 ?_
                rotate_left
                · intro W _; go_simp; try with_reducible rfl
                try simp only [Act.put, List.getElem_toArray, List.getElem_cons_zero, List.setIfInBounds_toArray, List.set_cons_zero, List.set_cons_succ]
                refine wpAnyH_take (i := 2) (v := ?_) rfl (by kernel_rfl) (by kernel_rfl) (by kernel_rfl) (fun _ _ _ h => h) (Or.inl ⟨by rfl, ?_⟩) hS0 ?_
                rotate_left
                · intro W _; go_simp; try with_reducible rfl
                try simp only [Act.put, List.getElem_toArray, List.getElem_cons_zero, List.getElem_cons_succ, List.setIfInBounds_toArray, List.set_cons_zero, List.set_cons_succ]
                refine wpAnyH_take (i := 3) (v := ?_) rfl (by kernel_rfl) (by kernel_rfl) (by kernel_rfl) (fun _ _ _ h => h) (Or.inl ⟨by rfl, ?_⟩) hS0 ?_
                rotate_left
                · intro W _; go_simp; try with_reducible rfl
                try simp only [Act.put, List.getElem_toArray, List.getElem_cons_zero, List.getElem_cons_succ, List.setIfInBounds_toArray, List.set_cons_zero, List.set_cons_succ]
                refine wpAnyH_take (i := 4) (v := ?_) rfl (by kernel_rfl) (by kernel_rfl) (by kernel_rfl) (fun _ _ _ h => h) (Or.inl ⟨by rfl, ?_⟩) hS0 ?_
                rotate_left
                · intro W _; go_simp; try with_reducible rfl
                try simp only [Act.put, List.getElem_toArray, List.getElem_cons_zero, List.getElem_cons_succ, List.setIfInBounds_toArray, List.set_cons_zero, List.set_cons_succ]
                refine wpAnyH_take (i := 5) (v := ?_) rfl (by kernel_rfl) (by kernel_rfl) (by kernel_rfl) (fun _ _ _ h => h) (Or.inl ⟨by rfl, ?_⟩) hS0 ?_
                rotate_left
                · intro W hSW; have hx := (HRB.out.later hSW).cellAt 0; try simp only [List.getElem?_toArray, List.getElem?_cons_zero] at hx; go_simp; try with_reducible rfl
                try simp only [Act.put, List.getElem_toArray, List.getElem_cons_zero, List.getElem_cons_succ, List.setIfInBounds_toArray, List.set_cons_zero, List.set_cons_succ]
                refine wpAnyH_take (i := 6) (v := ?_) rfl (by kernel_rfl) (by kernel_rfl) (by kernel_rfl) (fun _ _ _ h => h) (Or.inl ⟨by rfl, ?_⟩) hS0 ?_
                rotate_left
                · intro W _; go_simp; try with_reducible rfl
                try simp only [Act.put, List.getElem_toArray, List.getElem_cons_zero, List.getElem_cons_succ, List.setIfInBounds_toArray, List.set_cons_zero, List.set_cons_succ]
                refine wpAnyH_ready (rs := [1]) (by kernel_rfl) (by simp) ?_
                refine AllReadyH.cons rfl (fun K hK => ?_) AllReadyH.nil
                go_simp
                refine (KL.out _ g _ E HL9.out (HH.out.below hS0)).mono ?_
                rintro e w8 ⟨rfl, hb8⟩
                rw [← HN9.out]
                go_simp
                refine hK.out _ _ (hS0.trans (hb8.mono hS0.size)) (fun hS1 => ?_)
                clear hK K
                try simp only [Act.put, List.getElem_toArray, List.getElem_cons_zero, List.getElem_cons_succ, List.setIfInBounds_toArray, List.set_cons_zero, List.set_cons_succ]
                refine wpAnyH_take (i := 7) (v := ?_) rfl (by kernel_rfl) (by kernel_rfl) (by kernel_rfl) (fun _ _ _ h => h) (Or.inl ⟨by rfl, ?_⟩) hS1 ?_
                rotate_left
                · intro W _; go_simp; try with_reducible rfl
                try simp only [Act.put, List.getElem_toArray, List.getElem_cons_zero, List.getElem_cons_succ, List.setIfInBounds_toArray, List.set_cons_zero, List.set_cons_succ]
                refine wpAnyH_done (by kernel_rfl) ?_ _
                have HBB := Lib.hid ((Wt.mk HH.out HF.out HAS.out).below hS1)
                clear hS0 hS1 HH HF HAS HRB HN9 HL9
                go_wp2_with fail
                go_round
                case rel => exact ⟨i + 1, _, _, _, _, by omega, by go_num, HLI, HBB⟩
                case measure =>
                  first
                  | (rw [hw1]; show N - ((i + 1 : Nat) : Int).toNat < N - ((i : Nat) : Int).toNat; rw [Int.toNat_natCast, Int.toNat_natCast]; omega)
                  | (show N - ((i : Int) + 1).toNat < N - ((i : Nat) : Int).toNat; omega)
      · have hie : i = N := by omega
        subst hie
        clear hi hin
        go_wp2_with fail
        go_ret
        exact ⟨rfl, HB.out.ix.be⟩
end wheelPlays
end Go.Proofs.Ytbegbecmnhldkaa
