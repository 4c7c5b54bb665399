/- The walk of LabelsPlays, zero being true. No condition beyond the form's own. -/
import Derived.Test.YtldijginplgikaaLwk
import Derived.Test.YtldijginplgikaaLaw
namespace Go.Proofs.Ytldijginplgikaa
open Go.RowKit
set_option linter.unusedSimpArgs false
set_option linter.unusedVariables false
namespace labelsPlays
set_option maxHeartbeats 51200000 in
set_option maxRecDepth 100000 in
theorem walkT (B0 : Option Addr) (N cap : Nat) (z : List Oh) (w : World) (hn0 : N = z.length) (hr0 : RdK w 3 B0 (z.map eO)) (hc1 : N ≤ cap) (hc2 : cap ≤ 9223372036854775807) (hv0 : ∀ y ∈ z, OhOk w y) :
    Calls Try.prog 3 #[.slice B0 N cap, .bool true] w fun r w' => r = .returned (.bool true) ∧ Below w.heap.size w w' := by
  have K1 := Lib.hid (fun W => awake18_any W)
  have K7 := Lib.hid (fun (A : Option Addr) (n c : Nat) (l : List Oh) (W : World) (hn : n = l.length) (hr : RdK W 3 A (l.map eO)) (ho : ∀ x ∈ l, x.h.Ok W) => few18_any A n c l W (Lib.hid hn) (Lib.hid hr) (Lib.hid ho))
  have HN := Lib.hid hn0
  have HRD : Hid (RdK w 3 B0 (z.map eO)) := hr0
  have HVZ := Lib.hid hv0
  clear hn0 hr0 hv0 hc1 hc2
  have KN := Lib.hid (fun (W : World) (h : Below w.heap.size w W) => x_new (w := w) W h)
  have KP := Lib.hid (fun (W : World) (g : Nat) (F : Nat → Prop) (D : List NH) (s : ByteArray) (A : Option Addr) (n c : Nat) (l : List Lb) (ho : (⟨A, n, c, l⟩ : Hd).Ok w) (hn : n ≤ 30) (hl : D.length ≤ 1000) (H : Xl w W g F (toL D)) => x_put s A n c l ho hn (by rw [toL_len]; exact hl) H)
  have KD : Hid (∀ (W : World) (g : Nat) (F : Nat → Prop) (D : List NH) (s : ByteArray) (hl : D.length ≤ 1000) (H : Xl w W g F (toL D)), Calls Try.prog 12 #[.pointer (some ⟨g, 0, none⟩), .string s] W fun e w' => e = .returned (.bool (hasN D s)) ∧ (∃ F', Xl w w' g F' (dropN (toL D) s) ∧ ∀ k, F' k → F k ∨ W.heap.size ≤ k) ∧ GrP F W w') := fun W g F D s hl H => by rw [← toL_has]; exact x_del s (by rw [toL_len]; exact hl) H
  have KW := Lib.hid (fun (W : World) (g : Nat) (F : Nat → Prop) (D : List NH) (A : Option Addr) (n c : Nat) (l : List Lb) (ho : (⟨A, n, c, l⟩ : Hd).Ok W) (hn : n ≤ 100) (hl : D.length ≤ 1000) (H : Xl w W g F (toL D)) => x_with A n c l ho hn (by rw [toL_len]; exact hl) H)
  have KL : Hid (∀ (W : World) (g : Nat) (F : Nat → Prop) (D : List NH) (hl : D.length ≤ 1000) (H : Xl w W g F (toL D)), Calls Try.prog 17 #[.pointer (some ⟨g, 0, none⟩)] W fun e w' => e = .returned (.int .i64 D.length) ∧ Below W.heap.size W w') := fun W g F D hl H => by rw [← toL_len]; exact x_len (by rw [toL_len]; exact hl) H
  have KX := Lib.hid (fun (A : Option Addr) (n c : Nat) (l : List ByteArray) (B : Option Addr) (m d : Nat) (r : List ByteArray) (W : World) (hn : n = l.length) (hm : m = r.length) (hl : n ≤ 9223372036854775807) (hl2 : m ≤ 9223372036854775807) (hA : RdS W A l) (hB : RdS W B r) => rtexts_any A n c l B m d r W (Lib.hid hn) (Lib.hid hm) hl hl2 (Lib.hid hA) (Lib.hid hB))
  have RP := Lib.hid (fun (W : World) (r : Nat) (vN vA : Value) (D : List NH) (s : ByteArray) (ta : Option Addr) (tn tc : Nat) (tl : List Lb) (hb : D.length ≤ 900) (R : Lx W w.heap.size r vN vA D) (h : w.heap.size ≤ W.heap.size) => rput_any w.heap.size r vN vA D s ta tn tc tl W hb (Lib.hid R) h)
  have RD := Lib.hid (fun (W : World) (r : Nat) (vN vA : Value) (D : List NH) (s : ByteArray) (hb : D.length ≤ 1000) (R : Lx W w.heap.size r vN vA D) (h : w.heap.size ≤ W.heap.size) => rdel_any w.heap.size r vN vA D s W hb (Lib.hid R) h)
  have RW := Lib.hid (fun (W : World) (r : Nat) (vN vA : Value) (D : List NH) (ta : Option Addr) (tn tc : Nat) (tl : List Lb) (hb : D.length ≤ 1000) (hu : (⟨ta, tn, tc, tl⟩ : Hd).Ok W) (hd : ∀ p ∈ D, p.2.Ok W) (R : Lx W w.heap.size r vN vA D) => rwith_any w.heap.size r vN vA D ta tn tc tl W hb (Lib.hid hu) (Lib.hid hd) (Lib.hid R))
  go_enter Try.func3, Try.ntmps3
  go_wp2_with fail
  refine (K1.out _).mono ?_; rintro e w1 ⟨rfl, hb1⟩
  have HB1 := Lib.hid hb1
  clear hb1
  go_wp2_with fail
  refine (K7.out B0 N cap z _ HN.out (HRD.out.later HB1.out) (fun x hx => (HVZ.out x hx).1.later HB1.out)).mono ?_; rintro e w2 ⟨⟨b, rfl, hfew⟩, hb2⟩
  have HB2 := Lib.hid (HB1.out.trans (hb2.mono HB1.out.size))
  clear hb2 HB1
  cases b with
  | false =>
    go_wp2_with fail
    refine (K1.out _).mono ?_; rintro e w3 ⟨rfl, hb3⟩
    go_wp2_with fail
    go_ret
    exact ⟨rfl, HB2.out.trans (hb3.mono HB2.out.size)⟩
  | true =>
    have HN200 : Hid (N ≤ 200) := (hfew rfl).1
    have H30 : Hid (∀ x ∈ z, x.h.n ≤ 30) := (hfew rfl).2
    clear hfew
    go_wp2_with fail
    refine (KN.out _ HB2.out).mono ?_; rintro e w3 ⟨⟨g, F0, rfl, hX3, hF3⟩, hb3⟩
    obtain ⟨r, hr⟩ : ∃ r, r = w3.heap.size := ⟨_, rfl⟩
    obtain ⟨W4, hW4⟩ : ∃ W, W = w3.alloc (.cells #[.slice none 0 0, .slice none 0 0] 31) := ⟨_, rfl⟩
    obtain ⟨g2, hg2⟩ : ∃ g, g = r + 1 := ⟨_, rfl⟩
    have hgs : g2 = W4.heap.size := by rw [hg2, hW4, hr]; simp
    obtain ⟨W5, hW5⟩ : ∃ W, W = W4.alloc (.cells #[.map none, .map none] 35) := ⟨_, rfl⟩
    have HBO : Hid (Bl w W5 g2 (XB g2 none none [] []) r (.slice none 0 0) (.slice none 0 0) []) := by
      have hb4 : Below w3.heap.size w3 W4 := by rw [hW4]; exact (Below.refl _ _).alloc (Nat.le_refl _) _
      have hb5 : Below W4.heap.size W4 W5 := by rw [hW5]; exact (Below.refl _ _).alloc (Nat.le_refl _) _
      have hbe4 : Below w.heap.size w W4 := hX3.be.trans (hb4.mono hX3.be.size)
      have hbk : Bk W5 W4.heap.size 35 #[.map none, .map none] := by rw [hW5]; exact Bk.fresh _ _ _
      have hrk : Bk W4 r 31 #[.slice none 0 0, .slice none 0 0] := by rw [hW4, hr]; exact Bk.fresh _ _ _
      rw [hgs]
      refine ⟨Xl.fresh hbe4.size hbk (hbe4.trans (hb5.mono hbe4.size)), ⟨hrk.later hb5, OwnK.nil _ _ _ _, OwnK.nil _ _ _ _, ?_⟩, List.Pairwise.nil, fun p hp => (by cases hp), fun k h1 h2 => ?_⟩
      · rw [hr]; exact hX3.be.size
      · have hrl := hrk.here
        rcases h2 with e | e | e
        · rcases h1 with h | h | h | ⟨q, hq, _⟩ | ⟨q, hq, _⟩
          · omega
          · cases h
          · cases h
          · cases hq
          · cases hq
        · cases e
        · cases e
    clear hX3 hb3 hF3 HB2 hgs
    go_wp2_with fail
    rw [← hW4, ← hr, ← hW5, ← hg2]
    clear hW4 hr hW5 hg2
    go_wp2_with fail
    go_loopw [27] (fun s27 wr => ∃ (i : Nat) (F : Nat → Prop) (vN vA : Value) (E : List NH), i ≤ N ∧ s27 = .int .i64 i ∧ Hid (E.length ≤ i) ∧ Hid (Bl w wr g2 F r vN vA E)) (fun s27 wr => N - (intOf s27).toNat)
    case atStart => exact ⟨0, _, _, _, _, Nat.zero_le _, rfl, Nat.le_refl _, HBO⟩
    case round =>
      clear HBO
      obtain ⟨i, F, vN, vA, E, hi, rfl, HLL, HB⟩ := hrel
      by_cases hin : i < N
      · have hil : i < z.length := by rw [← HN.out]; exact hin
        obtain ⟨q, o, hA, hx⟩ := (HRD.out.later HB.out.ix.be).at (i := i) (by rw [List.length_map]; exact hil)
        subst hA
        rw [List.getElem_map] at hx
        have hok := (HVZ.out _ (List.getElem_mem hil)).1
        have h30 := H30.out _ (List.getElem_mem hil)
        obtain ⟨⟨kd, s, ⟨a0, n0, c0, l0⟩⟩, ex⟩ : ∃ x, x = z[i] := ⟨_, rfl⟩
        rw [← ex] at hx hok h30
        have HOK : Hid ((⟨a0, n0, c0, l0⟩ : Hd).Ok w) := hok
        have HN30 : Hid (n0 ≤ 30) := h30
        have HX : Hid (wr.rangeAt q (o + i * 3) (#[.int .i64 kd, .string s, .slice a0 n0 c0] : Array Value).toList) := hx
        have hw1 : wrap64 ((i : Int) + 1) = ((i + 1 : Nat) : Int) := by have := HN200.out; unfold wrap64; omega
        have HFR : Hid (Bk (wr.alloc (.cells #[.int .i64 kd, .string s, .slice a0 n0 c0] 38)) wr.heap.size 38 #[.int .i64 kd, .string s, .slice a0 n0 c0]) := Bk.fresh _ _ _
        have HB1 : Hid (Bl w (wr.alloc (.cells #[.int .i64 kd, .string s, .slice a0 n0 c0] 38)) g2 F r vN vA E) := HB.out.below ((Below.refl _ _).alloc (Nat.le_refl _) _)
        have HLT : Hid (∀ k, F k → k < wr.heap.size) := fun k hk => (HB.out.ix.blk hk).2
        have HRL : Hid (r < wr.heap.size) := HB.out.rx.bk.here
        clear hx ex hil HB hok h30
        by_cases q1 : kd = 1
        · subst q1
          go_wp2_with (with_reducible refine load_rg rfl 38 _ rfl q (o + i * 3) rfl #[.int .i64 1, .string s, .slice a0 n0 c0] _ HX.out Try.underlying38 rfl (by kernel_rfl) ?_)
          refine (KP.out _ g2 F E s a0 n0 c0 l0 HOK.out HN30.out (by have := HLL.out; have := HN200.out; omega) HB1.out.ix).mono ?_
          rintro e w4 ⟨rfl, ⟨F', hO, hnew⟩, hg⟩
          have HR4 := Lib.hid (HB1.out.left hg)
          have H4 := Lib.hid hO
          have HNW := Lib.hid hnew
          have HG4 := Lib.hid hg
          have HF4 : Hid (Bk w4 wr.heap.size 38 #[.int .i64 1, .string s, .slice a0 n0 c0]) := HFR.out.grp hg (fun e => by have := HLT.out _ e; omega)
          have c1 : w4.cell? ⟨wr.heap.size, 1, none⟩ = some (.string s) := HF4.out.cellAt 1
          have c2 : w4.cell? ⟨wr.heap.size, 2, none⟩ = some (.slice a0 n0 c0) := HF4.out.cellAt 2
          clear hO hg hnew HFR HF4
          go_wp2_with fail
          refine (RP.out w4 r vN vA E s a0 n0 c0 l0 (by have := HLL.out; have := HN200.out; omega) HR4.out (H4.out.be.size)).mono ?_
          rintro e w5 ⟨rfl, ⟨vN', vA', hR, hnew5⟩, hg5⟩
          have HBL : Hid (Bl w w5 g2 F' r vN' vA' (putN E s (⟨a0, n0, c0, l0⟩ : Hd))) := HB1.out.next H4.out HNW.out (toL_put E s (⟨a0, n0, c0, l0⟩ : Hd)) HG4.out hR hnew5 hg5 (HB1.out.asc.put s _) (fun p hp => (putN_mem hp).elim (HB1.out.ok p) fun e => by rw [e]; exact HOK.out)
          have HLI : Hid ((putN E s (⟨a0, n0, c0, l0⟩ : Hd)).length ≤ i + 1) := by show _ ≤ _; have h2 := putN_len E s (⟨a0, n0, c0, l0⟩ : Hd); have h3 := HLL.out; omega
          clear hR hg5 hnew5 H4 HR4 HNW HG4 HB1 c1 c2 HX
          go_wp2_with fail
          obtain ⟨A9, c9, hv9, -, -, -⟩ := HBL.out.rx.nm.rds
          obtain ⟨n9, hn9⟩ : ∃ n, n = List.length (putN E s (⟨a0, n0, c0, l0⟩ : Hd)) := ⟨_, rfl⟩
          rw [List.length_map, ← hn9] at hv9
          subst hv9
          have HRB := Lib.hid HBL.out.rx.bk
          have HN9 := Lib.hid hn9
          have HL9 : Hid (List.length (putN E s (⟨a0, n0, c0, l0⟩ : Hd)) ≤ 1000) := by show _ ≤ _; have h1 := HLI.out; have h2 := HN200.out; omega
          clear hn9
          refine wp_region_held_drew (S := fun W => Below w5.heap.size w5 W) (by kernel_rfl) (Below.drew (Below.refl _ _)) (fun hS0 => ?_)
          refine wpAnyH_take (i := 0) (v := ?_) rfl (by kernel_rfl) (by kernel_rfl) (by kernel_rfl) (fun _ _ _ h => h) (Or.inl ⟨by rfl, ?_⟩) hS0 ?_
          rotate_left
          · intro W _; go_simp; try with_reducible rfl
          try simp only [Act.put, List.getElem_toArray, List.getElem_cons_zero, List.setIfInBounds_toArray, List.set_cons_zero, List.set_cons_succ]
          refine wpAnyH_take (i := 2) (v := ?_) rfl (by kernel_rfl) (by kernel_rfl) (by kernel_rfl) (fun _ _ _ h => h) (Or.inl ⟨by rfl, ?_⟩) hS0 ?_
          rotate_left
          · intro W _; go_simp; try with_reducible rfl
          try simp only [Act.put, List.getElem_toArray, List.getElem_cons_zero, List.getElem_cons_succ, List.setIfInBounds_toArray, List.set_cons_zero, List.set_cons_succ]
          refine wpAnyH_take (i := 3) (v := ?_) rfl (by kernel_rfl) (by kernel_rfl) (by kernel_rfl) (fun _ _ _ h => h) (Or.inl ⟨by rfl, ?_⟩) hS0 ?_
          rotate_left
          · intro W _; go_simp; try with_reducible rfl
          try simp only [Act.put, List.getElem_toArray, List.getElem_cons_zero, List.getElem_cons_succ, List.setIfInBounds_toArray, List.set_cons_zero, List.set_cons_succ]
          refine wpAnyH_take (i := 4) (v := ?_) rfl (by kernel_rfl) (by kernel_rfl) (by kernel_rfl) (fun _ _ _ h => h) (Or.inl ⟨by rfl, ?_⟩) hS0 ?_
          rotate_left
          · intro W _; go_simp; try with_reducible rfl
          try simp only [Act.put, List.getElem_toArray, List.getElem_cons_zero, List.getElem_cons_succ, List.setIfInBounds_toArray, List.set_cons_zero, List.set_cons_succ]
          refine wpAnyH_take (i := 5) (v := ?_) rfl (by kernel_rfl) (by kernel_rfl) (by kernel_rfl) (fun _ _ _ h => h) (Or.inl ⟨by rfl, ?_⟩) hS0 ?_
          rotate_left
          · intro W hSW; have hx := (HRB.out.later hSW).cellAt 0; try simp only [List.getElem?_toArray, List.getElem?_cons_zero] at hx; go_simp; try with_reducible rfl
          try simp only [Act.put, List.getElem_toArray, List.getElem_cons_zero, List.getElem_cons_succ, List.setIfInBounds_toArray, List.set_cons_zero, List.set_cons_succ]
          refine wpAnyH_take (i := 6) (v := ?_) rfl (by kernel_rfl) (by kernel_rfl) (by kernel_rfl) (fun _ _ _ h => h) (Or.inl ⟨by rfl, ?_⟩) hS0 ?_
          rotate_left
          · intro W _; go_simp; try with_reducible rfl
          try simp only [Act.put, List.getElem_toArray, List.getElem_cons_zero, List.getElem_cons_succ, List.setIfInBounds_toArray, List.set_cons_zero, List.set_cons_succ]
          refine wpAnyH_ready (rs := [1]) (by kernel_rfl) (by simp) ?_
          refine AllReadyH.cons rfl (fun K hK => ?_) AllReadyH.nil
          go_simp
          refine (KL.out _ g2 _ (putN E s (⟨a0, n0, c0, l0⟩ : Hd)) HL9.out (HBL.out.ix.below hS0)).mono ?_
          rintro e w8 ⟨rfl, hb8⟩
          rw [← HN9.out]
          go_simp
          refine hK.out _ _ (hS0.trans (hb8.mono hS0.size)) (fun hS1 => ?_)
          clear hK K
          try simp only [Act.put, List.getElem_toArray, List.getElem_cons_zero, List.getElem_cons_succ, List.setIfInBounds_toArray, List.set_cons_zero, List.set_cons_succ]
          refine wpAnyH_take (i := 7) (v := ?_) rfl (by kernel_rfl) (by kernel_rfl) (by kernel_rfl) (fun _ _ _ h => h) (Or.inl ⟨by rfl, ?_⟩) hS1 ?_
          rotate_left
          · intro W _; go_simp; try with_reducible rfl
          try simp only [Act.put, List.getElem_toArray, List.getElem_cons_zero, List.getElem_cons_succ, List.setIfInBounds_toArray, List.set_cons_zero, List.set_cons_succ]
          refine wpAnyH_done (by kernel_rfl) ?_ _
          have HBB := Lib.hid (HBL.out.below hS1)
          clear hS0 hS1 HBL HRB HN9 HL9
          go_wp2_with fail
          go_round
          case rel => exact ⟨i + 1, _, _, _, _, by omega, by go_num, HLI, HBB⟩
          case measure =>
            first
            | (rw [hw1]; show N - ((i + 1 : Nat) : Int).toNat < N - ((i : Nat) : Int).toNat; rw [Int.toNat_natCast, Int.toNat_natCast]; omega)
            | (show N - ((i : Int) + 1).toNat < N - ((i : Nat) : Int).toNat; omega)
        · have e1 : (kd == 1) = false := by simpa using q1
          by_cases q2 : kd = 2
          · subst q2
            clear e1 q1
            have HL0 : Hid (E.length ≤ 1000) := by show _ ≤ _; have := HLL.out; have := HN200.out; omega
            go_wp2_with (with_reducible refine load_rg rfl 38 _ rfl q (o + i * 3) rfl #[.int .i64 2, .string s, .slice a0 n0 c0] _ HX.out Try.underlying38 rfl (by kernel_rfl) ?_)
            refine wp_region_held_drew (S := fun W => Bk W wr.heap.size 38 #[.int .i64 2, .string s, .slice a0 n0 c0]) (by kernel_rfl) (HFR.out.drewB) (fun hS0 => ?_)
            refine wpAnyH_take (i := 0) (v := ?_) rfl (by kernel_rfl) (by kernel_rfl) (by kernel_rfl) (fun _ _ _ h => h) (Or.inl ⟨by rfl, ?_⟩) hS0 ?_
            rotate_left
            · intro W _; go_simp; try with_reducible rfl
            try simp only [Act.put, List.getElem_toArray, List.getElem_cons_zero, List.setIfInBounds_toArray, List.set_cons_zero, List.set_cons_succ]
            refine wpAnyH_take (i := 1) (v := ?_) rfl (by kernel_rfl) (by kernel_rfl) (by kernel_rfl) (fun _ _ _ h => h) (Or.inl ⟨by rfl, ?_⟩) hS0 ?_
            rotate_left
            · intro W _; go_simp; try with_reducible rfl
            try simp only [Act.put, List.getElem_toArray, List.getElem_cons_zero, List.getElem_cons_succ, List.setIfInBounds_toArray, List.set_cons_zero, List.set_cons_succ]
            refine wpAnyH_take (i := 2) (v := ?_) rfl (by kernel_rfl) (by kernel_rfl) (by kernel_rfl) (fun _ _ _ h => h) (Or.inl ⟨by rfl, ?_⟩) hS0 ?_
            rotate_left
            · intro W hSW; have hx := hSW.cellAt 1; try simp only [List.getElem?_toArray, List.getElem?_cons_succ, List.getElem?_cons_zero] at hx; go_simp; try with_reducible rfl
            try simp only [Act.put, List.getElem_toArray, List.getElem_cons_zero, List.getElem_cons_succ, List.setIfInBounds_toArray, List.set_cons_zero, List.set_cons_succ]
            refine wpAnyH_take (i := 4) (v := ?_) rfl (by kernel_rfl) (by kernel_rfl) (by kernel_rfl) (fun _ _ _ h => h) (Or.inl ⟨by rfl, ?_⟩) hS0 ?_
            rotate_left
            · intro W _; go_simp; try with_reducible rfl
            try simp only [Act.put, List.getElem_toArray, List.getElem_cons_zero, List.getElem_cons_succ, List.setIfInBounds_toArray, List.set_cons_zero, List.set_cons_succ]
            refine wpAnyH_take (i := 5) (v := ?_) rfl (by kernel_rfl) (by kernel_rfl) (by kernel_rfl) (fun _ _ _ h => h) (Or.inl ⟨by rfl, ?_⟩) hS0 ?_
            rotate_left
            · intro W _; go_simp; try with_reducible rfl
            try simp only [Act.put, List.getElem_toArray, List.getElem_cons_zero, List.getElem_cons_succ, List.setIfInBounds_toArray, List.set_cons_zero, List.set_cons_succ]
            refine wpAnyH_take (i := 6) (v := ?_) rfl (by kernel_rfl) (by kernel_rfl) (by kernel_rfl) (fun _ _ _ h => h) (Or.inl ⟨by rfl, ?_⟩) hS0 ?_
            rotate_left
            · intro W hSW; have hx := hSW.cellAt 1; try simp only [List.getElem?_toArray, List.getElem?_cons_succ, List.getElem?_cons_zero] at hx; go_simp; try with_reducible rfl
            try simp only [Act.put, List.getElem_toArray, List.getElem_cons_zero, List.getElem_cons_succ, List.setIfInBounds_toArray, List.set_cons_zero, List.set_cons_succ]
            refine wpAnyH_ready (rs := [3]) (by kernel_rfl) (by simp) ?_
            refine AllReadyH.cons rfl (fun K hK => ?_) AllReadyH.nil
            go_simp
            refine (KD.out _ g2 F E s HL0.out (HB1.out.ix.below (Below.drew (Below.refl _ _)))).mono ?_
            rintro e w4 ⟨rfl, ⟨F', hO, hnew⟩, hg⟩
            have HR4 := Lib.hid ((HB1.out.below (Below.drew (Below.refl _ _))).left hg)
            have H4 := Lib.hid hO
            have HNW := Lib.hid hnew
            have HG4 := Lib.hid hg
            go_simp
            refine hK.out _ _ ((hS0).grp hg (fun e => by have := HLT.out _ e; omega)) (fun hS1 => ?_)
            clear hK K
            try simp only [Act.put, List.getElem_toArray, List.getElem_cons_zero, List.getElem_cons_succ, List.setIfInBounds_toArray, List.set_cons_zero, List.set_cons_succ]
            clear hO hg hnew
            refine wpAnyH_ready (rs := [7]) (by kernel_rfl) (by simp) ?_
            refine AllReadyH.cons rfl (fun K hK => ?_) AllReadyH.nil
            go_simp
            refine (RD.out w4 r vN vA E s HL0.out HR4.out (H4.out.be.size)).mono ?_
            rintro e w5 ⟨rfl, ⟨vN', vA', hR, hnew5⟩, hg5⟩
            have HBL : Hid (Bl w w5 g2 F' r vN' vA' (dropN E s)) := (HB1.out.below (Below.drew (Below.refl _ _))).next H4.out HNW.out (by rw [toL_drop]) HG4.out hR hnew5 hg5 (HB1.out.asc.del s) (fun p hp => HB1.out.ok p (dropN_mem.1 hp).1)
            go_simp
            refine hK.out _ _ ((hS1).grp hg5 (fun e => by have := HRL.out; omega)) (fun hS2 => ?_)
            clear hK K
            try simp only [Act.put, List.getElem_toArray, List.getElem_cons_zero, List.getElem_cons_succ, List.setIfInBounds_toArray, List.set_cons_zero, List.set_cons_succ]
            clear hR hg5 hnew5
            refine wpAnyH_take (i := 8) (v := ?_) rfl (by kernel_rfl) (by kernel_rfl) (by kernel_rfl) (fun _ _ _ h => h) (Or.inl ⟨by rfl, ?_⟩) hS2 ?_
            rotate_left
            · intro W _; go_simp; try with_reducible rfl
            try simp only [Act.put, List.getElem_toArray, List.getElem_cons_zero, List.getElem_cons_succ, List.setIfInBounds_toArray, List.set_cons_zero, List.set_cons_succ]
            refine wpAnyH_done (by kernel_rfl) ?_ _
            have HLI : Hid ((dropN E s).length ≤ i + 1) := by show _ ≤ _; have h2 := dropN_len E s; have h3 := HLL.out; omega
            clear hS0 hS1 hS2 H4 HR4 HB1 HX HFR HL0 HNW HG4
            go_wp2_with fail
            obtain ⟨A9, c9, hv9, -, -, -⟩ := HBL.out.rx.nm.rds
            obtain ⟨n9, hn9⟩ : ∃ n, n = List.length (dropN E s) := ⟨_, rfl⟩
            rw [List.length_map, ← hn9] at hv9
            subst hv9
            have HRB := Lib.hid HBL.out.rx.bk
            have HN9 := Lib.hid hn9
            have HL9 : Hid (List.length (dropN E s) ≤ 1000) := by show _ ≤ _; have h1 := HLI.out; have h2 := HN200.out; omega
            clear hn9
            refine wp_region_held_drew (S := fun W => Below w5.heap.size w5 W) (by kernel_rfl) (Below.drew (Below.refl _ _)) (fun hS0 => ?_)
            refine wpAnyH_take (i := 0) (v := ?_) rfl (by kernel_rfl) (by kernel_rfl) (by kernel_rfl) (fun _ _ _ h => h) (Or.inl ⟨by rfl, ?_⟩) hS0 ?_
            rotate_left
            · intro W _; go_simp; try with_reducible rfl
            try simp only [Act.put, List.getElem_toArray, List.getElem_cons_zero, List.setIfInBounds_toArray, List.set_cons_zero, List.set_cons_succ]
            refine wpAnyH_take (i := 2) (v := ?_) rfl (by kernel_rfl) (by kernel_rfl) (by kernel_rfl) (fun _ _ _ h => h) (Or.inl ⟨by rfl, ?_⟩) hS0 ?_
            rotate_left
            · intro W _; go_simp; try with_reducible rfl
            try simp only [Act.put, List.getElem_toArray, List.getElem_cons_zero, List.getElem_cons_succ, List.setIfInBounds_toArray, List.set_cons_zero, List.set_cons_succ]
            refine wpAnyH_take (i := 3) (v := ?_) rfl (by kernel_rfl) (by kernel_rfl) (by kernel_rfl) (fun _ _ _ h => h) (Or.inl ⟨by rfl, ?_⟩) hS0 ?_
            rotate_left
            · intro W _; go_simp; try with_reducible rfl
            try simp only [Act.put, List.getElem_toArray, List.getElem_cons_zero, List.getElem_cons_succ, List.setIfInBounds_toArray, List.set_cons_zero, List.set_cons_succ]
            refine wpAnyH_take (i := 4) (v := ?_) rfl (by kernel_rfl) (by kernel_rfl) (by kernel_rfl) (fun _ _ _ h => h) (Or.inl ⟨by rfl, ?_⟩) hS0 ?_
            rotate_left
            · intro W _; go_simp; try with_reducible rfl
            try simp only [Act.put, List.getElem_toArray, List.getElem_cons_zero, List.getElem_cons_succ, List.setIfInBounds_toArray, List.set_cons_zero, List.set_cons_succ]
            refine wpAnyH_take (i := 5) (v := ?_) rfl (by kernel_rfl) (by kernel_rfl) (by kernel_rfl) (fun _ _ _ h => h) (Or.inl ⟨by rfl, ?_⟩) hS0 ?_
            rotate_left
            · intro W hSW; have hx := (HRB.out.later hSW).cellAt 0; try simp only [List.getElem?_toArray, List.getElem?_cons_zero] at hx; go_simp; try with_reducible rfl
            try simp only [Act.put, List.getElem_toArray, List.getElem_cons_zero, List.getElem_cons_succ, List.setIfInBounds_toArray, List.set_cons_zero, List.set_cons_succ]
            refine wpAnyH_take (i := 6) (v := ?_) rfl (by kernel_rfl) (by kernel_rfl) (by kernel_rfl) (fun _ _ _ h => h) (Or.inl ⟨by rfl, ?_⟩) hS0 ?_
            rotate_left
            · intro W _; go_simp; try with_reducible rfl
            try simp only [Act.put, List.getElem_toArray, List.getElem_cons_zero, List.getElem_cons_succ, List.setIfInBounds_toArray, List.set_cons_zero, List.set_cons_succ]
            refine wpAnyH_ready (rs := [1]) (by kernel_rfl) (by simp) ?_
            refine AllReadyH.cons rfl (fun K hK => ?_) AllReadyH.nil
            go_simp
            refine (KL.out _ g2 _ (dropN E s) HL9.out (HBL.out.ix.below hS0)).mono ?_
            rintro e w8 ⟨rfl, hb8⟩
            rw [← HN9.out]
            go_simp
            refine hK.out _ _ (hS0.trans (hb8.mono hS0.size)) (fun hS1 => ?_)
            clear hK K
            try simp only [Act.put, List.getElem_toArray, List.getElem_cons_zero, List.getElem_cons_succ, List.setIfInBounds_toArray, List.set_cons_zero, List.set_cons_succ]
            refine wpAnyH_take (i := 7) (v := ?_) rfl (by kernel_rfl) (by kernel_rfl) (by kernel_rfl) (fun _ _ _ h => h) (Or.inl ⟨by rfl, ?_⟩) hS1 ?_
            rotate_left
            · intro W _; go_simp; try with_reducible rfl
            try simp only [Act.put, List.getElem_toArray, List.getElem_cons_zero, List.getElem_cons_succ, List.setIfInBounds_toArray, List.set_cons_zero, List.set_cons_succ]
            refine wpAnyH_done (by kernel_rfl) ?_ _
            have HBB := Lib.hid (HBL.out.below hS1)
            clear hS0 hS1 HBL HRB HN9 HL9
            go_wp2_with fail
            go_round
            case rel => exact ⟨i + 1, _, _, _, _, by omega, by go_num, HLI, HBB⟩
            case measure =>
              first
              | (rw [hw1]; show N - ((i + 1 : Nat) : Int).toNat < N - ((i : Nat) : Int).toNat; rw [Int.toNat_natCast, Int.toNat_natCast]; omega)
              | (show N - ((i : Int) + 1).toNat < N - ((i : Nat) : Int).toNat; omega)
          · have e2 : (kd == 2) = false := by simpa using q2
            by_cases q3 : kd = 3
            · subst q3
              clear e1 e2 q1 q2
              have HL0 : Hid (E.length ≤ 1000) := by show _ ≤ _; have := HLL.out; have := HN200.out; omega
              go_wp2_with (with_reducible refine load_rg rfl 38 _ rfl q (o + i * 3) rfl #[.int .i64 3, .string s, .slice a0 n0 c0] _ HX.out Try.underlying38 rfl (by kernel_rfl) ?_)
              refine wp_region_held_drew (S := fun W => Bk W wr.heap.size 38 #[.int .i64 3, .string s, .slice a0 n0 c0] ∧ Below (wr.alloc (.cells #[.int .i64 3, .string s, .slice a0 n0 c0] 38)).heap.size (wr.alloc (.cells #[.int .i64 3, .string s, .slice a0 n0 c0] 38)) W) (by kernel_rfl) (⟨HFR.out.drewB, Below.drew (Below.refl _ _)⟩) (fun hS0 => ?_)
              refine wpAnyH_take (i := 0) (v := ?_) rfl (by kernel_rfl) (by kernel_rfl) (by kernel_rfl) (fun _ _ _ h => h) (Or.inl ⟨by rfl, ?_⟩) hS0 ?_
              rotate_left
              · intro W _; go_simp; try with_reducible rfl
              try simp only [Act.put, List.getElem_toArray, List.getElem_cons_zero, List.setIfInBounds_toArray, List.set_cons_zero, List.set_cons_succ]
              refine wpAnyH_take (i := 1) (v := ?_) rfl (by kernel_rfl) (by kernel_rfl) (by kernel_rfl) (fun _ _ _ h => h) (Or.inl ⟨by rfl, ?_⟩) hS0 ?_
              rotate_left
              · intro W _; go_simp; try with_reducible rfl
              try simp only [Act.put, List.getElem_toArray, List.getElem_cons_zero, List.getElem_cons_succ, List.setIfInBounds_toArray, List.set_cons_zero, List.set_cons_succ]
              refine wpAnyH_take (i := 2) (v := ?_) rfl (by kernel_rfl) (by kernel_rfl) (by kernel_rfl) (fun _ _ _ h => h) (Or.inl ⟨by rfl, ?_⟩) hS0 ?_
              rotate_left
              · intro W hSW; have hx := hSW.1.cellAt 2; try simp only [List.getElem?_toArray, List.getElem?_cons_succ, List.getElem?_cons_zero] at hx; go_simp; try with_reducible rfl
              try simp only [Act.put, List.getElem_toArray, List.getElem_cons_zero, List.getElem_cons_succ, List.setIfInBounds_toArray, List.set_cons_zero, List.set_cons_succ]
              refine wpAnyH_take (i := 4) (v := ?_) rfl (by kernel_rfl) (by kernel_rfl) (by kernel_rfl) (fun _ _ _ h => h) (Or.inl ⟨by rfl, ?_⟩) hS0 ?_
              rotate_left
              · intro W _; go_simp; try with_reducible rfl
              try simp only [Act.put, List.getElem_toArray, List.getElem_cons_zero, List.getElem_cons_succ, List.setIfInBounds_toArray, List.set_cons_zero, List.set_cons_succ]
              refine wpAnyH_take (i := 5) (v := ?_) rfl (by kernel_rfl) (by kernel_rfl) (by kernel_rfl) (fun _ _ _ h => h) (Or.inl ⟨by rfl, ?_⟩) hS0 ?_
              rotate_left
              · intro W _; go_simp; try with_reducible rfl
              try simp only [Act.put, List.getElem_toArray, List.getElem_cons_zero, List.getElem_cons_succ, List.setIfInBounds_toArray, List.set_cons_zero, List.set_cons_succ]
              refine wpAnyH_take (i := 6) (v := ?_) rfl (by kernel_rfl) (by kernel_rfl) (by kernel_rfl) (fun _ _ _ h => h) (Or.inl ⟨by rfl, ?_⟩) hS0 ?_
              rotate_left
              · intro W hSW; have hx := hSW.1.cellAt 2; try simp only [List.getElem?_toArray, List.getElem?_cons_succ, List.getElem?_cons_zero] at hx; go_simp; try with_reducible rfl
              try simp only [Act.put, List.getElem_toArray, List.getElem_cons_zero, List.getElem_cons_succ, List.setIfInBounds_toArray, List.set_cons_zero, List.set_cons_succ]
              refine wpAnyH_ready (rs := [3]) (by kernel_rfl) (by simp) ?_
              refine AllReadyH.cons rfl (fun K hK => ?_) AllReadyH.nil
              go_simp
              refine (KW.out _ g2 F E a0 n0 c0 l0 (HOK.out.later (HB1.out.ix.below hS0.2).be) (Nat.le_trans HN30.out (by decide)) HL0.out (HB1.out.ix.below hS0.2)).mono ?_
              rintro e w4 ⟨⟨m4, n4, A4, c4, rfl, hn4, hm4, ho4, ht4⟩, hb4⟩
              have HS4 : Hid (RdS w4 A4 m4) := by
                obtain ⟨A', c', hv, hr, -, -⟩ := ho4.rds
                injection hv with e1
                subst e1
                exact hr
              have HN4 := Lib.hid hn4
              have HT4 := Lib.hid ht4
              have HM4 := Lib.hid hm4
              clear ho4 hn4 ht4 hm4
              go_simp
              refine hK.out _ _ (⟨(hS0).1.later hb4, (hS0).2.trans (hb4.mono (hS0).2.size)⟩) (fun hS1 => ?_)
              clear hK K
              try simp only [Act.put, List.getElem_toArray, List.getElem_cons_zero, List.getElem_cons_succ, List.setIfInBounds_toArray, List.set_cons_zero, List.set_cons_succ]
              clear hb4
              refine wpAnyH_ready (rs := [7]) (by kernel_rfl) (by simp) ?_
              refine AllReadyH.cons rfl (fun K hK => ?_) AllReadyH.nil
              go_simp
              refine (RW.out _ r vN vA E a0 n0 c0 l0 HL0.out (HOK.out.later (HB1.out.below hS1.2).ix.be) (HB1.out.below hS1.2).oks (HB1.out.below hS1.2).rx).mono ?_
              rintro e w5 ⟨⟨A5, c5, rfl, ho5⟩, hb5⟩
              obtain ⟨m5, hm5⟩ : ∃ l, l = withN E l0 := ⟨_, rfl⟩
              rw [← hm5] at ho5 ⊢
              obtain ⟨n5, hn5⟩ : ∃ n, n = m5.length := ⟨_, rfl⟩
              rw [← hn5] at ho5 ⊢
              have HE5 : Hid (m4 = m5) := by
                show m4 = m5
                rw [hm5]
                exact told_with HB1.out.asc HT4.out
              have HS5 : Hid (RdS w5 A5 m5) := by
                obtain ⟨A', c', hv, hr, -, -⟩ := ho5.rds
                injection hv with e1
                subst e1
                exact hr
              have HS45 := Lib.hid (HS4.out.later hb5)
              have HN5 := Lib.hid hn5
              have HM5 : Hid (n5 ≤ 1000) := by
                show _ ≤ _
                have h1 := HE5.out; have h2 := HN4.out
                rw [hn5, ← h1, ← h2]; exact HM4.out
              clear ho5 hn5 hm5
              go_simp
              refine hK.out _ _ (⟨(hS1).1.later hb5, (hS1).2.trans (hb5.mono (hS1).2.size)⟩) (fun hS2 => ?_)
              clear hK K
              try simp only [Act.put, List.getElem_toArray, List.getElem_cons_zero, List.getElem_cons_succ, List.setIfInBounds_toArray, List.set_cons_zero, List.set_cons_succ]
              clear hb5
              refine wpAnyH_ready (rs := [8]) (by kernel_rfl) (by simp) ?_
              refine AllReadyH.cons rfl (fun K hK => ?_) AllReadyH.nil
              go_simp
              refine (KX.out A4 n4 c4 m4 A5 n5 c5 m5 w5 HN4.out HN5.out (Nat.le_trans HM4.out (by decide)) (Nat.le_trans HM5.out (by decide)) HS45.out HS5.out).mono ?_
              rintro e w6 ⟨rfl, hb6⟩
              rw [show sameS m4 m5 = true from decide_eq_true HE5.out]
              go_simp
              refine hK.out _ _ (⟨(hS2).1.later hb6, (hS2).2.trans (hb6.mono (hS2).2.size)⟩) (fun hS3 => ?_)
              clear hK K
              try simp only [Act.put, List.getElem_toArray, List.getElem_cons_zero, List.getElem_cons_succ, List.setIfInBounds_toArray, List.set_cons_zero, List.set_cons_succ]
              refine wpAnyH_take (i := 9) (v := ?_) rfl (by kernel_rfl) (by kernel_rfl) (by kernel_rfl) (fun _ _ _ h => h) (Or.inl ⟨by rfl, ?_⟩) hS3 ?_
              rotate_left
              · intro W _; go_simp; try with_reducible rfl
              try simp only [Act.put, List.getElem_toArray, List.getElem_cons_zero, List.getElem_cons_succ, List.setIfInBounds_toArray, List.set_cons_zero, List.set_cons_succ]
              refine wpAnyH_done (by kernel_rfl) ?_ _
              have HBL := Lib.hid (HB1.out.below hS3.2)
              have HLI : Hid (E.length ≤ i + 1) := by show _ ≤ _; have h3 := HLL.out; omega
              clear hS0 hS1 hS2 hS3 HS4 HS5 HS45 HN4 HN5 HM5 HE5 HT4 HB1 HFR HX HL0 HM4
              go_wp2_with fail
              obtain ⟨A9, c9, hv9, -, -, -⟩ := HBL.out.rx.nm.rds
              obtain ⟨n9, hn9⟩ : ∃ n, n = List.length E := ⟨_, rfl⟩
              rw [List.length_map, ← hn9] at hv9
              subst hv9
              have HRB := Lib.hid HBL.out.rx.bk
              have HN9 := Lib.hid hn9
              have HL9 : Hid (List.length E ≤ 1000) := by show _ ≤ _; have h1 := HLI.out; have h2 := HN200.out; omega
              clear hn9
              refine wp_region_held_drew (S := fun W => Below w6.heap.size w6 W) (by kernel_rfl) (Below.drew (Below.refl _ _)) (fun hS0 => ?_)
              refine wpAnyH_take (i := 0) (v := ?_) rfl (by kernel_rfl) (by kernel_rfl) (by kernel_rfl) (fun _ _ _ h => h) (Or.inl ⟨by rfl, ?_⟩) hS0 ?_
              rotate_left
              · intro W _; go_simp; try with_reducible rfl
              try simp only [Act.put, List.getElem_toArray, List.getElem_cons_zero, List.setIfInBounds_toArray, List.set_cons_zero, List.set_cons_succ]
              refine wpAnyH_take (i := 2) (v := ?_) rfl (by kernel_rfl) (by kernel_rfl) (by kernel_rfl) (fun _ _ _ h => h) (Or.inl ⟨by rfl, ?_⟩) hS0 ?_
              rotate_left
              · intro W _; go_simp; try with_reducible rfl
              try simp only [Act.put, List.getElem_toArray, List.getElem_cons_zero, List.getElem_cons_succ, List.setIfInBounds_toArray, List.set_cons_zero, List.set_cons_succ]
              refine wpAnyH_take (i := 3) (v := ?_) rfl (by kernel_rfl) (by kernel_rfl) (by kernel_rfl) (fun _ _ _ h => h) (Or.inl ⟨by rfl, ?_⟩) hS0 ?_
              rotate_left
              · intro W _; go_simp; try with_reducible rfl
              try simp only [Act.put, List.getElem_toArray, List.getElem_cons_zero, List.getElem_cons_succ, List.setIfInBounds_toArray, List.set_cons_zero, List.set_cons_succ]
              refine wpAnyH_take (i := 4) (v := ?_) rfl (by kernel_rfl) (by kernel_rfl) (by kernel_rfl) (fun _ _ _ h => h) (Or.inl ⟨by rfl, ?_⟩) hS0 ?_
              rotate_left
              · intro W _; go_simp; try with_reducible rfl
              try simp only [Act.put, List.getElem_toArray, List.getElem_cons_zero, List.getElem_cons_succ, List.setIfInBounds_toArray, List.set_cons_zero, List.set_cons_succ]
              refine wpAnyH_take (i := 5) (v := ?_) rfl (by kernel_rfl) (by kernel_rfl) (by kernel_rfl) (fun _ _ _ h => h) (Or.inl ⟨by rfl, ?_⟩) hS0 ?_
              rotate_left
              · intro W hSW; have hx := (HRB.out.later hSW).cellAt 0; try simp only [List.getElem?_toArray, List.getElem?_cons_zero] at hx; go_simp; try with_reducible rfl
              try simp only [Act.put, List.getElem_toArray, List.getElem_cons_zero, List.getElem_cons_succ, List.setIfInBounds_toArray, List.set_cons_zero, List.set_cons_succ]
              refine wpAnyH_take (i := 6) (v := ?_) rfl (by kernel_rfl) (by kernel_rfl) (by kernel_rfl) (fun _ _ _ h => h) (Or.inl ⟨by rfl, ?_⟩) hS0 ?_
              rotate_left
              · intro W _; go_simp; try with_reducible rfl
              try simp only [Act.put, List.getElem_toArray, List.getElem_cons_zero, List.getElem_cons_succ, List.setIfInBounds_toArray, List.set_cons_zero, List.set_cons_succ]
              refine wpAnyH_ready (rs := [1]) (by kernel_rfl) (by simp) ?_
              refine AllReadyH.cons rfl (fun K hK => ?_) AllReadyH.nil
              go_simp
              refine (KL.out _ g2 _ E HL9.out (HBL.out.ix.below hS0)).mono ?_
              rintro e w8 ⟨rfl, hb8⟩
              rw [← HN9.out]
              go_simp
              refine hK.out _ _ (hS0.trans (hb8.mono hS0.size)) (fun hS1 => ?_)
              clear hK K
              try simp only [Act.put, List.getElem_toArray, List.getElem_cons_zero, List.getElem_cons_succ, List.setIfInBounds_toArray, List.set_cons_zero, List.set_cons_succ]
              refine wpAnyH_take (i := 7) (v := ?_) rfl (by kernel_rfl) (by kernel_rfl) (by kernel_rfl) (fun _ _ _ h => h) (Or.inl ⟨by rfl, ?_⟩) hS1 ?_
              rotate_left
              · intro W _; go_simp; try with_reducible rfl
              try simp only [Act.put, List.getElem_toArray, List.getElem_cons_zero, List.getElem_cons_succ, List.setIfInBounds_toArray, List.set_cons_zero, List.set_cons_succ]
              refine wpAnyH_done (by kernel_rfl) ?_ _
              have HBB := Lib.hid (HBL.out.below hS1)
              clear hS0 hS1 HBL HRB HN9 HL9
              go_wp2_with fail
              go_round
              case rel => exact ⟨i + 1, _, _, _, _, by omega, by go_num, HLI, HBB⟩
              case measure =>
                first
                | (rw [hw1]; show N - ((i + 1 : Nat) : Int).toNat < N - ((i : Nat) : Int).toNat; rw [Int.toNat_natCast, Int.toNat_natCast]; omega)
                | (show N - ((i : Int) + 1).toNat < N - ((i : Nat) : Int).toNat; omega)
            · have e3 : (kd == 3) = false := by simpa using q3
              clear q1 q2 q3
              go_wp2_with (with_reducible refine load_rg rfl 38 _ rfl q (o + i * 3) rfl #[.int .i64 kd, .string s, .slice a0 n0 c0] _ HX.out Try.underlying38 rfl (by kernel_rfl) ?_)
              have HBL := Lib.hid HB1.out
              have HLI : Hid (E.length ≤ i + 1) := by show _ ≤ _; have h3 := HLL.out; omega
              clear HB1 HFR HX
              obtain ⟨A9, c9, hv9, -, -, -⟩ := HBL.out.rx.nm.rds
              obtain ⟨n9, hn9⟩ : ∃ n, n = List.length E := ⟨_, rfl⟩
              rw [List.length_map, ← hn9] at hv9
              subst hv9
              have HRB := Lib.hid HBL.out.rx.bk
              have HN9 := Lib.hid hn9
              have HL9 : Hid (List.length E ≤ 1000) := by show _ ≤ _; have h1 := HLI.out; have h2 := HN200.out; omega
              clear hn9
              refine wp_region_held_drew (S := fun W => Below (wr.alloc (.cells #[.int .i64 kd, .string s, .slice a0 n0 c0] 38)).heap.size (wr.alloc (.cells #[.int .i64 kd, .string s, .slice a0 n0 c0] 38)) W) (by kernel_rfl) (Below.drew (Below.refl _ _)) (fun hS0 => ?_)
              refine wpAnyH_take (i := 0) (v := ?_) rfl (by kernel_rfl) (by kernel_rfl) (by kernel_rfl) (fun _ _ _ h => h) (Or.inl ⟨by rfl, ?_⟩) hS0 ?_
              rotate_left
              · intro W _; go_simp; try with_reducible rfl
              try simp only [Act.put, List.getElem_toArray, List.getElem_cons_zero, List.setIfInBounds_toArray, List.set_cons_zero, List.set_cons_succ]
              refine wpAnyH_take (i := 2) (v := ?_) rfl (by kernel_rfl) (by kernel_rfl) (by kernel_rfl) (fun _ _ _ h => h) (Or.inl ⟨by rfl, ?_⟩) hS0 ?_
              rotate_left
              · intro W _; go_simp; try with_reducible rfl
              try simp only [Act.put, List.getElem_toArray, List.getElem_cons_zero, List.getElem_cons_succ, List.setIfInBounds_toArray, List.set_cons_zero, List.set_cons_succ]
              refine wpAnyH_take (i := 3) (v := ?_) rfl (by kernel_rfl) (by kernel_rfl) (by kernel_rfl) (fun _ _ _ h => h) (Or.inl ⟨by rfl, ?_⟩) hS0 ?_
              rotate_left
              · intro W _; go_simp; try with_reducible rfl
              try simp only [Act.put, List.getElem_toArray, List.getElem_cons_zero, List.getElem_cons_succ, List.setIfInBounds_toArray, List.set_cons_zero, List.set_cons_succ]
              refine wpAnyH_take (i := 4) (v := ?_) rfl (by kernel_rfl) (by kernel_rfl) (by kernel_rfl) (fun _ _ _ h => h) (Or.inl ⟨by rfl, ?_⟩) hS0 ?_
              rotate_left
              · intro W _; go_simp; try with_reducible rfl
              try simp only [Act.put, List.getElem_toArray, List.getElem_cons_zero, List.getElem_cons_succ, List.setIfInBounds_toArray, List.set_cons_zero, List.set_cons_succ]
              refine wpAnyH_take (i := 5) (v := ?_) rfl (by kernel_rfl) (by kernel_rfl) (by kernel_rfl) (fun _ _ _ h => h) (Or.inl ⟨by rfl, ?_⟩) hS0 ?_
              rotate_left
              · intro W hSW; have hx := (HRB.out.later hSW).cellAt 0; try simp only [List.getElem?_toArray, List.getElem?_cons_zero] at hx; go_simp; try with_reducible rfl
              try simp only [Act.put, List.getElem_toArray, List.getElem_cons_zero, List.getElem_cons_succ, List.setIfInBounds_toArray, List.set_cons_zero, List.set_cons_succ]
              refine wpAnyH_take (i := 6) (v := ?_) rfl (by kernel_rfl) (by kernel_rfl) (by kernel_rfl) (fun _ _ _ h => h) (Or.inl ⟨by rfl, ?_⟩) hS0 ?_
              rotate_left
              · intro W _; go_simp; try with_reducible rfl
              try simp only [Act.put, List.getElem_toArray, List.getElem_cons_zero, List.getElem_cons_succ, List.setIfInBounds_toArray, List.set_cons_zero, List.set_cons_succ]
              refine wpAnyH_ready (rs := [1]) (by kernel_rfl) (by simp) ?_
              refine AllReadyH.cons rfl (fun K hK => ?_) AllReadyH.nil
              go_simp
              refine (KL.out _ g2 _ E HL9.out (HBL.out.ix.below hS0)).mono ?_
              rintro e w8 ⟨rfl, hb8⟩
              rw [← HN9.out]
              go_simp
              refine hK.out _ _ (hS0.trans (hb8.mono hS0.size)) (fun hS1 => ?_)
              clear hK K
              try simp only [Act.put, List.getElem_toArray, List.getElem_cons_zero, List.getElem_cons_succ, List.setIfInBounds_toArray, List.set_cons_zero, List.set_cons_succ]
              refine wpAnyH_take (i := 7) (v := ?_) rfl (by kernel_rfl) (by kernel_rfl) (by kernel_rfl) (fun _ _ _ h => h) (Or.inl ⟨by rfl, ?_⟩) hS1 ?_
              rotate_left
              · intro W _; go_simp; try with_reducible rfl
              try simp only [Act.put, List.getElem_toArray, List.getElem_cons_zero, List.getElem_cons_succ, List.setIfInBounds_toArray, List.set_cons_zero, List.set_cons_succ]
              refine wpAnyH_done (by kernel_rfl) ?_ _
              have HBB := Lib.hid (HBL.out.below hS1)
              clear hS0 hS1 HBL HRB HN9 HL9
              go_wp2_with fail
              go_round
              case rel => exact ⟨i + 1, _, _, _, _, by omega, by go_num, HLI, HBB⟩
              case measure =>
                first
                | (rw [hw1]; show N - ((i + 1 : Nat) : Int).toNat < N - ((i : Nat) : Int).toNat; rw [Int.toNat_natCast, Int.toNat_natCast]; omega)
                | (show N - ((i : Int) + 1).toNat < N - ((i : Nat) : Int).toNat; omega)
      · have hie : i = N := by omega
        subst hie
        have HL0 : Hid (E.length ≤ 1000) := by show _ ≤ _; have := HLL.out; have := HN200.out; omega
        obtain ⟨A9, c9, hv9, hrd9, -, -⟩ := HB.out.rx.nm.rds
        obtain ⟨n9, hn9⟩ : ∃ n, n = List.length E := ⟨_, rfl⟩
        rw [List.length_map, ← hn9] at hv9
        subst hv9
        have HR9 : Hid (RdS wr A9 (E.map Prod.fst)) := hrd9
        have HRB := Lib.hid HB.out.rx.bk
        have HN9 := Lib.hid hn9
        clear hn9 hrd9 hi hin
        go_wp2_with fail
        refine wp_region_held_drew (S := fun W => Below wr.heap.size wr W) (by kernel_rfl) (Below.drew (Below.refl _ _)) (fun hS0 => ?_)
        refine wpAnyH_take (i := 0) (v := ?_) rfl (by kernel_rfl) (by kernel_rfl) (by kernel_rfl) (fun _ _ _ h => h) (Or.inl ⟨by rfl, ?_⟩) hS0 ?_
        rotate_left
        · intro W _; go_simp; try with_reducible rfl
        try simp only [Act.put, List.getElem_toArray, List.getElem_cons_zero, List.setIfInBounds_toArray, List.set_cons_zero, List.set_cons_succ]
        refine wpAnyH_take (i := 2) (v := ?_) rfl (by kernel_rfl) (by kernel_rfl) (by kernel_rfl) (fun _ _ _ h => h) (Or.inl ⟨by rfl, ?_⟩) hS0 ?_
        rotate_left
        · intro W _; go_simp; try with_reducible rfl
        try simp only [Act.put, List.getElem_toArray, List.getElem_cons_zero, List.getElem_cons_succ, List.setIfInBounds_toArray, List.set_cons_zero, List.set_cons_succ]
        refine wpAnyH_take (i := 3) (v := ?_) rfl (by kernel_rfl) (by kernel_rfl) (by kernel_rfl) (fun _ _ _ h => h) (Or.inl ⟨by rfl, ?_⟩) hS0 ?_
        rotate_left
        · intro W _; go_simp; try with_reducible rfl
        try simp only [Act.put, List.getElem_toArray, List.getElem_cons_zero, List.getElem_cons_succ, List.setIfInBounds_toArray, List.set_cons_zero, List.set_cons_succ]
        refine wpAnyH_take (i := 4) (v := ?_) rfl (by kernel_rfl) (by kernel_rfl) (by kernel_rfl) (fun _ _ _ h => h) (Or.inl ⟨by rfl, ?_⟩) hS0 ?_
        rotate_left
        · intro W _; go_simp; try with_reducible rfl
        try simp only [Act.put, List.getElem_toArray, List.getElem_cons_zero, List.getElem_cons_succ, List.setIfInBounds_toArray, List.set_cons_zero, List.set_cons_succ]
        refine wpAnyH_take (i := 5) (v := ?_) rfl (by kernel_rfl) (by kernel_rfl) (by kernel_rfl) (fun _ _ _ h => h) (Or.inl ⟨by rfl, ?_⟩) hS0 ?_
        rotate_left
        · intro W hSW; have hx := (HRB.out.later hSW).cellAt 0; try simp only [List.getElem?_toArray, List.getElem?_cons_zero] at hx; go_simp; try with_reducible rfl
        try simp only [Act.put, List.getElem_toArray, List.getElem_cons_zero, List.getElem_cons_succ, List.setIfInBounds_toArray, List.set_cons_zero, List.set_cons_succ]
        refine wpAnyH_ready (rs := [1]) (by kernel_rfl) (by simp) ?_
        refine AllReadyH.cons rfl (fun K hK => ?_) AllReadyH.nil
        go_simp
        refine (KW.out _ g2 F E none 0 0 [] ⟨rfl, RdL.nil _ _, Nat.le_refl _, Nat.zero_le _⟩ (by decide) HL0.out (HB.out.ix.below hS0)).mono ?_
        rintro e w4 ⟨⟨m4, n4, A4, c4, rfl, hn4, hm4, ho4, ht4⟩, hb4⟩
        have HS4 : Hid (RdS w4 A4 m4) := by
          obtain ⟨A', c', hv, hr, -, -⟩ := ho4.rds
          injection hv with e1
          subst e1
          exact hr
        have HN4 := Lib.hid hn4
        have HE4 : Hid (m4 = E.map Prod.fst) := by
          show _ = _
          rw [told_with HB.out.asc ht4]
          unfold withN
          exact congrArg _ (List.filter_eq_self.2 fun p _ => rfl)
        have HM4 := Lib.hid hm4
        clear ho4 hn4 ht4 hm4
        go_simp
        refine hK.out _ _ (hS0.trans (hb4.mono hS0.size)) (fun hS1 => ?_)
        clear hK K
        try simp only [Act.put, List.getElem_toArray, List.getElem_cons_zero, List.getElem_cons_succ, List.setIfInBounds_toArray, List.set_cons_zero, List.set_cons_succ]
        clear hb4
        refine wpAnyH_ready (rs := [6]) (by kernel_rfl) (by simp) ?_
        refine AllReadyH.cons rfl (fun K hK => ?_) AllReadyH.nil
        go_simp
        refine (KX.out A4 n4 c4 m4 A9 n9 c9 (E.map Prod.fst) _ HN4.out (by rw [List.length_map]; exact HN9.out) (Nat.le_trans HM4.out (by decide)) (by rw [HN9.out]; exact Nat.le_trans HL0.out (by decide)) HS4.out (HR9.out.later hS1)).mono ?_
        rintro e w6 ⟨rfl, hb6⟩
        rw [show sameS m4 (E.map Prod.fst) = true from decide_eq_true HE4.out]
        go_simp
        refine hK.out _ _ (hS1.trans (hb6.mono hS1.size)) (fun hS2 => ?_)
        clear hK K
        try simp only [Act.put, List.getElem_toArray, List.getElem_cons_zero, List.getElem_cons_succ, List.setIfInBounds_toArray, List.set_cons_zero, List.set_cons_succ]
        refine wpAnyH_take (i := 7) (v := ?_) rfl (by kernel_rfl) (by kernel_rfl) (by kernel_rfl) (fun _ _ _ h => h) (Or.inl ⟨by rfl, ?_⟩) hS2 ?_
        rotate_left
        · intro W _; go_simp; try with_reducible rfl
        try simp only [Act.put, List.getElem_toArray, List.getElem_cons_zero, List.getElem_cons_succ, List.setIfInBounds_toArray, List.set_cons_zero, List.set_cons_succ]
        refine wpAnyH_done (by kernel_rfl) ?_ _
        have HBE : Hid (Below w.heap.size w w6) := HB.out.ix.be.trans (hS2.mono HB.out.ix.be.size)
        go_wp2_with fail
        go_ret
        exact ⟨rfl, HBE.out⟩
end labelsPlays
end Go.Proofs.Ytldijginplgikaa
