/- The walk of HeapPlays. No condition beyond the form's own. -/
import Derived.Test.YtkadcaihihgceaaHst
import Derived.Test.YtkadcaihihgceaaHrd
import Derived.Test.YtkadcaihihgceaaHop
namespace Go.Proofs.Ytkadcaihihgceaa
open Go.RowKit
set_option linter.unusedSimpArgs false
set_option linter.unusedVariables false
theorem rpop_any (b r : Nat) (A : Option Addr) (n c : Nat) (L : List Px) (w : World) (hbig : n ≤ 1000) (hR : Rf w b r A n c L) :
    Calls Try.prog 14 #[.pointer (some ⟨r, 0, none⟩)] w fun e w' => e = .returned (.tuple #[vP (L.headD (0, 0)), .bool (decide (0 < L.length))]) ∧ (∃ A' n' c', Rf w' b r A' n' c' L.tail) ∧ GrP (fun k => k = r) w w' := by
  cases L with
  | nil =>
    refine (rpop_none b r A n c w (Lib.hid hR)).mono ?_
    rintro e w' ⟨rfl, hb⟩
    exact ⟨rfl, ⟨A, n, c, hR.below hb⟩, GrP.ofBelow hb⟩
  | cons x L =>
    refine (rpop_some b r A n c x L w hbig (Lib.hid hR)).mono ?_
    rintro e w' ⟨rfl, ⟨A', n', c', h1, _⟩, hg⟩
    exact ⟨by simp, ⟨A', n', c', h1⟩, hg⟩
/-- A heap and the document's, that hold the same pairs. -/
structure Both (w wr : World) (h r m : Nat) (v : Value) (A : Option Addr) (n c : Nat) (L : List Px) : Prop where
  one : OneE w wr h m L v
  ref : Rf wr w.heap.size r A n c L
section
variable {w wr w' : World} {h r m m' : Nat} {v v' : Value} {A A' : Option Addr} {n n' c c' : Nat} {L L' : List Px}
theorem Both.below (H : Both w wr h r m v A n c L) (hb : Below wr.heap.size wr w') : Both w w' h r m v A n c L := ⟨H.one.below hb, H.ref.below hb⟩
theorem Both.left (H : Both w wr h r m v A n c L) (h1 : OneE w w' h m' L' v') (hg : GrP (HpB h v) wr w') : Rf w' w.heap.size r A n c L := H.ref.grp hg fun k hk hk2 => H.one.rf H.ref hk2 hk
theorem OneE.rfk (H : OneE w wr h m L v) (R : Rf wr w.heap.size r A n c L') (hg : GrP (fun k => k = r) wr w') : OneE w w' h m L v := by
  obtain ⟨l, B, H⟩ := H
  exact ⟨l, B, H.p.grp hg (fun k hk e => H.p.rf R hk (.inl e)), H.o, H.s, H.be.trans (hg.below H.be.size fun k hk => by rw [hk]; exact R.le)⟩
end
theorem keep_odd (L : List Px) : (L.filter fun x => !odB x) = keepR true L := List.filter_congr fun x _ => by cases odB x <;> rfl
theorem keep_even (L : List Px) : (L.filter fun x => !(!odB x)) = keepR false L := List.filter_congr fun x _ => by cases odB x <;> rfl
namespace heapPlays
set_option maxHeartbeats 51200000 in
set_option maxRecDepth 100000 in
theorem walk (B0 : Option Addr) (N cap : Nat) (z : List (Int × Px × Bool)) (w : World) (hn0 : N = z.length) (hr0 : RdK w 4 B0 (z.map eO)) (hc1 : N ≤ cap) (hc2 : cap ≤ 9223372036854775807) :
    Calls Try.prog 3 #[.slice B0 N cap] w fun r w' => r = .returned (.bool true) ∧ Below w.heap.size w w' := by
  have K1 := Lib.hid (fun W => awake16_any W)
  have HN := Lib.hid hn0
  have HRD : Hid (RdK w 4 B0 (z.map eO)) := hr0
  clear hn0 hr0
  by_cases hbig : 300 < N
  · have hb : (300 : Int) < (N : Int) := by omega
    go_enter Try.func3, Try.ntmps3
    go_wp2_with fail
    refine (K1.out _).mono ?_; rintro e w1 ⟨rfl, hb1⟩
    go_wp2_with fail
    refine (K1.out _).mono ?_; rintro e w2 ⟨rfl, hb2⟩
    go_wp2_with fail
    go_ret
    exact ⟨rfl, hb1.trans (hb2.mono hb1.size)⟩
  · have hb : ¬ ((300 : Int) < (N : Int)) := by omega
    have hbig' : N ≤ 300 := by omega
    have KN := Lib.hid (fun (W : World) (h : Below w.heap.size w W) => one_new (w := w) W h)
    have KP := Lib.hid (fun (W : World) (h : Nat) (m : Int) (L : List Px) (v : Value) (x : Px) (H : OneE w W h m L v) (hl : L.length ≤ 900) (hm : 0 ≤ m ∧ m ≤ 1000000) => one_push x H hl hm)
    have KQ := Lib.hid (fun (W : World) (h : Nat) (m : Int) (L : List Px) (v : Value) (H : OneE w W h m L v) (hl : L.length ≤ 900) => one_pop H hl)
    have KO := Lib.hid (fun (W : World) (h : Nat) (m : Int) (L : List Px) (v : Value) (H : OneE w W h m L v) (hl : L.length ≤ 900) => one_remove _ _ chs_odd H hl)
    have KV := Lib.hid (fun (W : World) (h : Nat) (m : Int) (L : List Px) (v : Value) (H : OneE w W h m L v) (hl : L.length ≤ 900) => one_remove _ _ chs_even H hl)
    have KS := Lib.hid (fun (W : World) (h : Nat) (m : Int) (L : List Px) (v : Value) (H : OneE w W h m L v) (hl : L.length ≤ 900) => one_sorted H hl)
    have KL := Lib.hid (fun (W : World) (h : Nat) (m : Int) (L : List Px) (v : Value) (H : OneE w W h m L v) => one_len H)
    have KT := Lib.hid (fun (W : World) (h : Nat) (m : Int) (L : List Px) (v : Value) (H : OneE w W h m L v) => one_top H)
    have KE := Lib.hid (fun (W : World) (A B : Option Addr) (n m c e : Nat) (l r : List Px) (h1 : RdP W A n l) (h2 : RdP W B m r) (hn : n ≤ 1000) (hm : m ≤ 1000) => same_any A B n m c e l r W (Lib.hid h1) (Lib.hid h2) hn hm)
    have RP := Lib.hid (fun (W : World) (r n c : Nat) (A : Option Addr) (x : Px) (L : List Px) (hb : n ≤ 900) (R : Rf W w.heap.size r A n c L) => rpush_any w.heap.size r n c A x L W hb (Lib.hid R))
    have RQ := Lib.hid (fun (W : World) (r n c : Nat) (A : Option Addr) (L : List Px) (hb : n ≤ 1000) (R : Rf W w.heap.size r A n c L) => rpop_any w.heap.size r A n c L W hb R)
    have RR := Lib.hid (fun (W : World) (r n c : Nat) (A : Option Addr) (od : Bool) (L : List Px) (hb : n ≤ 900) (R : Rf W w.heap.size r A n c L) => rrem_any w.heap.size r n c A od L W hb (Lib.hid R))
    have k1 := neqP_run
    have k2 := guardP_run
    go_enter Try.func3, Try.ntmps3
    go_wp2_with fail
    refine (K1.out _).mono ?_; rintro e w1 ⟨rfl, hb1⟩
    have HB1 := Lib.hid hb1
    clear hb1
    go_wp2_with fail
    refine (KN.out _ HB1.out).mono ?_; rintro e w2 ⟨⟨h, v0, rfl, hO1, _⟩, hb2⟩
    have H2 := Lib.hid hO1
    have HZ2 : Hid (w.heap.size ≤ w2.heap.size) := hO1.be.size
    clear hO1 hb2
    obtain ⟨r, hr⟩ : ∃ r, r = w2.heap.size := ⟨_, rfl⟩
    obtain ⟨W3, hW3⟩ : ∃ W, W = w2.alloc (.cells #[.slice none 0 0] 32) := ⟨_, rfl⟩
    have HBO : Hid (Both w W3 h r 0 v0 none 0 0 []) := by
      rw [hW3, hr]
      refine ⟨H2.out.below ((Below.refl _ _).alloc (Nat.le_refl _) _), ⟨Bk.fresh _ _ _, ⟨rfl, RdK.nil _ _ _⟩, HZ2.out, Nat.le_refl _, by omega, fun g o p e => by (cases e), fun _ => rfl⟩⟩
    go_wp2_with fail
    rw [← hW3, ← hr]
    clear hW3 hr H2 HZ2
    go_loopw [27] (fun s27 wr => ∃ (i m : Nat) (v : Value) (A : Option Addr) (n c : Nat) (L : List Px), i ≤ N ∧ s27 = .int .i64 i ∧ Hid (m ≤ i) ∧ Hid (L.length ≤ i) ∧ Hid (Both w wr h r m v A n c L)) (fun s27 wr => N - (intOf s27).toNat)
    case atStart => exact ⟨0, 0, v0, none, 0, 0, [], Nat.zero_le _, rfl, Nat.le_refl _, Nat.le_refl _, HBO⟩
    case round =>
      clear HBO
      obtain ⟨i, m, v, A, n, c, L, hi, rfl, HM, HLL, HB⟩ := hrel
      by_cases hin : i < N
      · have hil : i < z.length := by rw [← HN.out]; exact hin
        obtain ⟨g, o, hA, hx⟩ := (HRD.out.later HB.out.one.be).at (i := i) (by rw [List.length_map]; exact hil)
        subst hA
        rw [List.getElem_map] at hx
        obtain ⟨⟨kd, ⟨p1, p2⟩, od⟩, ex⟩ : ∃ x, x = z[i] := ⟨_, rfl⟩
        rw [← ex] at hx
        have HX : Hid (wr.rangeAt g (o + i * 4) (#[.int .i64 kd, .int .i64 p1, .int .i64 p2, .bool od] : Array Value).toList) := hx
        have hw1 : wrap64 ((i : Int) + 1) = ((i + 1 : Nat) : Int) := by unfold wrap64; omega
        have HFR : Hid (Bk (wr.alloc (.cells #[.int .i64 kd, .int .i64 p1, .int .i64 p2, .bool od] 34)) wr.heap.size 34 #[.int .i64 kd, .int .i64 p1, .int .i64 p2, .bool od]) := Bk.fresh _ _ _
        have HB1 : Hid (Both w (wr.alloc (.cells #[.int .i64 kd, .int .i64 p1, .int .i64 p2, .bool od] 34)) h r m v A n c L) := HB.out.below ((Below.refl _ _).alloc (Nat.le_refl _) _)
        have HL9 : Hid (L.length ≤ 900) := by show _ ≤ _; have := HLL.out; omega
        have HNL : Hid (n = L.length) := HB.out.ref.rd.1
        have HN9 : Hid (n ≤ 900) := by show _ ≤ _; rw [HNL.out]; exact HL9.out
        have HM9 : Hid (0 ≤ (m : Int) ∧ (m : Int) ≤ 1000000) := by have := HM.out; exact ⟨by omega, by omega⟩
        have HLT : Hid (∀ k, HpB h v k → k < wr.heap.size) := fun k hk => (HB.out.one.blk hk).2
        clear hx ex hil HB
        by_cases q1 : kd = 1
        · subst q1
          go_wp2_with (first | (with_reducible refine load_rg rfl 34 _ rfl g (o + i * 4) rfl #[.int .i64 1, .int .i64 p1, .int .i64 p2, .bool od] _ HX.out Try.underlying34 rfl (by kernel_rfl) ?_) | (with_reducible refine load_bk rfl 27 _ rfl wr.heap.size 1 rfl 34 #[.int .i64 1, .int .i64 p1, .int .i64 p2, .bool od] #[.int .i64 p1, .int .i64 p2] _ HFR.out (Part.of rfl) Try.underlying27 rfl (by kernel_rfl) ?_))
          refine (KP.out _ h m L v (p1, p2) HB1.out.one HL9.out HM9.out).mono ?_
          rintro e w4 ⟨rfl, ⟨v', hO, _⟩, hg⟩
          have H4 : Hid (OneE w w4 h ((m + 1 : Nat) : Int) (insR (p1, p2) L) v') := hO
          have HR4 := Lib.hid (HB1.out.left hO hg)
          have HF4 : Hid (Bk w4 wr.heap.size 34 #[.int .i64 1, .int .i64 p1, .int .i64 p2, .bool od]) := HFR.out.grp hg (fun e => by have := HLT.out _ e; omega)
          clear hO hg HFR HB1
          go_wp2_with (with_reducible refine load_bk rfl 27 _ rfl wr.heap.size 1 rfl 34 #[.int .i64 1, .int .i64 p1, .int .i64 p2, .bool od] #[.int .i64 p1, .int .i64 p2] _ HF4.out (Part.of rfl) Try.underlying27 rfl (by kernel_rfl) ?_)
          refine (RP.out w4 r n c A (p1, p2) L HN9.out HR4.out).mono ?_
          rintro e w5 ⟨rfl, ⟨A', n', c', hR, _⟩, hg5⟩
          have HH := Lib.hid (H4.out.rfk HR4.out hg5)
          have HF := Lib.hid hR
          have HMI : Hid (m + 1 ≤ i + 1) := by show _ ≤ _; have := HM.out; omega
          have HLI : Hid ((insR (p1, p2) L).length ≤ i + 1) := by show _ ≤ _; rw [insR_len]; have := HLL.out; omega
          clear hR hg5 H4 HR4 HF4
          go_wp2_with fail
          have HRB : Hid (Bk w5 r 32 #[.slice A' n' c']) := HF.out.bk
          have HNF : Hid (n' = List.length (insR (p1, p2) L)) := HF.out.rd.1
          refine wp_region_held_drew (S := fun W => Below w5.heap.size w5 W) (by kernel_rfl) (Below.drew (Below.refl _ _)) (fun hS0 => ?_)
          refine wpAnyH_take (i := 0) (v := ?_) rfl (by kernel_rfl) (by kernel_rfl) (by kernel_rfl) (fun _ _ _ h => h) (Or.inl ⟨by rfl, ?_⟩) hS0 ?_
          rotate_left
          · intro W _; go_simp; try with_reducible rfl
          try simp only [Act.put, List.getElem_toArray, List.getElem_cons_zero, List.setIfInBounds_toArray, List.set_cons_zero, List.set_cons_succ]
          refine wpAnyH_take (i := 2) (v := ?_) rfl (by kernel_rfl) (by kernel_rfl) (by kernel_rfl) (fun _ _ _ h => h) (Or.inl ⟨by rfl, ?_⟩) hS0 ?_
          rotate_left
          · intro W _; go_simp; try with_reducible rfl
          try simp only [Act.put, List.getElem_toArray, List.getElem_cons_zero, List.getElem_cons_succ, List.setIfInBounds_toArray, List.set_cons_zero, List.set_cons_succ]
          refine wpAnyH_take (i := 3) (v := ?_) rfl (by kernel_rfl) (by kernel_rfl) (by kernel_rfl) (fun _ _ _ h => h) (Or.inl ⟨by rfl, ?_⟩) hS0 ?_
          rotate_left
          · intro W _; go_simp; try with_reducible rfl
          try simp only [Act.put, List.getElem_toArray, List.getElem_cons_zero, List.getElem_cons_succ, List.setIfInBounds_toArray, List.set_cons_zero, List.set_cons_succ]
          refine wpAnyH_take (i := 4) (v := ?_) rfl (by kernel_rfl) (by kernel_rfl) (by kernel_rfl) (fun _ _ _ h => h) (Or.inl ⟨by rfl, ?_⟩) hS0 ?_
          rotate_left
          · intro W _; go_simp; try with_reducible rfl
          try simp only [Act.put, List.getElem_toArray, List.getElem_cons_zero, List.getElem_cons_succ, List.setIfInBounds_toArray, List.set_cons_zero, List.set_cons_succ]
          refine wpAnyH_take (i := 5) (v := ?_) rfl (by kernel_rfl) (by kernel_rfl) (by kernel_rfl) (fun _ _ _ h => h) (Or.inl ⟨by rfl, ?_⟩) hS0 ?_
          rotate_left
          · intro W hSW; have hx := (HRB.out.later hSW).cellAt 0; try simp only [List.getElem?_toArray, List.getElem?_cons_zero] at hx; go_simp; try with_reducible rfl
          try simp only [Act.put, List.getElem_toArray, List.getElem_cons_zero, List.getElem_cons_succ, List.setIfInBounds_toArray, List.set_cons_zero, List.set_cons_succ]
          refine wpAnyH_take (i := 6) (v := ?_) rfl (by kernel_rfl) (by kernel_rfl) (by kernel_rfl) (fun _ _ _ h => h) (Or.inl ⟨by rfl, ?_⟩) hS0 ?_
          rotate_left
          · intro W _; go_simp; try with_reducible rfl
          try simp only [Act.put, List.getElem_toArray, List.getElem_cons_zero, List.getElem_cons_succ, List.setIfInBounds_toArray, List.set_cons_zero, List.set_cons_succ]
          refine wpAnyH_ready (rs := [1]) (by kernel_rfl) (by simp) ?_
          refine AllReadyH.cons rfl (fun K hK => ?_) AllReadyH.nil
          go_simp
          refine (KL.out _ h (m + 1) (insR (p1, p2) L) v' (HH.out.below hS0)).mono ?_
          rintro e w8 ⟨rfl, hw8⟩; rw [hw8]; clear hw8 w8
          rw [← HNF.out]
          go_simp
          refine hK.out _ _ (hS0) (fun hS1 => ?_)
          clear hK K
          try simp only [Act.put, List.getElem_toArray, List.getElem_cons_zero, List.getElem_cons_succ, List.setIfInBounds_toArray, List.set_cons_zero, List.set_cons_succ]
          refine wpAnyH_take (i := 7) (v := ?_) rfl (by kernel_rfl) (by kernel_rfl) (by kernel_rfl) (fun _ _ _ h => h) (Or.inl ⟨by rfl, ?_⟩) hS1 ?_
          rotate_left
          · intro W _; go_simp; try with_reducible rfl
          try simp only [Act.put, List.getElem_toArray, List.getElem_cons_zero, List.getElem_cons_succ, List.setIfInBounds_toArray, List.set_cons_zero, List.set_cons_succ]
          refine wpAnyH_done (by kernel_rfl) ?_ _
          have HBB : Hid (Both w w5.drew h r (m + 1) v' A' n' c' (insR (p1, p2) L)) := ⟨HH.out.below (Below.drew (Below.refl _ _)), HF.out.below (Below.drew (Below.refl _ _))⟩
          go_wp2_with fail
          go_round
          case rel => exact ⟨i + 1, (m + 1), v', A', n', c', (insR (p1, p2) L), by omega, by go_num, HMI, HLI, HBB⟩
          case measure => simp [intOf]; omega
        · have e1 : (kd == 1) = false := by simpa using q1
          by_cases q2 : kd = 2
          · subst q2
            clear e1 q1
            go_wp2_with (with_reducible refine load_rg rfl 34 _ rfl g (o + i * 4) rfl #[.int .i64 2, .int .i64 p1, .int .i64 p2, .bool od] _ HX.out Try.underlying34 rfl (by kernel_rfl) ?_)
            refine (KQ.out _ h m L v HB1.out.one HL9.out).mono ?_
            rintro e w4 ⟨rfl, ⟨v', hO, _⟩, hg⟩
            obtain ⟨⟨y1, y2⟩, hy⟩ : ∃ y, y = L.headD (0, 0) := ⟨_, rfl⟩
            obtain ⟨d, hd⟩ : ∃ d, d = decide (0 < L.length) := ⟨_, rfl⟩
            rw [← hy, ← hd]
            have HR4 := HB1.out.left hO hg
            have hb5 : Below w4.heap.size w4 (w4.alloc (.cells #[.int .i64 y1, .int .i64 y2] 27)) := (Below.refl _ _).alloc (Nat.le_refl _) _
            have H5 := Lib.hid (hO.below hb5); have HR5 := Lib.hid (HR4.below hb5)
            have HP5 : Hid (Bk (w4.alloc (.cells #[.int .i64 y1, .int .i64 y2] 27)) w4.heap.size 27 #[.int .i64 y1, .int .i64 y2]) := Bk.fresh _ _ _
            have HRW : Hid (r < w4.heap.size) := HR4.bk.here
            have HY := Lib.hid hy; have HD := Lib.hid hd
            clear hy hd hO hg HR4 hb5 HFR HB1
            go_wp2_with fail
            refine (RQ.out _ r n c A L (by have := HN9.out; omega) HR5.out).mono ?_
            rintro e w6 ⟨rfl, ⟨A', n', c', hR⟩, hg6⟩
            rw [← HY.out, ← HD.out]
            have hp6 : Bk w6 w4.heap.size 27 #[.int .i64 y1, .int .i64 y2] := HP5.out.grp hg6 (fun e => by have := HRW.out; omega)
            have c1 : w6.cell? ⟨w4.heap.size, 0, none⟩ = some (.int .i64 y1) := hp6.cellAt 0
            have c2 : w6.cell? ⟨w4.heap.size, 1, none⟩ = some (.int .i64 y2) := hp6.cellAt 1
            have hl6 : w4.heap.size < w6.heap.size := hp6.here
            have hb7 : Below w6.heap.size w6 (w6.alloc (.cells #[.int .i64 y1, .int .i64 y2] 27)) := (Below.refl _ _).alloc (Nat.le_refl _) _
            obtain ⟨w7, hw7⟩ : ∃ W, W = w6.alloc (.cells #[.int .i64 y1, .int .i64 y2] 27) := ⟨_, rfl⟩
            have HH : Hid (OneE w w7 h m L.tail v') := by rw [hw7]; exact (H5.out.rfk HR5.out hg6).below hb7
            have HF : Hid (Rf w7 w.heap.size r A' n' c' L.tail) := by rw [hw7]; exact hR.below hb7
            have HMI : Hid (m ≤ i + 1) := by show _ ≤ _; have := HM.out; omega
            have HLI : Hid (L.tail.length ≤ i + 1) := by show _ ≤ _; rw [List.length_tail]; have := HLL.out; omega
            clear hR hg6 hp6 hb7 H5 HR5 HP5
            go_wp2_with fail
            rw [← hw7]
            clear hw7 c1 c2 hl6
            have HRB : Hid (Bk w7 r 32 #[.slice A' n' c']) := HF.out.bk
            have HNF : Hid (n' = List.length L.tail) := HF.out.rd.1
            refine wp_region_held_drew (S := fun W => Below w7.heap.size w7 W) (by kernel_rfl) (Below.drew (Below.refl _ _)) (fun hS0 => ?_)
            refine wpAnyH_take (i := 0) (v := ?_) rfl (by kernel_rfl) (by kernel_rfl) (by kernel_rfl) (fun _ _ _ h => h) (Or.inl ⟨by rfl, ?_⟩) hS0 ?_
            rotate_left
            · intro W _; go_simp; try with_reducible rfl
            try simp only [Act.put, List.getElem_toArray, List.getElem_cons_zero, List.setIfInBounds_toArray, List.set_cons_zero, List.set_cons_succ]
            refine wpAnyH_take (i := 2) (v := ?_) rfl (by kernel_rfl) (by kernel_rfl) (by kernel_rfl) (fun _ _ _ h => h) (Or.inl ⟨by rfl, ?_⟩) hS0 ?_
            rotate_left
            · intro W _; go_simp; try with_reducible rfl
            try simp only [Act.put, List.getElem_toArray, List.getElem_cons_zero, List.getElem_cons_succ, List.setIfInBounds_toArray, List.set_cons_zero, List.set_cons_succ]
            refine wpAnyH_take (i := 3) (v := ?_) rfl (by kernel_rfl) (by kernel_rfl) (by kernel_rfl) (fun _ _ _ h => h) (Or.inl ⟨by rfl, ?_⟩) hS0 ?_
            rotate_left
            · intro W _; go_simp; try with_reducible rfl
            try simp only [Act.put, List.getElem_toArray, List.getElem_cons_zero, List.getElem_cons_succ, List.setIfInBounds_toArray, List.set_cons_zero, List.set_cons_succ]
            refine wpAnyH_take (i := 4) (v := ?_) rfl (by kernel_rfl) (by kernel_rfl) (by kernel_rfl) (fun _ _ _ h => h) (Or.inl ⟨by rfl, ?_⟩) hS0 ?_
            rotate_left
            · intro W _; go_simp; try with_reducible rfl
            try simp only [Act.put, List.getElem_toArray, List.getElem_cons_zero, List.getElem_cons_succ, List.setIfInBounds_toArray, List.set_cons_zero, List.set_cons_succ]
            refine wpAnyH_take (i := 5) (v := ?_) rfl (by kernel_rfl) (by kernel_rfl) (by kernel_rfl) (fun _ _ _ h => h) (Or.inl ⟨by rfl, ?_⟩) hS0 ?_
            rotate_left
            · intro W hSW; have hx := (HRB.out.later hSW).cellAt 0; try simp only [List.getElem?_toArray, List.getElem?_cons_zero] at hx; go_simp; try with_reducible rfl
            try simp only [Act.put, List.getElem_toArray, List.getElem_cons_zero, List.getElem_cons_succ, List.setIfInBounds_toArray, List.set_cons_zero, List.set_cons_succ]
            refine wpAnyH_take (i := 6) (v := ?_) rfl (by kernel_rfl) (by kernel_rfl) (by kernel_rfl) (fun _ _ _ h => h) (Or.inl ⟨by rfl, ?_⟩) hS0 ?_
            rotate_left
            · intro W _; go_simp; try with_reducible rfl
            try simp only [Act.put, List.getElem_toArray, List.getElem_cons_zero, List.getElem_cons_succ, List.setIfInBounds_toArray, List.set_cons_zero, List.set_cons_succ]
            refine wpAnyH_ready (rs := [1]) (by kernel_rfl) (by simp) ?_
            refine AllReadyH.cons rfl (fun K hK => ?_) AllReadyH.nil
            go_simp
            refine (KL.out _ h m L.tail v' (HH.out.below hS0)).mono ?_
            rintro e w8 ⟨rfl, hw8⟩; rw [hw8]; clear hw8 w8
            rw [← HNF.out]
            go_simp
            refine hK.out _ _ (hS0) (fun hS1 => ?_)
            clear hK K
            try simp only [Act.put, List.getElem_toArray, List.getElem_cons_zero, List.getElem_cons_succ, List.setIfInBounds_toArray, List.set_cons_zero, List.set_cons_succ]
            refine wpAnyH_take (i := 7) (v := ?_) rfl (by kernel_rfl) (by kernel_rfl) (by kernel_rfl) (fun _ _ _ h => h) (Or.inl ⟨by rfl, ?_⟩) hS1 ?_
            rotate_left
            · intro W _; go_simp; try with_reducible rfl
            try simp only [Act.put, List.getElem_toArray, List.getElem_cons_zero, List.getElem_cons_succ, List.setIfInBounds_toArray, List.set_cons_zero, List.set_cons_succ]
            refine wpAnyH_done (by kernel_rfl) ?_ _
            have HBB : Hid (Both w w7.drew h r m v' A' n' c' L.tail) := ⟨HH.out.below (Below.drew (Below.refl _ _)), HF.out.below (Below.drew (Below.refl _ _))⟩
            go_wp2_with fail
            go_round
            case rel => exact ⟨i + 1, m, v', A', n', c', L.tail, by omega, by go_num, HMI, HLI, HBB⟩
            case measure => simp [intOf]; omega
          · have e2 : (kd == 2) = false := by simpa using q2
            by_cases q3 : kd = 3
            · subst q3
              clear e1 e2 q1 q2
              cases L with
              | nil =>
                have hn0 : n = 0 := by rw [HNL.out]; rfl
                subst hn0
                go_wp2_with (with_reducible refine load_rg rfl 34 _ rfl g (o + i * 4) rfl #[.int .i64 3, .int .i64 p1, .int .i64 p2, .bool od] _ HX.out Try.underlying34 rfl (by kernel_rfl) ?_)
                refine (KT.out _ h m ([] : List Px) v HB1.out.one).mono ?_
                rintro e w4 ⟨rfl, hb4⟩
                obtain ⟨w5, hw5⟩ : ∃ W, W = w4.alloc (.cells #[.int .i64 0, .int .i64 0] 27) := ⟨_, rfl⟩
                have hb5 : Below (wr.alloc (.cells #[.int .i64 3, .int .i64 p1, .int .i64 p2, .bool od] 34)).heap.size (wr.alloc (.cells #[.int .i64 3, .int .i64 p1, .int .i64 p2, .bool od] 34)) w5 := by rw [hw5]; exact hb4.alloc hb4.size _
                have HQ5 : Hid (Bk w5 w4.heap.size 27 #[.int .i64 0, .int .i64 0]) := by rw [hw5]; exact Bk.fresh _ _ _
                have H5 := Lib.hid (HB1.out.one.below hb5); have HR5 := Lib.hid (HB1.out.ref.below hb5)
                have c0 : w5.cell? ⟨r, 0, none⟩ = some (.slice A 0 c) := HR5.out.bk.cellAt 0
                have d1 : w5.cell? ⟨w4.heap.size, 0, none⟩ = some (.int .i64 0) := HQ5.out.cellAt 0
                have d2 : w5.cell? ⟨w4.heap.size, 1, none⟩ = some (.int .i64 0) := HQ5.out.cellAt 1
                have HMI : Hid (m ≤ i + 1) := by show _ ≤ _; have := HM.out; omega
                have HLI : Hid (List.length ([] : List Px) ≤ i + 1) := by show _ ≤ _; have := HLL.out; omega
                clear hb4 hb5 HFR HB1
                go_wp2_with fail
                rw [← hw5]
                clear hw5
                go_quiet (fail)
                obtain ⟨w6, hw6⟩ : ∃ W, W = w5.drewN nq := ⟨_, rfl⟩
                rw [← hw6]
                have HH : Hid (OneE w w6 h m ([] : List Px) v) := by rw [hw6]; exact H5.out.below (below_drewN (Below.refl _ _) _)
                have HF : Hid (Rf w6 w.heap.size r A 0 c ([] : List Px)) := by rw [hw6]; exact HR5.out.below (below_drewN (Below.refl _ _) _)
                clear hw6 c0 d1 d2 H5 HR5 HQ5
                go_wp2_with fail
                have HRB : Hid (Bk w6 r 32 #[.slice A 0 c]) := HF.out.bk
                have HNF : Hid (0 = List.length ([] : List Px)) := HF.out.rd.1
                refine wp_region_held_drew (S := fun W => Below w6.heap.size w6 W) (by kernel_rfl) (Below.drew (Below.refl _ _)) (fun hS0 => ?_)
                refine wpAnyH_take (i := 0) (v := ?_) rfl (by kernel_rfl) (by kernel_rfl) (by kernel_rfl) (fun _ _ _ h => h) (Or.inl ⟨by rfl, ?_⟩) hS0 ?_
                rotate_left
                · intro W _; go_simp; try with_reducible rfl
                try simp only [Act.put, List.getElem_toArray, List.getElem_cons_zero, List.setIfInBounds_toArray, List.set_cons_zero, List.set_cons_succ]
                refine wpAnyH_take (i := 2) (v := ?_) rfl (by kernel_rfl) (by kernel_rfl) (by kernel_rfl) (fun _ _ _ h => h) (Or.inl ⟨by rfl, ?_⟩) hS0 ?_
                rotate_left
                · intro W _; go_simp; try with_reducible rfl
                try simp only [Act.put, List.getElem_toArray, List.getElem_cons_zero, List.getElem_cons_succ, List.setIfInBounds_toArray, List.set_cons_zero, List.set_cons_succ]
                refine wpAnyH_take (i := 3) (v := ?_) rfl (by kernel_rfl) (by kernel_rfl) (by kernel_rfl) (fun _ _ _ h => h) (Or.inl ⟨by rfl, ?_⟩) hS0 ?_
                rotate_left
                · intro W _; go_simp; try with_reducible rfl
                try simp only [Act.put, List.getElem_toArray, List.getElem_cons_zero, List.getElem_cons_succ, List.setIfInBounds_toArray, List.set_cons_zero, List.set_cons_succ]
                refine wpAnyH_take (i := 4) (v := ?_) rfl (by kernel_rfl) (by kernel_rfl) (by kernel_rfl) (fun _ _ _ h => h) (Or.inl ⟨by rfl, ?_⟩) hS0 ?_
                rotate_left
                · intro W _; go_simp; try with_reducible rfl
                try simp only [Act.put, List.getElem_toArray, List.getElem_cons_zero, List.getElem_cons_succ, List.setIfInBounds_toArray, List.set_cons_zero, List.set_cons_succ]
                refine wpAnyH_take (i := 5) (v := ?_) rfl (by kernel_rfl) (by kernel_rfl) (by kernel_rfl) (fun _ _ _ h => h) (Or.inl ⟨by rfl, ?_⟩) hS0 ?_
                rotate_left
                · intro W hSW; have hx := (HRB.out.later hSW).cellAt 0; try simp only [List.getElem?_toArray, List.getElem?_cons_zero] at hx; go_simp; try with_reducible rfl
                try simp only [Act.put, List.getElem_toArray, List.getElem_cons_zero, List.getElem_cons_succ, List.setIfInBounds_toArray, List.set_cons_zero, List.set_cons_succ]
                refine wpAnyH_take (i := 6) (v := ?_) rfl (by kernel_rfl) (by kernel_rfl) (by kernel_rfl) (fun _ _ _ h => h) (Or.inl ⟨by rfl, ?_⟩) hS0 ?_
                rotate_left
                · intro W _; go_simp; try with_reducible rfl
                try simp only [Act.put, List.getElem_toArray, List.getElem_cons_zero, List.getElem_cons_succ, List.setIfInBounds_toArray, List.set_cons_zero, List.set_cons_succ]
                refine wpAnyH_ready (rs := [1]) (by kernel_rfl) (by simp) ?_
                refine AllReadyH.cons rfl (fun K hK => ?_) AllReadyH.nil
                go_simp
                refine (KL.out _ h m ([] : List Px) v (HH.out.below hS0)).mono ?_
                rintro e w8 ⟨rfl, hw8⟩; rw [hw8]; clear hw8 w8
                rw [← HNF.out]
                go_simp
                refine hK.out _ _ (hS0) (fun hS1 => ?_)
                clear hK K
                try simp only [Act.put, List.getElem_toArray, List.getElem_cons_zero, List.getElem_cons_succ, List.setIfInBounds_toArray, List.set_cons_zero, List.set_cons_succ]
                refine wpAnyH_take (i := 7) (v := ?_) rfl (by kernel_rfl) (by kernel_rfl) (by kernel_rfl) (fun _ _ _ h => h) (Or.inl ⟨by rfl, ?_⟩) hS1 ?_
                rotate_left
                · intro W _; go_simp; try with_reducible rfl
                try simp only [Act.put, List.getElem_toArray, List.getElem_cons_zero, List.getElem_cons_succ, List.setIfInBounds_toArray, List.set_cons_zero, List.set_cons_succ]
                refine wpAnyH_done (by kernel_rfl) ?_ _
                have HBB : Hid (Both w w6.drew h r m v A 0 c ([] : List Px)) := ⟨HH.out.below (Below.drew (Below.refl _ _)), HF.out.below (Below.drew (Below.refl _ _))⟩
                go_wp2_with fail
                go_round
                case rel => exact ⟨i + 1, m, v, A, 0, c, ([] : List Px), by omega, by go_num, HMI, HLI, HBB⟩
                case measure => simp [intOf]; omega
              | cons y L2 =>
                obtain ⟨y1, y2⟩ := y
                obtain ⟨n1, hn1⟩ : ∃ n1, n = n1 + 1 := ⟨n - 1, by have := HNL.out; simp at this; omega⟩
                subst hn1
                go_wp2_with (with_reducible refine load_rg rfl 34 _ rfl g (o + i * 4) rfl #[.int .i64 3, .int .i64 p1, .int .i64 p2, .bool od] _ HX.out Try.underlying34 rfl (by kernel_rfl) ?_)
                refine (KT.out _ h m ((y1, y2) :: L2) v HB1.out.one).mono ?_
                rintro e w4 ⟨rfl, hb4⟩
                obtain ⟨w5, hw5⟩ : ∃ W, W = w4.alloc (.cells #[.int .i64 y1, .int .i64 y2] 27) := ⟨_, rfl⟩
                have hb5 : Below (wr.alloc (.cells #[.int .i64 3, .int .i64 p1, .int .i64 p2, .bool od] 34)).heap.size (wr.alloc (.cells #[.int .i64 3, .int .i64 p1, .int .i64 p2, .bool od] 34)) w5 := by rw [hw5]; exact hb4.alloc hb4.size _
                have HQ5 : Hid (Bk w5 w4.heap.size 27 #[.int .i64 y1, .int .i64 y2]) := by rw [hw5]; exact Bk.fresh _ _ _
                have H5 := Lib.hid (HB1.out.one.below hb5); have HR5 := Lib.hid (HB1.out.ref.below hb5)
                have c0 : w5.cell? ⟨r, 0, none⟩ = some (.slice A (n1 + 1) c) := HR5.out.bk.cellAt 0
                have d1 : w5.cell? ⟨w4.heap.size, 0, none⟩ = some (.int .i64 y1) := HQ5.out.cellAt 0
                have d2 : w5.cell? ⟨w4.heap.size, 1, none⟩ = some (.int .i64 y2) := HQ5.out.cellAt 1
                have HMI : Hid (m ≤ i + 1) := by show _ ≤ _; have := HM.out; omega
                have HLI : Hid (List.length ((y1, y2) :: L2) ≤ i + 1) := by show _ ≤ _; have := HLL.out; omega
                clear hb4 hb5 HFR HB1
                obtain ⟨gA, oA, hAA, hgA, hxA⟩ := HR5.out.rd.at (i := 0) (by simp)
                subst hAA
                have e1 : w5.cell? ⟨gA, oA, none⟩ = some (.int .i64 y1) := by simpa using hxA 0 _ rfl
                have e2 : w5.cell? ⟨gA, oA + 1, none⟩ = some (.int .i64 y2) := by simpa using hxA 1 _ rfl
                have hz1 : (0 : Int) < (n1 : Int) + 1 := by omega
                clear hgA hxA
                go_wp2_with fail
                rw [← hw5]
                clear hw5
                go_quiet (fail)
                obtain ⟨w6, hw6⟩ : ∃ W, W = w5.drewN nq := ⟨_, rfl⟩
                rw [← hw6]
                have HH : Hid (OneE w w6 h m ((y1, y2) :: L2) v) := by rw [hw6]; exact H5.out.below (below_drewN (Below.refl _ _) _)
                have HF : Hid (Rf w6 w.heap.size r (some ⟨gA, oA, none⟩) (n1 + 1) c ((y1, y2) :: L2)) := by rw [hw6]; exact HR5.out.below (below_drewN (Below.refl _ _) _)
                clear hw6 c0 d1 d2 H5 HR5 HQ5
                go_wp2_with fail
                have HRB : Hid (Bk w6 r 32 #[.slice (some ⟨gA, oA, none⟩) (n1 + 1) c]) := HF.out.bk
                have HNF : Hid ((n1 + 1) = List.length ((y1, y2) :: L2)) := HF.out.rd.1
                refine wp_region_held_drew (S := fun W => Below w6.heap.size w6 W) (by kernel_rfl) (Below.drew (Below.refl _ _)) (fun hS0 => ?_)
                refine wpAnyH_take (i := 0) (v := ?_) rfl (by kernel_rfl) (by kernel_rfl) (by kernel_rfl) (fun _ _ _ h => h) (Or.inl ⟨by rfl, ?_⟩) hS0 ?_
                rotate_left
                · intro W _; go_simp; try with_reducible rfl
                try simp only [Act.put, List.getElem_toArray, List.getElem_cons_zero, List.setIfInBounds_toArray, List.set_cons_zero, List.set_cons_succ]
                refine wpAnyH_take (i := 2) (v := ?_) rfl (by kernel_rfl) (by kernel_rfl) (by kernel_rfl) (fun _ _ _ h => h) (Or.inl ⟨by rfl, ?_⟩) hS0 ?_
                rotate_left
                · intro W _; go_simp; try with_reducible rfl
                try simp only [Act.put, List.getElem_toArray, List.getElem_cons_zero, List.getElem_cons_succ, List.setIfInBounds_toArray, List.set_cons_zero, List.set_cons_succ]
                refine wpAnyH_take (i := 3) (v := ?_) rfl (by kernel_rfl) (by kernel_rfl) (by kernel_rfl) (fun _ _ _ h => h) (Or.inl ⟨by rfl, ?_⟩) hS0 ?_
                rotate_left
                · intro W _; go_simp; try with_reducible rfl
                try simp only [Act.put, List.getElem_toArray, List.getElem_cons_zero, List.getElem_cons_succ, List.setIfInBounds_toArray, List.set_cons_zero, List.set_cons_succ]
                refine wpAnyH_take (i := 4) (v := ?_) rfl (by kernel_rfl) (by kernel_rfl) (by kernel_rfl) (fun _ _ _ h => h) (Or.inl ⟨by rfl, ?_⟩) hS0 ?_
                rotate_left
                · intro W _; go_simp; try with_reducible rfl
                try simp only [Act.put, List.getElem_toArray, List.getElem_cons_zero, List.getElem_cons_succ, List.setIfInBounds_toArray, List.set_cons_zero, List.set_cons_succ]
                refine wpAnyH_take (i := 5) (v := ?_) rfl (by kernel_rfl) (by kernel_rfl) (by kernel_rfl) (fun _ _ _ h => h) (Or.inl ⟨by rfl, ?_⟩) hS0 ?_
                rotate_left
                · intro W hSW; have hx := (HRB.out.later hSW).cellAt 0; try simp only [List.getElem?_toArray, List.getElem?_cons_zero] at hx; go_simp; try with_reducible rfl
                try simp only [Act.put, List.getElem_toArray, List.getElem_cons_zero, List.getElem_cons_succ, List.setIfInBounds_toArray, List.set_cons_zero, List.set_cons_succ]
                refine wpAnyH_take (i := 6) (v := ?_) rfl (by kernel_rfl) (by kernel_rfl) (by kernel_rfl) (fun _ _ _ h => h) (Or.inl ⟨by rfl, ?_⟩) hS0 ?_
                rotate_left
                · intro W _; go_simp; try with_reducible rfl
                try simp only [Act.put, List.getElem_toArray, List.getElem_cons_zero, List.getElem_cons_succ, List.setIfInBounds_toArray, List.set_cons_zero, List.set_cons_succ]
                refine wpAnyH_ready (rs := [1]) (by kernel_rfl) (by simp) ?_
                refine AllReadyH.cons rfl (fun K hK => ?_) AllReadyH.nil
                go_simp
                refine (KL.out _ h m ((y1, y2) :: L2) v (HH.out.below hS0)).mono ?_
                rintro e w8 ⟨rfl, hw8⟩; rw [hw8]; clear hw8 w8
                rw [← HNF.out]
                go_simp
                refine hK.out _ _ (hS0) (fun hS1 => ?_)
                clear hK K
                try simp only [Act.put, List.getElem_toArray, List.getElem_cons_zero, List.getElem_cons_succ, List.setIfInBounds_toArray, List.set_cons_zero, List.set_cons_succ]
                refine wpAnyH_take (i := 7) (v := ?_) rfl (by kernel_rfl) (by kernel_rfl) (by kernel_rfl) (fun _ _ _ h => h) (Or.inl ⟨by rfl, ?_⟩) hS1 ?_
                rotate_left
                · intro W _; go_simp; try with_reducible rfl
                try simp only [Act.put, List.getElem_toArray, List.getElem_cons_zero, List.getElem_cons_succ, List.setIfInBounds_toArray, List.set_cons_zero, List.set_cons_succ]
                refine wpAnyH_done (by kernel_rfl) ?_ _
                have HBB : Hid (Both w w6.drew h r m v (some ⟨gA, oA, none⟩) (n1 + 1) c ((y1, y2) :: L2)) := ⟨HH.out.below (Below.drew (Below.refl _ _)), HF.out.below (Below.drew (Below.refl _ _))⟩
                go_wp2_with fail
                go_round
                case rel => exact ⟨i + 1, m, v, (some ⟨gA, oA, none⟩), (n1 + 1), c, ((y1, y2) :: L2), by omega, by go_num, HMI, HLI, HBB⟩
                case measure => simp [intOf]; omega
            · have e3 : (kd == 3) = false := by simpa using q3
              by_cases q4 : kd = 4
              · subst q4
                clear e1 e2 e3 q1 q2 q3
                cases od with
                | true =>
                  go_wp2_with (with_reducible refine load_rg rfl 34 _ rfl g (o + i * 4) rfl #[.int .i64 4, .int .i64 p1, .int .i64 p2, .bool true] _ HX.out Try.underlying34 rfl (by kernel_rfl) ?_)
                  refine (KO.out _ h m L v HB1.out.one HL9.out).mono ?_
                  rintro e w4 ⟨rfl, ⟨v', hO, _⟩, hg⟩
                  rw [keep_odd] at hO
                  rw [keep_odd]
                  have H4 : Hid (OneE w w4 h m (keepR true L) v') := hO
                  have HR4 := Lib.hid (HB1.out.left hO hg)
                  have c4 : w4.cell? ⟨wr.heap.size, 3, none⟩ = some (.bool true) := (HFR.out.grp hg (fun e => by have := HLT.out _ e; omega)).cellAt 3
                  clear hO hg HFR HB1
                  go_wp2_with fail
                  refine (RR.out w4 r n c A true L HN9.out HR4.out).mono ?_
                  rintro e w5 ⟨rfl, ⟨A', n', c', hR, _⟩, hg5⟩
                  have HH := Lib.hid (H4.out.rfk HR4.out hg5)
                  have HF := Lib.hid hR
                  have HMI : Hid (m ≤ i + 1) := by show _ ≤ _; have := HM.out; omega
                  have HLI : Hid ((keepR true L).length ≤ i + 1) := by show _ ≤ _; have := HLL.out; have := List.length_filter_le (fun x => odB x != true) L; unfold keepR; omega
                  clear hR hg5 H4 HR4 c4
                  go_wp2_with fail
                  have HRB : Hid (Bk w5 r 32 #[.slice A' n' c']) := HF.out.bk
                  have HNF : Hid (n' = List.length (keepR true L)) := HF.out.rd.1
                  refine wp_region_held_drew (S := fun W => Below w5.heap.size w5 W) (by kernel_rfl) (Below.drew (Below.refl _ _)) (fun hS0 => ?_)
                  refine wpAnyH_take (i := 0) (v := ?_) rfl (by kernel_rfl) (by kernel_rfl) (by kernel_rfl) (fun _ _ _ h => h) (Or.inl ⟨by rfl, ?_⟩) hS0 ?_
                  rotate_left
                  · intro W _; go_simp; try with_reducible rfl
                  try simp only [Act.put, List.getElem_toArray, List.getElem_cons_zero, List.setIfInBounds_toArray, List.set_cons_zero, List.set_cons_succ]
                  refine wpAnyH_take (i := 2) (v := ?_) rfl (by kernel_rfl) (by kernel_rfl) (by kernel_rfl) (fun _ _ _ h => h) (Or.inl ⟨by rfl, ?_⟩) hS0 ?_
                  rotate_left
                  · intro W _; go_simp; try with_reducible rfl
                  try simp only [Act.put, List.getElem_toArray, List.getElem_cons_zero, List.getElem_cons_succ, List.setIfInBounds_toArray, List.set_cons_zero, List.set_cons_succ]
                  refine wpAnyH_take (i := 3) (v := ?_) rfl (by kernel_rfl) (by kernel_rfl) (by kernel_rfl) (fun _ _ _ h => h) (Or.inl ⟨by rfl, ?_⟩) hS0 ?_
                  rotate_left
                  · intro W _; go_simp; try with_reducible rfl
                  try simp only [Act.put, List.getElem_toArray, List.getElem_cons_zero, List.getElem_cons_succ, List.setIfInBounds_toArray, List.set_cons_zero, List.set_cons_succ]
                  refine wpAnyH_take (i := 4) (v := ?_) rfl (by kernel_rfl) (by kernel_rfl) (by kernel_rfl) (fun _ _ _ h => h) (Or.inl ⟨by rfl, ?_⟩) hS0 ?_
                  rotate_left
                  · intro W _; go_simp; try with_reducible rfl
                  try simp only [Act.put, List.getElem_toArray, List.getElem_cons_zero, List.getElem_cons_succ, List.setIfInBounds_toArray, List.set_cons_zero, List.set_cons_succ]
                  refine wpAnyH_take (i := 5) (v := ?_) rfl (by kernel_rfl) (by kernel_rfl) (by kernel_rfl) (fun _ _ _ h => h) (Or.inl ⟨by rfl, ?_⟩) hS0 ?_
                  rotate_left
                  · intro W hSW; have hx := (HRB.out.later hSW).cellAt 0; try simp only [List.getElem?_toArray, List.getElem?_cons_zero] at hx; go_simp; try with_reducible rfl
                  try simp only [Act.put, List.getElem_toArray, List.getElem_cons_zero, List.getElem_cons_succ, List.setIfInBounds_toArray, List.set_cons_zero, List.set_cons_succ]
                  refine wpAnyH_take (i := 6) (v := ?_) rfl (by kernel_rfl) (by kernel_rfl) (by kernel_rfl) (fun _ _ _ h => h) (Or.inl ⟨by rfl, ?_⟩) hS0 ?_
                  rotate_left
                  · intro W _; go_simp; try with_reducible rfl
                  try simp only [Act.put, List.getElem_toArray, List.getElem_cons_zero, List.getElem_cons_succ, List.setIfInBounds_toArray, List.set_cons_zero, List.set_cons_succ]
                  refine wpAnyH_ready (rs := [1]) (by kernel_rfl) (by simp) ?_
                  refine AllReadyH.cons rfl (fun K hK => ?_) AllReadyH.nil
                  go_simp
                  refine (KL.out _ h m (keepR true L) v' (HH.out.below hS0)).mono ?_
                  rintro e w8 ⟨rfl, hw8⟩; rw [hw8]; clear hw8 w8
                  rw [← HNF.out]
                  go_simp
                  refine hK.out _ _ (hS0) (fun hS1 => ?_)
                  clear hK K
                  try simp only [Act.put, List.getElem_toArray, List.getElem_cons_zero, List.getElem_cons_succ, List.setIfInBounds_toArray, List.set_cons_zero, List.set_cons_succ]
                  refine wpAnyH_take (i := 7) (v := ?_) rfl (by kernel_rfl) (by kernel_rfl) (by kernel_rfl) (fun _ _ _ h => h) (Or.inl ⟨by rfl, ?_⟩) hS1 ?_
                  rotate_left
                  · intro W _; go_simp; try with_reducible rfl
                  try simp only [Act.put, List.getElem_toArray, List.getElem_cons_zero, List.getElem_cons_succ, List.setIfInBounds_toArray, List.set_cons_zero, List.set_cons_succ]
                  refine wpAnyH_done (by kernel_rfl) ?_ _
                  have HBB : Hid (Both w w5.drew h r m v' A' n' c' (keepR true L)) := ⟨HH.out.below (Below.drew (Below.refl _ _)), HF.out.below (Below.drew (Below.refl _ _))⟩
                  go_wp2_with fail
                  go_round
                  case rel => exact ⟨i + 1, m, v', A', n', c', (keepR true L), by omega, by go_num, HMI, HLI, HBB⟩
                  case measure => simp [intOf]; omega
                | false =>
                  go_wp2_with (with_reducible refine load_rg rfl 34 _ rfl g (o + i * 4) rfl #[.int .i64 4, .int .i64 p1, .int .i64 p2, .bool false] _ HX.out Try.underlying34 rfl (by kernel_rfl) ?_)
                  refine (KV.out _ h m L v HB1.out.one HL9.out).mono ?_
                  rintro e w4 ⟨rfl, ⟨v', hO, _⟩, hg⟩
                  rw [keep_even] at hO
                  rw [keep_even]
                  have H4 : Hid (OneE w w4 h m (keepR false L) v') := hO
                  have HR4 := Lib.hid (HB1.out.left hO hg)
                  have c4 : w4.cell? ⟨wr.heap.size, 3, none⟩ = some (.bool false) := (HFR.out.grp hg (fun e => by have := HLT.out _ e; omega)).cellAt 3
                  clear hO hg HFR HB1
                  go_wp2_with fail
                  refine (RR.out w4 r n c A false L HN9.out HR4.out).mono ?_
                  rintro e w5 ⟨rfl, ⟨A', n', c', hR, _⟩, hg5⟩
                  have HH := Lib.hid (H4.out.rfk HR4.out hg5)
                  have HF := Lib.hid hR
                  have HMI : Hid (m ≤ i + 1) := by show _ ≤ _; have := HM.out; omega
                  have HLI : Hid ((keepR false L).length ≤ i + 1) := by show _ ≤ _; have := HLL.out; have := List.length_filter_le (fun x => odB x != false) L; unfold keepR; omega
                  clear hR hg5 H4 HR4 c4
                  go_wp2_with fail
                  have HRB : Hid (Bk w5 r 32 #[.slice A' n' c']) := HF.out.bk
                  have HNF : Hid (n' = List.length (keepR false L)) := HF.out.rd.1
                  refine wp_region_held_drew (S := fun W => Below w5.heap.size w5 W) (by kernel_rfl) (Below.drew (Below.refl _ _)) (fun hS0 => ?_)
                  refine wpAnyH_take (i := 0) (v := ?_) rfl (by kernel_rfl) (by kernel_rfl) (by kernel_rfl) (fun _ _ _ h => h) (Or.inl ⟨by rfl, ?_⟩) hS0 ?_
                  rotate_left
                  · intro W _; go_simp; try with_reducible rfl
                  try simp only [Act.put, List.getElem_toArray, List.getElem_cons_zero, List.setIfInBounds_toArray, List.set_cons_zero, List.set_cons_succ]
                  refine wpAnyH_take (i := 2) (v := ?_) rfl (by kernel_rfl) (by kernel_rfl) (by kernel_rfl) (fun _ _ _ h => h) (Or.inl ⟨by rfl, ?_⟩) hS0 ?_
                  rotate_left
                  · intro W _; go_simp; try with_reducible rfl
                  try simp only [Act.put, List.getElem_toArray, List.getElem_cons_zero, List.getElem_cons_succ, List.setIfInBounds_toArray, List.set_cons_zero, List.set_cons_succ]
                  refine wpAnyH_take (i := 3) (v := ?_) rfl (by kernel_rfl) (by kernel_rfl) (by kernel_rfl) (fun _ _ _ h => h) (Or.inl ⟨by rfl, ?_⟩) hS0 ?_
                  rotate_left
                  · intro W _; go_simp; try with_reducible rfl
                  try simp only [Act.put, List.getElem_toArray, List.getElem_cons_zero, List.getElem_cons_succ, List.setIfInBounds_toArray, List.set_cons_zero, List.set_cons_succ]
                  refine wpAnyH_take (i := 4) (v := ?_) rfl (by kernel_rfl) (by kernel_rfl) (by kernel_rfl) (fun _ _ _ h => h) (Or.inl ⟨by rfl, ?_⟩) hS0 ?_
                  rotate_left
                  · intro W _; go_simp; try with_reducible rfl
                  try simp only [Act.put, List.getElem_toArray, List.getElem_cons_zero, List.getElem_cons_succ, List.setIfInBounds_toArray, List.set_cons_zero, List.set_cons_succ]
                  refine wpAnyH_take (i := 5) (v := ?_) rfl (by kernel_rfl) (by kernel_rfl) (by kernel_rfl) (fun _ _ _ h => h) (Or.inl ⟨by rfl, ?_⟩) hS0 ?_
                  rotate_left
                  · intro W hSW; have hx := (HRB.out.later hSW).cellAt 0; try simp only [List.getElem?_toArray, List.getElem?_cons_zero] at hx; go_simp; try with_reducible rfl
                  try simp only [Act.put, List.getElem_toArray, List.getElem_cons_zero, List.getElem_cons_succ, List.setIfInBounds_toArray, List.set_cons_zero, List.set_cons_succ]
                  refine wpAnyH_take (i := 6) (v := ?_) rfl (by kernel_rfl) (by kernel_rfl) (by kernel_rfl) (fun _ _ _ h => h) (Or.inl ⟨by rfl, ?_⟩) hS0 ?_
                  rotate_left
                  · intro W _; go_simp; try with_reducible rfl
                  try simp only [Act.put, List.getElem_toArray, List.getElem_cons_zero, List.getElem_cons_succ, List.setIfInBounds_toArray, List.set_cons_zero, List.set_cons_succ]
                  refine wpAnyH_ready (rs := [1]) (by kernel_rfl) (by simp) ?_
                  refine AllReadyH.cons rfl (fun K hK => ?_) AllReadyH.nil
                  go_simp
                  refine (KL.out _ h m (keepR false L) v' (HH.out.below hS0)).mono ?_
                  rintro e w8 ⟨rfl, hw8⟩; rw [hw8]; clear hw8 w8
                  rw [← HNF.out]
                  go_simp
                  refine hK.out _ _ (hS0) (fun hS1 => ?_)
                  clear hK K
                  try simp only [Act.put, List.getElem_toArray, List.getElem_cons_zero, List.getElem_cons_succ, List.setIfInBounds_toArray, List.set_cons_zero, List.set_cons_succ]
                  refine wpAnyH_take (i := 7) (v := ?_) rfl (by kernel_rfl) (by kernel_rfl) (by kernel_rfl) (fun _ _ _ h => h) (Or.inl ⟨by rfl, ?_⟩) hS1 ?_
                  rotate_left
                  · intro W _; go_simp; try with_reducible rfl
                  try simp only [Act.put, List.getElem_toArray, List.getElem_cons_zero, List.getElem_cons_succ, List.setIfInBounds_toArray, List.set_cons_zero, List.set_cons_succ]
                  refine wpAnyH_done (by kernel_rfl) ?_ _
                  have HBB : Hid (Both w w5.drew h r m v' A' n' c' (keepR false L)) := ⟨HH.out.below (Below.drew (Below.refl _ _)), HF.out.below (Below.drew (Below.refl _ _))⟩
                  go_wp2_with fail
                  go_round
                  case rel => exact ⟨i + 1, m, v', A', n', c', (keepR false L), by omega, by go_num, HMI, HLI, HBB⟩
                  case measure => simp [intOf]; omega
              · have e4 : (kd == 4) = false := by simpa using q4
                clear q1 q2 q3 q4
                have HRB : Hid (Bk (wr.alloc (.cells #[.int .i64 kd, .int .i64 p1, .int .i64 p2, .bool od] 34)) r 32 #[.slice A n c]) := HB1.out.ref.bk
                go_wp2_with (with_reducible refine load_rg rfl 34 _ rfl g (o + i * 4) rfl #[.int .i64 kd, .int .i64 p1, .int .i64 p2, .bool od] _ HX.out Try.underlying34 rfl (by kernel_rfl) ?_)
                refine wp_region_held_drew (S := fun W => Below (wr.alloc (.cells #[.int .i64 kd, .int .i64 p1, .int .i64 p2, .bool od] 34)).heap.size (wr.alloc (.cells #[.int .i64 kd, .int .i64 p1, .int .i64 p2, .bool od] 34)) W) (by kernel_rfl) (Below.drew (Below.refl _ _)) (fun hS0 => ?_)
                refine wpAnyH_take (i := 0) (v := ?_) rfl (by kernel_rfl) (by kernel_rfl) (by kernel_rfl) (fun _ _ _ h => h) (Or.inl ⟨by rfl, ?_⟩) hS0 ?_
                rotate_left
                · intro W _; go_simp; try with_reducible rfl
                try simp only [Act.put, List.getElem_toArray, List.getElem_cons_zero, List.setIfInBounds_toArray, List.set_cons_zero, List.set_cons_succ]
                refine wpAnyH_take (i := 2) (v := ?_) rfl (by kernel_rfl) (by kernel_rfl) (by kernel_rfl) (fun _ _ _ h => h) (Or.inl ⟨by rfl, ?_⟩) hS0 ?_
                rotate_left
                · intro W _; go_simp; try with_reducible rfl
                try simp only [Act.put, List.getElem_toArray, List.getElem_cons_zero, List.getElem_cons_succ, List.setIfInBounds_toArray, List.set_cons_zero, List.set_cons_succ]
                refine wpAnyH_take (i := 3) (v := ?_) rfl (by kernel_rfl) (by kernel_rfl) (by kernel_rfl) (fun _ _ _ h => h) (Or.inl ⟨by rfl, ?_⟩) hS0 ?_
                rotate_left
                · intro W _; go_simp; try with_reducible rfl
                try simp only [Act.put, List.getElem_toArray, List.getElem_cons_zero, List.getElem_cons_succ, List.setIfInBounds_toArray, List.set_cons_zero, List.set_cons_succ]
                refine wpAnyH_take (i := 4) (v := ?_) rfl (by kernel_rfl) (by kernel_rfl) (by kernel_rfl) (fun _ _ _ h => h) (Or.inl ⟨by rfl, ?_⟩) hS0 ?_
                rotate_left
                · intro W _; go_simp; try with_reducible rfl
                try simp only [Act.put, List.getElem_toArray, List.getElem_cons_zero, List.getElem_cons_succ, List.setIfInBounds_toArray, List.set_cons_zero, List.set_cons_succ]
                refine wpAnyH_take (i := 5) (v := ?_) rfl (by kernel_rfl) (by kernel_rfl) (by kernel_rfl) (fun _ _ _ h => h) (Or.inl ⟨by rfl, ?_⟩) hS0 ?_
                rotate_left
                · intro W hSW; have hx := (HRB.out.later hSW).cellAt 0; try simp only [List.getElem?_toArray, List.getElem?_cons_zero] at hx; go_simp; try with_reducible rfl
                try simp only [Act.put, List.getElem_toArray, List.getElem_cons_zero, List.getElem_cons_succ, List.setIfInBounds_toArray, List.set_cons_zero, List.set_cons_succ]
                refine wpAnyH_ready (rs := [1]) (by kernel_rfl) (by simp) ?_
                refine AllReadyH.cons rfl (fun K hK => ?_) AllReadyH.nil
                go_simp
                refine (KS.out _ h m L v (HB1.out.one.below hS0) HL9.out).mono ?_
                rintro e w8 ⟨⟨A8, c8, rfl, hrd8⟩, hb8⟩
                have HS8 := Lib.hid hrd8
                clear hrd8
                go_simp
                refine hK.out _ _ (hS0.trans (hb8.mono hS0.size)) (fun hS1 => ?_)
                clear hK K
                try simp only [Act.put, List.getElem_toArray, List.getElem_cons_zero, List.getElem_cons_succ, List.setIfInBounds_toArray, List.set_cons_zero, List.set_cons_succ]
                refine wpAnyH_ready (rs := [6]) (by kernel_rfl) (by simp) ?_
                refine AllReadyH.cons rfl (fun K hK => ?_) AllReadyH.nil
                go_simp
                refine (KE.out w8 A8 A _ n c8 c L L HS8.out ((HB1.out.ref.below hS1).rd) (by have := HL9.out; omega) (by have := HN9.out; omega)).mono ?_
                rintro e w9 ⟨rfl, hb9⟩
                rw [show decide (L = L) = true from decide_eq_true rfl]
                go_simp
                refine hK.out _ _ (hS1.trans (hb9.mono hS1.size)) (fun hS2 => ?_)
                clear hK K
                try simp only [Act.put, List.getElem_toArray, List.getElem_cons_zero, List.getElem_cons_succ, List.setIfInBounds_toArray, List.set_cons_zero, List.set_cons_succ]
                refine wpAnyH_take (i := 7) (v := ?_) rfl (by kernel_rfl) (by kernel_rfl) (by kernel_rfl) (fun _ _ _ h => h) (Or.inl ⟨by rfl, ?_⟩) hS2 ?_
                rotate_left
                · intro W _; go_simp; try with_reducible rfl
                try simp only [Act.put, List.getElem_toArray, List.getElem_cons_zero, List.getElem_cons_succ, List.setIfInBounds_toArray, List.set_cons_zero, List.set_cons_succ]
                refine wpAnyH_done (by kernel_rfl) ?_ _
                have HH := Lib.hid (HB1.out.one.below hS2)
                have HF := Lib.hid (HB1.out.ref.below hS2)
                have HMI : Hid (m ≤ i + 1) := by show _ ≤ _; have := HM.out; omega
                have HLI : Hid (L.length ≤ i + 1) := by show _ ≤ _; have := HLL.out; omega
                clear hS0 hS1 hS2 HB1 HFR HRB
                go_wp2_with fail
                have HRB : Hid (Bk w9 r 32 #[.slice A n c]) := HF.out.bk
                have HNF : Hid (n = List.length L) := HF.out.rd.1
                refine wp_region_held_drew (S := fun W => Below w9.heap.size w9 W) (by kernel_rfl) (Below.drew (Below.refl _ _)) (fun hS0 => ?_)
                refine wpAnyH_take (i := 0) (v := ?_) rfl (by kernel_rfl) (by kernel_rfl) (by kernel_rfl) (fun _ _ _ h => h) (Or.inl ⟨by rfl, ?_⟩) hS0 ?_
                rotate_left
                · intro W _; go_simp; try with_reducible rfl
                try simp only [Act.put, List.getElem_toArray, List.getElem_cons_zero, List.setIfInBounds_toArray, List.set_cons_zero, List.set_cons_succ]
                refine wpAnyH_take (i := 2) (v := ?_) rfl (by kernel_rfl) (by kernel_rfl) (by kernel_rfl) (fun _ _ _ h => h) (Or.inl ⟨by rfl, ?_⟩) hS0 ?_
                rotate_left
                · intro W _; go_simp; try with_reducible rfl
                try simp only [Act.put, List.getElem_toArray, List.getElem_cons_zero, List.getElem_cons_succ, List.setIfInBounds_toArray, List.set_cons_zero, List.set_cons_succ]
                refine wpAnyH_take (i := 3) (v := ?_) rfl (by kernel_rfl) (by kernel_rfl) (by kernel_rfl) (fun _ _ _ h => h) (Or.inl ⟨by rfl, ?_⟩) hS0 ?_
                rotate_left
                · intro W _; go_simp; try with_reducible rfl
                try simp only [Act.put, List.getElem_toArray, List.getElem_cons_zero, List.getElem_cons_succ, List.setIfInBounds_toArray, List.set_cons_zero, List.set_cons_succ]
                refine wpAnyH_take (i := 4) (v := ?_) rfl (by kernel_rfl) (by kernel_rfl) (by kernel_rfl) (fun _ _ _ h => h) (Or.inl ⟨by rfl, ?_⟩) hS0 ?_
                rotate_left
                · intro W _; go_simp; try with_reducible rfl
                try simp only [Act.put, List.getElem_toArray, List.getElem_cons_zero, List.getElem_cons_succ, List.setIfInBounds_toArray, List.set_cons_zero, List.set_cons_succ]
                refine wpAnyH_take (i := 5) (v := ?_) rfl (by kernel_rfl) (by kernel_rfl) (by kernel_rfl) (fun _ _ _ h => h) (Or.inl ⟨by rfl, ?_⟩) hS0 ?_
                rotate_left
                · intro W hSW; have hx := (HRB.out.later hSW).cellAt 0; try simp only [List.getElem?_toArray, List.getElem?_cons_zero] at hx; go_simp; try with_reducible rfl
                try simp only [Act.put, List.getElem_toArray, List.getElem_cons_zero, List.getElem_cons_succ, List.setIfInBounds_toArray, List.set_cons_zero, List.set_cons_succ]
                refine wpAnyH_take (i := 6) (v := ?_) rfl (by kernel_rfl) (by kernel_rfl) (by kernel_rfl) (fun _ _ _ h => h) (Or.inl ⟨by rfl, ?_⟩) hS0 ?_
                rotate_left
                · intro W _; go_simp; try with_reducible rfl
                try simp only [Act.put, List.getElem_toArray, List.getElem_cons_zero, List.getElem_cons_succ, List.setIfInBounds_toArray, List.set_cons_zero, List.set_cons_succ]
                refine wpAnyH_ready (rs := [1]) (by kernel_rfl) (by simp) ?_
                refine AllReadyH.cons rfl (fun K hK => ?_) AllReadyH.nil
                go_simp
                refine (KL.out _ h m L v (HH.out.below hS0)).mono ?_
                rintro e w8 ⟨rfl, hw8⟩; rw [hw8]; clear hw8 w8
                rw [← HNF.out]
                go_simp
                refine hK.out _ _ (hS0) (fun hS1 => ?_)
                clear hK K
                try simp only [Act.put, List.getElem_toArray, List.getElem_cons_zero, List.getElem_cons_succ, List.setIfInBounds_toArray, List.set_cons_zero, List.set_cons_succ]
                refine wpAnyH_take (i := 7) (v := ?_) rfl (by kernel_rfl) (by kernel_rfl) (by kernel_rfl) (fun _ _ _ h => h) (Or.inl ⟨by rfl, ?_⟩) hS1 ?_
                rotate_left
                · intro W _; go_simp; try with_reducible rfl
                try simp only [Act.put, List.getElem_toArray, List.getElem_cons_zero, List.getElem_cons_succ, List.setIfInBounds_toArray, List.set_cons_zero, List.set_cons_succ]
                refine wpAnyH_done (by kernel_rfl) ?_ _
                have HBB : Hid (Both w w9.drew h r m v A n c L) := ⟨HH.out.below (Below.drew (Below.refl _ _)), HF.out.below (Below.drew (Below.refl _ _))⟩
                go_wp2_with fail
                go_round
                case rel => exact ⟨i + 1, m, v, A, n, c, L, by omega, by go_num, HMI, HLI, HBB⟩
                case measure => simp [intOf]; omega
      · have hie : i = N := by omega
        subst hie
        clear hi hin
        have HRB : Hid (Bk wr r 32 #[.slice A n c]) := HB.out.ref.bk
        have HL9 : Hid (L.length ≤ 900) := by show _ ≤ _; have := HLL.out; omega
        have HN9 : Hid (n ≤ 900) := by show _ ≤ _; rw [HB.out.ref.rd.1]; exact HL9.out
        go_wp2_with fail
        refine wp_region_held_drew (S := fun W => Below wr.heap.size wr W) (by kernel_rfl) (Below.drew (Below.refl _ _)) (fun hS0 => ?_)
        refine wpAnyH_take (i := 0) (v := ?_) rfl (by kernel_rfl) (by kernel_rfl) (by kernel_rfl) (fun _ _ _ h => h) (Or.inl ⟨by rfl, ?_⟩) hS0 ?_
        rotate_left
        · intro W _; go_simp; try with_reducible rfl
        try simp only [Act.put, List.getElem_toArray, List.getElem_cons_zero, List.setIfInBounds_toArray, List.set_cons_zero, List.set_cons_succ]
        refine wpAnyH_take (i := 2) (v := ?_) rfl (by kernel_rfl) (by kernel_rfl) (by kernel_rfl) (fun _ _ _ h => h) (Or.inl ⟨by rfl, ?_⟩) hS0 ?_
        rotate_left
        · intro W _; go_simp; try with_reducible rfl
        try simp only [Act.put, List.getElem_toArray, List.getElem_cons_zero, List.getElem_cons_succ, List.setIfInBounds_toArray, List.set_cons_zero, List.set_cons_succ]
        refine wpAnyH_take (i := 3) (v := ?_) rfl (by kernel_rfl) (by kernel_rfl) (by kernel_rfl) (fun _ _ _ h => h) (Or.inl ⟨by rfl, ?_⟩) hS0 ?_
        rotate_left
        · intro W _; go_simp; try with_reducible rfl
        try simp only [Act.put, List.getElem_toArray, List.getElem_cons_zero, List.getElem_cons_succ, List.setIfInBounds_toArray, List.set_cons_zero, List.set_cons_succ]
        refine wpAnyH_take (i := 4) (v := ?_) rfl (by kernel_rfl) (by kernel_rfl) (by kernel_rfl) (fun _ _ _ h => h) (Or.inl ⟨by rfl, ?_⟩) hS0 ?_
        rotate_left
        · intro W _; go_simp; try with_reducible rfl
        try simp only [Act.put, List.getElem_toArray, List.getElem_cons_zero, List.getElem_cons_succ, List.setIfInBounds_toArray, List.set_cons_zero, List.set_cons_succ]
        refine wpAnyH_take (i := 5) (v := ?_) rfl (by kernel_rfl) (by kernel_rfl) (by kernel_rfl) (fun _ _ _ h => h) (Or.inl ⟨by rfl, ?_⟩) hS0 ?_
        rotate_left
        · intro W hSW; have hx := (HRB.out.later hSW).cellAt 0; try simp only [List.getElem?_toArray, List.getElem?_cons_zero] at hx; go_simp; try with_reducible rfl
        try simp only [Act.put, List.getElem_toArray, List.getElem_cons_zero, List.getElem_cons_succ, List.setIfInBounds_toArray, List.set_cons_zero, List.set_cons_succ]
        refine wpAnyH_ready (rs := [1]) (by kernel_rfl) (by simp) ?_
        refine AllReadyH.cons rfl (fun K hK => ?_) AllReadyH.nil
        go_simp
        refine (KS.out _ h m L v (HB.out.one.below hS0) HL9.out).mono ?_
        rintro e w8 ⟨⟨A8, c8, rfl, hrd8⟩, hb8⟩
        have HS8 := Lib.hid hrd8
        clear hrd8
        go_simp
        refine hK.out _ _ (hS0.trans (hb8.mono hS0.size)) (fun hS1 => ?_)
        clear hK K
        try simp only [Act.put, List.getElem_toArray, List.getElem_cons_zero, List.getElem_cons_succ, List.setIfInBounds_toArray, List.set_cons_zero, List.set_cons_succ]
        refine wpAnyH_ready (rs := [6]) (by kernel_rfl) (by simp) ?_
        refine AllReadyH.cons rfl (fun K hK => ?_) AllReadyH.nil
        go_simp
        refine (KE.out w8 A8 A _ n c8 c L L HS8.out ((HB.out.ref.below hS1).rd) (by have := HL9.out; omega) (by have := HN9.out; omega)).mono ?_
        rintro e w9 ⟨rfl, hb9⟩
        rw [show decide (L = L) = true from decide_eq_true rfl]
        go_simp
        refine hK.out _ _ (hS1.trans (hb9.mono hS1.size)) (fun hS2 => ?_)
        clear hK K
        try simp only [Act.put, List.getElem_toArray, List.getElem_cons_zero, List.getElem_cons_succ, List.setIfInBounds_toArray, List.set_cons_zero, List.set_cons_succ]
        refine wpAnyH_take (i := 7) (v := ?_) rfl (by kernel_rfl) (by kernel_rfl) (by kernel_rfl) (fun _ _ _ h => h) (Or.inl ⟨by rfl, ?_⟩) hS2 ?_
        rotate_left
        · intro W _; go_simp; try with_reducible rfl
        try simp only [Act.put, List.getElem_toArray, List.getElem_cons_zero, List.getElem_cons_succ, List.setIfInBounds_toArray, List.set_cons_zero, List.set_cons_succ]
        refine wpAnyH_done (by kernel_rfl) ?_ _
        go_wp2_with fail
        go_ret
        exact ⟨rfl, HB.out.one.be.trans (hS2.mono HB.out.one.be.size)⟩
end heapPlays
end Go.Proofs.Ytkadcaihihgceaa
