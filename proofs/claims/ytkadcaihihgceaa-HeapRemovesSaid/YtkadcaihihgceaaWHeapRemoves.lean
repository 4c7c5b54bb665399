/- The walk of HeapRemoves. No condition beyond the form's own. -/
import Derived.Test.YtkadcaihihgceaaHst
namespace Go.Proofs.Ytkadcaihihgceaa
open Go.RowKit
set_option linter.unusedSimpArgs false
set_option linter.unusedVariables false
namespace heapRemoves
/-- Those that aren't odd. -/
abbrev ev (l : List Px) : List Px := l.filter fun x => !odB x
theorem ev_take {l : List Px} {k : Nat} (hk : k < l.length) : ev (l.take (k + 1)) = ev (l.take k) ++ (if odB l[k] then [] else [l[k]]) := by
  unfold ev
  rw [List.take_succ_eq_append_getElem hk, List.filter_append]
  cases h : odB l[k] <;> simp [h]
theorem ev_len (l : List Px) : (ev l).length ≤ l.length := List.length_filter_le _ _
theorem ev_ev (l : List Px) : ev (ev l) = ev l := by unfold ev; rw [List.filter_filter]; simp
theorem ev_all (l : List Px) : (l.filter fun _ => !true) = [] := by simp
set_option maxHeartbeats 25600000 in
set_option maxRecDepth 100000 in
theorem walk (A : Option Addr) (n cap : Nat) (l : List Px) (w : World) (hn0 : n = l.length) (hr0 : RdK w 2 A (l.map eX)) (hc1 : n ≤ cap) (hc2 : cap ≤ 9223372036854775807) :
    Calls Try.prog 6 #[.slice A n cap] w fun r w' => r = .returned (.bool true) ∧ Below w.heap.size w w' := by
  have K1 := Lib.hid (fun W => awake16_any W)
  have HN := Lib.hid hn0
  have HRD : Hid (RdP w A n l) := ⟨hn0, hr0⟩
  clear hn0 hr0
  by_cases hbig : 300 < n
  · have hb : (300 : Int) < (n : Int) := by omega
    go_enter Try.func6, Try.ntmps6
    go_wp2_with fail
    refine (K1.out _).mono ?_; rintro e w1 ⟨rfl, hb1⟩
    go_wp2_with fail
    refine (K1.out _).mono ?_; rintro e w2 ⟨rfl, hb2⟩
    go_wp2_with fail
    go_ret
    exact ⟨rfl, hb1.trans (hb2.mono hb1.size)⟩
  · have hb : ¬ ((300 : Int) < (n : Int)) := by omega
    have hbig' : n ≤ 300 := by omega
    have KN := Lib.hid (fun (W : World) (h : Below w.heap.size w W) => one_new (w := w) W h)
    have KP := Lib.hid (fun (W : World) (h : Nat) (m : Int) (L : List Px) (v : Value) (x : Px) (H : OneE w W h m L v) (hl : L.length ≤ 900) (hm : 0 ≤ m ∧ m ≤ 1000000) => one_push x H hl hm)
    have KO := Lib.hid (fun (W : World) (x : Px) => odd_any x W)
    have KR := Lib.hid (fun (W : World) (h : Nat) (m : Int) (L : List Px) (v : Value) (H : OneE w W h m L v) (hl : L.length ≤ 900) => one_remove _ _ chs_odd H hl)
    have KA := Lib.hid (fun (W : World) (h : Nat) (m : Int) (L : List Px) (v : Value) (H : OneE w W h m L v) (hl : L.length ≤ 900) => one_remove _ _ chs_all H hl)
    have KS := Lib.hid (fun (W : World) (h : Nat) (m : Int) (L : List Px) (v : Value) (H : OneE w W h m L v) (hl : L.length ≤ 900) => one_sorted H hl)
    have KL := Lib.hid (fun (W : World) (h : Nat) (m : Int) (L : List Px) (v : Value) (H : OneE w W h m L v) => one_len H)
    have KT := Lib.hid (fun (W : World) (h : Nat) (m : Int) (L : List Px) (v : Value) (H : OneE w W h m L v) => one_top H)
    have KE := Lib.hid (fun (W : World) (A B : Option Addr) (n m c e : Nat) (l r : List Px) (h1 : RdP W A n l) (h2 : RdP W B m r) (hn : n ≤ 1000) (hm : m ≤ 1000) => same_any A B n m c e l r W (Lib.hid h1) (Lib.hid h2) hn hm)
    go_enter Try.func6, Try.ntmps6
    go_wp2_with fail
    refine (K1.out _).mono ?_; rintro e w1 ⟨rfl, hb1⟩
    have HB1 := Lib.hid hb1
    clear hb1
    go_wp2_with fail
    refine (KN.out _ HB1.out).mono ?_; rintro e w2 ⟨⟨h1, v1, rfl, hO1, hk1⟩, hb2⟩
    have H1 := Lib.hid hO1
    clear hO1 hb2 hk1
    go_wp2_with fail
    refine (KN.out _ H1.out.be).mono ?_; rintro e w3 ⟨⟨h2, v2, rfl, hO2, hk2⟩, hb3⟩
    have HQ1 := Lib.hid (H1.out.below hb3)
    have HQ2 := Lib.hid hO2
    have HAP : Hid (∀ k, HpB h1 v1 k → HpB h2 v2 k → False) := fun k a b => by have h3 := (H1.out.blk a).2; have h4 := hk2 k b; omega
    clear hO2 hb3 hk2 H1
    go_wp2_with fail
    go_loopw [21, 5] (fun s21 s5 wr => ∃ (i q : Nat) (v1 v2 : Value), i ≤ n ∧ s21 = .int .i64 i ∧ s5 = .int .i64 q ∧ Hid (q = (ev (l.take i)).length) ∧ Hid (OneE w wr h1 i (srt (l.take i)) v1) ∧ Hid (OneE w wr h2 q (srt (ev (l.take i))) v2) ∧ Hid (∀ k, HpB h1 v1 k → HpB h2 v2 k → False)) (fun s21 s5 wr => n - (intOf s21).toNat)
    case atStart => exact ⟨0, 0, v1, v2, Nat.zero_le _, rfl, rfl, rfl, HQ1, HQ2, HAP⟩
    case round =>
      clear HQ1 HQ2 HAP
      obtain ⟨i, q, v1, v2, hi, rfl, rfl, HQ, H1, H2, HAP⟩ := hrel
      by_cases hin : i < n
      · have hil : Hid (i < l.length) := by show i < l.length; rw [← HN.out]; exact hin
        obtain ⟨g, o, hA, hg, hx⟩ := HRD.out.at hil.out
        subst hA
        obtain ⟨⟨x1, x2⟩, ex⟩ : ∃ x, x = l[i]'hil.out := ⟨_, rfl⟩
        rw [← ex] at hx
        have EX := Lib.hid ex
        have HGX := Lib.hid hx
        have HCL : Hid (∀ W, Below w.heap.size w W → W.cell? ⟨g, o + i * 2, none⟩ = some (.int .i64 x1) ∧ W.cell? ⟨g, o + i * 2 + 1, none⟩ = some (.int .i64 x2)) := fun W hb => by
          have := range_keep HGX.out hb
          exact ⟨by simpa using this 0 _ rfl, this 1 _ rfl⟩
        obtain ⟨c1, c2⟩ := HCL.out wr H1.out.be
        have hqi : Hid (q ≤ i) := by show q ≤ i; rw [HQ.out]; have := ev_len (l.take i); rw [List.length_take] at this; omega
        have hw1 : wrap64 ((i : Int) + 1) = ((i + 1 : Nat) : Int) := by unfold wrap64; omega
        have hw2 : wrap64 ((q : Int) + 1) = ((q + 1 : Nat) : Int) := by have := hqi.out; unfold wrap64; omega
        have HL1 : Hid ((srt (l.take i)).length ≤ 900) := by show _ ≤ _; rw [srt_len, List.length_take]; omega
        have HL2 : Hid ((srt (ev (l.take i))).length ≤ 900) := by show _ ≤ _; rw [srt_len, ← HQ.out]; have := hqi.out; omega
        clear ex hx hg
        go_wp2_with fail
        refine (KP.out wr h1 i _ v1 (x1, x2) H1.out HL1.out ⟨by omega, by omega⟩).mono ?_
        rintro e w4 ⟨rfl, ⟨v1', hO1, hk1⟩, hg1⟩
        have H1' : Hid (OneE w w4 h1 ((i + 1 : Nat) : Int) (srt (l.take (i + 1))) v1') := by show OneE _ _ _ _ _ _; rw [srt_take hil.out, ← EX.out]; exact hO1
        have H2' := Lib.hid (H2.out.other H1.out (fun k a b => HAP.out k b a) hg1)
        have HAP' : Hid (∀ k, HpB h1 v1' k → HpB h2 v2 k → False) := fun k a b => (hk1 k a).elim (fun a => HAP.out k a b) fun a => by have := (H2.out.blk b).2; omega
        obtain ⟨d1, d2⟩ := HCL.out w4 H1'.out.be
        clear hO1 hk1 hg1 c1 c2 H1 H2 HAP
        go_wp2_with fail
        refine (KO.out w4 (x1, x2)).mono ?_; rintro e w5 ⟨rfl, hb5⟩
        have H15 := Lib.hid (H1'.out.below hb5); have H25 := Lib.hid (H2'.out.below hb5)
        obtain ⟨f1, f2⟩ := HCL.out w5 H15.out.be
        clear hb5 H1' H2' d1 d2
        cases hod : odB (x1, x2) with
        | true =>
          have HOD := Lib.hid hod
          have HEV : Hid (ev (l.take (i + 1)) = ev (l.take i)) := by show _ = _; rw [ev_take hil.out, ← EX.out, HOD.out]; simp
          clear hod
          go_wp2_with fail
          go_round
          case rel => exact ⟨i + 1, q, v1', v2, by omega, by go_num, rfl, by show _ = _; rw [HEV.out]; exact HQ.out, H15, by rw [HEV.out]; exact H25, HAP'⟩
          case measure => simp [intOf]; omega
        | false =>
          have HOD := Lib.hid hod
          have HEV : Hid (ev (l.take (i + 1)) = ev (l.take i) ++ [(x1, x2)]) := by show _ = _; rw [ev_take hil.out, ← EX.out, HOD.out]; simp
          clear hod
          go_wp2_with fail
          refine (KP.out w5 h2 q _ v2 (x1, x2) H25.out HL2.out ⟨by omega, by have := hqi.out; omega⟩).mono ?_
          rintro e w6 ⟨rfl, ⟨v2', hO2, hk2⟩, hg2⟩
          have H26 : Hid (OneE w w6 h2 ((q + 1 : Nat) : Int) (srt (ev (l.take (i + 1)))) v2') := by show OneE _ _ _ _ _ _; rw [HEV.out, srt_snoc]; exact hO2
          have H16 := Lib.hid (H15.out.other H25.out HAP'.out hg2)
          have HAP6 : Hid (∀ k, HpB h1 v1' k → HpB h2 v2' k → False) := fun k a b => (hk2 k b).elim (fun b => HAP'.out k a b) fun b => by have := (H15.out.blk a).2; omega
          clear hO2 hk2 hg2 H15 H25 HAP'
          go_wp2_with fail
          go_round
          case rel => exact ⟨i + 1, q + 1, v1', v2', by omega, by go_num, by go_num, by show _ = _; rw [HEV.out, List.length_append, ← HQ.out]; rfl, H16, H26, HAP6⟩
          case measure => simp [intOf]; omega
      · have hie : i = n := by omega
        subst hie
        have HTK : Hid (l.take i = l) := List.take_of_length_le (by rw [← HN.out]; exact Nat.le_refl _)
        rw [HTK.out] at HQ H1 H2
        have hqi : q ≤ i := by rw [HQ.out, HN.out]; exact ev_len l
        have HL1 : Hid ((srt l).length = i) := by show _ = _; rw [srt_len]; exact HN.out.symm
        have HE1 : Hid ((srt l).filter (fun x => !odB x) = srt (ev l)) := srt_filter _ l
        have HL2 : Hid ((srt (ev l)).length = q) := by show _ = _; rw [srt_len]; exact HQ.out.symm
        have HE2 : Hid ((srt (ev l)).filter (fun x => !odB x) = srt (ev l)) := by show _ = _; rw [srt_filter]; exact congrArg srt (ev_ev l)
        have hw1 : wrap64 ((i : Int) - (q : Int)) = (i : Int) - (q : Int) := by unfold wrap64; omega
        clear hi hin
        go_wp2_with fail
        refine (KR.out wr h1 i _ v1 H1.out (by rw [HL1.out]; omega)).mono ?_
        rintro e w4 ⟨rfl, ⟨v1', hO1, hk1⟩, hg1⟩
        rw [HE1.out] at hO1
        rw [HE1.out, HL1.out, HL2.out]
        have H14 := Lib.hid hO1
        have H24 := Lib.hid (H2.out.other H1.out (fun k a b => HAP.out k b a) hg1)
        clear hO1 hk1 hg1 H1 H2 HAP
        go_wp2_with fail
        refine (KS.out w4 h1 i _ v1' H14.out (by rw [HL2.out]; omega)).mono ?_
        rintro e w5 ⟨⟨A5, c5, rfl, hrd5⟩, hb5⟩
        rw [HL2.out] at hrd5 ⊢
        have H15 := Lib.hid (H14.out.below hb5); have H25 := Lib.hid (H24.out.below hb5)
        have HS5 := Lib.hid hrd5
        clear hb5 hrd5 H14 H24
        go_wp2_with fail
        refine (KS.out w5 h2 q _ v2 H25.out (by rw [HL2.out]; omega)).mono ?_
        rintro e w6 ⟨⟨A6, c6, rfl, hrd6⟩, hb6⟩
        rw [HL2.out] at hrd6 ⊢
        have H16 := Lib.hid (H15.out.below hb6)
        have HS56 := Lib.hid (HS5.out.later hb6)
        have HS6 := Lib.hid hrd6
        clear hb6 hrd6 H15 H25 HS5
        go_wp2_with fail
        refine (KE.out w6 A5 A6 q q c5 c6 _ _ HS56.out HS6.out (by omega) (by omega)).mono ?_
        rintro e w7 ⟨rfl, hb7⟩
        have hd : decide (srt (ev l) = srt (ev l)) = true := decide_eq_true rfl
        rw [hd]
        have H17 := Lib.hid (H16.out.below hb7)
        clear hb7 hd H16 HS56 HS6
        go_wp2_with fail
        refine (KR.out w7 h1 i _ v1' H17.out (by rw [HL2.out]; omega)).mono ?_
        rintro e w8 ⟨rfl, ⟨v18, hO8, hk8⟩, hg8⟩
        rw [HE2.out] at hO8
        rw [HE2.out, HL2.out]
        have hz : (q : Int) - (q : Int) = 0 := by omega
        rw [hz]
        have H18 := Lib.hid hO8
        clear hO8 hk8 hg8 H17 hz
        go_wp2_with fail
        refine (KT.out w8 h1 i _ v18 H18.out).mono ?_
        rintro e w9 ⟨rfl, hb9⟩
        rw [HL2.out]
        obtain ⟨⟨y1, y2⟩, hy⟩ : ∃ y, y = (srt (ev l)).headD (0, 0) := ⟨_, rfl⟩
        rw [← hy]
        have H19 : Hid (OneE w (w9.alloc (.cells #[.int .i64 y1, .int .i64 y2] 27)) h1 i (srt (ev l)) v18) := (H18.out.below hb9).below ((Below.refl _ _).alloc (Nat.le_refl _) _)
        have HY := Lib.hid hy
        clear hb9 hy H18
        go_wp2_with fail
        refine (KA.out _ h1 i _ v18 H19.out (by rw [HL2.out]; omega)).mono ?_
        rintro e wa ⟨rfl, ⟨v1a, hOa, hka⟩, hga⟩
        rw [ev_all] at hOa
        rw [ev_all, HL2.out, List.length_nil]
        have hz : (q : Int) - ((0 : Nat) : Int) = (q : Int) := by omega
        rw [hz]
        have H1a := Lib.hid hOa
        clear hOa hka hga H19 hz
        go_wp2_with fail
        refine (KL.out _ h1 i _ v1a H1a.out).mono ?_
        rintro e wb ⟨rfl, hwb⟩
        rw [hwb, List.length_nil]
        clear hwb wb
        go_wp2_with fail
        refine (KS.out _ h1 i _ v1a H1a.out (by simp)).mono ?_
        rintro e wc ⟨⟨Ac, cc, rfl, _⟩, hbc⟩
        rw [List.length_nil]
        have HBC := Lib.hid (H1a.out.be.trans (hbc.mono H1a.out.be.size))
        clear hbc
        go_wp2_with fail
        go_ret
        exact ⟨rfl, HBC.out⟩
end heapRemoves
end Go.Proofs.Ytkadcaihihgceaa
