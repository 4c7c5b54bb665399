/- The walk of HeapAny. No condition beyond the form's own. -/
import Derived.Test.YtkadcaihihgceaaHsa
import Derived.BigQuiet
import Derived.WalkSmall
import Derived.Deep.QuietTactic
namespace Go.Proofs.Ytkadcaihihgceaa
open Go.RowKit
set_option linter.unusedSimpArgs false
set_option linter.unusedVariables false
namespace heapAny
theorem at1 {w : World} {g o i : Nat} {x : ByteArray} (h : w.rangeAt g (o + i * 1) (eT x)) : w.cell? ⟨g, o + i, none⟩ = some (.string x) := by
  have := h 0 _ rfl
  simpa using this
set_option maxHeartbeats 51200000 in
set_option maxRecDepth 100000 in
theorem walk (A : Option Addr) (N cap : Nat) (l : List ByteArray) (w : World) (hn0 : N = l.length) (hr0 : RdK w 1 A (l.map fun s => [.string s])) (hc1 : N ≤ cap) (hc2 : cap ≤ 9223372036854775807) :
    Calls Try.prog 5 #[.slice A N cap] w fun r w' => r = .returned (.bool true) ∧ Below w.heap.size w w' := by
  have K1 := Lib.hid (fun W => awake16_any W)
  have HN := Lib.hid hn0
  have HRD : Hid (RdK w 1 A (l.map eT)) := hr0
  clear hn0 hr0
  by_cases hbig : 300 < N
  · have hb : (300 : Int) < (N : Int) := by omega
    go_enter Try.func5, Try.ntmps5
    go_wp2_with fail
    refine (K1.out _).mono ?_; rintro e w1 ⟨rfl, hb1⟩
    go_wp2_with fail
    refine (K1.out _).mono ?_; rintro e w2 ⟨rfl, hb2⟩
    go_wp2_with fail
    go_ret
    exact ⟨rfl, hb1.trans (hb2.mono hb1.size)⟩
  · have hb : ¬ ((300 : Int) < (N : Int)) := by omega
    have hbig' : N ≤ 300 := by omega
    have KN := Lib.hid (fun (W : World) (h : Below w.heap.size w W) => s_new (w := w) isWord_S W h)
    have KM := Lib.hid (fun (W : World) (h : Below w.heap.size w W) => s_new (w := w) isNil_S W h)
    have KA := Lib.hid (fun (W : World) (h n z i j k : Nat) (vh vn vz : Value) (x : ByteArray) (H : Tri w W l h n z i j k vh vn vz) (hi : i ≤ 900) => tri_pushA x H hi)
    have KB := Lib.hid (fun (W : World) (h n z i j k : Nat) (vh vn vz : Value) (hj : j < l.length) (H : Tri w W l h n z i j k vh vn vz) (hi : j ≤ 900) => tri_pushB hj H hi)
    have KC := Lib.hid (fun (W : World) (h n z i j k : Nat) (vh vn vz : Value) (hj : k < l.length) (H : Tri w W l h n z i j k vh vn vz) (hi : k ≤ 900) => tri_pushC hj H hi)
    have KS := Lib.hid (fun (W : World) (h : Nat) (v : Value) (n : Int) (L : List ByteArray) (H : OneS w W ltS fWord h v n L) (hl : L.length ≤ 900) => s_sorted1 H hl)
    have KT := Lib.hid (fun (W : World) (h : Nat) (v : Value) (n : Int) (L : List ByteArray) (H : OneS w W (ltN ByteArray) .nilFunc h v n L) (hl : L.length ≤ 900) => s_sorted2 H hl)
    have KP := Lib.hid (fun (W : World) (n s1 s2 i : Nat) (ra rb rc v : Value) (La : List ByteArray) (m : Int) (hi : i < l.length) (hl : l.length ≤ 900) (H : Lo w W n s1 s2 ra rb rc La l m i v) => lo_pop hi hl H)
    go_enter Try.func5, Try.ntmps5
    go_wp2_with fail
    refine (K1.out _).mono ?_; rintro e w1 ⟨rfl, hb1⟩
    have HB1 := Lib.hid hb1
    clear hb1
    go_wp2_with fail
    refine (KN.out _ HB1.out).mono ?_; rintro e w2 ⟨⟨h, vh, rfl, hO1, hq1⟩, hb2⟩
    have HB2 : Hid (Below w.heap.size w w2) := hO1.be
    have HH2 := Lib.hid hO1
    clear hO1 hb2 hq1
    go_wp2_with fail
    refine (KM.out _ HB2.out).mono ?_; rintro e w3 ⟨⟨n, vn, rfl, hO2, hq2⟩, hb3⟩
    have HH3 := Lib.hid (HH2.out.below hb3)
    have HN3 := Lib.hid hO2
    have HAP : Hid (∀ k, HpB h vh k → HpB n vn k → False) := fun k a b => by have h1 := (HH2.out.blk a).2; have h2 := hq2 k b; omega
    clear hO2 hb3 hq2 HH2 HB2 HB1
    obtain ⟨z, hz⟩ : ∃ z, z = w3.heap.size := ⟨_, rfl⟩
    obtain ⟨W4, hW4⟩ : ∃ W, W = w3.alloc (.cells #[.nilFunc, .slice none 0 0, .int .i64 0] 52) := ⟨_, rfl⟩
    have HTR : Hid (Tri w W4 l h n z 0 0 0 vh vn (.slice none 0 0)) := by
      have hb4 : Below w3.heap.size w3 W4 := by rw [hW4]; exact (Below.refl _ _).alloc (Nat.le_refl _) _
      have hbz : ∀ q, HpB z (.slice none 0 0) q → q = z := fun q hq => by
        rcases hq with e | e
        · exact e
        · cases e
      refine ⟨⟨[], rfl, HH3.out.below hb4⟩, HN3.out.below hb4, ⟨⟨[], [], ⟨?_, OwnK.nil _ _ _ _, ?_⟩, Hol.nil _ _, rfl⟩, HN3.out.be.trans (hb4.mono HN3.out.be.size)⟩, HAP.out, fun q a b => ?_, fun q a b => ?_⟩
      · rw [hW4, hz]; exact Bk.fresh _ _ _
      · rw [hz]; exact HN3.out.be.size
      · have h1 := (HH3.out.blk a).2; rw [hbz q b, hz] at h1; omega
      · have h1 := (HN3.out.blk a).2; rw [hbz q b, hz] at h1; omega
    go_wp2_with fail
    rw [← hW4, ← hz]
    clear hW4 hz HH3 HN3 HAP
    go_wp2_with fail
    go_loopw [33] (fun s33 wr => ∃ (i : Nat) (vh vn vz : Value), i ≤ N ∧ s33 = .int .i64 i ∧ Hid (Tri w wr l h n z i i i vh vn vz)) (fun s33 wr => N - (intOf s33).toNat)
    case atStart => exact ⟨0, vh, vn, _, Nat.zero_le _, rfl, HTR⟩
    case round =>
      clear HTR vh vn
      obtain ⟨i, vh, vn, vz, hi, rfl, H⟩ := hrel
      by_cases hin : i < N
      · have hil : Hid (i < l.length) := by show i < l.length; rw [← HN.out]; exact hin
        have hi9 : Hid (i ≤ 900) := by show i ≤ 900; omega
        obtain ⟨g, o, hA, hx⟩ := HRD.out.at (i := i) (by rw [List.length_map]; exact hil.out)
        subst hA
        rw [List.getElem_map] at hx
        obtain ⟨x, ex⟩ : ∃ x, x = l[i]'hil.out := ⟨_, rfl⟩
        rw [← ex] at hx
        have EX := Lib.hid ex
        have HX := Lib.hid hx
        have HC : Hid (∀ W, Below w.heap.size w W → W.cell? ⟨g, o + i, none⟩ = some (.string x)) := fun W hb => at1 (range_keep HX.out hb)
        have hw1 : wrap64 ((i : Int) + 1) = ((i + 1 : Nat) : Int) := by unfold wrap64; omega
        clear ex hx HX
        have c1 := HC.out wr H.out.be
        go_wp2_with fail
        refine (KA.out wr h n z i i i vh vn vz x H.out hi9.out).mono ?_
        rintro e w4 ⟨rfl, vh2, hT⟩
        have H4 := Lib.hid hT
        clear hT H c1
        have c1 := HC.out w4 H4.out.be
        go_wp2_with fail
        refine ((show x = l[i]'hil.out from EX.out) ▸ KB.out w4 h n z (i + 1) i i vh2 vn vz hil.out H4.out hi9.out).mono ?_
        rintro e w5 ⟨rfl, vn2, hT⟩
        have H5 := Lib.hid hT
        clear hT H4 c1
        have c1 := HC.out w5 H5.out.be
        go_wp2_with fail
        refine ((show x = l[i]'hil.out from EX.out) ▸ KC.out w5 h n z (i + 1) (i + 1) i vh2 vn2 vz hil.out H5.out hi9.out).mono ?_
        rintro e w6 ⟨rfl, vz2, hT⟩
        have H6 := Lib.hid hT
        clear hT H5 c1
        go_wp2_with fail
        go_round
        case rel => exact ⟨i + 1, vh2, vn2, vz2, by omega, by go_num, H6⟩
        case measure =>
          first
          | (rw [hw1]; show N - ((i + 1 : Nat) : Int).toNat < N - ((i : Nat) : Int).toNat; rw [Int.toNat_natCast, Int.toNat_natCast]; omega)
          | (show N - ((i : Int) + 1).toNat < N - ((i : Nat) : Int).toNat; omega)
      · have hie : N = i := by omega
        subst hie
        have HL9 : Hid (l.length ≤ 900) := by show _ ≤ _; rw [← HN.out]; omega
        have HTK : Hid (l.take N = l) := List.take_of_length_le (by rw [← HN.out]; exact Nat.le_refl _)
        obtain ⟨La, hLa, hA⟩ := H.out.a
        have HLa : Hid (La.length = N) := hLa
        have HA := Lib.hid hA
        have HBN := Lib.hid H.out.b
        have HCN := Lib.hid H.out.c
        rw [HTK.out] at HBN HCN
        have HSO := Lib.hid (hA.so ltS_ok)
        clear hLa hA H hi hin HTK
        go_wp2_with fail
        refine (KS.out wr h vh N La HA.out (by rw [HLa.out]; omega)).mono ?_
        rintro e w4 ⟨⟨ra, rfl, ha4⟩, hb4⟩
        have HA4 := Lib.hid ha4
        have HBN4 := Lib.hid (HBN.out.below hb4)
        have HCN4 := Lib.hid (HCN.out.below hb4)
        have HS4 : Hid (wr.heap.size ≤ w4.heap.size) := hb4.size
        clear ha4 hb4
        go_wp2_with fail
        refine (KT.out w4 n vn N l HBN4.out HL9.out).mono ?_
        rintro e w5 ⟨⟨rb, rfl, hb5⟩, hbb5⟩
        have HB5 := Lib.hid hb5
        have HA5 := Lib.hid (HA4.out.below hbb5)
        have HBN5 := Lib.hid (HBN4.out.below hbb5)
        have HCN5 := Lib.hid (HCN4.out.below hbb5)
        have HS5 : Hid (w4.heap.size ≤ w5.heap.size) := hbb5.size
        clear hb5 hbb5 HBN4 HCN4
        go_wp2_with fail
        refine (KT.out w5 z vz N l HCN5.out HL9.out).mono ?_
        rintro e w6 ⟨⟨rc, rfl, hc6⟩, hb6⟩
        have HLO : Hid (Lo w w6 n wr.heap.size w6.heap.size ra rb rc La l N 0 vn) := by
          have hs6 := hb6.size
          have hs4 := HS4.out
          have hs5 := HS5.out
          have hs0 := HBN.out.be.size
          exact ⟨(HA5.out.below hb6).base hs0, (HB5.out.below hb6).base (by omega), hc6.base (by omega),
            fun g e => ⟨HA4.out.block _ e, by have := HA4.out.lt e; omega⟩, fun g e => ⟨by have := HB5.out.block _ e; omega, by have := HB5.out.lt e; omega⟩,
            fun g e => ⟨by have := hc6.block _ e; omega, hc6.lt e⟩, HBN5.out.below hb6, fun k hk => .inl (HBN.out.blk hk).2, Nat.le_refl _⟩
        obtain ⟨s1, hs1⟩ : ∃ s, s = wr.heap.size := ⟨_, rfl⟩
        obtain ⟨s2, hs2⟩ : ∃ s, s = w6.heap.size := ⟨_, rfl⟩
        rw [← hs1, ← hs2] at HLO
        obtain ⟨Aa, ca, hra, hrda, _⟩ := HLO.out.a.sl
        obtain ⟨Ab, cb, hrb, hrdb, _⟩ := HLO.out.b.sl
        obtain ⟨Ac, cc, hrc, hrdc, _⟩ := HLO.out.c.sl
        rw [List.length_map, HLa.out] at hra
        rw [List.length_map, ← HN.out] at hrb hrc
        subst hra hrb hrc
        clear hc6 hb6 HA HA4 HA5 HB5 HBN HCN HBN5 HCN5 HS4 HS5 hs1 hs2 hrda hrdb hrdc
        go_wp2_with fail
        go_wp2_with fail
        go_loopw [82] (fun s82 wr => ∃ (i : Nat) (v : Value), i ≤ N ∧ s82 = .int .i64 i ∧ Hid (Lo w wr n s1 s2 (.slice Aa N ca) (.slice Ab N cb) (.slice Ac N cc) La l N i v)) (fun s82 wr => N - (intOf s82).toNat)
        case atStart => exact ⟨0, vn, Nat.zero_le _, rfl, HLO⟩
        case round =>
          clear HLO vn vh vz
          obtain ⟨i, v, hi, rfl, H⟩ := hrel
          by_cases hin : i < N
          · have hil : Hid (i < l.length) := by show i < l.length; rw [← HN.out]; exact hin
            have hia : Hid (i < La.length) := by show i < La.length; rw [HLa.out]; exact hin
            have hw1 : wrap64 ((i : Int) + 1) = ((i + 1 : Nat) : Int) := by unfold wrap64; omega
            obtain ⟨g, o, hA, hx⟩ := HRD.out.at (i := i) (by rw [List.length_map]; exact hil.out)
            subst hA
            rw [List.getElem_map] at hx
            obtain ⟨x, ex⟩ : ∃ x, x = l[i]'hil.out := ⟨_, rfl⟩
            obtain ⟨gb, ob, hAb, hxb⟩ := (own_rd H.out.b).at (i := i) (by rw [List.length_map]; exact hil.out)
            obtain ⟨gc, oc, hAc, hxc⟩ := (own_rd H.out.c).at (i := i) (by rw [List.length_map]; exact hil.out)
            obtain ⟨ga, oa, hAa, hxa⟩ := (own_rd H.out.a).at (i := i) (by rw [List.length_map]; exact hia.out)
            rw [List.getElem_map] at hxb hxc hxa
            rw [← ex] at hx hxb hxc
            have EX := Lib.hid ex
            have HX := Lib.hid hx
            have HC : Hid (∀ W, Below w.heap.size w W → W.cell? ⟨g, o + i, none⟩ = some (.string x)) := fun W hb => at1 (range_keep HX.out hb)
            have c1 := HC.out wr H.out.h.be
            have c2 := at1 hxb
            have c3 := at1 hxc
            have b1 : g < wr.heap.size := World.block_lt_of_cell? wr _ c1
            have b2 : gb < wr.heap.size := World.block_lt_of_cell? wr _ c2
            have b3 : gc < wr.heap.size := World.block_lt_of_cell? wr _ c3
            by_cases hz : 0 < i
            · obtain ⟨j, hj⟩ : ∃ j, i = j + 1 := ⟨i - 1, by omega⟩
              have hw2 : wrap64 ((i : Int) - 1) = (j : Int) := by unfold wrap64; omega
              have hw3 : IntKind.i64.wrap ((i : Int) - 1) = (j : Int) := by rw [IntKind.wrap_i64]; omega
              have hjn : j < N := by omega
              have hja : Hid (j < La.length) := by show j < La.length; rw [HLa.out]; exact hjn
              obtain ⟨ga2, oa2, hAa2, hxa2⟩ := (own_rd H.out.a).at (i := j) (by rw [List.length_map]; exact hja.out)
              rw [List.getElem_map] at hxa2
              rw [hAa] at hAa2
              injection hAa2 with hAa2
              injection hAa2 with hAa2 hAa3
              subst hAa2 hAa3
              subst hAa hAb hAc
              have c4 := at1 hxa
              have c5 := at1 hxa2
              have b4 : ga < wr.heap.size := World.block_lt_of_cell? wr _ c4
              have hle : Op.bytesLess (La[i]'hia.out).toList (La[j]'hja.out).toList = false := (List.pairwise_iff_getElem.1 HSO.out) j i hja.out hia.out (by omega)
              obtain ⟨y, ey⟩ : ∃ y, y = La[i]'hia.out := ⟨_, rfl⟩
              obtain ⟨y2, ey2⟩ : ∃ y, y = La[j]'hja.out := ⟨_, rfl⟩
              rw [← ey] at c4 hle
              rw [← ey2] at c5 hle
              have hz1 : decide ((0 : Int) < (i : Int)) = true := decide_eq_true (by omega)
              have hz3 : decide (0 < i) = true := decide_eq_true hz
              clear ex hx HX hxb hxc hxa hxa2 ey ey2 hj
              go_wp2_with fail
              refine wp_region_later (by kernel_rfl) (by kernel_rfl) ?_; have hL : ∀ (w : World) (x : Later w) (b o : Nat), b < w.heap.size → x.to.cell? ⟨b, o, none⟩ = w.cell? ⟨b, o, none⟩ := fun w x b o hb => x.cell hb; have hN := Later.some; (repeat (go_big_quiet_step ((fail)))); refine wpQuiet_nil ?_; intro w7 hw7; have hb7 := Later.out hw7; clear hw7 hL hN
              clear c1 c2 c3 c4 c5 b1 b2 b3 b4 hle hw2 hw3
              have H7 := Lib.hid (H.out.below hb7)
              clear hb7 H
              go_wp2_with fail
              refine ((show x = l[i]'hil.out from EX.out) ▸ KP.out w7 n s1 s2 i _ _ _ v La N hil.out HL9.out H7.out).mono ?_
              rintro e w8 ⟨rfl, v8, hT⟩
              have H8 := Lib.hid hT
              clear hT H7
              have c1 := HC.out w8 H8.out.h.be
              go_wp2_with fail
              go_round
              case rel => exact ⟨i + 1, v8, by omega, by go_num, H8⟩
              case measure =>
                first
                | (rw [hw1]; show N - ((i + 1 : Nat) : Int).toNat < N - ((i : Nat) : Int).toNat; rw [Int.toNat_natCast, Int.toNat_natCast]; omega)
                | (show N - ((i : Int) + 1).toNat < N - ((i : Nat) : Int).toNat; omega)
            · have hz0 : i = 0 := by omega
              subst hz0
              simp only [Nat.add_zero] at HC c1 c2 c3
              subst hAa hAb hAc
              clear ex hx HX hxb hxc hxa hw1 hz
              go_wp2_with fail
              refine wp_region_later (by kernel_rfl) (by kernel_rfl) ?_; have hL : ∀ (w : World) (x : Later w) (b o : Nat), b < w.heap.size → x.to.cell? ⟨b, o, none⟩ = w.cell? ⟨b, o, none⟩ := fun w x b o hb => x.cell hb; have hN := Later.some; (repeat (go_big_quiet_step ((fail)))); refine wpQuiet_nil ?_; intro w7 hw7; have hb7 := Later.out hw7; clear hw7 hL hN
              clear c1 c2 c3 b1 b2 b3
              have H7 := Lib.hid (H.out.below hb7)
              clear hb7 H
              go_wp2_with fail
              refine ((show x = l[0]'hil.out from EX.out) ▸ KP.out w7 n s1 s2 0 _ _ _ v La N hil.out HL9.out H7.out).mono ?_
              rintro e w8 ⟨rfl, v8, hT⟩
              have H8 := Lib.hid hT
              clear hT H7
              have c1 := HC.out w8 H8.out.h.be
              go_wp2_with fail
              go_round
              case rel => exact ⟨1, v8, by omega, by go_num, H8⟩
              case measure => show N - (1 : Int).toNat < N - (0 : Int).toNat; simp; omega
          · have hie : N = i := by omega
            subst hie
            clear hi hin
            go_wp2_with fail
            go_ret
            exact ⟨rfl, H.out.h.be⟩
end heapAny
end Go.Proofs.Ytkadcaihihgceaa
