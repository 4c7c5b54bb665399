/- The walk of BlockApart: no write touches another block than the one it names, cut off or not. No condition. -/
import Derived.Test.YtnikhlajlhgikaaFsh
import Derived.Lib.MinMax
namespace Go.Proofs.Ytnikhlajlhgikaa
open Go.RowKit
set_option linter.unusedSimpArgs false
set_option linter.unusedVariables false

/-- What a byte is behind a write, and a beginning of a second one. -/
def byteIs (x y n p : Nat) (a b : UInt8) : UInt8 := if p / 64 = y ∧ p % 64 < n then b else if p / 64 = x then a else 0
theorem byteIs_at {B A C : List UInt8} {x y n : Nat} {a b : UInt8} (hB : B = zeroB) (hA : A = List.replicate 64 a) (hC : C = List.replicate 64 b) (hx : x < 1024) (hy : y < 1024) (hn : n ≤ 64) (p : Nat) (hp : p < 65536) :
    (over (over B (x * 64) A) (y * 64) (C.take n))[p]? = some (byteIs x y n p a b) := by
  have hb : B.length = 65536 := by rw [hB]; exact dv0_len
  have ha : A.length = 64 := by rw [hA]; exact List.length_replicate
  have hc : C.length = 64 := by rw [hC]; exact List.length_replicate
  have hl : (over B (x * 64) A).length = 65536 := by rw [over_length (by omega)]; exact hb
  have ht : (C.take n).length = n := by rw [List.length_take]; omega
  rw [over_get (by omega), over_get (by omega), ht, ha]
  unfold byteIs
  by_cases h1 : p / 64 = y ∧ p % 64 < n
  · rw [if_pos h1, if_pos (by omega), List.getElem?_take, if_pos (by omega), hC, List.getElem?_replicate_of_lt (by omega)]
  · rw [if_neg h1, if_neg (by omega)]
    by_cases h2 : p / 64 = x
    · rw [if_pos h2, if_pos (by omega), hA, List.getElem?_replicate_of_lt (by omega)]
    · rw [if_neg h2, if_neg (by omega), hB, show zeroB = List.replicate 65536 0 from rfl, List.getElem?_replicate_of_lt (by omega)]

set_option maxRecDepth 100000 in
set_option maxHeartbeats 6400000 in
theorem blockApart.walk (i j a b p0 : Int) (w : World) (hi : (Lit.int .u16 i).wf = true) (hj : (Lit.int .u16 j).wf = true) (ha : (Lit.int .u8 a).wf = true) (hb : (Lit.int .u8 b).wf = true) (hp0 : (Lit.int .i64 p0).wf = true) : Calls Try.prog 4 #[.int .u16 i, .int .u16 j, .int .u8 a, .int .u8 b, .int .i64 p0] w fun e w' => e = .returned (.bool true) ∧ Below w.heap.size w w' := by
  obtain ⟨m, x, rfl, hm, hmx, hx⟩ := block_of i hi
  obtain ⟨q, y, rfl, hq, hqy, hy⟩ := block_of j hj
  obtain ⟨ca, hca, CA, hCA, fa⟩ := full_of a ha
  obtain ⟨cb, hcb, CB, hCB, fb⟩ := full_of b hb
  have hal : CA.length = 64 := by rw [hCA]; exact List.length_replicate
  have hbl : CB.length = 64 := by rw [hCB]; exact List.length_replicate
  obtain ⟨n, hcl, hn, hcn⟩ : ∃ n : Nat, clamp p0 = (n : Int) ∧ n ≤ 64 ∧ max 0 (min p0 64) = (n : Int) := ⟨(clamp p0).toNat, by unfold clamp; omega, by unfold clamp; omega, by unfold clamp; omega⟩
  have hx0 : (0 : Int) ≤ (x : Int) := by omega
  have hx1 : (x : Int) < 1024 := by omega
  have hy0 : (0 : Int) ≤ (y : Int) := by omega
  have hy1 : (y : Int) < 1024 := by omega
  have HA := Lib.hid awake_any
  have HN := Lib.hid new_at
  have FA := Lib.hid fa
  have FB := Lib.hid fb
  have HAL := Lib.hid hal
  have HBL := Lib.hid hbl
  have HCA := Lib.hid hCA
  have HCB := Lib.hid hCB
  have HCL := Lib.hid hcl
  have EA := Lib.hid hca
  have EB := Lib.hid hcb
  clear hi hj ha hb hp0 hca hcb hCA hCB fa fb hal hbl hcl
  go_enter Try.func4, Try.ntmps4
  go_wp2_with fail
  refine (HA.out _).mono ?_
  rintro e w1 ⟨rfl, hb1⟩
  have HB1 := Lib.hid hb1
  clear hb1
  go_wp2_with fail
  refine (HN.out _).mono ?_
  rintro e w2 ⟨rfl, ⟨B0, hB0, hs2⟩, hb2⟩
  have HZ0 := Lib.hid hB0
  have HS2 := Lib.hid hs2
  have HB2 := Lib.hid (HB1.out.trans (hb2.mono HB1.out.size))
  have hgw : w.heap.size ≤ w1.heap.size := HB1.out.size
  clear hs2 hb2 hB0
  generalize w1.heap.size = g at HS2 hgw ⊢
  have HGW := Lib.hid hgw
  clear hgw
  go_wp2_with fail
  refine (FA.out _).mono ?_
  rintro e w4 ⟨rfl, ho4, hb4⟩
  have HS4 := Lib.hid (HS2.out.later hb4)
  have HB4 := Lib.hid (HB2.out.trans (hb4.mono HB2.out.size))
  have HO4 := Lib.hid ho4.rd
  have HN4 : Hid (w2.heap.size ∉ [g]) := by have := HS2.out.bk.here; show w2.heap.size ∉ [g]; simp; omega
  clear ho4 hb4
  go_wp2_with fail
  refine (write_plain g _ x w2.heap.size 64 CA w4 HS4.out hx HAL.out HO4.out HN4.out rfl rfl).mono ?_
  rintro e w5 ⟨rfl, hs5, hg5, hz5⟩
  simp only [w01] at hs5
  have HS5 := Lib.hid hs5
  have HB5 := Lib.hid (HB4.out.trans (hg5.below HB4.out.size (by simp; exact HGW.out)))
  clear hs5 hg5 hz5 HN4 HO4
  go_wp2_with fail
  refine (arm_any g _ 0 p0 w5 HS5.out).mono ?_
  rintro e w3 ⟨rfl, hs3, hg3, hz3⟩
  have hs3' : St w3 g ⟨over B0 (x * 64) CA, false, 1, true, 0, (n : Int)⟩ := by
    have h2 := hs3
    unfold Dv.arm at h2
    rw [if_pos (by omega), HCL.out] at h2
    exact h2
  have HS3 := Lib.hid hs3'
  have HB3 := Lib.hid (HB5.out.trans ((Gr.of hg3).below HB5.out.size (by simp; exact HGW.out)))
  clear hs3 hs3' hg3 hz3
  go_wp2_with fail
  refine (FB.out _).mono ?_
  rintro e w6 ⟨rfl, ho6, hb6⟩
  have HS6 := Lib.hid (HS3.out.later hb6)
  have HB6 := Lib.hid (HB3.out.trans (hb6.mono HB3.out.size))
  have HO6 := Lib.hid ho6.rd
  have HN6 : Hid (w3.heap.size ∉ [g]) := by have := HS3.out.bk.here; show w3.heap.size ∉ [g]; simp; omega
  clear ho6 hb6
  go_wp2_with fail
  refine (write_cut g _ y w3.heap.size 64 CB w6 HS6.out hy HBL.out HO6.out HN6.out rfl rfl (by show ¬ (0 : Int) < 0; omega)).mono ?_
  rintro e w7 ⟨rfl, hs7, hg7, hz7⟩
  simp only [w12, Int.toNat_natCast] at hs7
  have HS7 := Lib.hid hs7
  have HB7 := Lib.hid (HB6.out.trans (hg7.below HB6.out.size (by simp; exact HGW.out)))
  clear hs7 hg7 hz7 HN6 HO6
  go_wp2_with fail
  refine (down_any g _ w7 HS7.out).mono ?_
  rintro e w8 ⟨rfl, rfl⟩
  go_wp2_with fail
  refine (FB.out _).mono ?_
  rintro e w8 ⟨rfl, ho8, hb8⟩
  have HS8 := Lib.hid (HS7.out.later hb8)
  have HB8 := Lib.hid (HB7.out.trans (hb8.mono HB7.out.size))
  have HO8 := Lib.hid ho8.rd
  have HN8 : Hid (w7.heap.size ∉ [g]) := by have := HS7.out.bk.here; show w7.heap.size ∉ [g]; simp; omega
  clear ho8 hb8
  go_wp2_with fail
  refine (write_off g _ w7.heap.size 64 CB w8 HS8.out HO8.out HN8.out (x : Int) 64 HBL.out.symm rfl).mono ?_
  rintro e w9 ⟨rfl, hs9, hg9, hz9⟩
  have HS9 := Lib.hid hs9
  have HB9 := Lib.hid (HB8.out.trans (hg9.below HB8.out.size (by simp; exact HGW.out)))
  clear hs9 hg9 hz9 HN8 HO8
  go_wp2_with fail
  refine (power_any g _ w9 HS9.out).mono ?_
  rintro e w11 ⟨rfl, hs11, hg11, hz11⟩
  have HS11 := Lib.hid hs11
  have HB11 := Lib.hid (HB9.out.trans ((Gr.of hg11).below HB9.out.size (by simp; exact HGW.out)))
  clear hs11 hg11 hz11
  go_wp2_with fail
  refine (bytes_any g _ w11 HS11.out).mono ?_
  rintro e wz ⟨rfl, hy7, hbz⟩
  have hY := hy7.bk HS11.out.len
  have hG := fun p (hp : p < 65536) => byteIs_at HZ0.out HCA.out HCB.out hx hy hn p hp
  have hzy := hY.here
  have HBZ := Lib.hid (HB11.out.trans (hbz.mono HB11.out.size))
  have HY := Lib.hid hY
  have HG := Lib.hid hG
  clear hy7 hbz hY hG
  generalize over (over B0 (x * 64) CA) (y * 64) (List.take n CB) = B2 at HY HG
  generalize w11.heap.size = gy at HY hzy ⊢
  go_wp2_with fail
  clear hmx hqy hm hq hcn hx0 hx1 hy0 hy1 hx hy hn
  obtain ⟨L, hL⟩ : ∃ L : Nat, L = 65536 := ⟨_, rfl⟩
  have HL := Lib.hid hL
  clear hL
  go_loopw [68] (fun k wr => ∃ p : Nat, p ≤ L ∧ k = .int .i64 p ∧ wz = wr) (fun k _ => L - (intOf k).toNat)
  case atStart => exact ⟨0, Nat.zero_le _, rfl, rfl⟩
  case round =>
    obtain ⟨p, hp, rfl, rfl⟩ := hrel
    by_cases h1 : p < 65536
    · have hpl : p < L := by rw [HL.out]; exact h1
      have hp0 : (0 : Int) ≤ (p : Int) := by omega
      have hp1 : (p : Int) < 65536 := by omega
      obtain ⟨d, hd⟩ : ∃ d : Nat, (p : Int) / 64 = (d : Int) := ⟨p / 64, by omega⟩
      by_cases c1 : d = x
      · subst c1
        by_cases c2 : d = y
        · subst c2
          by_cases c3 : (p : Int) % 64 < n
          · have kp : wz.cell? ⟨gy, p, none⟩ = some (.int .u8 b) := by
              rw [HY.out.cellAt, List.getElem?_toArray, cells_at (HG.out p h1), show byteIs _ _ n p ca cb = cb by unfold byteIs; rw [if_pos (by omega)]]
              rw [EB.out]
            go_wp2
            go_roundw
            case rel => exact ⟨p + 1, by omega, by go_num, trivial⟩
            case measure => simp [intOf]; omega
          · have kp : wz.cell? ⟨gy, p, none⟩ = some (.int .u8 a) := by
              rw [HY.out.cellAt, List.getElem?_toArray, cells_at (HG.out p h1), show byteIs _ _ n p ca cb = ca by unfold byteIs; rw [if_neg (by omega), if_pos (by omega)]]
              rw [EA.out]
            go_wp2
            go_roundw
            case rel => exact ⟨p + 1, by omega, by go_num, trivial⟩
            case measure => simp [intOf]; omega
        · have c2i : ((d : Int) == (y : Int)) = false := by simp; omega
          have C2 := Lib.hid c2
          clear c2
          have kp : wz.cell? ⟨gy, p, none⟩ = some (.int .u8 a) := by
            rw [HY.out.cellAt, List.getElem?_toArray, cells_at (HG.out p h1), show byteIs _ _ n p ca cb = ca by unfold byteIs; have c2 := C2.out; rw [if_neg (by omega), if_pos (by omega)]]
            rw [EA.out]
          go_wp2
          go_roundw
          case rel => exact ⟨p + 1, by omega, by go_num, trivial⟩
          case measure => simp [intOf]; omega
      · have c1i : ((d : Int) == (x : Int)) = false := by simp; omega
        have C1 := Lib.hid c1
        clear c1
        by_cases c2 : d = y
        · subst c2
          by_cases c3 : (p : Int) % 64 < n
          · have kp : wz.cell? ⟨gy, p, none⟩ = some (.int .u8 b) := by
              rw [HY.out.cellAt, List.getElem?_toArray, cells_at (HG.out p h1), show byteIs _ _ n p ca cb = cb by unfold byteIs; have c1 := C1.out; rw [if_pos (by omega)]]
              rw [EB.out]
            go_wp2
            go_roundw
            case rel => exact ⟨p + 1, by omega, by go_num, trivial⟩
            case measure => simp [intOf]; omega
          · have kp : wz.cell? ⟨gy, p, none⟩ = some (.int .u8 0) := by
              rw [HY.out.cellAt, List.getElem?_toArray, cells_at (HG.out p h1), show byteIs _ _ n p ca cb = 0 by unfold byteIs; have c1 := C1.out; rw [if_neg (by omega), if_neg (by omega)]]
              rfl
            go_wp2
            go_roundw
            case rel => exact ⟨p + 1, by omega, by go_num, trivial⟩
            case measure => simp [intOf]; omega
        · have c2i : ((d : Int) == (y : Int)) = false := by simp; omega
          have C2 := Lib.hid c2
          clear c2
          have kp : wz.cell? ⟨gy, p, none⟩ = some (.int .u8 0) := by
            rw [HY.out.cellAt, List.getElem?_toArray, cells_at (HG.out p h1), show byteIs _ _ n p ca cb = 0 by unfold byteIs; have c1 := C1.out; have c2 := C2.out; rw [if_neg (by omega), if_neg (by omega)]]
            rfl
          go_wp2
          go_roundw
          case rel => exact ⟨p + 1, by omega, by go_num, trivial⟩
          case measure => simp [intOf]; omega
    · have hpe : p = 65536 := by have := HL.out; omega
      subst hpe
      go_wp2
      go_ret
      exact ⟨rfl, HBZ.out⟩
end Go.Proofs.Ytnikhlajlhgikaa
