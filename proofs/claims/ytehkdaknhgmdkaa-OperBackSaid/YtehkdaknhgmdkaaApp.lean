/- The contracts of the two functions that write a number's encoding: copyWithRoom makes a copy with so much room, appendNumber appends the encoding within the room. Conditions: the room is there, lengths are within 2^48, the number is a uint64. -/
import Derived.Test.YtehkdaknhgmdkaaWid
import Derived.Test.YtehkdaknhgmdkaaMem
namespace Go.Proofs.Ytehkdaknhgmdkaa
open Go.RowKit

theorem info5 : (Try.prog.info? 5).map (fun i => (i.zero, i.size, i.bytes)) = some (some (.int .u8 0), 1, 1) := by kernel_rfl

set_option maxHeartbeats 400000 in
theorem copy_any (A : Option Addr) (c n k : Nat) (K : Int) (l : List UInt8) (w : World) (hK : Hid (K = (k : Int))) (hn : Hid (n = l.length)) (hr : Hid (Rd w A l)) (hk : n + k ≤ 281474976710656) :
    Calls Try.prog 51 #[.slice A n c, .int .i64 K] w fun e w' => e = .returned (.slice (some ⟨w.heap.size, 0, none⟩) n (n + k)) ∧ Own w' w.heap.size 5 w.heap.size (n + k) l ∧ Below w.heap.size w w' := by
  obtain rfl : K = (k : Int) := hK
  obtain ⟨i0, hi, hz0, hz1, hz2⟩ := info_parts info5
  go_enter Try.func51, Try.ntmps51
  go_wp2_with (first
    | (at_make; refine wpList_make_own _ rfl _ _ 35 rfl w.heap.size 5 i0 (.int .u8 0) 1 Try.underlying35 hi hz0 hz1 _ _ _ (n + k) rfl rfl (by omega) (by rw [hz2]; omega) (by unfold maxLen; omega) (Nat.le_refl _) ?_; intro w1 hown1 hg1)
    | (at_builtin; refine wpList_append_rd _ rfl _ _ 35 rfl w.heap.size 5 i0 Try.underlying35 hi hz1 w.heap.size (n + k) 0 [] rfl hown1 A c n l rfl (hr.out.below (grownBy_below hg1 (Nat.le_refl _) (by intro k hk; cases hk))) rfl hn.out (by have := hn.out; simp; omega) ?_; intro w2 hown2 hg2))
  go_ret
  have hn' := hn.out
  rw [List.nil_append] at hown2
  subst hn'
  refine ⟨rfl, hown2, (grownBy_below hg1 (Nat.le_refl _) (by intro k hk; cases hk)).trans (grownBy_below hg2 hg1.size (by intro k hk; cases hk; exact Nat.le_refl _))⟩

/-- The shift by a whole number of bytes. -/
theorem shr_byte (k j : Nat) : (k : Int) / 2 ^ (8 * (j - 1)) % 256 = ((UInt8.ofNat (k / 256 ^ (j - 1))).toNat : Int) := by
  rw [show ((2 : Int) ^ (8 * (j - 1))) = ((256 ^ (j - 1) : Nat) : Int) by rw [two_256]; push_cast; rfl]
  simp

set_option maxHeartbeats 1000000 in
theorem number_any (base g cap n k L : Nat) (l : List UInt8) (w : World) (hk : k < 18446744073709551616) (hL : Hid (L = (digs k).length)) (hn : Hid (n = l.length)) (hown : Hid (Own w base 5 g cap l)) (hroom : n + 1 + L ≤ cap) (_hcap : cap ≤ 9223372036854775807) (_hbase : base ≤ w.heap.size) :
    Calls Try.prog 50 #[.slice (some ⟨g, 0, none⟩) n cap, .int .u64 (k : Int)] w fun e w' => e = .returned (.slice (some ⟨g, 0, none⟩) (n + 1 + L) cap) ∧ Own w' base 5 g cap (l ++ enc k) ∧ w.grownBy w' (some g) := by
  have hL8 : L ≤ 8 := by have := hL.out; have := digs_len8 hk; omega
  have hw : ∀ w, Calls Try.prog 52 #[.int .u64 (k : Int)] w fun e w' => e = .returned (.int .i64 (L : Nat)) ∧ w = w' := fun w => by
    rw [hL.out]; exact width_any k hk w
  have HW := Lib.hid hw; clear hw
  obtain ⟨i0, hi, hz0, hz1, hz2⟩ := info_parts info5
  go_enter Try.func50, Try.ntmps50
  go_wp2_with (first
    | (go_at_call 52; refine (HW.out _).mono ?_; rintro e w' ⟨rfl, rfl⟩)
    | (at_builtin; refine wpList_append_rd _ rfl _ _ 35 rfl base 5 i0 Try.underlying35 hi hz1 g cap n l rfl (hown.out.alloc _) _ 1 1 [UInt8.ofNat L] rfl (Rd.byte _ _ _ _ ?_) hn.out rfl ?_ ?_))
  · simp; omega
  · have := hn.out; simp; omega
  · intro w1 hown1 hg1
    have H1 := Lib.hid hown1; clear hown1
    have G1 := Lib.hid hg1; clear hg1
    have hnn := H1.out.lt
    go_wp2
    have hst : L ≤ L := Nat.le_refl _
    go_loopw [0, 6] (fun b left wr => ∃ j : Nat, j ≤ L ∧ left = .int .i64 j ∧ b = .slice (some ⟨g, 0, none⟩) (n + 1 + (L - j)) cap ∧ Hid (Own wr base 5 g cap (l ++ UInt8.ofNat L :: (digs k).take (L - j))) ∧ Hid (w.grownBy wr (some g))) (fun _ left _ => (intOf left).toNat)
    case atStart =>
      refine ⟨L, Nat.le_refl _, rfl, by simp, ?_, ?_⟩
      · have := H1.out; unfold Hid; simpa using this
      · exact grownBy_trans (below_grownBy ((Below.refl _ _).alloc (Nat.le_refl _) _)) G1.out
    case round =>
      obtain ⟨j, hj, rfl, rfl, ho, hg⟩ := hrel
      by_cases h0 : 0 < j
      · go_wp2_with (at_builtin; refine wpList_append_rd _ rfl _ _ 35 rfl base 5 i0 Try.underlying35 hi hz1 g cap (n + 1 + (L - j)) (l ++ UInt8.ofNat L :: (digs k).take (L - j)) rfl (ho.out.alloc _) _ 1 1 [UInt8.ofNat (k / 256 ^ (j - 1))] rfl (Rd.byte _ _ _ _ ?_) ?_ rfl ?_ ?_)
        · exact shr_byte k j
        · have := hn.out; have := hL.out; simp; omega
        · have := hn.out; have := hL.out; simp; omega
        · intro w2 hown2 hg2
          have H2 := Lib.hid hown2; clear hown2
          have G2 := Lib.hid hg2; clear hg2
          go_wp2
          go_roundw
          case rel =>
            refine ⟨j - 1, by omega, by go_num, ?_, ?_, ?_⟩
            · rw [show n + 1 + (L - (j - 1)) = n + 1 + (L - j) + 1 by omega]
            · have := H2.out
              have hd := digs_take_succ (n := k) (left := j) h0 (by rw [← hL.out]; exact hj)
              rw [← hL.out] at hd
              unfold Hid
              rw [hd]
              simpa using this
            · exact grownBy_trans hg.out (grownBy_trans (below_grownBy ((Below.refl _ _).alloc (Nat.le_refl _) _)) G2.out)
          case measure => simp [intOf]; omega
      · have hj0 : j ≤ 0 := by omega
        go_wp2
        go_ret
        have e : j = 0 := by omega
        subst e
        refine ⟨rfl, ?_, hg.out⟩
        have := ho.out
        rw [Nat.sub_zero, hL.out, List.take_length] at this
        exact this
end Go.Proofs.Ytehkdaknhgmdkaa
