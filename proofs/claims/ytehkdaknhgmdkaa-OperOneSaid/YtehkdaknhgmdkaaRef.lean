/- The contracts of the document's own answers for layer 1: Number, Text, Take, TakeText of the reference are the same plain functions. Conditions: a uint64; strings that Go can have; ints. -/
import Derived.Test.YtehkdaknhgmdkaaTxt
namespace Go.Proofs.Ytehkdaknhgmdkaa
open Go.RowKit

theorem one_size (x : UInt8) : (⟨#[x]⟩ : ByteArray).size = 1 := rfl

set_option maxHeartbeats 400000 in
theorem refNumber_any (k : Nat) (w : World) (hk : k < 18446744073709551616) :
    Calls Try.prog 57 #[.int .u64 (k : Int)] w fun e w' => e = .returned (.string ⟨(enc k).toArray⟩) ∧ Below w.heap.size w w' := by
  have hd8 := digs_len8 hk
  have HD := Lib.hid hd8; clear hd8
  go_enter Try.func57, Try.ntmps57
  go_wp2
  go_loopw [0, 3] (fun nv sv wr => ∃ (m : Nat) (S : ByteArray), nv = .int .u64 m ∧ sv = .string S ∧ m < 18446744073709551616 ∧ Hid (digs k = digs m ++ S.data.toList) ∧ Hid (Below w.heap.size w wr)) (fun nv _ _ => (intOf nv).toNat)
  case atStart => exact ⟨k, ⟨#[]⟩, rfl, rfl, hk, by unfold Hid; simp, Below.refl _ _⟩
  case round =>
    obtain ⟨m, S, rfl, rfl, hm, hS, hb⟩ := hrel
    have hsz := hb.out.size
    have hS8 : S.size ≤ 8 := by
      have h1 := congrArg List.length hS.out
      have h2 := HD.out
      rw [List.length_append, str_len] at h1
      omega
    by_cases h0 : 0 < m
    · have hcv := run_str_rd (P := Try.prog) (wr.alloc (.cells #[.int .u8 ((m : Int) % 256)] 5)) (src := 35) (dst := 9) (A := some ⟨wr.heap.size, 0, none⟩) (c := 1) (m := 1) (l := [UInt8.ofNat m]) Try.underlying35 Try.underlying5 Try.underlying9 rfl (Rd.byte _ _ _ _ (by simp))
      have h1 := one_size (UInt8.ofNat m)
      go_wp2
      go_roundw
      case rel =>
        refine ⟨m / 256, ⟨#[UInt8.ofNat m]⟩ ++ S, by go_num, rfl, by omega, ?_, ?_⟩
        · have h2 := hS.out
          rw [digs_pos (show m ≠ 0 by omega)] at h2
          unfold Hid
          rw [h2]
          simp
        · unfold Hid
          exact hb.out.alloc hsz _
      case measure => simp [intOf]; omega
    · have hm0 : m ≤ 0 := by omega
      have hcv := run_str_rd (P := Try.prog) (wr.alloc (.cells #[.int .u8 (S.size : Int)] 5)) (src := 35) (dst := 9) (A := some ⟨wr.heap.size, 0, none⟩) (c := 1) (m := 1) (l := [UInt8.ofNat S.size]) Try.underlying35 Try.underlying5 Try.underlying9 rfl (Rd.byte _ _ _ _ (by simp; omega))
      have h1 := one_size (UInt8.ofNat S.size)
      go_wp2
      go_ret
      have e : m = 0 := by omega
      subst e
      have h2 := hS.out
      rw [digs_zero, List.nil_append] at h2
      refine ⟨?_, hb.out.alloc hsz _⟩
      have h3 : (⟨(enc k).toArray⟩ : ByteArray) = ⟨#[UInt8.ofNat S.size]⟩ ++ S := by
        apply ByteArray.ext
        apply Array.ext'
        simp [enc, h2]
      rw [h3]
      rfl

set_option maxHeartbeats 400000 in
theorem refText_any (s : ByteArray) (w : World) (hs : s.size + 9 ≤ 9223372036854775807) :
    Calls Try.prog 61 #[.string s] w fun e w' => e = .returned (.string ⟨(encT s).toArray⟩) ∧ Below w.heap.size w w' := by
  have he : (⟨(encT s).toArray⟩ : ByteArray) = ⟨(enc s.size).toArray⟩ ++ s := by
    apply ByteArray.ext
    apply Array.ext'
    simp [encT]
  have hes : (⟨(enc s.size).toArray⟩ : ByteArray).size ≤ 9 := by
    have := digs_len8 (n := s.size) (by omega)
    show (enc s.size).toArray.size ≤ 9
    rw [List.size_toArray, enc_length]
    omega
  rw [he]
  clear he
  obtain ⟨E, hE⟩ : ∃ E : ByteArray, E = ⟨(enc s.size).toArray⟩ := ⟨_, rfl⟩
  rw [← hE] at hes ⊢
  have hc := fun w => refNumber_any s.size w (by omega)
  rw [← hE] at hc
  have HC := Lib.hid hc; clear hc hE
  go_enter Try.func61, Try.ntmps61
  go_wp2_with (go_at_call 57; refine (HC.out _).mono ?_; rintro e w1 ⟨rfl, hb1⟩)
  go_ret
  exact ⟨rfl, hb1⟩
end Go.Proofs.Ytehkdaknhgmdkaa
