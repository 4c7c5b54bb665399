/- The walk of PackBack: what was put is taken as it was, whatever stands about it; cut off it ends too early. Conditions: three strings of at most 1048576 bytes each, two numbers of 64 bits. -/
import Derived.Test.YtpjblgibialbfaaBck
import Derived.Test.YtpjblgibialbfaaWPackOrders
import Derived.BigQuiet
import Derived.Deep.RegionWith
namespace Go.Proofs.Ytpjblgibialbfaa.packBack
open Go.RowKit

theorem caps3 {w : World} {base e g cap N : Nat} {l : List UInt8} (hN : Hid (N = l.length)) (h : Own w base e g cap l) : N ≤ cap ∧ cap ≤ 9223372036854775807 := by
  have := h.caps
  unfold maxLen at this
  rw [hN.out]
  omega

set_option maxRecDepth 100000 in
set_option maxHeartbeats 2000000 in
theorem walk (a0 : ByteArray) (a1 : Int) (a2 : ByteArray) (a3 : ByteArray) (a4 : Int) (w : World) (b0 : a0.size ≤ 1048576) (w1 : (Lit.int .u64 a1).wf = true) (b2 : a2.size ≤ 1048576) (b3 : a3.size ≤ 1048576) (w4 : (Lit.int .u64 a4).wf = true) :
    Calls Try.prog 5 #[.string a0, .int .u64 a1, .string a2, .string a3, .int .u64 a4] w fun e w' => e = .returned (.bool true) ∧ Below w.heap.size w w' := by
  have d1 := packOrders.u64_bd w1
  have d4 := packOrders.u64_bd w4
  obtain ⟨n, rfl⟩ : ∃ n : Nat, a1 = n := ⟨a1.toNat, by omega⟩
  clear w1 w4
  have hnb : n < 18446744073709551616 := by omega
  have hl : Hid (a0.size = a0.data.toList.length) := (str_len a0).symm
  obtain ⟨K, hK⟩ : ∃ K, K = (enc n).length := ⟨_, rfl⟩
  have K9 : 1 ≤ K ∧ K ≤ 9 := by have := digs_len8 hnb; rw [hK, enc_length]; omega
  obtain ⟨N1, hN1⟩ : ∃ N, N = a0.size + K := ⟨_, rfl⟩
  obtain ⟨N2, hN2⟩ : ∃ N, N = a0.size + (encT a2).length := ⟨_, rfl⟩
  have hT : (encT a2).length ≤ 1048600 := by
    have := digs_len8 (n := a2.size) (by omega)
    rw [encT, List.length_append, enc_length, str_len]; omega
  have e1 : Hid (N1 = (a0.data.toList ++ enc n).length) := by unfold Hid; rw [List.length_append, str_len]; omega
  have e2 : Hid (N2 = (a0.data.toList ++ encT a2).length) := by unfold Hid; rw [List.length_append, str_len]; omega
  obtain ⟨j, hj⟩ : ∃ j : Nat, a4 % (K : Int) = (j : Int) := ⟨(a4 % (K : Int)).toNat, by have := Int.emod_nonneg a4 (show (K : Int) ≠ 0 by omega); omega⟩
  have hjK : j < K := by have := Int.emod_lt_of_pos a4 (show (0 : Int) < (K : Int) by omega); omega
  have p1 := fun A c W (hr : Rd W A a0.data.toList) => put_any A c a0.size n N1 a0.data.toList W hnb hl e1 hr (by omega)
  have p2 := fun A c W (hr : Rd W A a0.data.toList) => putText_any A c a0.size N2 a2 a0.data.toList W hl e2 hr (by omega)
  have t1 : ∀ A c W (_ : Rd W A (a0.data.toList ++ enc n ++ a3.data.toList)) (_ : N1 + a3.size ≤ c) (_ : c ≤ 9223372036854775807),
      Calls Try.prog 14 #[.slice A (N1 + a3.size) c, .int .i64 (a0.size : Int)] W fun e w' => e = .returned (.tuple #[.int .u64 (n : Int), .int .i64 (N1 : Int), .int .i64 0]) ∧ Below W.heap.size W w' := by
    intro A c W hr hc hm
    have := take_any A c (N1 + a3.size) a0.size (a0.data.toList ++ enc n ++ a3.data.toList) W (by unfold Hid; rw [List.length_append, str_len, ← e1.out]) hr hc hm
    have hp := takeP_mid a0.data.toList a3.data.toList n hnb
    rw [str_len] at hp
    rw [hp] at this
    rw [show (N1 : Int) = (a0.size : Int) + ((enc n).length : Int) by omega]
    exact this
  have t2 : ∀ A c W (_ : Rd W A (a0.data.toList ++ encT a2 ++ a3.data.toList)) (_ : N2 + a3.size ≤ c) (_ : c ≤ 9223372036854775807),
      Calls Try.prog 16 #[.slice A (N2 + a3.size) c, .int .i64 (a0.size : Int), .int .i64 (a2.size : Int)] W fun e w' => e = .returned (.tuple #[.string a2, .int .i64 (N2 : Int), .int .i64 0]) ∧ Below W.heap.size W w' := by
    intro A c W hr hc hm
    have := takeText_any A c (N2 + a3.size) a0.size a2.size (a0.data.toList ++ encT a2 ++ a3.data.toList) W (by unfold Hid; rw [List.length_append, str_len, ← e2.out]) hr hc hm (by omega)
    have hp := textP_mid a0.data.toList a3.data.toList a2 (by omega)
    rw [str_len] at hp
    rw [hp] at this
    rw [show (N2 : Int) = (a0.size : Int) + ((encT a2).length : Int) by omega]
    exact this
  have t3 : ∀ A c W (_ : Rd W A ((a0.data.toList ++ enc n).take (a0.size + j))) (_ : a0.size + j ≤ c) (_ : c ≤ 9223372036854775807),
      Calls Try.prog 14 #[.slice A (a0.size + j) c, .int .i64 (a0.size : Int)] W fun e w' => e = .returned (.tuple #[.int .u64 0, .int .i64 0, .int .i64 2]) ∧ Below W.heap.size W w' := by
    intro A c W hr hc hm
    have := take_any A c (a0.size + j) a0.size ((a0.data.toList ++ enc n).take (a0.size + j)) W (by unfold Hid; rw [List.length_take, ← e1.out]; omega) hr hc hm
    have hp := takeP_cut a0.data.toList n j hnb (by omega)
    rw [str_len] at hp
    rw [hp] at this
    exact this
  have P1 := Lib.hid p1; clear p1
  have P2 := Lib.hid p2; clear p2
  have T1 := Lib.hid t1; clear t1
  have T2 := Lib.hid t2; clear t2
  have T3 := Lib.hid t3; clear t3
  have hk : (N1 : Int) - (a0.size : Int) = (K : Int) := by omega
  have hN1b : N1 ≤ 1048600 := by omega
  have hN2b : N2 ≤ 2097200 := by omega
  have hNa : a0.size + j ≤ N1 := by omega
  have hK0 : (1 : Int) ≤ (K : Int) := by omega
  have q1 : decide (K < 1) = false := by simp; omega
  have q2 : decide (9 < K) = false := by simp; omega
  have q3 : decide ((K : Int) < 1) = false := by simp; omega
  have q4 : decide (9 < (K : Int)) = false := by simp; omega
  have k0 : ((K : Int) == 0) = false := by simp; omega
  have HN1 := Lib.hid hN1; clear hN1
  have HN2 := Lib.hid hN2; clear hN2
  have HK := Lib.hid hK; clear hK
  clear hT hnb
  obtain ⟨i0, hi, hz0, hz1, hz2⟩ := info_parts info5
  go_enter Try.func5, Try.ntmps5
  go_wp2_with (first
    | (go_at_call 9; refine (awake_any _).mono ?_; rintro e w1 ⟨rfl, hb1⟩)
    | (with_reducible refine wpList_bytes _ rfl (.tmp 25) 9 24 rfl 5 a0 Try.underlying9 Try.underlying24 Try.underlying5 (by unfold maxLen; omega) rfl ?_; intro c2 w2 hr2 hb2 hs2 hc2 hm2; unfold maxLen at hm2)
    | (go_at_call 10; refine (P1.out _ _ _ hr2).mono ?_; rintro e w3 ⟨g3, c3, rfl, ho3, hb3⟩; have m3 := caps3 e1 ho3)
    | (with_reducible refine wpList_bytes _ rfl (.tmp 29) 9 24 rfl 5 a0 Try.underlying9 Try.underlying24 Try.underlying5 (by unfold maxLen; omega) rfl ?_; intro c4 w4 hr4 hb4 hs4 hc4 hm4; unfold maxLen at hm4)
    | (go_at_call 12; refine (P2.out _ _ _ hr4).mono ?_; rintro e w5 ⟨g5, c5, rfl, ho5, hb5⟩; have m5 := caps3 e2 ho5)
    | (at_builtin; refine wpList_append_cut _ rfl (.tmp 50) (.tmp 51) 24 9 rfl 5 i0 Try.underlying24 Try.underlying9 hi hz0 hz1 hz2 g3 N1 (a0.data.toList ++ enc n) a3 rfl rfl ((ho3.rd.below hb4).below hb5) e1.out (by omega) ?_; intro A7 c7 w7 hr7 hb7 hc7 hm7; unfold maxLen at hm7)
    | (go_at_call_of 14 A7; refine (T1.out _ _ _ hr7 hc7 hm7).mono ?_; rintro e w8 ⟨rfl, hb8⟩)
    | (at_builtin; refine wpList_append_cut _ rfl (.tmp 65) (.tmp 66) 24 9 rfl 5 i0 Try.underlying24 Try.underlying9 hi hz0 hz1 hz2 g5 N2 (a0.data.toList ++ encT a2) a3 rfl rfl ((ho5.rd.below hb7).below hb8) e2.out (by omega) ?_; intro A9 c9 w9 hr9 hb9 hc9 hm9; unfold maxLen at hm9)
    | (go_at_call 16; refine (T2.out _ _ _ hr9 hc9 hm9).mono ?_; rintro e w10 ⟨rfl, hb10⟩)
    | (go_at_call_of 14 (a0.size + j); refine (T3.out _ c3 _ (((((((ho3.rd.below hb4).below hb5).below hb7).below hb8).below hb9).below hb10).take _) (by omega) (by omega)).mono ?_; rintro e w11 ⟨rfl, hb11⟩))
  go_ret
  refine ⟨by simp, ?_⟩
  have k1 := hb1.size
  have k2 := hb2.size
  have k3 := hb3.size
  have k4 := hb4.size
  have k5 := hb5.size
  have k7 := hb7.size
  have k8 := hb8.size
  have k9 := hb9.size
  have k10 := hb10.size
  have x1 := ((((hb1.trans (hb2.mono (by omega))).trans (hb3.mono (by omega))).trans (hb4.mono (by omega))).trans (hb5.mono (by omega))).trans (hb7.mono (by omega))
  exact (((x1.trans (hb8.mono (by omega))).trans (hb9.mono (by omega))).trans (hb10.mono (by omega))).trans (hb11.mono (by omega))
end Go.Proofs.Ytpjblgibialbfaa.packBack
