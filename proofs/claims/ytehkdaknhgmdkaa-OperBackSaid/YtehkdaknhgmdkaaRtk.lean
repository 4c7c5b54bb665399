/- The contracts of the document's own answers Take and TakeText of layer 1: they return just what the plain functions takeP and textP say. Conditions: strings that Go can have; ints. -/
import Derived.Test.YtehkdaknhgmdkaaRef
import Derived.Lib.Strings
namespace Go.Proofs.Ytehkdaknhgmdkaa
open Go.RowKit

theorem str_at (s : ByteArray) (j : Nat) (h : j < s.size) : s.data.toList[j]? = some s[j] := by
  rw [List.getElem?_eq_getElem (by rw [str_len]; exact h)]
  rfl

set_option maxHeartbeats 400000 in
theorem refTake_low (s : ByteArray) (at_ : Int) (w : World) (_hs : s.size ≤ 9223372036854775807) (h : at_ < 0 ∨ (s.size : Int) ≤ at_) :
    Calls Try.prog 76 #[.string s, .int .i64 at_] w fun e w' => e = ret3 .i64 (takeP s.data.toList at_) ∧ w = w' := by
  by_cases h0 : at_ < 0
  · rw [takeP_out (Or.inl h0)]
    go_enter Try.func76, Try.ntmps76
    go_wp2
    go_ret3
    exact ⟨rfl, rfl⟩
  · by_cases h1 : (s.size : Int) < at_
    · rw [takeP_out (Or.inr (by rw [str_len]; exact h1))]
      go_enter Try.func76, Try.ntmps76
      go_wp2
      go_ret3
      exact ⟨rfl, rfl⟩
    · have e : at_ = (s.size : Int) := by omega
      subst e
      rw [takeP_end (str_len s)]
      go_enter Try.func76, Try.ntmps76
      go_wp2
      go_ret3
      exact ⟨rfl, rfl⟩

set_option maxHeartbeats 400000 in
theorem refTake_in (s : ByteArray) (p : Nat) (w : World) (hs : s.size ≤ 9223372036854775807) (hp : p < s.size) :
    Calls Try.prog 76 #[.string s, .int .i64 (p : Int)] w fun e w' => e = ret3 .i64 (takeP s.data.toList p) ∧ w = w' := by
  have hpl : p < s.data.toList.length := by rw [str_len]; exact hp
  have ht := takeP_in hpl
  rw [str_len] at ht
  have hk := str_at s p hp
  rw [List.getElem?_eq_getElem hpl] at hk
  injection hk with hk
  rw [hk] at ht
  clear hk
  have hk8 : s[p].toNat < 256 := s[p].toNat_lt
  have hpi : (p : Int) < (s.size : Int) := by omega
  have hps : ¬ p = s.size := by omega
  by_cases c1 : 8 < s[p].toNat
  · rw [if_pos c1] at ht
    rw [ht]; clear ht
    go_enter Try.func76, Try.ntmps76
    go_wp2
    go_ret3
    exact ⟨rfl, rfl⟩
  rw [if_neg c1] at ht
  by_cases c2 : s.size - (p + 1) < s[p].toNat
  · rw [if_pos c2] at ht
    rw [ht]; clear ht
    have c2i : (s.size : Int) - (p : Int) - 1 < (s[p].toNat : Int) := by omega
    go_enter Try.func76, Try.ntmps76
    go_wp2
    go_ret3
    exact ⟨rfl, rfl⟩
  rw [if_neg c2] at ht
  by_cases c3 : 0 < s[p].toNat ∧ s.data.toList[p + 1]? = some 0
  · rw [if_pos c3] at ht
    rw [ht]; clear ht
    obtain ⟨c3a, c3b⟩ := c3
    have hp1 : p + 1 < s.size := by omega
    rw [str_at s (p + 1) hp1] at c3b
    injection c3b with c3b
    have hz : ((s[p + 1].toNat : Int) == 0) = true := by rw [c3b]; rfl
    clear c3b
    go_enter Try.func76, Try.ntmps76
    go_wp2
    refine wp_loop_rounds 1 ?_
    rw [rounds_succ]
    go_wp2
    go_ret3
    exact ⟨rfl, rfl⟩
  · rw [if_neg c3] at ht
    have HT := Lib.hid ht; clear ht
    have C3 := Lib.hid c3; clear c3
    have d12 : decide ((p : Int) < 0) = false := by simp
    have d17 : decide (s.size < p) = false := by simp; omega
    have d22 : ((p : Int) == (s.size : Int)) = false := by simp; omega
    have d28 : decide (8 < (s[p].toNat : Int)) = false := by simp; omega
    have d35 : decide ((s.size : Int) - (p : Int) - 1 < (s[p].toNat : Int)) = false := by simp; omega
    go_enter Try.func76, Try.ntmps76
    go_wp2
    go_loop [8, 9] (fun v iv => ∃ i V : Nat, i ≤ s[p].toNat ∧ iv = .int .i64 i ∧ v = .int .u64 (V : Nat) ∧ Hid (V = val ((s.data.toList.drop (p + 1)).take i))) (fun _ iv => s[p].toNat - (intOf iv).toNat)
    case atStart => exact ⟨0, 0, Nat.zero_le _, rfl, rfl, rfl⟩
    case round =>
      obtain ⟨i, V, hi, rfl, rfl, hV⟩ := hrel
      by_cases hlt : i < s[p].toNat
      · have hps2 : p + 1 + i < s.size := by omega
        have hVb : V < 72057594037927936 := by
          have := val_lt ((s.data.toList.drop (p + 1)).take i)
          rw [hV.out]
          have h2 := Nat.pow_le_pow_right (show 0 < 256 by omega) (show ((s.data.toList.drop (p + 1)).take i).length ≤ 7 by simp; omega)
          omega
        have hb8 : s[p + 1 + i].toNat < 256 := s[p + 1 + i].toNat_lt
        have hstep : Hid (V * 256 + s[p + 1 + i].toNat = val ((s.data.toList.drop (p + 1)).take (i + 1))) := by
          have hl : i < (s.data.toList.drop (p + 1)).length := by simp; omega
          unfold Hid
          rw [val_take_succ hl, ← hV.out]
          have h1 := str_at s (p + 1 + i) hps2
          have h2 : (s.data.toList.drop (p + 1))[i]? = some s[p + 1 + i] := by rw [List.getElem?_drop]; exact h1
          rw [List.getElem?_eq_getElem hl] at h2
          injection h2 with h2
          rw [h2]
        by_cases hi0 : i = 0
        · subst hi0
          have hb9 : s[p + 1].toNat < 256 := s[p + 1].toNat_lt
          have hz : ((s[p + 1].toNat : Int) == 0) = false := by
            simp
            intro h
            refine C3.out ⟨by omega, ?_⟩
            rw [str_at s (p + 1) (by omega)]
            exact congrArg some (UInt8.toNat_inj.1 (by simpa using h))
          go_wp2
          go_round
          case rel => exact ⟨1, V * 256 + s[p + 1].toNat, by omega, by go_num, by go_num, hstep⟩
          case measure => simp [intOf]; omega
        · have hi1 : ((i : Int) == 0) = false := by simpa using hi0
          have hi2 : ¬ (i : Int) = 0 := by omega
          go_wp2
          go_round
          case rel => exact ⟨i + 1, V * 256 + s[p + 1 + i].toNat, by omega, by go_num, by go_num, hstep⟩
          case measure => simp [intOf]; omega
      · have hge : s[p].toNat ≤ i := by omega
        go_wp2
        go_ret3
        have e : i = s[p].toNat := by omega
        subst e
        rw [HT.out, ← hV.out]
        exact ⟨rfl, rfl⟩

theorem refTake_any (s : ByteArray) (at_ : Int) (w : World) (hs : s.size ≤ 9223372036854775807) :
    Calls Try.prog 76 #[.string s, .int .i64 at_] w fun e w' => e = ret3 .i64 (takeP s.data.toList at_) ∧ w = w' := by
  by_cases h : at_ < 0 ∨ (s.size : Int) ≤ at_
  · exact refTake_low s at_ w hs h
  · obtain ⟨p, rfl⟩ : ∃ p : Nat, at_ = p := ⟨at_.toNat, by omega⟩
    exact refTake_in s p w hs (by omega)

set_option maxHeartbeats 400000 in
theorem refTakeText_any (s : ByteArray) (at_ most : Int) (w : World) (hs : s.size ≤ 9223372036854775807) (hm : most ≤ 9223372036854775807) :
    Calls Try.prog 80 #[.string s, .int .i64 at_, .int .i64 most] w fun e w' => e = retT .i64 (textP s.data.toList at_ most) ∧ w = w' := by
  by_cases m0 : most < 0
  · have ht : textP s.data.toList at_ most = ([], 0, 1) := by unfold textP; rw [if_pos m0]
    rw [ht]; clear ht
    go_enter Try.func80, Try.ntmps80
    go_wp2_with fail
    go_ret3
    exact ⟨rfl, rfl⟩
  have m1 : 0 ≤ most := by omega
  have hcall := fun W => refTake_any s at_ W hs
  unfold ret3 at hcall
  have hok := @takeP_ok s.data.toList at_
  have hT : textP s.data.toList at_ most = if (takeP s.data.toList at_).2.2 ≠ 0 then ([], 0, (takeP s.data.toList at_).2.2)
      else if most < (takeP s.data.toList at_).1 then ([], 0, 4)
      else if (s.data.toList.length : Int) - (takeP s.data.toList at_).2.1 < (takeP s.data.toList at_).1 then ([], 0, 2)
      else ((s.data.toList.drop (takeP s.data.toList at_).2.1.toNat).take (takeP s.data.toList at_).1, (takeP s.data.toList at_).2.1 + (takeP s.data.toList at_).1, 0) := by unfold textP; rw [if_neg m0]
  rw [str_len] at hok hT
  generalize takeP s.data.toList at_ = r at hcall hok hT
  obtain ⟨a, b, f⟩ := r
  simp only [] at hcall hok hT
  rw [hT]; clear hT
  have HC := Lib.hid hcall; clear hcall
  by_cases f0 : f = 0
  · subst f0
    obtain ⟨k1, k2, k3, k4, k5⟩ := hok rfl
    clear hok
    obtain ⟨b', rfl⟩ : ∃ b' : Nat, b = b' := ⟨b.toNat, by omega⟩
    rw [if_neg (by omega)]
    by_cases c1 : most < (a : Int)
    · rw [if_pos c1]
      go_enter Try.func80, Try.ntmps80
      go_wp2_with (go_at_call 76; refine (HC.out _).mono ?_; rintro e w1 ⟨rfl, rfl⟩)
      go_ret3
      exact ⟨rfl, rfl⟩
    rw [if_neg c1]
    by_cases c2 : (s.size : Int) - (b' : Int) < (a : Int)
    · rw [if_pos c2]
      go_enter Try.func80, Try.ntmps80
      go_wp2_with (go_at_call 76; refine (HC.out _).mono ?_; rintro e w1 ⟨rfl, rfl⟩)
      go_ret3
      exact ⟨rfl, rfl⟩
    rw [if_neg c2]
    have hx := Lib.extract_eq s b' (b' + a)
    rw [show b' + a - b' = a by omega] at hx
    rw [show (b' : Int).toNat = b' by omega]
    have HX := Lib.hid hx; clear hx
    go_enter Try.func80, Try.ntmps80
    go_wp2_with (go_at_call 76; refine (HC.out _).mono ?_; rintro e w1 ⟨rfl, rfl⟩)
    go_ret3
    refine ⟨?_, rfl⟩
    unfold retT
    simp only []
    rw [← HX.out]
    rfl
  · rw [if_pos f0]
    have f0' : (f == 0) = false := by simpa using f0
    have f0'' : (f != 0) = true := by simpa using f0
    clear hok
    go_enter Try.func80, Try.ntmps80
    go_wp2_with (go_at_call 76; refine (HC.out _).mono ?_; rintro e w1 ⟨rfl, rfl⟩)
    go_ret3
    exact ⟨rfl, rfl⟩
end Go.Proofs.Ytehkdaknhgmdkaa
