/- The plain mathematics of the encoding of numbers: digits to the base 256, the number that digits have, and that the two undo each other. · The width of a number: what the library's Len64 tells, and that seven more by eight is how many digits to the base 256 the number has. Condition: the number is a uint64. -/
import Derived.WalkKit
import Derived.Test.YtjgojgmgicpgaaaGreatProg
import Derived.WalkSpells
import Derived.WalkLawsBesides
import Derived.Lib.BitFns
import Derived.Lib.ItoaNum
import Derived.Lib.Hide
namespace Go.Proofs.YtjgojgmgicpgaaaGreat
open Go.RowKit

/-- The digits of n to the base 256, the highest one first. -/
def digs (n : Nat) : List UInt8 := if _h : n = 0 then [] else digs (n / 256) ++ [UInt8.ofNat n]
  termination_by n
  decreasing_by omega

/-- The encoding of a number. -/
def enc (n : Nat) : List UInt8 := UInt8.ofNat (digs n).length :: digs n

/-- The number whose digits these are. -/
def val (l : List UInt8) : Nat := l.foldl (fun a b => a * 256 + b.toNat) 0

theorem digs_zero : digs 0 = [] := by unfold digs; simp
theorem digs_pos {n : Nat} (h : n ≠ 0) : digs n = digs (n / 256) ++ [UInt8.ofNat n] := by rw [digs]; simp [h]
theorem val_nil : val [] = 0 := rfl
theorem val_snoc (l : List UInt8) (b : UInt8) : val (l ++ [b]) = val l * 256 + b.toNat := by simp [val, List.foldl_append]
theorem u8_toNat (n : Nat) : (UInt8.ofNat n).toNat = n % 256 := by simp

theorem val_digs (n : Nat) : val (digs n) = n := by
  induction n using Nat.strongRecOn with
  | _ n ih =>
    by_cases h : n = 0
    · subst h; rw [digs_zero]; rfl
    · rw [digs_pos h, val_snoc, ih (n / 256) (by omega), u8_toNat]; omega

theorem digs_len_lt (k : Nat) : ∀ n, n < 256 ^ k → (digs n).length ≤ k := by
  induction k with
  | zero => intro n h; have : n = 0 := by simpa using h
            subst this; rw [digs_zero]; simp
  | succ k ih =>
    intro n h
    by_cases h0 : n = 0
    · subst h0; rw [digs_zero]; simp
    · rw [digs_pos h0]
      have := ih (n / 256) (by rw [Nat.pow_succ] at h; omega)
      simp; omega

theorem digs_len_ge (k : Nat) : ∀ n, 256 ^ k ≤ n → k + 1 ≤ (digs n).length := by
  induction k with
  | zero => intro n h; have h0 : n ≠ 0 := by simp at h; omega
            rw [digs_pos h0]; simp
  | succ k ih =>
    intro n h
    have hp : 0 < 256 ^ k := Nat.pow_pos (by omega)
    rw [Nat.pow_succ] at h
    have h0 : n ≠ 0 := by omega
    rw [digs_pos h0]
    have := ih (n / 256) (by omega)
    simp; omega

theorem digs_len8 {n : Nat} (h : n < 18446744073709551616) : (digs n).length ≤ 8 := digs_len_lt 8 n (by simpa using h)

/-- The i-th digit from the end. -/
theorem digs_get (n : Nat) : ∀ k, k < (digs n).length → (digs n)[(digs n).length - 1 - k]? = some (UInt8.ofNat (n / 256 ^ k)) := by
  induction n using Nat.strongRecOn with
  | _ n ih =>
    intro k hk
    by_cases h : n = 0
    · subst h; rw [digs_zero] at hk; simp at hk
    · rw [digs_pos h] at hk ⊢
      simp only [List.length_append, List.length_singleton] at hk ⊢
      cases k with
      | zero => simp
      | succ k =>
        have := ih (n / 256) (by omega) k (by omega)
        rw [List.getElem?_append_left (by omega), show (digs (n / 256)).length + 1 - 1 - (k + 1) = (digs (n / 256)).length - 1 - k by omega, this,
          Nat.div_div_eq_div_mul, Nat.pow_succ, Nat.mul_comm 256]

theorem digs_head_ne {n : Nat} : ∀ (h : 0 < (digs n).length), (digs n)[0] ≠ 0 := by
  induction n using Nat.strongRecOn with
  | _ n ih =>
    intro h
    by_cases h0 : n = 0
    · subst h0; rw [digs_zero] at h; simp at h
    · by_cases h1 : n / 256 = 0
      · have e : digs n = [UInt8.ofNat n] := by rw [digs_pos h0, h1, digs_zero]; rfl
        simp only [e]
        simp
        intro hh
        have := congrArg UInt8.toNat hh
        simp at this
        omega
      · have e := digs_pos h0
        have hl : 0 < (digs (n / 256)).length := by rw [digs_pos h1]; simp
        have := ih (n / 256) (by omega) hl
        simp only [e]
        rw [List.getElem_append_left hl]
        exact this

theorem snoc_ind {P : List UInt8 → Prop} (h0 : P []) (h1 : ∀ l b, P l → P (l ++ [b])) : ∀ l, P l := fun l => by
  rw [← List.reverse_reverse l]
  induction l.reverse with
  | nil => exact h0
  | cons a t ih => rw [List.reverse_cons]; exact h1 _ _ ih

theorem val_lt (l : List UInt8) : val l < 256 ^ l.length := by
  induction l using snoc_ind with
  | h0 => simp [val]
  | h1 l b ih =>
    rw [val_snoc]
    have := b.toNat_lt
    simp only [List.length_append, List.length_singleton, Nat.pow_succ]
    omega

theorem digs_val (l : List UInt8) (h : ∀ hl : 0 < l.length, l[0] ≠ 0) : digs (val l) = l := by
  induction l using snoc_ind with
  | h0 => rw [val_nil, digs_zero]
  | h1 l b ih =>
    rw [val_snoc]
    have hb := b.toNat_lt
    have ih' : digs (val l) = l := ih fun hl => by
      have := h (by simp)
      rwa [List.getElem_append_left hl] at this
    have hne : val l * 256 + b.toNat ≠ 0 := by
      intro h0
      have h1 : val l = 0 := by omega
      have h2 : b.toNat = 0 := by omega
      rw [h1, digs_zero] at ih'
      subst ih'
      have := h (by simp)
      apply this
      simp
      exact UInt8.toNat_inj.1 (by simpa using h2)
    rw [digs_pos hne, show (val l * 256 + b.toNat) / 256 = val l by omega, ih']
    congr 1
    simp

theorem enc_length (n : Nat) : (enc n).length = (digs n).length + 1 := by simp [enc]

/-- One digit more of what has been written. -/
theorem digs_take_succ {n left : Nat} (h : 0 < left) (hl : left ≤ (digs n).length) :
    (digs n).take ((digs n).length - (left - 1)) = (digs n).take ((digs n).length - left) ++ [UInt8.ofNat (n / 256 ^ (left - 1))] := by
  have hg := digs_get n (left - 1) (by omega)
  rw [show (digs n).length - (left - 1) = ((digs n).length - left) + 1 by omega, List.take_add_one, show (digs n).length - left = (digs n).length - 1 - (left - 1) by omega, hg]
  rfl
end Go.Proofs.YtjgojgmgicpgaaaGreat

namespace Go.Proofs.YtjgojgmgicpgaaaGreat
open Go.RowKit

theorem tab_get (i : Int) (h : i.toNat < Lib.len8tab.size) : ((Lib.len8tab[i.toNat].toNat : Nat) : Int) = Lib.len8 i := by
  unfold Lib.len8
  rw [ByteArray.getElem?_lt' _ _ h]
  rfl

theorem len_step (b : Nat) (x q : Int) (hq : q.toNat < Lib.len8tab.size) (h0 : 0 ≤ q) (h1 : q ≤ 255) (_hb : b ≤ 63) (he : q.toNat = x.toNat / 2 ^ b) (hx : 2 ^ b ≤ x.toNat) (hx2 : x.toNat < 2 ^ 64) :
    (b : Int) + ((Lib.len8tab[q.toNat].toNat : Nat) : Int) = (Lib.bitLen x.toNat : Int) ∧ Lib.bitLen x.toNat ≤ 64 := by
  have s := Lib.bitLen_shift b x.toNat hx hx2
  have l := Lib.bitLen_le x.toNat 64 (by omega) hx2
  rw [tab_get, Lib.len8_of q h0 h1, he]
  omega

theorem len_base (x : Int) (hq : x.toNat < Lib.len8tab.size) (h0 : 0 ≤ x) (h1 : x ≤ 255) : ((Lib.len8tab[x.toNat].toNat : Nat) : Int) = (Lib.bitLen x.toNat : Int) ∧ Lib.bitLen x.toNat ≤ 64 := by
  have l := Lib.bitLen_le8' x h0 h1
  rw [tab_get, Lib.len8_of x h0 h1]
  omega

set_option maxHeartbeats 4000000 in
set_option maxRecDepth 100000 in
theorem len64_any (x : Int) (w : World) (h0 : 0 ≤ x) (h1 : x ≤ 18446744073709551615) :
    Calls Tryz.prog 280 #[.int .u64 x] w fun e w' => e = .returned (.int .i64 (Lib.bitLen x.toNat)) ∧ w = w' := by
  go_enter Tryz.func280, Tryz.ntmps280
  go_wp2
  all_goals first
    | (go_ret; refine ⟨congrArg Ending.returned (congrArg (Value.int IntKind.i64) ?_), rfl⟩; simp only [wrap64])
    | (exfalso; have hs := Lib.len8tab_size; omega)
  all_goals have hs := Lib.len8tab_size
  all_goals first
    | (have := len_step 56 x (x / 4294967296 / 65536 / 256) (by omega) (by omega) (by omega) (by omega) (by omega) (by omega) (by omega); omega)
    | (have := len_step 48 x (x / 4294967296 / 65536) (by omega) (by omega) (by omega) (by omega) (by omega) (by omega) (by omega); omega)
    | (have := len_step 40 x (x / 4294967296 / 256) (by omega) (by omega) (by omega) (by omega) (by omega) (by omega) (by omega); omega)
    | (have := len_step 32 x (x / 4294967296) (by omega) (by omega) (by omega) (by omega) (by omega) (by omega) (by omega); omega)
    | (have := len_step 24 x (x / 65536 / 256) (by omega) (by omega) (by omega) (by omega) (by omega) (by omega) (by omega); omega)
    | (have := len_step 16 x (x / 65536) (by omega) (by omega) (by omega) (by omega) (by omega) (by omega) (by omega); omega)
    | (have := len_step 8 x (x / 256) (by omega) (by omega) (by omega) (by omega) (by omega) (by omega) (by omega); omega)
    | (have := len_base x (by omega) (by omega) (by omega); omega)

theorem two_256 (k : Nat) : (256 : Nat) ^ k = 2 ^ (8 * k) := by rw [show (256 : Nat) = 2 ^ 8 from rfl, ← Nat.pow_mul]

theorem bitLen_digs {n : Nat} (h : n < 18446744073709551616) : (Lib.bitLen n + 7) / 8 = (digs n).length ∧ Lib.bitLen n ≤ 64 := by
  have hl := Lib.bitLen_le n 64 (by omega) (by simpa using h)
  have h8 := digs_len8 h
  have up : n < 256 ^ (digs n).length := by
    rcases Nat.lt_or_ge n (256 ^ (digs n).length) with h | h
    · exact h
    · have := digs_len_ge _ _ h; omega
  by_cases h0 : n = 0
  · subst h0; rw [digs_zero]; refine ⟨?_, hl⟩; decide
  · have lo : 256 ^ ((digs n).length - 1) ≤ n := by
      rcases Nat.lt_or_ge n (256 ^ ((digs n).length - 1)) with h | h
      · have := digs_len_lt _ _ h
        have h1 : 0 < (digs n).length := by rw [digs_pos h0]; simp
        omega
      · exact h
    have h1 : 0 < (digs n).length := by rw [digs_pos h0]; simp
    have b := Lib.bitLenAux_bounds 64 n (by simpa using h) h0
    have u := Lib.bitLen_le n (8 * (digs n).length) (by omega) (by rw [← two_256]; exact up)
    have e : Lib.bitLenAux 64 n = Lib.bitLen n := rfl
    rw [e] at b
    have : 8 * ((digs n).length - 1) < Lib.bitLen n := by
      rcases Nat.lt_or_ge (8 * ((digs n).length - 1)) (Lib.bitLen n) with h | h
      · exact h
      · have := Nat.pow_le_pow_right (show 0 < 2 by omega) h
        rw [← two_256] at this
        omega
    omega

theorem width_any (n : Nat) (h : n < 18446744073709551616) (w : World) :
    Calls Tryz.prog 197 #[.int .u64 (n : Int)] w fun e w' => e = .returned (.int .i64 ((digs n).length : Nat)) ∧ w = w' := by
  have hb := bitLen_digs h
  obtain ⟨B, hB⟩ : ∃ B, B = Lib.bitLen n := ⟨_, rfl⟩
  obtain ⟨L, hL⟩ : ∃ L, L = (digs n).length := ⟨_, rfl⟩
  rw [← hB, ← hL] at hb
  obtain ⟨hb1, hb2⟩ := hb
  rw [← hL]
  have HB := Lib.hid hB; clear hB
  have HL := Lib.hid hL; clear hL
  have H1 := Lib.hid hb1; clear hb1
  have c : ∀ w, Calls Tryz.prog 280 #[.int .u64 (n : Int)] w fun e w' => e = .returned (.int .i64 (B : Int)) ∧ w = w' := fun w => by
    have := len64_any (n : Int) w (by omega) (by omega)
    rw [Int.toNat_natCast, ← HB.out] at this
    exact this
  have C := Lib.hid c; clear c
  go_enter Tryz.func197, Tryz.ntmps197
  go_wp2_with (go_at_call 280; refine (C.out _).mono ?_; rintro e w' ⟨rfl, rfl⟩)
  go_ret
  refine ⟨congrArg Ending.returned (congrArg (Value.int IntKind.i64) ?_), rfl⟩
  have := H1.out
  omega
end Go.Proofs.YtjgojgmgicpgaaaGreat
