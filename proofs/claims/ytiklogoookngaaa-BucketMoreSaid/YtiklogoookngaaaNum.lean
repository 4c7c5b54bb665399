/- The plain mathematics of the encoding of numbers: digits to the base 256, the number that digits have, and that the two undo each other. -/
import Derived.WalkKit
namespace Go.Proofs.Ytiklogoookngaaa
open Go.RowKit

/-- The digits of n to the base 256, the highest one first. -/
def digs (n : Nat) : List UInt8 := if _h : n = 0 then [] else digs (n / 256) ++ [UInt8.ofNat n]
  termination_by n
  decreasing_by omega

/-- The encoding of a number. -/
def enc (n : Nat) : List UInt8 := UInt8.ofNat (digs n).length :: digs n

/-- The number whose digits these are. -/
def val (l : List UInt8) : Nat := l.foldl (fun a b => a * 256 + b.toNat) 0

theorem digs_zero : digs 0 = [] := by unfold digs; simp
theorem digs_pos {n : Nat} (h : n ≠ 0) : digs n = digs (n / 256) ++ [UInt8.ofNat n] := by rw [digs]; simp [h]
theorem val_nil : val [] = 0 := rfl
theorem val_snoc (l : List UInt8) (b : UInt8) : val (l ++ [b]) = val l * 256 + b.toNat := by simp [val, List.foldl_append]
theorem u8_toNat (n : Nat) : (UInt8.ofNat n).toNat = n % 256 := by simp

theorem val_digs (n : Nat) : val (digs n) = n := by
  induction n using Nat.strongRecOn with
  | _ n ih =>
    by_cases h : n = 0
    · subst h; rw [digs_zero]; rfl
    · rw [digs_pos h, val_snoc, ih (n / 256) (by omega), u8_toNat]; omega

theorem digs_len_lt (k : Nat) : ∀ n, n < 256 ^ k → (digs n).length ≤ k := by
  induction k with
  | zero => intro n h; have : n = 0 := by simpa using h
            subst this; rw [digs_zero]; simp
  | succ k ih =>
    intro n h
    by_cases h0 : n = 0
    · subst h0; rw [digs_zero]; simp
    · rw [digs_pos h0]
      have := ih (n / 256) (by rw [Nat.pow_succ] at h; omega)
      simp; omega

theorem digs_len_ge (k : Nat) : ∀ n, 256 ^ k ≤ n → k + 1 ≤ (digs n).length := by
  induction k with
  | zero => intro n h; have h0 : n ≠ 0 := by simp at h; omega
            rw [digs_pos h0]; simp
  | succ k ih =>
    intro n h
    have hp : 0 < 256 ^ k := Nat.pow_pos (by omega)
    rw [Nat.pow_succ] at h
    have h0 : n ≠ 0 := by omega
    rw [digs_pos h0]
    have := ih (n / 256) (by omega)
    simp; omega

theorem digs_len8 {n : Nat} (h : n < 18446744073709551616) : (digs n).length ≤ 8 := digs_len_lt 8 n (by simpa using h)

/-- The i-th digit from the end. -/
theorem digs_get (n : Nat) : ∀ k, k < (digs n).length → (digs n)[(digs n).length - 1 - k]? = some (UInt8.ofNat (n / 256 ^ k)) := by
  induction n using Nat.strongRecOn with
  | _ n ih =>
    intro k hk
    by_cases h : n = 0
    · subst h; rw [digs_zero] at hk; simp at hk
    · rw [digs_pos h] at hk ⊢
      simp only [List.length_append, List.length_singleton] at hk ⊢
      cases k with
      | zero => simp
      | succ k =>
        have := ih (n / 256) (by omega) k (by omega)
        rw [List.getElem?_append_left (by omega), show (digs (n / 256)).length + 1 - 1 - (k + 1) = (digs (n / 256)).length - 1 - k by omega, this,
          Nat.div_div_eq_div_mul, Nat.pow_succ, Nat.mul_comm 256]

theorem digs_head_ne {n : Nat} : ∀ (h : 0 < (digs n).length), (digs n)[0] ≠ 0 := by
  induction n using Nat.strongRecOn with
  | _ n ih =>
    intro h
    by_cases h0 : n = 0
    · subst h0; rw [digs_zero] at h; simp at h
    · by_cases h1 : n / 256 = 0
      · have e : digs n = [UInt8.ofNat n] := by rw [digs_pos h0, h1, digs_zero]; rfl
        simp only [e]
        simp
        intro hh
        have := congrArg UInt8.toNat hh
        simp at this
        omega
      · have e := digs_pos h0
        have hl : 0 < (digs (n / 256)).length := by rw [digs_pos h1]; simp
        have := ih (n / 256) (by omega) hl
        simp only [e]
        rw [List.getElem_append_left hl]
        exact this

theorem snoc_ind {P : List UInt8 → Prop} (h0 : P []) (h1 : ∀ l b, P l → P (l ++ [b])) : ∀ l, P l := fun l => by
  rw [← List.reverse_reverse l]
  induction l.reverse with
  | nil => exact h0
  | cons a t ih => rw [List.reverse_cons]; exact h1 _ _ ih

theorem val_lt (l : List UInt8) : val l < 256 ^ l.length := by
  induction l using snoc_ind with
  | h0 => simp [val]
  | h1 l b ih =>
    rw [val_snoc]
    have := b.toNat_lt
    simp only [List.length_append, List.length_singleton, Nat.pow_succ]
    omega

theorem digs_val (l : List UInt8) (h : ∀ hl : 0 < l.length, l[0] ≠ 0) : digs (val l) = l := by
  induction l using snoc_ind with
  | h0 => rw [val_nil, digs_zero]
  | h1 l b ih =>
    rw [val_snoc]
    have hb := b.toNat_lt
    have ih' : digs (val l) = l := ih fun hl => by
      have := h (by simp)
      rwa [List.getElem_append_left hl] at this
    have hne : val l * 256 + b.toNat ≠ 0 := by
      intro h0
      have h1 : val l = 0 := by omega
      have h2 : b.toNat = 0 := by omega
      rw [h1, digs_zero] at ih'
      subst ih'
      have := h (by simp)
      apply this
      simp
      exact UInt8.toNat_inj.1 (by simpa using h2)
    rw [digs_pos hne, show (val l * 256 + b.toNat) / 256 = val l by omega, ih']
    congr 1
    simp

theorem enc_length (n : Nat) : (enc n).length = (digs n).length + 1 := by simp [enc]

/-- One digit more of what has been written. -/
theorem digs_take_succ {n left : Nat} (h : 0 < left) (hl : left ≤ (digs n).length) :
    (digs n).take ((digs n).length - (left - 1)) = (digs n).take ((digs n).length - left) ++ [UInt8.ofNat (n / 256 ^ (left - 1))] := by
  have hg := digs_get n (left - 1) (by omega)
  rw [show (digs n).length - (left - 1) = ((digs n).length - left) + 1 by omega, List.take_add_one, show (digs n).length - left = (digs n).length - 1 - (left - 1) by omega, hg]
  rfl
end Go.Proofs.Ytiklogoookngaaa
