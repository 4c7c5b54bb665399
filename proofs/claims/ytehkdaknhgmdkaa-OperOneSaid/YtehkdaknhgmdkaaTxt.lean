/- The contract of pack.TakeText: what it returns of any bytes at any offset, said as a plain function. Condition: the slice is one that Go can have, the two numbers are ints. -/
import Derived.Test.YtehkdaknhgmdkaaTak
namespace Go.Proofs.Ytehkdaknhgmdkaa
open Go.RowKit

/-- What TakeText returns: the string's bytes, the offset after it, the error. -/
def textP (l : List UInt8) (at_ most : Int) : List UInt8 × Int × Int :=
  if most < 0 then ([], 0, 1)
  else if (takeP l at_).2.2 ≠ 0 then ([], 0, (takeP l at_).2.2)
  else if most < (takeP l at_).1 then ([], 0, 4)
  else if (l.length : Int) - (takeP l at_).2.1 < (takeP l at_).1 then ([], 0, 2)
  else ((l.drop (takeP l at_).2.1.toNat).take (takeP l at_).1, (takeP l at_).2.1 + (takeP l at_).1, 0)

/-- A string and two numbers as a call returns them. -/
def retT (k : IntKind) (r : List UInt8 × Int × Int) : Ending := .returned (.tuple #[.string ⟨r.1.toArray⟩, .int .i64 r.2.1, .int k r.2.2])

/-- A number that was taken: it is a uint64, and lies within the bytes. -/
theorem takeP_ok {l : List UInt8} {at_ : Int} (h : (takeP l at_).2.2 = 0) :
    0 ≤ at_ ∧ at_ < (l.length : Int) ∧ at_ < (takeP l at_).2.1 ∧ (takeP l at_).2.1 ≤ (l.length : Int) ∧ (takeP l at_).1 < 18446744073709551616 := by
  by_cases h1 : at_ < 0 ∨ (l.length : Int) < at_
  · rw [takeP_out h1] at h; cases h
  · obtain ⟨p, rfl⟩ : ∃ p : Nat, at_ = p := ⟨at_.toNat, by omega⟩
    by_cases h2 : p = l.length
    · rw [takeP_end h2.symm] at h; cases h
    · have hp : p < l.length := by omega
      rw [takeP_in hp] at h ⊢
      by_cases c1 : 8 < l[p].toNat
      · rw [if_pos c1] at h; cases h
      · rw [if_neg c1] at h ⊢
        by_cases c2 : l.length - (p + 1) < l[p].toNat
        · rw [if_pos c2] at h; cases h
        · rw [if_neg c2] at h ⊢
          by_cases c3 : 0 < l[p].toNat ∧ l[p + 1]? = some 0
          · rw [if_pos c3] at h; cases h
          · rw [if_neg c3]
            have hv := val_lt ((l.drop (p + 1)).take l[p].toNat)
            have h8 := Nat.pow_le_pow_right (show 0 < 256 by omega) (show ((l.drop (p + 1)).take l[p].toNat).length ≤ 8 by simp; omega)
            refine ⟨by omega, by omega, by simp only []; omega, by simp only []; omega, by simp only []; omega⟩

theorem takeP_no {l : List UInt8} {at_ : Int} (h : (takeP l at_).2.2 ≠ 0) : (takeP l at_).1 = 0 ∧ (takeP l at_).2.1 = 0 := by
  by_cases h1 : at_ < 0 ∨ (l.length : Int) < at_
  · rw [takeP_out h1]; exact ⟨rfl, rfl⟩
  · obtain ⟨p, rfl⟩ : ∃ p : Nat, at_ = p := ⟨at_.toNat, by omega⟩
    by_cases h2 : p = l.length
    · rw [takeP_end h2.symm]; exact ⟨rfl, rfl⟩
    · have hp : p < l.length := by omega
      rw [takeP_in hp] at h ⊢
      by_cases c1 : 8 < l[p].toNat
      · rw [if_pos c1]; exact ⟨rfl, rfl⟩
      · rw [if_neg c1] at h ⊢
        by_cases c2 : l.length - (p + 1) < l[p].toNat
        · rw [if_pos c2]; exact ⟨rfl, rfl⟩
        · rw [if_neg c2] at h ⊢
          by_cases c3 : 0 < l[p].toNat ∧ l[p + 1]? = some 0
          · rw [if_pos c3]; exact ⟨rfl, rfl⟩
          · rw [if_neg c3] at h; exact absurd rfl h

set_option maxHeartbeats 400000 in
theorem takeText_any (A : Option Addr) (c n : Nat) (at_ most : Int) (l : List UInt8) (w : World) (hn : Hid (n = l.length)) (hr : Hid (Rd w A l)) (hc : n ≤ c) (hc2 : c ≤ 9223372036854775807) (hm : most ≤ 9223372036854775807) :
    Calls Try.prog 94 #[.slice A n c, .int .i64 at_, .int .i64 most] w fun e w' => e = retT .i64 (textP l at_ most) ∧ Below w.heap.size w w' := by
  by_cases m0 : most < 0
  · have ht : textP l at_ most = ([], 0, 1) := by unfold textP; rw [if_pos m0]
    rw [ht]; clear ht
    go_enter Try.func94, Try.ntmps94
    go_wp2_with fail
    go_ret3
    exact ⟨rfl, Below.refl _ _⟩
  have m1 : 0 ≤ most := by omega
  have hcall := fun W (h : Rd W A l) => take_any A c n at_ l W hn h hc hc2
  unfold ret3 at hcall
  have hok := @takeP_ok l at_
  have hT : textP l at_ most = if (takeP l at_).2.2 ≠ 0 then ([], 0, (takeP l at_).2.2)
      else if most < (takeP l at_).1 then ([], 0, 4)
      else if (l.length : Int) - (takeP l at_).2.1 < (takeP l at_).1 then ([], 0, 2)
      else ((l.drop (takeP l at_).2.1.toNat).take (takeP l at_).1, (takeP l at_).2.1 + (takeP l at_).1, 0) := by unfold textP; rw [if_neg m0]
  generalize takeP l at_ = r at hcall hok hT
  obtain ⟨a, b, f⟩ := r
  simp only [] at hcall hok hT
  rw [hT]; clear hT
  rw [← hn.out] at hok ⊢
  have HC := Lib.hid hcall; clear hcall
  by_cases f0 : f = 0
  · subst f0
    obtain ⟨k1, k2, k3, k4, k5⟩ := hok rfl
    clear hok
    obtain ⟨b', rfl⟩ : ∃ b' : Nat, b = b' := ⟨b.toNat, by omega⟩
    rw [if_neg (by omega)]
    by_cases c1 : most < (a : Int)
    · rw [if_pos c1]
      go_enter Try.func94, Try.ntmps94
      go_wp2_with (go_at_call 71; refine (HC.out _ hr.out).mono ?_; rintro e w1 ⟨rfl, hb1⟩)
      go_ret3
      exact ⟨rfl, hb1⟩
    rw [if_neg c1]
    by_cases c2 : (n : Int) - (b' : Int) < (a : Int)
    · rw [if_pos c2]
      go_enter Try.func94, Try.ntmps94
      go_wp2_with (go_at_call 71; refine (HC.out _ hr.out).mono ?_; rintro e w1 ⟨rfl, hb1⟩)
      go_ret3
      exact ⟨rfl, hb1⟩
    rw [if_neg c2]
    obtain ⟨g, o, rfl, _⟩ := hr.out at_.toNat (l[at_.toNat]'(by have := hn.out; omega)) (List.getElem?_eq_getElem _)
    have HR : Hid (Rd w (if c = b' then some ⟨g, o, none⟩ else some ⟨g, o + b', none⟩) ((l.drop b').take a)) := by
      have := (hr.out.drop (k := b') (c := c) (by have := hn.out; omega)).take a
      unfold Hid
      simpa [Addr.add_lit] using this
    have HL : Hid (a = ((l.drop b').take a).length) := by unfold Hid; have := hn.out; simp; omega
    have e3 : (b' : Int).toNat = b' := by omega
    go_enter Try.func94, Try.ntmps94
    go_wp2_with (go_at_call 71; refine (HC.out _ hr.out).mono ?_; rintro e w1 ⟨rfl, hb1⟩; have hcv := fun cc => run_str_rd (P := Try.prog) w1 (src := 35) (dst := 9) (c := cc) Try.underlying35 Try.underlying5 Try.underlying9 HL.out (HR.out.below hb1))
    all_goals go_ret3
    all_goals exact ⟨rfl, hb1⟩
  · rw [if_pos f0]
    have f0' : (f == 0) = false := by simpa using f0
    have f0'' : (f != 0) = true := by simpa using f0
    clear hok
    go_enter Try.func94, Try.ntmps94
    go_wp2_with (go_at_call 71; refine (HC.out _ hr.out).mono ?_; rintro e w1 ⟨rfl, hb1⟩)
    go_ret3
    exact ⟨rfl, hb1⟩
end Go.Proofs.Ytehkdaknhgmdkaa
