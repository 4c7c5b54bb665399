/- The width of a number: what the library's Len64 tells, and that seven more by eight is how many digits to the base 256 the number has. Condition: the number is a uint64. -/
import Derived.Test.YtiklogoookngaaaProg
import Derived.Test.YtiklogoookngaaaNum
import Derived.WalkKit
import Derived.WalkSpells
import Derived.WalkLawsBesides
import Derived.Lib.BitFns
import Derived.Lib.ItoaNum
import Derived.Lib.Hide
namespace Go.Proofs.Ytiklogoookngaaa
open Go.RowKit

theorem tab_get (i : Int) (h : i.toNat < Lib.len8tab.size) : ((Lib.len8tab[i.toNat].toNat : Nat) : Int) = Lib.len8 i := by
  unfold Lib.len8
  rw [ByteArray.getElem?_lt' _ _ h]
  rfl

theorem len_step (b : Nat) (x q : Int) (hq : q.toNat < Lib.len8tab.size) (h0 : 0 ≤ q) (h1 : q ≤ 255) (_hb : b ≤ 63) (he : q.toNat = x.toNat / 2 ^ b) (hx : 2 ^ b ≤ x.toNat) (hx2 : x.toNat < 2 ^ 64) :
    (b : Int) + ((Lib.len8tab[q.toNat].toNat : Nat) : Int) = (Lib.bitLen x.toNat : Int) ∧ Lib.bitLen x.toNat ≤ 64 := by
  have s := Lib.bitLen_shift b x.toNat hx hx2
  have l := Lib.bitLen_le x.toNat 64 (by omega) hx2
  rw [tab_get, Lib.len8_of q h0 h1, he]
  omega

theorem len_base (x : Int) (hq : x.toNat < Lib.len8tab.size) (h0 : 0 ≤ x) (h1 : x ≤ 255) : ((Lib.len8tab[x.toNat].toNat : Nat) : Int) = (Lib.bitLen x.toNat : Int) ∧ Lib.bitLen x.toNat ≤ 64 := by
  have l := Lib.bitLen_le8' x h0 h1
  rw [tab_get, Lib.len8_of x h0 h1]
  omega

set_option maxHeartbeats 4000000 in
set_option maxRecDepth 100000 in
theorem len64_any (x : Int) (w : World) (h0 : 0 ≤ x) (h1 : x ≤ 18446744073709551615) :
    Calls Try.prog 28 #[.int .u64 x] w fun e w' => e = .returned (.int .i64 (Lib.bitLen x.toNat)) ∧ w = w' := by
  go_enter Try.func28, Try.ntmps28
  go_wp2
  all_goals first
    | (go_ret; refine ⟨congrArg Ending.returned (congrArg (Value.int IntKind.i64) ?_), rfl⟩; simp only [wrap64])
    | (exfalso; have hs := Lib.len8tab_size; omega)
  all_goals have hs := Lib.len8tab_size
  all_goals first
    | (have := len_step 56 x (x / 4294967296 / 65536 / 256) (by omega) (by omega) (by omega) (by omega) (by omega) (by omega) (by omega); omega)
    | (have := len_step 48 x (x / 4294967296 / 65536) (by omega) (by omega) (by omega) (by omega) (by omega) (by omega) (by omega); omega)
    | (have := len_step 40 x (x / 4294967296 / 256) (by omega) (by omega) (by omega) (by omega) (by omega) (by omega) (by omega); omega)
    | (have := len_step 32 x (x / 4294967296) (by omega) (by omega) (by omega) (by omega) (by omega) (by omega) (by omega); omega)
    | (have := len_step 24 x (x / 65536 / 256) (by omega) (by omega) (by omega) (by omega) (by omega) (by omega) (by omega); omega)
    | (have := len_step 16 x (x / 65536) (by omega) (by omega) (by omega) (by omega) (by omega) (by omega) (by omega); omega)
    | (have := len_step 8 x (x / 256) (by omega) (by omega) (by omega) (by omega) (by omega) (by omega) (by omega); omega)
    | (have := len_base x (by omega) (by omega) (by omega); omega)

theorem two_256 (k : Nat) : (256 : Nat) ^ k = 2 ^ (8 * k) := by rw [show (256 : Nat) = 2 ^ 8 from rfl, ← Nat.pow_mul]

theorem bitLen_digs {n : Nat} (h : n < 18446744073709551616) : (Lib.bitLen n + 7) / 8 = (digs n).length ∧ Lib.bitLen n ≤ 64 := by
  have hl := Lib.bitLen_le n 64 (by omega) (by simpa using h)
  have h8 := digs_len8 h
  have up : n < 256 ^ (digs n).length := by
    rcases Nat.lt_or_ge n (256 ^ (digs n).length) with h | h
    · exact h
    · have := digs_len_ge _ _ h; omega
  by_cases h0 : n = 0
  · subst h0; rw [digs_zero]; refine ⟨?_, hl⟩; decide
  · have lo : 256 ^ ((digs n).length - 1) ≤ n := by
      rcases Nat.lt_or_ge n (256 ^ ((digs n).length - 1)) with h | h
      · have := digs_len_lt _ _ h
        have h1 : 0 < (digs n).length := by rw [digs_pos h0]; simp
        omega
      · exact h
    have h1 : 0 < (digs n).length := by rw [digs_pos h0]; simp
    have b := Lib.bitLenAux_bounds 64 n (by simpa using h) h0
    have u := Lib.bitLen_le n (8 * (digs n).length) (by omega) (by rw [← two_256]; exact up)
    have e : Lib.bitLenAux 64 n = Lib.bitLen n := rfl
    rw [e] at b
    have : 8 * ((digs n).length - 1) < Lib.bitLen n := by
      rcases Nat.lt_or_ge (8 * ((digs n).length - 1)) (Lib.bitLen n) with h | h
      · exact h
      · have := Nat.pow_le_pow_right (show 0 < 2 by omega) h
        rw [← two_256] at this
        omega
    omega

end Go.Proofs.Ytiklogoookngaaa
