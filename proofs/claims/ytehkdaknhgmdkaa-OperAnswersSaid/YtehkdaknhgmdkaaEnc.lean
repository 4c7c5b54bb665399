/- What the program writes: the contracts of putNumber, putVector, putLabels. Conditions: numbers that are not negative; few, short labels; short beginnings. -/
import Derived.Test.YtehkdaknhgmdkaaCat
import Derived.Test.YtehkdaknhgmdkaaPut
import Derived.Test.YtehkdaknhgmdkaaMod
import Derived.Deep.RegionWith
namespace Go.Proofs.Ytehkdaknhgmdkaa
open Go.RowKit
set_option linter.unusedSimpArgs false
set_option linter.unusedVariables false

/-- The encoding of an amount. -/
def vecEnc (a b c : Nat) : List UInt8 := enc a ++ (enc b ++ enc c)
/-- The encoding of a label, of labels. -/
def lbEnc (x : Lb) : List UInt8 := encT x.1 ++ encT x.2
def labEnc (l : List Lb) : List UInt8 := enc l.length ++ l.flatMap lbEnc

theorem enc_le {n : Nat} (h : n < 18446744073709551616) : 1 ≤ (enc n).length ∧ (enc n).length ≤ 9 := by
  have := digs_len8 h; rw [enc_length]; omega
theorem encT_le {s : ByteArray} (h : s.size ≤ 16) : 1 ≤ (encT s).length ∧ (encT s).length ≤ 25 := by
  have := enc_le (n := s.size) (by omega)
  rw [encT, List.length_append, str_len]; omega

/-- A call has returned a slice of N bytes that reads as l; what there was has not changed. -/
def Got (w : World) (N : Nat) (l : List UInt8) (e : Ending) (w' : World) : Prop :=
  ∃ A c, e = .returned (.slice A N c) ∧ Rd w' A l ∧ N ≤ c ∧ c ≤ 9223372036854775807 ∧ (A = none ∨ ∃ g, A = some ⟨g, 0, none⟩) ∧ Below w.heap.size w w'
theorem Made.got {w w' : World} {N : Nat} {l : List UInt8} {e : Ending} (hN : N = l.length) (h : Made w N l e w') : Got w N l e w' := by
  obtain ⟨g, cap, rfl, ho, hb⟩ := h
  have := ho.caps
  unfold maxLen at this
  exact ⟨_, _, rfl, ho.rd, by omega, by omega, .inr ⟨g, rfl⟩, hb⟩

set_option maxHeartbeats 800000 in
theorem putNumber_any (A : Option Addr) (c n k N : Nat) (l : List UInt8) (w : World) (hk : k < 9223372036854775808) (hn : Hid (n = l.length)) (hN : Hid (N = (l ++ enc k).length)) (hr : Hid (Rd w A l)) (hb : n ≤ 140737488355328) :
    Calls Try.prog 56 #[.slice A n c, .int .i64 (k : Int)] w (Got w N (l ++ enc k)) := by
  have hp := put_any A c n k N l w (by omega) hn hN hr hb
  have HP := Lib.hid hp
  clear hp
  go_enter Try.func56, Try.ntmps56
  go_wp2_with fail
  refine HP.out.mono ?_
  intro e w1 hm
  obtain ⟨A1, c1, rfl, g1, g2, g3, g4, hb1⟩ := hm.got hN.out
  clear hm
  go_wp2
  go_ret
  exact ⟨A1, c1, rfl, g1, g2, g3, g4, hb1⟩

set_option maxHeartbeats 1600000 in
theorem putVector_any (A : Option Addr) (cp n a b c N : Nat) (l : List UInt8) (w : World) (ha : a ≤ 1048576) (hb : b ≤ 1048576) (hc : c ≤ 1048576) (hn : Hid (n = l.length)) (hN : Hid (N = (l ++ vecEnc a b c).length)) (hr : Hid (Rd w A l)) (hs : n ≤ 100000) :
    Calls Try.prog 53 #[.slice A n cp, .agg #[.int .i64 (a : Int), .int .i64 (b : Int), .int .i64 (c : Int)]] w (Got w N (l ++ vecEnc a b c)) := by
  have i0 : ∀ w, (Instr.index 23 (.agg #[.int .i64 (a : Int), .int .i64 (b : Int), .int .i64 (c : Int)]) (.int .i64 0)).run Try.prog w = .ok (.int .i64 (a : Int)) w := fun _ => by kernel_rfl
  have i1 : ∀ w, (Instr.index 23 (.agg #[.int .i64 (a : Int), .int .i64 (b : Int), .int .i64 (c : Int)]) (.int .i64 1)).run Try.prog w = .ok (.int .i64 (b : Int)) w := fun _ => by kernel_rfl
  have i2 : ∀ w, (Instr.index 23 (.agg #[.int .i64 (a : Int), .int .i64 (b : Int), .int .i64 (c : Int)]) (.int .i64 2)).run Try.prog w = .ok (.int .i64 (c : Int)) w := fun _ => by kernel_rfl
  obtain ⟨N1, hN1⟩ : ∃ N1, N1 = (l ++ enc a).length := ⟨_, rfl⟩
  obtain ⟨N2, hN2⟩ : ∃ N2, N2 = (l ++ enc a ++ enc b).length := ⟨_, rfl⟩
  have e1 : N1 ≤ 100009 := by have := enc_le (n := a) (by omega); have := hn.out; rw [hN1, List.length_append]; omega
  have e2 : N2 ≤ 100018 := by have := enc_le (n := b) (by omega); rw [hN2, List.length_append, ← hN1]; omega
  have hN3 : Hid (N = (l ++ enc a ++ enc b ++ enc c).length) := by show _ = _; rw [hN.out]; simp [vecEnc]
  have heq : l ++ vecEnc a b c = l ++ enc a ++ enc b ++ enc c := by simp [vecEnc]
  rw [heq]
  clear heq
  have HN1 := Lib.hid hN1
  have HN2 := Lib.hid hN2
  clear hN1 hN2
  go_enter Try.func53, Try.ntmps53
  go_wp2_with fail
  refine wp_loop_rounds 4 ?_
  rw [rounds_succ]
  go_wp2_with fail
  refine (putNumber_any A cp n a N1 l _ (by omega) hn HN1 (hr.out.below (by exact (Below.refl _ _).alloc (Nat.le_refl _) _)) (by omega)).mono ?_
  rintro e w1 ⟨A1, c1, rfl, r1, p1, q1, _, hb1⟩
  have hB1 : Below w.heap.size w w1 := ((Below.refl _ _).alloc (Nat.le_refl _) _).trans (hb1.mono (by simp))
  go_wp2_with fail
  rw [rounds_succ]
  go_wp2_with fail
  refine (putNumber_any A1 c1 N1 b N2 (l ++ enc a) _ (by omega) HN1 HN2 (Lib.hid r1) (by omega)).mono ?_
  rintro e w2 ⟨A2, c2, rfl, r2, p2, q2, _, hb2⟩
  have hB2 : Below w.heap.size w w2 := hB1.trans (hb2.mono hB1.size)
  go_wp2_with fail
  rw [rounds_succ]
  go_wp2_with fail
  refine (putNumber_any A2 c2 N2 c N (l ++ enc a ++ enc b) _ (by omega) HN2 hN3 (Lib.hid r2) (by omega)).mono ?_
  rintro e w3 ⟨A3, c3, rfl, r3, p3, q3, x3, hb3⟩
  have hB3 : Below w.heap.size w w3 := hB2.trans (hb3.mono hB2.size)
  go_wp2_with fail
  rw [rounds_succ]
  go_wp2
  go_ret
  exact ⟨A3, c3, rfl, r3, p3, q3, x3, hB3⟩
end Go.Proofs.Ytehkdaknhgmdkaa
