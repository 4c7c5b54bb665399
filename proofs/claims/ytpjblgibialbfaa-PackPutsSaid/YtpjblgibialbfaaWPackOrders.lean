/- The walk of PackOrders: encodings of numbers are ordered as the numbers are. Conditions: two uint64. -/
import Derived.Test.YtpjblgibialbfaaAwk
import Derived.Deep.RegionWith
namespace Go.Proofs.Ytpjblgibialbfaa.packOrders
open Go.RowKit

theorem u64_bd {a : Int} (h : (Lit.int .u64 a).wf = true) : 0 ≤ a ∧ a ≤ 18446744073709551615 := by simpa [Lit.wf, IntKind.min, IntKind.max, IntKind.signed, IntKind.bits] using h

theorem val_cons (a : UInt8) (l : List UInt8) : val (a :: l) = a.toNat * 256 ^ l.length + val l := by
  induction l using snoc_ind with
  | h0 => simp [val]
  | h1 l b ih =>
    rw [show a :: (l ++ [b]) = (a :: l) ++ [b] from rfl, val_snoc, val_snoc, ih, List.length_append, List.length_singleton, Nat.pow_succ, Nat.add_mul, Nat.mul_assoc, Nat.add_assoc]

theorem less_val : ∀ l m : List UInt8, l.length = m.length → Op.bytesLess l m = decide (val l < val m)
  | [], [], _ => by simp [Op.bytesLess, val]
  | a :: l, b :: m, h => by
    have h' : l.length = m.length := by simpa using h
    have hl := val_lt l
    have hm := val_lt m
    rw [← h'] at hm
    simp only [Op.bytesLess]
    rw [less_val l m h', val_cons, val_cons, ← h']
    rcases Nat.lt_trichotomy a.toNat b.toNat with c | c | c
    · have h1 : a < b := UInt8.lt_iff_toNat_lt.2 c
      have h2 : a.toNat * 256 ^ l.length + val l < b.toNat * 256 ^ l.length + val m := by
        have h3 : (a.toNat + 1) * 256 ^ l.length ≤ b.toNat * 256 ^ l.length := Nat.mul_le_mul_right _ c
        rw [Nat.add_mul] at h3
        omega
      simp [h1, h2]
    · have h1 : a = b := UInt8.toNat_inj.1 c
      subst h1
      simp
    · have h1 : ¬ a < b := by rw [UInt8.lt_iff_toNat_lt]; omega
      have h0 : a ≠ b := by intro e; subst e; omega
      have h2 : ¬ a.toNat * 256 ^ l.length + val l < b.toNat * 256 ^ l.length + val m := by
        have h3 : (b.toNat + 1) * 256 ^ l.length ≤ a.toNat * 256 ^ l.length := Nat.mul_le_mul_right _ c
        rw [Nat.add_mul] at h3
        omega
      have h4 : (a == b) = false := by simpa using h0
      simp [h1, h2, h4]
  | [], _ :: _, h => by simp at h
  | _ :: _, [], h => by simp at h

theorem enc_less {n m : Nat} (hn : n < 18446744073709551616) (hm : m < 18446744073709551616) : Op.bytesLess (enc n) (enc m) = decide (n < m) := by
  have ln := digs_len8 hn
  have lm := digs_len8 hm
  by_cases h : (digs n).length = (digs m).length
  · rw [less_val _ _ (by simp [enc, h])]
    unfold enc
    rw [val_cons, val_cons, val_digs, val_digs, h]
    simp
  · unfold enc
    simp only [Op.bytesLess]
    have e1 : (UInt8.ofNat (digs n).length).toNat = (digs n).length := by simp; omega
    have e2 : (UInt8.ofNat (digs m).length).toNat = (digs m).length := by simp; omega
    have ne : (UInt8.ofNat (digs n).length == UInt8.ofNat (digs m).length) = false := by
      simp only [beq_eq_false_iff_ne, ne_eq]
      intro e
      have := congrArg UInt8.toNat e
      omega
    rw [ne]
    have un : n < 256 ^ (digs n).length := by
      rcases Nat.lt_or_ge n (256 ^ (digs n).length) with h | h
      · exact h
      · have := digs_len_ge _ _ h; omega
    have um : m < 256 ^ (digs m).length := by
      rcases Nat.lt_or_ge m (256 ^ (digs m).length) with h | h
      · exact h
      · have := digs_len_ge _ _ h; omega
    rcases Nat.lt_or_gt_of_ne h with c | c
    · have h1 : UInt8.ofNat (digs n).length < UInt8.ofNat (digs m).length := UInt8.lt_iff_toNat_lt.2 (by omega)
      have h2 : n < m := by
        rcases Nat.lt_or_ge n m with h | h
        · exact h
        · have := digs_len_lt _ _ (show m < 256 ^ (digs n).length by omega)
          omega
      simp [h1, h2]
    · have h1 : ¬ UInt8.ofNat (digs n).length < UInt8.ofNat (digs m).length := by rw [UInt8.lt_iff_toNat_lt]; omega
      have h2 : ¬ n < m := by
        intro h
        have := digs_len_lt _ _ (show n < 256 ^ (digs m).length by omega)
        omega
      simp [h1, h2]

theorem enc_eq (n m : Nat) : (enc n == enc m) = ((n : Int) == (m : Int)) := by
  rw [Bool.eq_iff_iff]
  simp only [beq_iff_eq]
  constructor
  · intro h
    have h1 : digs n = digs m := by unfold enc at h; exact (List.cons.inj h).2
    have h2 := congrArg val h1
    rw [val_digs, val_digs] at h2
    omega
  · intro h
    rw [show n = m by omega]

set_option maxHeartbeats 1000000 in
theorem walk (a0 : Int) (a1 : Int) (w : World) (w0 : (Lit.int .u64 a0).wf = true) (w1 : (Lit.int .u64 a1).wf = true) :
    Calls Try.prog 7 #[.int .u64 a0, .int .u64 a1] w fun e w' => e = .returned (.bool true) ∧ Below w.heap.size w w' := by
  have d0 := u64_bd w0
  have d1 := u64_bd w1
  obtain ⟨n, rfl⟩ : ∃ n : Nat, a0 = n := ⟨a0.toNat, by omega⟩
  obtain ⟨m, rfl⟩ : ∃ m : Nat, a1 = m := ⟨a1.toNat, by omega⟩
  clear w0 w1
  obtain ⟨N, hN⟩ : ∃ N, N = (enc n).length := ⟨_, rfl⟩
  obtain ⟨M, hM⟩ : ∃ M, M = (enc m).length := ⟨_, rfl⟩
  have pn := fun W => put_any none 0 0 n N [] W (by omega) rfl hN (Rd.nil _ _) (by decide)
  have pm := fun W => put_any none 0 0 m M [] W (by omega) rfl hM (Rd.nil _ _) (by decide)
  simp only [List.nil_append] at pn pm
  have PN := Lib.hid pn; clear pn
  have PM := Lib.hid pm; clear pm
  have HN := Lib.hid hN; clear hN
  have HM := Lib.hid hM; clear hM
  go_enter Try.func7, Try.ntmps7
  go_wp2_with (first
    | (go_at_call 9; refine (awake_any _).mono ?_; rintro e w1 ⟨rfl, hb1⟩))
  go_region_with (first
    | (go_at_call_of 10 (Value.int .u64 (n : Int)); refine (PN.out _).mono ?_; rintro e w2 ⟨g2, c2, rfl, ho2, hb2⟩; have q2 := run_str_rd (P := Try.prog) w2 (src := 24) (dst := 9) (c := c2) Try.underlying24 Try.underlying5 Try.underlying9 HN.out ho2.rd)
    | (go_at_call_of 10 (Value.int .u64 (m : Int)); refine (PM.out _).mono ?_; rintro e w3 ⟨g3, c3, rfl, ho3, hb3⟩; have q3 := run_str_rd (P := Try.prog) w3 (src := 24) (dst := 9) (c := c3) Try.underlying24 Try.underlying5 Try.underlying9 HM.out ho3.rd; have q4 := run_str_rd (P := Try.prog) w3 (src := 24) (dst := 9) (c := c2) Try.underlying24 Try.underlying5 Try.underlying9 HN.out (ho2.rd.below hb3)))
  all_goals have k1 := enc_less (n := n) (m := m) (by omega) (by omega)
  all_goals have k2 := enc_eq n m
  all_goals go_wp2
  all_goals go_ret
  all_goals refine ⟨by simp, ?_⟩
  all_goals have z1 := hb1.size
  all_goals have z2 := hb2.size
  all_goals exact (hb1.drew.trans (hb2.mono (by exact z1))).trans (hb3.mono (by exact Nat.le_trans z1 z2))
end Go.Proofs.Ytpjblgibialbfaa.packOrders
