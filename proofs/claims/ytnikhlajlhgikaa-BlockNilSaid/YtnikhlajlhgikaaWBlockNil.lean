/- The walk of BlockNil: a nil store keeps nothing. Condition: the text is one that Go can have. -/
import Derived.Test.YtnikhlajlhgikaaPln
import Derived.Test.YtnikhlajlhgikaaFwo
namespace Go.Proofs.Ytnikhlajlhgikaa
open Go.RowKit
set_option linter.unusedSimpArgs false
set_option linter.unusedVariables false

theorem write_nil (i : Int) (A : Option Addr) (n c : Nat) (w : World) : Calls Try.prog 12 #[.pointer none, .int .i64 i, .slice A n c] w fun e w' => e = .returned (.int .i64 1) ∧ w = w' := by
  go_enter Try.func12, Try.ntmps12
  go_wp2
  go_ret
  exact ⟨rfl, rfl⟩
set_option maxHeartbeats 3200000 in
theorem blockNil.walk (k i n : Int) (s : ByteArray) (w : World) (hs : s.size ≤ 140737488351232) : Calls Try.prog 6 #[.agg #[.int .i64 k, .int .i64 i, .int .i64 n, .string s]] w fun e w' => e = .returned (.bool true) ∧ Below w.heap.size w w' := by
  have ha := awake_any
  have HA := Lib.hid ha
  clear ha
  go_enter Try.func6, Try.ntmps6
  go_wp2_with fail
  refine (HA.out _).mono ?_
  rintro e w1 ⟨rfl, hb1⟩
  have HB1 : Hid (Below w.heap.size w w1) := ((Below.refl _ _).alloc (Nat.le_refl _) _).trans (hb1.mono (by simp))
  have hB : Bk w1 w.heap.size 34 #[.int .i64 k, .int .i64 i, .int .i64 n, .string s] := (Bk.fresh _ _ _).later hb1
  have HB := Lib.hid hB
  have k0 := HB.out.cellAt 0
  have k1 := HB.out.cellAt 1
  have k2 := HB.out.cellAt 2
  have k3 := HB.out.cellAt 3
  have z1 := HB.out.here
  clear hb1 hB
  go_wp2_with fail
  have hw2 := Bk.fresh w1 34 #[.int .i64 k, .int .i64 i, .int .i64 n, .string s]
  have hro : RdO (w1.alloc (.cells #[.int .i64 k, .int .i64 i, .int .i64 n, .string s] 34)) (some ⟨w1.heap.size, 0, none⟩) [(k, i, n, s)] := fun j x hx => by
    cases j with
    | zero => simp at hx; subst hx; exact ⟨_, _, rfl, hw2.cellAt 0, hw2.cellAt 1, hw2.cellAt 2, hw2.cellAt 3⟩
    | succ j => simp at hx
  refine (few_any _ 1 1 [(k, i, n, s)] _ rfl hro (Nat.le_refl _) (by omega) (fun x hx => by simp at hx; subst hx; exact hs)).mono ?_
  rintro e w2 ⟨⟨b, rfl⟩, rfl⟩
  clear hw2 hro
  cases b
  case false =>
    go_wp2_with fail
    refine (HA.out _).mono ?_
    rintro e w3 ⟨rfl, hb3⟩
    go_wp2
    go_ret
    exact ⟨rfl, HB1.out.trans ((((Below.refl _ _).alloc (Nat.le_refl _) _).trans (hb3.mono (by simp))).mono HB1.out.size)⟩
  case true =>
    have j1 : (w1.alloc (.cells #[.int .i64 k, .int .i64 i, .int .i64 n, .string s] 34)).heap.size = w1.heap.size + 1 := by simp
    have HB2 : Hid (Below w.heap.size w (w1.alloc (.cells #[.int .i64 k, .int .i64 i, .int .i64 n, .string s] 34))) := HB1.out.alloc HB1.out.size _
    have HK2 : Hid (Bk (w1.alloc (.cells #[.int .i64 k, .int .i64 i, .int .i64 n, .string s] 34)) w.heap.size 34 #[.int .i64 k, .int .i64 i, .int .i64 n, .string s]) := HB.out.later ((Below.refl _ _).alloc (Nat.le_refl _) _)
    obtain ⟨w2, hw2⟩ : ∃ w2, w2 = w1.alloc (.cells #[.int .i64 k, .int .i64 i, .int .i64 n, .string s] 34) := ⟨_, rfl⟩
    rw [← hw2] at HB2 HK2 ⊢
    clear j1 hw2 k0 k1 k2 k3 z1 HB HB1
    have k0 := HK2.out.cellAt 0
    have k1 := HK2.out.cellAt 1
    have k2 := HK2.out.cellAt 2
    have k3 := HK2.out.cellAt 3
    have z1 := HK2.out.here
    have hsm : s.size ≤ maxLen := by unfold maxLen; omega
    have HSM := Lib.hid hsm
    clear hsm
    go_wp2_with fail
    refine (arm_nil i n w2).mono ?_
    rintro e w3 ⟨rfl, rfl⟩
    go_wp2_with fail
    refine (power_nil w2).mono ?_
    rintro e w3 ⟨rfl, rfl⟩
    go_wp2_with fail
    refine (read_nil i w2).mono ?_
    rintro e w3 ⟨rfl, rfl⟩
    go_wp2_with (refine wpList_bytes _ rfl _ 9 37 rfl 5 s Try.underlying9 Try.underlying37 Try.underlying5 HSM.out rfl ?_; intro c w3 hr3 hb3 hz3 hc3 hc4)
    have HB3 : Hid (Below w.heap.size w w3) := HB2.out.trans (hb3.mono HB2.out.size)
    clear k0 k1 k2 k3 hr3 hb3
    refine (write_nil i _ _ _ w3).mono ?_
    rintro e w4 ⟨rfl, rfl⟩
    go_wp2_with fail
    refine (down_nil w3).mono ?_
    rintro e w4 ⟨rfl, rfl⟩
    go_wp2_with fail
    refine (bytes_nil w3).mono ?_
    rintro e w4 ⟨rfl, rfl⟩
    go_wp2_with fail
    refine (writes_nil w3).mono ?_
    rintro e w4 ⟨rfl, rfl⟩
    go_wp2
    go_ret
    exact ⟨rfl, HB3.out⟩
end Go.Proofs.Ytnikhlajlhgikaa
