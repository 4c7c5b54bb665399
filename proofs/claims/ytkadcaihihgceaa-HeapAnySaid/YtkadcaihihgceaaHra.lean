/- The document's heap: a list in memory; == of pairs; Same. Condition: at most 1000 pairs. -/
import Derived.Test.YtkadcaihihgceaaHp7
import Derived.BigQuiet
import Derived.WalkSmall
import Derived.Deep.QuietTactic
namespace Go.Proofs.Ytkadcaihihgceaa
open Go.RowKit
set_option linter.unusedSimpArgs false
set_option linter.unusedVariables false

theorem eqP_deep (a b c d : Int) (w : World) : (Op.equalIn 10000 27 (.agg #[.int .i64 a, .int .i64 b]) (.agg #[.int .i64 c, .int .i64 d])).run Try.prog w = .ok (a == c && b == d) w := by
  have u3 := @Try.underlying3
  rw [show (10000 : Nat) = 9999 + 1 from rfl, run_equalIn_agg w 9999 _ _ _ (by kernel_rfl) (by kernel_rfl)]
  have hf : Try.prog.fieldsOf 27 = #[{ name := "Key", type := 3, offset := 0, embedded := false, tag := "", pkgPath := "", byteOffset := 0 }, { name := "X", type := 3, offset := 1, embedded := false, tag := "", pkgPath := "", byteOffset := 8 }] := by kernel_rfl
  rw [hf]
  by_cases h1 : a = c
  · subst h1
    by_cases h2 : b = d
    · subst h2
      go_simp
    · have h2' : (b == d) = false := by simpa using h2
      go_simp
  · have h1' : (a == c) = false := by simpa using h1
    go_simp
theorem eqP_eq (a b c d : Int) : (a == c && b == d) = decide ((a, b) = (c, d)) := by
  rw [Bool.eq_iff_iff]; simp
theorem neqP_run (a b c d : Int) (w : World) : (binOp .neq 27 (.agg #[.int .i64 a, .int .i64 b]) (.agg #[.int .i64 c, .int .i64 d])).run Try.prog w = .ok (.bool (!(a == c && b == d))) w := by
  rw [run_neq_struct, eqP_deep]
  rfl
theorem eqlP_run (a b c d : Int) (w : World) : (binOp .eql 27 (.agg #[.int .i64 a, .int .i64 b]) (.agg #[.int .i64 c, .int .i64 d])).run Try.prog w = .ok (.bool (a == c && b == d)) w := by
  rw [run_eql_struct, eqP_deep]
  rfl
theorem guardP_run (op : BinOp) (x y : Operand) (xs ys : Array Value) (w : World) : (eqGuard op 27 x y (.agg xs) (.agg ys)).run Try.prog w = .ok () w := run_eqGuard_agg w op 27 x y xs ys (by kernel_rfl)
/-- Pairs as elements. -/
abbrev eX (x : Px) : List Value := [.int .i64 x.1, .int .i64 x.2]
/-- A slice reads as these pairs. -/
def RdP (w : World) (A : Option Addr) (n : Nat) (l : List Px) : Prop := n = l.length ∧ RdK w 2 A (l.map eX)
theorem RdP.at {w : World} {A : Option Addr} {n : Nat} {l : List Px} (h : RdP w A n l) {i : Nat} (hi : i < l.length) : ∃ g o, A = some ⟨g, o, none⟩ ∧ g < w.heap.size ∧ w.rangeAt g (o + i * 2) (eX l[i]) := by
  obtain ⟨g, o, ha, hr⟩ := h.2.at (i := i) (by simpa using hi)
  rw [List.getElem_map] at hr
  exact ⟨g, o, ha, range_lt hr (by simp), hr⟩
theorem RdP.later {w w' : World} {A : Option Addr} {n : Nat} {l : List Px} (h : RdP w A n l) (hb : Below w.heap.size w w') : RdP w' A n l := ⟨h.1, h.2.later hb⟩
set_option maxHeartbeats 3200000 in
set_option maxRecDepth 100000 in
theorem same_any (A B : Option Addr) (n m c e : Nat) (l r : List Px) (w : World) (hl : Hid (RdP w A n l)) (hr : Hid (RdP w B m r)) (hbig : n ≤ 1000) (hbig2 : m ≤ 1000) :
    Calls Try.prog 20 #[.slice A n c, .slice B m e] w fun e w' => e = .returned (.bool (decide (l = r))) ∧ Below w.heap.size w w' := by
  have k1 := neqP_run
  have k2 := guardP_run
  by_cases hnm : n = m
  · subst hnm
    go_enter Try.func20, Try.ntmps20
    go_wp2_with fail
    go_loopw [13] (fun i wr => ∃ k : Nat, k ≤ n ∧ i = .int .i64 k ∧ Hid (l.take k = r.take k) ∧ Below w.heap.size w wr) (fun i wr => n - (intOf i).toNat)
    case atStart => exact ⟨0, Nat.zero_le _, rfl, (show l.take 0 = r.take 0 from rfl), Below.refl _ _⟩
    case round =>
      obtain ⟨k, hk, rfl, HA, hb⟩ := hrel
      by_cases hlt : k < n
      · have h1 : k < l.length := by rw [← hl.out.1]; exact hlt
        have h2 : k < r.length := by rw [← hr.out.1]; exact hlt
        obtain ⟨g, o, hA, hg, hx⟩ := (hl.out.later hb).at h1
        obtain ⟨g', o', hB, hg', hy⟩ := (hr.out.later hb).at h2
        subst hA hB
        have HS : Hid (l[k] = r[k] → l.take (k + 1) = r.take (k + 1)) := fun e => by
          rw [List.take_succ_eq_append_getElem h1, List.take_succ_eq_append_getElem h2, HA.out, e]
        have HNE : Hid (l[k] ≠ r[k] → decide (l = r) = false) := fun e => decide_eq_false fun e' => e (by simp [e'])
        obtain ⟨⟨x1, x2⟩, ex⟩ : ∃ x, x = l[k] := ⟨_, rfl⟩
        obtain ⟨⟨y1, y2⟩, ey⟩ : ∃ y, y = r[k] := ⟨_, rfl⟩
        rw [← ex] at hx HS HNE
        rw [← ey] at hy HS HNE
        have c1 : wr.cell? ⟨g, o + k * 2, none⟩ = some (.int .i64 x1) := by simpa using hx 0 _ rfl
        have c2 : wr.cell? ⟨g, o + k * 2 + 1, none⟩ = some (.int .i64 x2) := hx 1 _ rfl
        have c3 : wr.cell? ⟨g', o' + k * 2, none⟩ = some (.int .i64 y1) := by simpa using hy 0 _ rfl
        have c4 : wr.cell? ⟨g', o' + k * 2 + 1, none⟩ = some (.int .i64 y2) := hy 1 _ rfl
        have hw : wrap64 ((k : Int) + 1) = ((k + 1 : Nat) : Int) := by unfold wrap64; omega
        clear ex ey hx hy h1 h2
        by_cases e1 : x1 = y1
        · by_cases e2 : x2 = y2
          · subst e1 e2
            have HS2 := Lib.hid (HS.out rfl)
            clear HS HNE
            go_wp2_with fail
            go_quiet (fail)
            go_wp2
            go_round
            case rel => exact ⟨k + 1, by omega, by go_num, HS2, below_drewN hb _⟩
            case measure => simp [intOf]; omega
          · have h2' : (x2 == y2) = false := by simpa using e2
            have HF := Lib.hid (HNE.out (fun e => e2 (congrArg Prod.snd e)))
            subst e1
            clear HS HNE e2
            go_wp2_with fail
            go_quiet (fail)
            go_wp2
            go_ret
            exact ⟨by rw [HF.out]; rfl, below_drewN hb _⟩
        · have h1' : (x1 == y1) = false := by simpa using e1
          have HF := Lib.hid (HNE.out (fun e => e1 (congrArg Prod.fst e)))
          clear HS HNE e1
          go_wp2_with fail
          go_quiet (fail)
          go_wp2
          go_ret
          exact ⟨by rw [HF.out]; rfl, below_drewN hb _⟩
      · have hkE : k = n := by omega
        subst hkE
        have HF : Hid (decide (l = r) = true) := by
          have h1 := HA.out
          rw [List.take_of_length_le (by rw [← hl.out.1]; exact Nat.le_refl _), List.take_of_length_le (by rw [← hr.out.1]; exact Nat.le_refl _)] at h1
          exact decide_eq_true h1
        clear hk hlt
        go_wp2_with fail
        go_ret
        exact ⟨by rw [HF.out]; rfl, hb⟩
  · have HF : Hid (decide (l = r) = false) := decide_eq_false fun e => hnm (by rw [hl.out.1, hr.out.1, e])
    have hne : ((n : Int) == (m : Int)) = false := by simp; omega
    clear hnm
    go_enter Try.func20, Try.ntmps20
    go_wp2_with fail
    go_ret
    exact ⟨by rw [HF.out]; rfl, Below.refl _ _⟩
end Go.Proofs.Ytkadcaihihgceaa
