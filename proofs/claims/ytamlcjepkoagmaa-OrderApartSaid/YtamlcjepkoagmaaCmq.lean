/- The contracts of strings.Compare, of cmp.Compare at integers, of cmp.Or at two integers. No condition. · The contract of the comparison that rank.Sorted hands to the sort: by score, then by name. No condition. -/
import Derived.Test.YtamlcjepkoagmaaLab
import Derived.Test.YtamlcjepkoagmaaLat
import Derived.Lib.Bytealg
import Derived.Lib.Hide
import Derived.Test.YtamlcjepkoagmaaRk
import Derived.Test.YtamlcjepkoagmaaGw
import Derived.Deep.RegionHeld3
namespace Go.Proofs.Ytamlcjepkoagmaa
open Go.RowKit
set_option linter.unusedSimpArgs false
set_option linter.unusedVariables false



theorem compareBytes_neg : ∀ (a b : List UInt8), (Lib.compareBytes a b < 0) ↔ a < b
  | [], [] => by simp [Lib.compareBytes]
  | [], _ :: _ => by simp [Lib.compareBytes]
  | _ :: _, [] => by simp [Lib.compareBytes]
  | x :: a, y :: b => by
    unfold Lib.compareBytes
    rw [List.cons_lt_cons_iff]
    by_cases h1 : x < y
    · simp [h1]
    · by_cases h2 : y < x
      · have : x ≠ y := by rintro rfl; exact h1 h2
        simp [h1, h2, this]
      · have : x = y := UInt8.le_antisymm (UInt8.not_lt.1 h2) (UInt8.not_lt.1 h1)
        subst this
        simp [h1, compareBytes_neg a b]

/-- Integers compared. -/
def cI (x y : Int) : Int := if x < y then -1 else if y < x then 1 else 0
theorem cI_neg {x y : Int} : cI x y < 0 ↔ x < y := by
  unfold cI; split
  · simp [*]
  · split <;> simp [*]
theorem cI_zero {x y : Int} : cI x y = 0 ↔ x = y := by
  unfold cI; split
  · simp; omega
  · split
    · simp; omega
    · simp; omega
set_option maxHeartbeats 1000000 in
theorem compareI_any (x y : Int) (w : World) :
    Calls Try.prog 24 #[.int .i64 x, .int .i64 y] w fun e w' => e = .returned (.int .i64 (cI x y)) ∧ w = w' := by
  obtain ⟨r, hr⟩ : ∃ r, r = cI x y := ⟨_, rfl⟩
  rw [← hr]
  have HR := Lib.hid hr; clear hr
  by_cases h1 : x < y
  · have hq : r = -1 := by rw [HR.out]; unfold cI; rw [if_pos h1]
    subst hq
    go_enter Try.func24, Try.ntmps24
    go_wp2
    go_ret
    exact ⟨rfl, rfl⟩
  · by_cases h2 : y < x
    · have hq : r = 1 := by rw [HR.out]; unfold cI; rw [if_neg h1, if_pos h2]
      subst hq
      go_enter Try.func24, Try.ntmps24
      go_wp2
      go_ret
      exact ⟨rfl, rfl⟩
    · have hq : r = 0 := by rw [HR.out]; unfold cI; rw [if_neg h1, if_neg h2]
      subst hq
      go_enter Try.func24, Try.ntmps24
      go_wp2
      go_ret
      exact ⟨rfl, rfl⟩

/-- The first of two integers that is not 0. -/
def or2 (x y : Int) : Int := if x = 0 then y else x
set_option maxHeartbeats 1000000 in
theorem or2_any (x y : Int) (g : Nat) (w : World) (hg : g < w.heap.size) (c0 : w.cell? ⟨g, 0, none⟩ = some (.int .i64 x)) (c1 : w.cell? ⟨g, 1, none⟩ = some (.int .i64 y)) :
    Calls Try.prog 23 #[.slice (some ⟨g, 0, none⟩) 2 2] w fun e w' => e = .returned (.int .i64 (or2 x y)) ∧ w = w' := by
  obtain ⟨r, hr⟩ : ∃ r, r = or2 x y := ⟨_, rfl⟩
  rw [← hr]
  have HR := Lib.hid hr; clear hr
  by_cases h1 : x = 0
  · have hq : r = y := by rw [HR.out]; unfold or2; rw [if_pos h1]
    subst h1 hq
    clear HR
    by_cases h2 : r = 0
    · subst h2
      go_enter Try.func23, Try.ntmps23
      go_wp2_with fail
      refine wp_loop_rounds 3 ?_
      rw [rounds_succ]
      go_wp2_with fail
      rw [rounds_succ]
      go_wp2_with fail
      rw [rounds_succ]
      go_wp2_with fail
      go_ret
      exact ⟨rfl, rfl⟩
    · have h3 : (r != 0) = true := by simpa using h2
      have h4 : (r == 0) = false := by simpa using h2
      clear h2
      go_enter Try.func23, Try.ntmps23
      go_wp2_with fail
      refine wp_loop_rounds 3 ?_
      rw [rounds_succ]
      go_wp2_with fail
      rw [rounds_succ]
      go_wp2_with fail
      go_ret
      exact ⟨rfl, rfl⟩
  · have hq : r = x := by rw [HR.out]; unfold or2; rw [if_neg h1]
    subst hq
    have h3 : (r != 0) = true := by simpa using h1
    have h4 : (r == 0) = false := by simpa using h1
    clear h1 HR
    go_enter Try.func23, Try.ntmps23
    go_wp2_with fail
    refine wp_loop_rounds 3 ?_
    rw [rounds_succ]
    go_wp2_with fail
    go_ret
    exact ⟨rfl, rfl⟩
end Go.Proofs.Ytamlcjepkoagmaa

namespace Go.Proofs.Ytamlcjepkoagmaa
open Go.RowKit Go.Sort
set_option linter.unusedSimpArgs false
set_option linter.unusedVariables false

/-- The comparison of two names with their scores. -/
def cfE (x y : ByteArray × Int) : Int := or2 (cI x.2 y.2) (Lib.compareBytes x.1.data.toList y.1.data.toList)
section
variable {ops : Array Oper} {o : Oper} {a : Act} {w : World} {K : Act → World → Prop} {Q : Exit → Act → World → Prop}
/-- A slice of two integers. -/
theorem itwo_op (t u : Tmp) (x y : Int) (ho : o.op = .buildSlice 37 2 #[(0, .tmp t), (1, .tmp u)]) (hx : a.tmps[t]?.getD undef = .int .i64 x) (hy : a.tmps[u]?.getD undef = .int .i64 y) (h : ∀ g w', g = w.heap.size → w' = w.alloc (.cells #[.int .i64 x, .int .i64 y] 3) → K (a.put o.dst (.slice (some ⟨g, 0, none⟩) 2 2)) w') : o.wp Try.prog a w K Q := by
  unfold Oper.wp execOp
  simp only [ho]
  go_simp
  exact h _ _ rfl rfl
end

end Go.Proofs.Ytamlcjepkoagmaa
