/- The contract of the statements' own look at a state's size. Condition: what is handed in reads as a state. -/
import Derived.Test.YtlomeicilgfhnaaGreatGsa
namespace Go.Proofs.YtlomeicilgfhnaaGreat
open Go.RowKit
set_option linter.unusedSimpArgs false
set_option linter.unusedVariables false

/-- A state of a size that is looked at. -/
structure StB (S : Sg) : Prop where
  M : S.M.length ≤ 40
  Q : S.Q.length ≤ 40
  J : S.J.length ≤ 100
  lM : ∀ x ∈ S.M, x.2.length ≤ 20
  lJ : ∀ x ∈ S.J, x.2.length ≤ 20
/-- A bool is returned; if it is true this holds. -/
def RetIf (e : Ending) (p : Prop) : Prop := ∃ b, e = .returned (.bool b) ∧ (b = true → p)
theorem RetIf.no {p : Prop} : RetIf (.returned (.bool false)) p := ⟨false, rfl, fun h => by cases h⟩
theorem RetIf.yes {p : Prop} (h : p) : RetIf (.returned (.bool true)) p := ⟨true, rfl, fun _ => h⟩
theorem mem_take_succ {α : Type} {p : α → Prop} {L : List α} {k : Nat} (hk : k < L.length) (h : ∀ x ∈ L.take k, p x) (hx : p L[k]) : ∀ x ∈ L.take (k + 1), p x := by
  intro x hm
  rw [List.take_succ_eq_append_getElem hk] at hm
  rcases List.mem_append.1 hm with h1 | h1
  · exact h x h1
  · rw [List.mem_singleton] at h1; subst h1; exact hx
set_option maxHeartbeats 12800000 in
set_option maxRecDepth 100000 in
theorem state15_any (v : Sv) (S : Sg) (w : World) (hS : Hid (RdS w v S)) :
    Calls Tryz.prog 21 #[.agg v.arr] w fun e w' => RetIf e (StB S) ∧ Below w.heap.size w w' := by
  obtain ⟨ck, nx, A, N, cA, B, K0, cB, C, n, cC⟩ := v
  have hNl := Lib.hid hS.out.N; have hKl := Lib.hid hS.out.K; have hnl := Lib.hid hS.out.n
  have hNc : N ≤ cA := hS.out.cA
  have hNc2 : cA ≤ 9223372036854775807 := hS.out.cA2
  have hKc : K0 ≤ cB := hS.out.cB
  have hKc2 : cB ≤ 9223372036854775807 := hS.out.cB2
  have hnc : n ≤ cC := hS.out.cC
  have hnc2 : cC ≤ 9223372036854775807 := hS.out.cC2
  have HB0 : Hid (Bk (w.alloc (.cells #[.int .i64 ck, .int .i64 nx, .slice A N cA, .slice B K0 cB, .slice C n cC] 31)) w.heap.size 31 #[.int .i64 ck, .int .i64 nx, .slice A N cA, .slice B K0 cB, .slice C n cC]) := Bk.fresh _ _ _
  have hb0 : Below w.heap.size w (w.alloc (.cells #[.int .i64 ck, .int .i64 nx, .slice A N cA, .slice B K0 cB, .slice C n cC] 31)) := (Below.refl _ _).alloc (Nat.le_refl _) _
  go_enter Tryz.func21, Tryz.ntmps21
  by_cases h1 : N ≤ 40
  case neg =>
    have d1 : decide (40 < (N : Int)) = true := by rw [decide_eq_true_eq]; omega
    go_wp2_with fail
    go_ret
    exact ⟨RetIf.no, hb0⟩
  have d1 : decide (40 < (N : Int)) = false := by rw [decide_eq_false_iff_not]; omega
  by_cases h2 : K0 ≤ 40
  case neg =>
    have d2 : decide (40 < (K0 : Int)) = true := by rw [decide_eq_true_eq]; omega
    go_wp2_with fail
    go_ret
    exact ⟨RetIf.no, hb0⟩
  have d2 : decide (40 < (K0 : Int)) = false := by rw [decide_eq_false_iff_not]; omega
  by_cases h3 : n ≤ 100
  case neg =>
    have d3 : decide (100 < (n : Int)) = true := by rw [decide_eq_true_eq]; omega
    go_wp2_with fail
    go_ret
    exact ⟨RetIf.no, hb0⟩
  have d3 : decide (100 < (n : Int)) = false := by rw [decide_eq_false_iff_not]; omega
  go_wp2_with fail
  go_loopw [24] (fun i wr => ∃ k : Nat, k ≤ N ∧ i = .int .i64 k ∧ Hid (∀ x ∈ S.M.take k, x.2.length ≤ 20) ∧ Hid (Bk wr w.heap.size 31 #[.int .i64 ck, .int .i64 nx, .slice A N cA, .slice B K0 cB, .slice C n cC]) ∧ Below w.heap.size w wr) (fun i wr => N - (intOf i).toNat)
  case atStart => exact ⟨0, Nat.zero_le _, rfl, (show ∀ x ∈ S.M.take 0, _ from fun x hx => by simp at hx), HB0, hb0⟩
  case round =>
    clear HB0 hb0
    obtain ⟨k, hk, rfl, HL, HB, hb⟩ := hrel
    by_cases hlt : k < N
    · have hlk : k < S.M.length := by have := hNl.out; omega
      obtain ⟨g, o, hAe, hg, hm⟩ := (hS.out.M.later hb).at (i := k) (by simpa using hlk)
      subst hAe
      rw [mcs_at hlk] at hm
      have hlb := (hS.out.oM.at hlk).lb
      have hnm := (hS.out.oM.at hlk).nm
      obtain ⟨x, hx⟩ : ∃ x, x = S.M[k] := ⟨_, rfl⟩
      rw [← hx] at hm hlb hnm
      have cs : wr.cell? ⟨w.heap.size, 2, none⟩ = some (.slice (some ⟨g, o, none⟩) N cA) := HB.out.cellAt 2
      have c4 : wr.cell? ⟨g, o + k * 7 + 4, none⟩ = some (.slice x.1.A x.1.n x.1.cp) := hm.labs
      have c0 : wr.cell? ⟨g, o + k * 7, none⟩ = some (.string x.1.nm) := hm.nm
      have hll := hlb.len
      have HX := Lib.hid hx; have HLL := Lib.hid hll
      clear hx hm hlb hll
      by_cases e1 : x.1.n ≤ 20
      · have d4 : decide (20 < (x.1.n : Int)) = false := by rw [decide_eq_false_iff_not]; omega
        have HN : Hid (∀ x ∈ S.M.take (k + 1), x.2.length ≤ 20) := mem_take_succ (p := fun x : Ml => x.2.length ≤ 20) hlk HL.out (by rw [← HX.out, ← HLL.out]; exact e1)
        by_cases e2 : x.1.nm.size ≤ 1000
        · have d5 : decide (1000 < (x.1.nm.size : Int)) = false := by rw [decide_eq_false_iff_not]; omega
          go_wp2_with fail
          go_round
          case rel => exact ⟨k + 1, by omega, by go_num, HN, HB, hb⟩
          case measure => simp [intOf]; omega
        · have d5 : decide (1000 < (x.1.nm.size : Int)) = true := by rw [decide_eq_true_eq]; omega
          go_wp2_with fail
          go_ret
          exact ⟨RetIf.no, hb⟩
      · have d4 : decide (20 < (x.1.n : Int)) = true := by rw [decide_eq_true_eq]; omega
        go_wp2_with fail
        go_ret
        exact ⟨RetIf.no, hb⟩
    · have hk' : N = k := by omega
      subst hk'
      have HL2 : Hid (∀ x ∈ S.M, x.2.length ≤ 20) := by
        have h := HL.out
        rwa [List.take_of_length_le (by have := hNl.out; omega)] at h
      have cs : wr.cell? ⟨w.heap.size, 4, none⟩ = some (.slice C n cC) := HB.out.cellAt 4
      go_wp2_with fail
      clear cs
      go_loopw [51] (fun i wr => ∃ k : Nat, k ≤ n ∧ i = .int .i64 k ∧ Hid (∀ x ∈ S.J.take k, x.2.length ≤ 20) ∧ Hid (Bk wr w.heap.size 31 #[.int .i64 ck, .int .i64 nx, .slice A N cA, .slice B K0 cB, .slice C n cC]) ∧ Below w.heap.size w wr) (fun i wr => n - (intOf i).toNat)
      case atStart => exact ⟨0, Nat.zero_le _, rfl, (show ∀ x ∈ S.J.take 0, _ from fun x hx => by simp at hx), HB, hb⟩
      case round =>
        clear HB hb HL
        obtain ⟨j, hj, rfl, HL, HB, hb⟩ := hrel
        by_cases hlt2 : j < n
        · have hlk : j < S.J.length := by have := hnl.out; omega
          obtain ⟨g, o, hAe, hg, hm⟩ := (hS.out.J.later hb).at (i := j) (by simpa using hlk)
          subst hAe
          rw [jbs_at hlk] at hm
          have hlb := (hS.out.oJ.at hlk).lb
          have hnm := (hS.out.oJ.at hlk).nm
          have hnd := hS.out.oN _ (List.getElem_mem hlk)
          obtain ⟨x, hx⟩ : ∃ x, x = S.J[j] := ⟨_, rfl⟩
          rw [← hx] at hm hlb hnm hnd
          have cs : wr.cell? ⟨w.heap.size, 4, none⟩ = some (.slice (some ⟨g, o, none⟩) n cC) := HB.out.cellAt 4
          have c4 : wr.cell? ⟨g, o + j * 13 + 6, none⟩ = some (.slice x.1.A x.1.n x.1.cp) := hm.rg 6 _ rfl
          have c0 : wr.cell? ⟨g, o + j * 13, none⟩ = some (.string x.1.nm) := hm.nm
          have c9 : wr.cell? ⟨g, o + j * 13 + 11, none⟩ = some (.string x.1.nd) := hm.nd
          have hgw : w.heap.size < wr.heap.size := HB.out.here
          have hll := hlb.len
          have HX := Lib.hid hx; have HLL := Lib.hid hll
          clear hx hm hlb hll
          have hnm' : x.1.nm.size ≤ 140737488351232 := hnm
          clear hnm
          by_cases e1 : x.1.n ≤ 20
          · have d4 : decide (20 < (x.1.n : Int)) = false := by rw [decide_eq_false_iff_not]; omega
            have HN : Hid (∀ x ∈ S.J.take (j + 1), x.2.length ≤ 20) := mem_take_succ (p := fun x : Jl => x.2.length ≤ 20) hlk HL.out (by rw [← HX.out, ← HLL.out]; exact e1)
            by_cases e2 : x.1.nm.size + x.1.nd.size ≤ 2000
            · have d5 : decide (2000 < (x.1.nm.size : Int) + (x.1.nd.size : Int)) = false := by rw [decide_eq_false_iff_not]; omega
              go_wp2_with fail
              go_quiet (fail)
              go_wp2_with fail
              go_round
              case rel => exact ⟨j + 1, by omega, by go_num, HN, HB.out.later ((by (repeat' (first | (with_reducible exact Below.refl _ _) | (with_reducible refine bdrewN ?_ _) | (with_reducible refine Below.drew ?_) | (with_reducible refine Below.setCell ?_ ?_ _) | (with_reducible refine Below.alloc ?_ ?_ _) | (with_reducible exact Nat.le_refl _) | (with_reducible assumption) | omega | (simp only [World.size_alloc, World.size_setCell, World.size_drew, sz_drewN]; omega))))), hb.trans ((by (repeat' (first | (with_reducible exact Below.refl _ _) | (with_reducible refine bdrewN ?_ _) | (with_reducible refine Below.drew ?_) | (with_reducible refine Below.setCell ?_ ?_ _) | (with_reducible refine Below.alloc ?_ ?_ _) | (with_reducible exact Nat.le_refl _) | (with_reducible assumption) | omega | (simp only [World.size_alloc, World.size_setCell, World.size_drew, sz_drewN]; omega)))))⟩
              case measure => simp [intOf]; omega
            · have d5 : decide (2000 < (x.1.nm.size : Int) + (x.1.nd.size : Int)) = true := by rw [decide_eq_true_eq]; omega
              go_wp2_with fail
              go_quiet (fail)
              go_wp2_with fail
              go_ret
              exact ⟨RetIf.no, hb.trans ((by (repeat' (first | (with_reducible exact Below.refl _ _) | (with_reducible refine bdrewN ?_ _) | (with_reducible refine Below.drew ?_) | (with_reducible refine Below.setCell ?_ ?_ _) | (with_reducible refine Below.alloc ?_ ?_ _) | (with_reducible exact Nat.le_refl _) | (with_reducible assumption) | omega | (simp only [World.size_alloc, World.size_setCell, World.size_drew, sz_drewN]; omega)))))⟩
          · have d4 : decide (20 < (x.1.n : Int)) = true := by rw [decide_eq_true_eq]; omega
            go_wp2_with fail
            go_quiet (fail)
            go_wp2_with fail
            go_ret
            exact ⟨RetIf.no, hb.trans ((by (repeat' (first | (with_reducible exact Below.refl _ _) | (with_reducible refine bdrewN ?_ _) | (with_reducible refine Below.drew ?_) | (with_reducible refine Below.setCell ?_ ?_ _) | (with_reducible refine Below.alloc ?_ ?_ _) | (with_reducible exact Nat.le_refl _) | (with_reducible assumption) | omega | (simp only [World.size_alloc, World.size_setCell, World.size_drew, sz_drewN]; omega)))))⟩
        · have hk' : n = j := by omega
          subst hk'
          have HL3 : ∀ x ∈ S.J, x.2.length ≤ 20 := by
            have h := HL.out
            rwa [List.take_of_length_le (by have := hnl.out; omega)] at h
          go_wp2_with fail
          go_ret
          exact ⟨RetIf.yes ⟨by have := hNl.out; omega, by have := hKl.out; omega, by have := hnl.out; omega, HL2.out, HL3⟩, hb⟩
end Go.Proofs.YtlomeicilgfhnaaGreat
