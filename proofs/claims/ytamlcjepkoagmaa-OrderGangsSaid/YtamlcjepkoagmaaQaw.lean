/- The contracts of the laws' own first look (awake) and size test (few) of layer 14. No condition beyond that the slice reads as a list of jobs. -/
import Derived.Test.YtamlcjepkoagmaaOpc
import Derived.Test.YtamlcjepkoagmaaUrd
namespace Go.Proofs.Ytamlcjepkoagmaa
open Go.RowKit
set_option linter.unusedSimpArgs false
set_option linter.unusedVariables false

/-- The two jobs of the first look. -/
def jb14 (p s : Int) : Jb := ⟨⟨#[]⟩, ⟨#[]⟩, p, 0, 0, 0, none, 0, 0, ⟨#[]⟩, ⟨#[]⟩, 0, s, ⟨#[]⟩, 0⟩
theorem units14 : unitsU [jb14 0 1, jb14 2 2] = [[1], [0]] := by kernel_rfl
theorem two14 (w : World) (b : Nat) (hb : b ≤ w.heap.size) : OwnK (w.alloc (.cells #[.string ⟨#[]⟩, .string ⟨#[]⟩, .int .i64 0, .int .i64 0, .int .i64 0, .int .i64 0, .slice none 0 0, .string ⟨#[]⟩, .string ⟨#[]⟩, .int .i64 0, .int .i64 1, .string ⟨#[]⟩, .int .i64 0, .string ⟨#[]⟩, .string ⟨#[]⟩, .int .i64 2, .int .i64 0, .int .i64 0, .int .i64 0, .slice none 0 0, .string ⟨#[]⟩, .string ⟨#[]⟩, .int .i64 0, .int .i64 2, .string ⟨#[]⟩, .int .i64 0] 29)) b 29 13 (.slice (some ⟨w.heap.size, 0, none⟩) 2 2) (cellsJ [jb14 0 1, jb14 2 2]) := by
  refine ⟨cellsJ_k _, ?_⟩
  have h := World.ownsRow_lit (base := b) (e := 29) (size := 13) w #[.string ⟨#[]⟩, .string ⟨#[]⟩, .int .i64 0, .int .i64 0, .int .i64 0, .int .i64 0, .slice none 0 0, .string ⟨#[]⟩, .string ⟨#[]⟩, .int .i64 0, .int .i64 1, .string ⟨#[]⟩, .int .i64 0, .string ⟨#[]⟩, .string ⟨#[]⟩, .int .i64 2, .int .i64 0, .int .i64 0, .int .i64 0, .slice none 0 0, .string ⟨#[]⟩, .string ⟨#[]⟩, .int .i64 0, .int .i64 2, .string ⟨#[]⟩, .int .i64 0] 2 hb (by simp [maxLen]) rfl
  exact h

set_option maxHeartbeats 3200000 in
theorem awake14_any (w : World) : Calls Try.prog 8 #[] w fun e w' => e = .returned (.bool true) ∧ Below w.heap.size w w' := by
  have k1 : ∀ (A : Option Addr) (W : World), Hid (RdJ W A [jb14 0 1, jb14 2 2]) → Calls Try.prog 11 #[.slice A 2 2] W fun e w' => RetU W.heap.size w' e [[1], [0]] ∧ Below W.heap.size W w' := fun A W h1 => by
    have := units_any A 2 2 [jb14 0 1, jb14 2 2] W (show 2 = 2 from rfl) (by omega) h1
    rw [units14] at this
    exact this
  have K1 := Lib.hid k1; clear k1
  have ho := two14 w w.heap.size (Nat.le_refl _)
  have hb0 : Below w.heap.size w (w.alloc (.cells #[.string ⟨#[]⟩, .string ⟨#[]⟩, .int .i64 0, .int .i64 0, .int .i64 0, .int .i64 0, .slice none 0 0, .string ⟨#[]⟩, .string ⟨#[]⟩, .int .i64 0, .int .i64 1, .string ⟨#[]⟩, .int .i64 0, .string ⟨#[]⟩, .string ⟨#[]⟩, .int .i64 2, .int .i64 0, .int .i64 0, .int .i64 0, .slice none 0 0, .string ⟨#[]⟩, .string ⟨#[]⟩, .int .i64 0, .int .i64 2, .string ⟨#[]⟩, .int .i64 0] 29)) := (Below.refl _ _).alloc (Nat.le_refl _) _
  have HO := Lib.hid ho; clear ho
  go_enter Try.func8, Try.ntmps8
  go_wp2_with fail
  refine (K1.out (some ⟨w.heap.size, 0, none⟩) _ (by obtain ⟨A, c, hv, hr, _⟩ := OwnK.rdj HO.out; injection hv with e1; rw [← e1] at hr; exact hr)).mono ?_; rintro r w2 ⟨hU, hb2⟩
  have hB2 := hb0.trans (hb2.mono hb0.size)
  obtain ⟨B, c, rfl, hrd, hc, hc2⟩ := hU.rd
  obtain ⟨g, o, A, c3, rfl, hg, c0, hr, hc3, hc4⟩ := hrd.at (i := 0) (by decide)
  obtain ⟨g2, o2, rfl, hg2, c1⟩ := RdI.nat hr (k := 0) (by decide)
  rw [Nat.add_zero] at c0 c1
  clear hU hrd hr hb2
  go_wp2_with fail
  go_ret
  exact ⟨rfl, hB2⟩

/-- Are these jobs of a size that is looked at? -/
def few14 (l : List Jb) : Bool := decide (l.length ≤ 100) && l.all fun j => decide (j.ga.size ≤ 1000)
theorem all_takeJ14 {l : List Jb} {p : Jb → Bool} {k : Nat} (h : k < l.length) : (l.take (k + 1)).all p = ((l.take k).all p && p l[k]) := by
  rw [List.take_succ_eq_append_getElem h, List.all_append]; simp
set_option maxHeartbeats 3200000 in
theorem few14_any (A : Option Addr) (n cap : Nat) (l : List Jb) (w : World) (hn : Hid (n = l.length)) (hl : n ≤ 9223372036854775807) (hA : Hid (RdJ w A l)) :
    Calls Try.prog 9 #[.slice A n cap] w fun e w' => e = .returned (.bool (few14 l)) ∧ Below w.heap.size w w' := by
  obtain ⟨R, hR⟩ : ∃ R, few14 l = R := ⟨_, rfl⟩
  rw [hR]
  have HR := Lib.hid hR; clear hR
  by_cases h1 : n ≤ 100
  case neg =>
    have hq : R = false := by rw [← HR.out]; unfold few14; rw [decide_eq_false (by rw [← hn.out]; exact h1)]; rfl
    subst hq
    have d1 : decide (100 < (n : Int)) = true := decide_eq_true (by omega)
    clear h1
    go_enter Try.func9, Try.ntmps9
    go_wp2_with fail
    go_ret
    exact ⟨rfl, Below.refl _ _⟩
  have d1 : decide (100 < (n : Int)) = false := by rw [decide_eq_false_iff_not]; omega
  have hq : (l.all fun j => decide (j.ga.size ≤ 1000)) = R := by rw [← HR.out]; unfold few14; rw [decide_eq_true (by rw [← hn.out]; exact h1)]; simp
  have HQ := Lib.hid hq; clear hq HR
  go_enter Try.func9, Try.ntmps9
  go_wp2_with fail
  go_loopw [9] (fun i wr => ∃ j : Nat, j ≤ n ∧ i = .int .i64 j ∧ Hid (((l.take j).all fun j => decide (j.ga.size ≤ 1000)) = true) ∧ w = wr) (fun i wr => n - (intOf i).toNat)
  case atStart => exact ⟨0, Nat.zero_le _, rfl, (show _ = _ by simp), rfl⟩
  case round =>
    obtain ⟨k, hk, rfl, HF, hww⟩ := hrel
    subst hww
    by_cases hlt : k < n
    · have hlk : k < l.length := by have := hn.out; omega
      obtain ⟨g, o, hAg, hg, hj⟩ := hA.out.at hlk
      subst hAg
      obtain ⟨j, hjk⟩ : ∃ j, j = l[k] := ⟨_, rfl⟩
      rw [← hjk] at hj
      have c8 := hj.ga
      have hst := all_takeJ14 (p := fun j => decide (j.ga.size ≤ 1000)) hlk
      rw [← hjk, HF.out] at hst
      clear hj
      by_cases h4 : j.ga.size ≤ 1000
      case neg =>
        have hq : R = false := by rw [← HQ.out, List.all_eq_false]; exact ⟨l[k], List.getElem_mem hlk, by rw [← hjk]; simpa using h4⟩
        subst hq
        have d4 : decide (1000 < (j.ga.size : Int)) = true := decide_eq_true (by omega)
        clear hjk hst h4
        go_wp2_with fail
        go_ret
        exact ⟨rfl, Below.refl _ _⟩
      have d4 : decide (1000 < (j.ga.size : Int)) = false := by rw [decide_eq_false_iff_not]; omega
      have HF2 : Hid (((l.take (k + 1)).all fun j => decide (j.ga.size ≤ 1000)) = true) := by show _ = _; rw [hst]; simpa using h4
      clear hjk hst HF
      go_wp2_with fail
      go_round
      case rel => exact ⟨k + 1, by omega, by go_num, HF2, trivial⟩
      case measure => simp [intOf]; omega
    · have hk' : k = n := by omega
      subst hk'
      have hq : R = true := by rw [← HQ.out, ← HF.out, show l.take k = l by rw [hn.out]; exact List.take_length]
      subst hq
      go_wp2_with fail
      go_ret
      exact ⟨rfl, Below.refl _ _⟩
end Go.Proofs.Ytamlcjepkoagmaa
