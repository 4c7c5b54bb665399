/- The walk of HandoffTable. No condition beyond the form's own. · The law HandoffTable holds of the program: the Go function returns true for every input, and each argument reads afterwards as it did. No condition beyond the form's own. -/
import Derived.Test.YtjgojgmgicpgaaaGreatTZcw
import Derived.Test.YtjgojgmgicpgaaaGreatTQ14
import Derived.Test.YtjgojgmgicpgaaaGreatRows
import Derived.ProofKit
import Derived.OpenShut
import Derived.ShutString
import Derived.ChangeOld
import Derived.Below
import Derived.SizedLaws
namespace Go.Proofs.YtjgojgmgicpgaaaGreat
open Go.RowKit
set_option linter.unusedSimpArgs false
set_option linter.unusedVariables false

theorem cmdR_ok {p e a k : Int} (hp : p = 1 ∨ p = 2 ∨ p = 3) : ((cmdR p e a k).2.1 = 1 ∨ (cmdR p e a k).2.1 = 2 ∨ (cmdR p e a k).2.1 = 3) ∧ e ≤ (cmdR p e a k).2.2.1 ∧ (cmdR p e a k).2.2.1 ≤ e + 1 := by
  unfold cmdR
  split
  · exact ⟨hp, by simp, by simp; omega⟩
  · split
    · split
      · exact ⟨.inr (.inl rfl), by simp, by simp; omega⟩
      · split
        · exact ⟨.inr (.inr rfl), by simp; omega, by simp⟩
        · split
          · exact ⟨.inl rfl, by simp; omega, by simp⟩
          · exact ⟨.inl rfl, by simp, by simp; omega⟩
    · exact ⟨hp, by simp, by simp; omega⟩
namespace handoffTable
set_option maxHeartbeats 51200000 in
set_option maxRecDepth 100000 in
theorem walk0 (A : Option Addr) (n cp : Nat) (z : List (Int × Oz)) (kind : Int) (w : World) (hn : Hid (n = z.length)) (hm : n ≤ 9223372036854775807) (hr : Hid (RdSteps w A z)) : Calls Tryz.prog 13 #[.slice A n cp, .int .i64 kind] w fun r w' => r = .returned (.bool true) ∧ Below w.heap.size w w' := by
  go_enter Tryz.func13, Tryz.ntmps13
  go_wp2_with fail
  refine (awake22_any _).mono ?_; rintro e w1 ⟨rfl, hb1⟩
  have Hb1 := Lib.hid hb1
  clear hb1
  go_wp2_with fail
  refine (few22_any A n cp z _ hn hm (Lib.hid (hr.out.later Hb1.out))).mono ?_
  rintro e w2 ⟨⟨b, rfl, hbt⟩, hb2⟩
  have Hb2 := Lib.hid (bclose Hb1.out hb2)
  clear hb2 Hb1
  cases b
  case false =>
    go_wp2_with fail
    refine (awake22_any _).mono ?_; rintro e w4 ⟨rfl, hb4⟩
    go_wp2_with fail
    go_ret
    exact ⟨rfl, bclose Hb2.out hb4⟩
  case true =>
    have HN : Hid (n ≤ 120) := (hbt rfl).1
    clear hbt hm
    go_wp2_with fail
    refine (hnew_z _).mono ?_
    rintro e w3 ⟨⟨g, c0, rfl, hg, hgc, hZ, hB⟩, hb3⟩
    have HC3 : Hid (Ctl w3 c0 1 1 1) := ⟨_, _, hB, .inl ⟨rfl, g, g, _, _, _, rfl, hZ, fun k hk e => hk.elim (fun h => by omega) (fun h => (blkS_new h).elim)⟩, .inl ⟨rfl, rfl⟩⟩
    have HCL : Hid (w.heap.size ≤ c0) := by have := Hb2.out.size; show _ ≤ _; omega
    have Hb3 := Lib.hid (bclose Hb2.out hb3)
    clear hg hgc hZ hB hb3 Hb2
    go_wp2_with fail
    go_loopw [25] (fun s wr => ∃ (k : Nat) (p e0 a : Int), k ≤ n ∧ s = .int .i64 k ∧ Hid ((p = 1 ∨ p = 2 ∨ p = 3) ∧ 1 ≤ e0 ∧ e0 ≤ 1 + k) ∧ Hid (Ctl wr c0 p e0 a) ∧ Hid (Below w.heap.size w wr)) (fun s wr => n - (intOf s).toNat)
    case atStart => exact ⟨0, 1, 1, 1, Nat.zero_le _, rfl, (show _ ∧ _ from by omega), HC3, Hb3⟩
    case round =>
      clear HC3 Hb3
      obtain ⟨k, p, e0, a, hk, rfl, HPK, HC, HB⟩ := hrel
      by_cases hlt : k < n
      · have hkl : Hid (k < z.length) := by show k < z.length; rw [← hn.out]; exact hlt
        obtain ⟨x, hx⟩ : ∃ x, x = z[k]'hkl.out := ⟨_, rfl⟩
        obtain ⟨g', o, hA, hrg⟩ := (hr.out.later HB.out).rd.at (i := k) (by rw [List.length_map]; exact hkl.out)
        rw [List.getElem_map, ← hx] at hrg
        have HX : wr.cell? ⟨g', o + k * 22, none⟩ = some (.int .i64 x.1) := by have h := hrg 0 _ rfl; simpa using h
        subst hA
        have hwk : wrap64 ((k : Int) + 1) = ((k + 1 : Nat) : Int) := by have := HN.out; unfold wrap64; omega
        clear hrg hx
        obtain ⟨x1, x2⟩ := x
        simp only at HX
        by_cases h0 : x1 = 0
        · subst h0
          go_wp2_with fail
          go_round
          case rel => exact ⟨k + 1, p, e0, a, by omega, by go_num, (by have := HPK.out; show _ ∧ _; omega), HC, HB⟩
          case measure =>
            first
            | (rw [hwk]; show n - ((k + 1 : Nat) : Int).toNat < n - ((k : Nat) : Int).toNat; rw [Int.toNat_natCast, Int.toNat_natCast]; omega)
            | (show n - ((k : Int) + 1).toNat < n - ((k : Nat) : Int).toNat; omega)
        · have h0e : (x1 == 0) = false := by simpa using h0
          have h0n : (x1 != 0) = true := by simpa using h0
          have K := Lib.hid (command_n x1 c0 p e0 a wr HPK.out.1 (by have := HPK.out; have := HN.out; omega) HC.out)
          have HOK := Lib.hid (cmdR_ok (e := e0) (a := a) (k := x1) HPK.out.1)
          go_wp2_with fail
          refine K.out.mono ?_
          rintro e w2 ⟨rfl, hC, hG⟩
          have HC2 := Lib.hid hC
          have HB2 : Hid (Below w.heap.size w w2) := HB.out.grown hG HB.out.size (fun k e => by injection e with e; have := HCL.out; omega)
          clear hC hG K HX HC
          go_wp2_with fail
          go_round
          case rel => exact ⟨k + 1, _, _, _, by omega, by go_num, (by have h1 := HPK.out; have h2 := HOK.out; show _ ∧ _; refine ⟨h2.1, ?_, ?_⟩ <;> omega), HC2, HB2⟩
          case measure =>
            first
            | (rw [hwk]; show n - ((k + 1 : Nat) : Int).toNat < n - ((k : Nat) : Int).toNat; rw [Int.toNat_natCast, Int.toNat_natCast]; omega)
            | (show n - ((k : Int) + 1).toNat < n - ((k : Nat) : Int).toNat; omega)
      · have HP : Hid ((p = 1 ∨ p = 2 ∨ p = 3) ∧ (1 ≤ e0 ∧ e0 ≤ 1000000) ∧ wrap64 (e0 + 1) = e0 + 1) := by
          have h1 := HPK.out; have h2 := HN.out
          show _ ∧ _
          refine ⟨h1.1, by omega, ?_⟩
          unfold wrap64; omega
        have hkn : k = n := by omega
        clear HPK hk hlt
        subst hkn
        go_wp2_with fail
        refine (where_n c0 p e0 a wr HC.out).mono ?_
        rintro e w4 ⟨rfl, hb4⟩
        have HC4 := Lib.hid (HC.out.later hb4)
        have Hb4 := Lib.hid (bclose HB.out hb4)
        clear hb4 HC HB
        go_wp2_with fail
        by_cases hk1 : kind < 1
        · have hk2 : decide (kind < 1) = true := decide_eq_true hk1
          have E : cmdR p e0 a kind = (1, p, e0, a) := by simp [cmdR, phR, hk1]
          have K := Lib.hid (command_n kind c0 p e0 a w4 HP.out.1 HP.out.2.1 HC4.out)
          rw [E] at K
          refine K.out.mono ?_
          rintro e w5 ⟨rfl, hC, hG⟩
          have HC5 := Lib.hid hC
          have Hb5 : Hid (Below w.heap.size w w5) := Hb4.out.grown hG Hb4.out.size (fun k e => by injection e with e; have := HCL.out; omega)
          clear hC hG K HC4 Hb4 E
          go_wp2_with fail
          refine (where_n c0 _ _ _ w5 HC5.out).mono ?_
          rintro e w6 ⟨rfl, hb6⟩
          have Hb6 := Lib.hid (bclose Hb5.out hb6)
          have hw := HP.out.2.2
          clear hb6 HC5 Hb5 HP
          go_wp2_with fail
          go_ret
          exact ⟨rfl, Hb6.out⟩
        by_cases hk5 : 5 < kind
        · have hk2 : decide (kind < 1) = false := decide_eq_false hk1
          have hk3 : decide (5 < kind) = true := decide_eq_true hk5
          have E : cmdR p e0 a kind = (1, p, e0, a) := by simp [cmdR, phR, hk1, hk5]
          have K := Lib.hid (command_n kind c0 p e0 a w4 HP.out.1 HP.out.2.1 HC4.out)
          rw [E] at K
          refine K.out.mono ?_
          rintro e w5 ⟨rfl, hC, hG⟩
          have HC5 := Lib.hid hC
          have Hb5 : Hid (Below w.heap.size w w5) := Hb4.out.grown hG Hb4.out.size (fun k e => by injection e with e; have := HCL.out; omega)
          clear hC hG K HC4 Hb4 E
          go_wp2_with fail
          refine (where_n c0 _ _ _ w5 HC5.out).mono ?_
          rintro e w6 ⟨rfl, hb6⟩
          have Hb6 := Lib.hid (bclose Hb5.out hb6)
          have hw := HP.out.2.2
          clear hb6 HC5 Hb5 HP
          go_wp2_with fail
          go_ret
          exact ⟨rfl, Hb6.out⟩
        have hk : kind = 1 ∨ kind = 2 ∨ kind = 3 ∨ kind = 4 ∨ kind = 5 := by omega
        clear hk1 hk5
        obtain ⟨hp, he, hw⟩ := HP.out
        rcases hk with rfl | rfl | rfl | rfl | rfl <;> rcases hp with rfl | rfl | rfl
        · skip
          have E : cmdR 1 e0 a 1 = (0, 2, e0, a) := by simp [cmdR, phR]
          have K := Lib.hid (command_n 1 c0 1 e0 a w4 HP.out.1 HP.out.2.1 HC4.out)
          rw [E] at K
          refine K.out.mono ?_
          rintro e w5 ⟨rfl, hC, hG⟩
          have HC5 := Lib.hid hC
          have Hb5 : Hid (Below w.heap.size w w5) := Hb4.out.grown hG Hb4.out.size (fun k e => by injection e with e; have := HCL.out; omega)
          clear hC hG K HC4 Hb4 E
          go_wp2_with fail
          refine (where_n c0 _ _ _ w5 HC5.out).mono ?_
          rintro e w6 ⟨rfl, hb6⟩
          have Hb6 := Lib.hid (bclose Hb5.out hb6)
          have hw := HP.out.2.2
          clear hb6 HC5 Hb5 HP
          go_wp2_with fail
          go_ret
          exact ⟨rfl, Hb6.out⟩
        · skip
          have E : cmdR 2 e0 a 1 = (14, 2, e0, a) := by simp [cmdR, phR]
          have K := Lib.hid (command_n 1 c0 2 e0 a w4 HP.out.1 HP.out.2.1 HC4.out)
          rw [E] at K
          refine K.out.mono ?_
          rintro e w5 ⟨rfl, hC, hG⟩
          have HC5 := Lib.hid hC
          have Hb5 : Hid (Below w.heap.size w w5) := Hb4.out.grown hG Hb4.out.size (fun k e => by injection e with e; have := HCL.out; omega)
          clear hC hG K HC4 Hb4 E
          go_wp2_with fail
          refine (where_n c0 _ _ _ w5 HC5.out).mono ?_
          rintro e w6 ⟨rfl, hb6⟩
          have Hb6 := Lib.hid (bclose Hb5.out hb6)
          have hw := HP.out.2.2
          clear hb6 HC5 Hb5 HP
          go_wp2_with fail
          go_ret
          exact ⟨rfl, Hb6.out⟩
        · skip
          have E : cmdR 3 e0 a 1 = (14, 3, e0, a) := by simp [cmdR, phR]
          have K := Lib.hid (command_n 1 c0 3 e0 a w4 HP.out.1 HP.out.2.1 HC4.out)
          rw [E] at K
          refine K.out.mono ?_
          rintro e w5 ⟨rfl, hC, hG⟩
          have HC5 := Lib.hid hC
          have Hb5 : Hid (Below w.heap.size w w5) := Hb4.out.grown hG Hb4.out.size (fun k e => by injection e with e; have := HCL.out; omega)
          clear hC hG K HC4 Hb4 E
          go_wp2_with fail
          refine (where_n c0 _ _ _ w5 HC5.out).mono ?_
          rintro e w6 ⟨rfl, hb6⟩
          have Hb6 := Lib.hid (bclose Hb5.out hb6)
          have hw := HP.out.2.2
          clear hb6 HC5 Hb5 HP
          go_wp2_with fail
          go_ret
          exact ⟨rfl, Hb6.out⟩
        · skip
          have E : cmdR 1 e0 a 2 = (14, 1, e0, a) := by simp [cmdR, phR]
          have K := Lib.hid (command_n 2 c0 1 e0 a w4 HP.out.1 HP.out.2.1 HC4.out)
          rw [E] at K
          refine K.out.mono ?_
          rintro e w5 ⟨rfl, hC, hG⟩
          have HC5 := Lib.hid hC
          have Hb5 : Hid (Below w.heap.size w w5) := Hb4.out.grown hG Hb4.out.size (fun k e => by injection e with e; have := HCL.out; omega)
          clear hC hG K HC4 Hb4 E
          go_wp2_with fail
          refine (where_n c0 _ _ _ w5 HC5.out).mono ?_
          rintro e w6 ⟨rfl, hb6⟩
          have Hb6 := Lib.hid (bclose Hb5.out hb6)
          have hw := HP.out.2.2
          clear hb6 HC5 Hb5 HP
          go_wp2_with fail
          go_ret
          exact ⟨rfl, Hb6.out⟩
        · skip
          have E : cmdR 2 e0 a 2 = (0, 3, (e0 + 1), (3 - a)) := by simp [cmdR, phR]
          have K := Lib.hid (command_n 2 c0 2 e0 a w4 HP.out.1 HP.out.2.1 HC4.out)
          rw [E] at K
          refine K.out.mono ?_
          rintro e w5 ⟨rfl, hC, hG⟩
          have HC5 := Lib.hid hC
          have Hb5 : Hid (Below w.heap.size w w5) := Hb4.out.grown hG Hb4.out.size (fun k e => by injection e with e; have := HCL.out; omega)
          clear hC hG K HC4 Hb4 E
          go_wp2_with fail
          refine (where_n c0 _ _ _ w5 HC5.out).mono ?_
          rintro e w6 ⟨rfl, hb6⟩
          have Hb6 := Lib.hid (bclose Hb5.out hb6)
          have hw := HP.out.2.2
          clear hb6 HC5 Hb5 HP
          go_wp2_with fail
          go_ret
          exact ⟨rfl, Hb6.out⟩
        · skip
          have E : cmdR 3 e0 a 2 = (14, 3, e0, a) := by simp [cmdR, phR]
          have K := Lib.hid (command_n 2 c0 3 e0 a w4 HP.out.1 HP.out.2.1 HC4.out)
          rw [E] at K
          refine K.out.mono ?_
          rintro e w5 ⟨rfl, hC, hG⟩
          have HC5 := Lib.hid hC
          have Hb5 : Hid (Below w.heap.size w w5) := Hb4.out.grown hG Hb4.out.size (fun k e => by injection e with e; have := HCL.out; omega)
          clear hC hG K HC4 Hb4 E
          go_wp2_with fail
          refine (where_n c0 _ _ _ w5 HC5.out).mono ?_
          rintro e w6 ⟨rfl, hb6⟩
          have Hb6 := Lib.hid (bclose Hb5.out hb6)
          have hw := HP.out.2.2
          clear hb6 HC5 Hb5 HP
          go_wp2_with fail
          go_ret
          exact ⟨rfl, Hb6.out⟩
        · skip
          have E : cmdR 1 e0 a 3 = (14, 1, e0, a) := by simp [cmdR, phR]
          have K := Lib.hid (command_n 3 c0 1 e0 a w4 HP.out.1 HP.out.2.1 HC4.out)
          rw [E] at K
          refine K.out.mono ?_
          rintro e w5 ⟨rfl, hC, hG⟩
          have HC5 := Lib.hid hC
          have Hb5 : Hid (Below w.heap.size w w5) := Hb4.out.grown hG Hb4.out.size (fun k e => by injection e with e; have := HCL.out; omega)
          clear hC hG K HC4 Hb4 E
          go_wp2_with fail
          refine (where_n c0 _ _ _ w5 HC5.out).mono ?_
          rintro e w6 ⟨rfl, hb6⟩
          have Hb6 := Lib.hid (bclose Hb5.out hb6)
          have hw := HP.out.2.2
          clear hb6 HC5 Hb5 HP
          go_wp2_with fail
          go_ret
          exact ⟨rfl, Hb6.out⟩
        · skip
          have E : cmdR 2 e0 a 3 = (14, 2, e0, a) := by simp [cmdR, phR]
          have K := Lib.hid (command_n 3 c0 2 e0 a w4 HP.out.1 HP.out.2.1 HC4.out)
          rw [E] at K
          refine K.out.mono ?_
          rintro e w5 ⟨rfl, hC, hG⟩
          have HC5 := Lib.hid hC
          have Hb5 : Hid (Below w.heap.size w w5) := Hb4.out.grown hG Hb4.out.size (fun k e => by injection e with e; have := HCL.out; omega)
          clear hC hG K HC4 Hb4 E
          go_wp2_with fail
          refine (where_n c0 _ _ _ w5 HC5.out).mono ?_
          rintro e w6 ⟨rfl, hb6⟩
          have Hb6 := Lib.hid (bclose Hb5.out hb6)
          have hw := HP.out.2.2
          clear hb6 HC5 Hb5 HP
          go_wp2_with fail
          go_ret
          exact ⟨rfl, Hb6.out⟩
        · skip
          have E : cmdR 3 e0 a 3 = (0, 1, e0, a) := by simp [cmdR, phR]
          have K := Lib.hid (command_n 3 c0 3 e0 a w4 HP.out.1 HP.out.2.1 HC4.out)
          rw [E] at K
          refine K.out.mono ?_
          rintro e w5 ⟨rfl, hC, hG⟩
          have HC5 := Lib.hid hC
          have Hb5 : Hid (Below w.heap.size w w5) := Hb4.out.grown hG Hb4.out.size (fun k e => by injection e with e; have := HCL.out; omega)
          clear hC hG K HC4 Hb4 E
          go_wp2_with fail
          refine (where_n c0 _ _ _ w5 HC5.out).mono ?_
          rintro e w6 ⟨rfl, hb6⟩
          have Hb6 := Lib.hid (bclose Hb5.out hb6)
          have hw := HP.out.2.2
          clear hb6 HC5 Hb5 HP
          go_wp2_with fail
          go_ret
          exact ⟨rfl, Hb6.out⟩
        · skip
          have E : cmdR 1 e0 a 4 = (14, 1, e0, a) := by simp [cmdR, phR]
          have K := Lib.hid (command_n 4 c0 1 e0 a w4 HP.out.1 HP.out.2.1 HC4.out)
          rw [E] at K
          refine K.out.mono ?_
          rintro e w5 ⟨rfl, hC, hG⟩
          have HC5 := Lib.hid hC
          have Hb5 : Hid (Below w.heap.size w w5) := Hb4.out.grown hG Hb4.out.size (fun k e => by injection e with e; have := HCL.out; omega)
          clear hC hG K HC4 Hb4 E
          go_wp2_with fail
          refine (where_n c0 _ _ _ w5 HC5.out).mono ?_
          rintro e w6 ⟨rfl, hb6⟩
          have Hb6 := Lib.hid (bclose Hb5.out hb6)
          have hw := HP.out.2.2
          clear hb6 HC5 Hb5 HP
          go_wp2_with fail
          go_ret
          exact ⟨rfl, Hb6.out⟩
        · skip
          have E : cmdR 2 e0 a 4 = (14, 2, e0, a) := by simp [cmdR, phR]
          have K := Lib.hid (command_n 4 c0 2 e0 a w4 HP.out.1 HP.out.2.1 HC4.out)
          rw [E] at K
          refine K.out.mono ?_
          rintro e w5 ⟨rfl, hC, hG⟩
          have HC5 := Lib.hid hC
          have Hb5 : Hid (Below w.heap.size w w5) := Hb4.out.grown hG Hb4.out.size (fun k e => by injection e with e; have := HCL.out; omega)
          clear hC hG K HC4 Hb4 E
          go_wp2_with fail
          refine (where_n c0 _ _ _ w5 HC5.out).mono ?_
          rintro e w6 ⟨rfl, hb6⟩
          have Hb6 := Lib.hid (bclose Hb5.out hb6)
          have hw := HP.out.2.2
          clear hb6 HC5 Hb5 HP
          go_wp2_with fail
          go_ret
          exact ⟨rfl, Hb6.out⟩
        · skip
          have E : cmdR 3 e0 a 4 = (0, 1, (e0 + 1), (3 - a)) := by simp [cmdR, phR]
          have K := Lib.hid (command_n 4 c0 3 e0 a w4 HP.out.1 HP.out.2.1 HC4.out)
          rw [E] at K
          refine K.out.mono ?_
          rintro e w5 ⟨rfl, hC, hG⟩
          have HC5 := Lib.hid hC
          have Hb5 : Hid (Below w.heap.size w w5) := Hb4.out.grown hG Hb4.out.size (fun k e => by injection e with e; have := HCL.out; omega)
          clear hC hG K HC4 Hb4 E
          go_wp2_with fail
          refine (where_n c0 _ _ _ w5 HC5.out).mono ?_
          rintro e w6 ⟨rfl, hb6⟩
          have Hb6 := Lib.hid (bclose Hb5.out hb6)
          have hw := HP.out.2.2
          clear hb6 HC5 Hb5 HP
          go_wp2_with fail
          go_ret
          exact ⟨rfl, Hb6.out⟩
        · skip
          have E : cmdR 1 e0 a 5 = (14, 1, e0, a) := by simp [cmdR, phR]
          have K := Lib.hid (command_n 5 c0 1 e0 a w4 HP.out.1 HP.out.2.1 HC4.out)
          rw [E] at K
          refine K.out.mono ?_
          rintro e w5 ⟨rfl, hC, hG⟩
          have HC5 := Lib.hid hC
          have Hb5 : Hid (Below w.heap.size w w5) := Hb4.out.grown hG Hb4.out.size (fun k e => by injection e with e; have := HCL.out; omega)
          clear hC hG K HC4 Hb4 E
          go_wp2_with fail
          refine (where_n c0 _ _ _ w5 HC5.out).mono ?_
          rintro e w6 ⟨rfl, hb6⟩
          have Hb6 := Lib.hid (bclose Hb5.out hb6)
          have hw := HP.out.2.2
          clear hb6 HC5 Hb5 HP
          go_wp2_with fail
          go_ret
          exact ⟨rfl, Hb6.out⟩
        · skip
          have E : cmdR 2 e0 a 5 = (0, 1, e0, a) := by simp [cmdR, phR]
          have K := Lib.hid (command_n 5 c0 2 e0 a w4 HP.out.1 HP.out.2.1 HC4.out)
          rw [E] at K
          refine K.out.mono ?_
          rintro e w5 ⟨rfl, hC, hG⟩
          have HC5 := Lib.hid hC
          have Hb5 : Hid (Below w.heap.size w w5) := Hb4.out.grown hG Hb4.out.size (fun k e => by injection e with e; have := HCL.out; omega)
          clear hC hG K HC4 Hb4 E
          go_wp2_with fail
          refine (where_n c0 _ _ _ w5 HC5.out).mono ?_
          rintro e w6 ⟨rfl, hb6⟩
          have Hb6 := Lib.hid (bclose Hb5.out hb6)
          have hw := HP.out.2.2
          clear hb6 HC5 Hb5 HP
          go_wp2_with fail
          go_ret
          exact ⟨rfl, Hb6.out⟩
        · skip
          have E : cmdR 3 e0 a 5 = (14, 3, e0, a) := by simp [cmdR, phR]
          have K := Lib.hid (command_n 5 c0 3 e0 a w4 HP.out.1 HP.out.2.1 HC4.out)
          rw [E] at K
          refine K.out.mono ?_
          rintro e w5 ⟨rfl, hC, hG⟩
          have HC5 := Lib.hid hC
          have Hb5 : Hid (Below w.heap.size w w5) := Hb4.out.grown hG Hb4.out.size (fun k e => by injection e with e; have := HCL.out; omega)
          clear hC hG K HC4 Hb4 E
          go_wp2_with fail
          refine (where_n c0 _ _ _ w5 HC5.out).mono ?_
          rintro e w6 ⟨rfl, hb6⟩
          have Hb6 := Lib.hid (bclose Hb5.out hb6)
          have hw := HP.out.2.2
          clear hb6 HC5 Hb5 HP
          go_wp2_with fail
          go_ret
          exact ⟨rfl, Hb6.out⟩
theorem walk (A : Option Addr) (n cp : Nat) (z : List (Int × Oz)) (kind : Int) (w : World) (hn : n = z.length) (hr : RdK w 22 A (z.map eP)) (hc : n ≤ cp) (hm : cp ≤ 9223372036854775807) (ho : ∀ y ∈ z, OzOk w y.2) (hk : (Lit.int .i64 kind).wf = true) : Calls Tryz.prog 13 #[.slice A n cp, .int .i64 kind] w fun r w' => r = .returned (.bool true) ∧ Below w.heap.size w w' :=
  walk0 A n cp z kind w hn (Nat.le_trans hc hm) ⟨hr, ho⟩
end handoffTable
end Go.Proofs.YtjgojgmgicpgaaaGreat

namespace Go.Proofs.YtjgojgmgicpgaaaGreat.handoffTable
open Go.ChangeShapes Go.WideShapes Go.ChangeAt Go.RowKit
open Go.ChangeMaps (open_string shut_string)
set_option linter.unusedVariables false

theorem own : ownKnob Tryz.prog.godebug = none := by kernel_rfl
theorem laidOut : laidOutB Tryz.prog = true := by kernel_rfl

set_option maxRecDepth 100000 in
theorem contract (H : Type) (enc : TypeId × Value → H) (W : World) (base : Nat) (args : Array Value) (ds gs : List (DataW H)) (before : List MemPlace)
    (hval : ∀ (j : Nat) t v, Tryz.f13.params[j]? = some t → args[j]? = some v → Value.okWide Tryz.prog W .any base t v)
    (hW : DataW.Whole enc Tryz.prog Tryz.f13.params.toList Rows.handoffTableSpec.vars false W args.toList ds gs before) (hsz0 : (DataW.weightsEach Tryz.prog (Tryz.f13.params.toList ++ Rows.handoffTableSpec.plain.varTypes Tryz.prog) (ds ++ gs)).all (· ≤ reachBytes) = true) :
    Calls Tryz.prog 13 args W fun e W' => ∃ v, e = .returned v ∧ Rows.handoffTableSpec.post enc Tryz.prog Tryz.f13 false true false false W args v W' := by
  have hW' := hW
  obtain ⟨p, q, hA0, hV, rfl, hfz, hnd⟩ := hW
  have hA : DataW.TrodAll enc Tryz.prog W 0 (fun _ => true) true Tryz.f13.params.toList args.toList ds p := hA0
  have hsz : (DataW.weightsEach Tryz.prog (Tryz.f13.params.toList ++ Rows.handoffTableSpec.plain.varTypes Tryz.prog) (ds ++ gs)).all (· ≤ reachBytes) = true := hsz0
  clear hsz0
  rw [Tryz.params13] at hA hval hsz
  obtain ⟨v0, vs0, d0, ds0, p0, q0, hargs, rfl, rfl, h0, r0⟩ := trodAll_cons hA
  obtain ⟨v1, vs1, d1, ds1, p1, q1, rfl, rfl, rfl, h1, r1⟩ := trodAll_cons r0
  obtain ⟨rfl, rfl, rfl⟩ := trodAll_nil r1
  obtain rfl : args = #[v0, v1] := by cases args; simp_all
  obtain ⟨rfl, rfl⟩ := trodVars_none hV
  obtain ⟨a0, len0, cap0, rfl⟩ := okWide_slice Tryz.underlying66 (hval 0 66 v0 rfl rfl)
  have k0 := h0
  have lt0 : ∀ x ∈ p0, x.block < W.heap.size := by obtain ⟨m, hm⟩ := k0; exact DataW.trod_lt m _ _ _ hm
  obtain ⟨z0, wl0, wr0, wc0, wm0, wd0⟩ := open_steps h0
  have wo0 := okSteps hsz (j := 0) rfl rfl wd0
  obtain ⟨a1, rfl, rfl, rfl, w1⟩ := open_int Tryz.underlying3 (hval 1 3 v1 rfl rfl) h1
  clear hA0
  refine (walk a0 len0 cap0 z0 a1 W wl0 wr0 wc0 wm0 wo0 w1).mono fun e W' ⟨he, bel⟩ => ?_
  subst he
  exact ⟨_, rfl, _, _, _, [], _, [], hW', trodAll_mk1 (shut_bool Tryz.underlying4 _), (trodAll_cons_mk (Below.trod laidOut (by kernel_rfl) (of_decide_eq_true (by kernel_rfl)) k0 bel lt0) (trodAll_cons_mk (shut_int Tryz.underlying3 w1) trodAll_mk0)), rfl, bel.frame _, fun h => by cases h⟩

set_option maxRecDepth 100000 in
theorem lifted (os : Os) (started : os.Started) (H : Type) (enc : TypeId × Value → H) :
    ReturnsInHanded {} Tryz.checked os 13 .any (Rows.handoffTableSpec.pre6 enc Tryz.prog Tryz.f13 Rows.handoffTableRow.domain false) (Rows.handoffTableSpec.post enc Tryz.prog Tryz.f13 false true false false) := by
  refine returnsInHanded_of_change_sized (C := Tryz.checked) own started (by kernel_rfl) Tryz.func13
    (ChangeSpec.witness6 (enc := enc) (C := Tryz.checked) false ⟨#[], #[.slice none 0 0, .int .i64 0], []⟩ 8 (by kernel_rfl) (by kernel_rfl) (by kernel_rfl) (by kernel_rfl)) ?_
  intro W base args ds gs before hval hW _ hsz _
  exact contract H enc W base args ds gs before hval hW hsz

end Go.Proofs.YtjgojgmgicpgaaaGreat.handoffTable
