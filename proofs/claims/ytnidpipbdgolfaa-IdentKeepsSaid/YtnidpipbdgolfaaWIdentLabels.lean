/- The walk of IdentLabels: the program tells of any labels what the document's own answers tell. Conditions: the arguments are ones that Go can have. -/
import Derived.Test.YtnidpipbdgolfaaAwk
import Derived.Test.YtnidpipbdgolfaaRsw
namespace Go.Proofs.Ytnidpipbdgolfaa.identLabels
open Go.RowKit
set_option linter.unusedSimpArgs false
set_option linter.unusedVariables false

theorem few_len {l : List Lb} (h : fewB l = true) : l.length ≤ 300 := by
  unfold fewB at h; rw [Bool.and_eq_true, decide_eq_true_eq] at h; exact h.1
theorem same_refl (l : List Lb) : sameB l l = true := decide_eq_true rfl

set_option maxHeartbeats 8000000 in
set_option maxRecDepth 100000 in
theorem walk (A : Option Addr) (n c : Nat) (l : List Lb) (B : Option Addr) (m d : Nat) (r : List Lb) (key : ByteArray) (w : World)
    (hn : n = l.length) (hr : RdL w A l) (hcn : n ≤ c) (hcm : c ≤ 9223372036854775807) (hz : Sz l)
    (hm : m = r.length) (hrb : RdL w B r) (hd : m ≤ d) (hd2 : d ≤ 9223372036854775807) (hzb : Sz r) (hkey : key.size ≤ 140737488351232) :
    Calls Try.prog 4 #[.slice A n c, .slice B m d, .string key] w fun e w' => e = .returned (.bool true) ∧ Below w.heap.size w w' := by
  have HN := Lib.hid hn
  have HR := Lib.hid hr
  have HZ := Lib.hid hz
  have HM := Lib.hid hm
  have HRB := Lib.hid hrb
  have HZB := Lib.hid hzb
  clear hn hr hz hm hrb hzb
  have hfa := fun W h => few_any A n c l W HN (Lib.hid h) HZ hcn hcm
  have hfb := fun W h => few_any B m d r W HM (Lib.hid h) HZB hd hd2
  by_cases fa : fewB l = true
  case neg =>
    have fa' : fewB l = false := by simpa using fa
    rw [fa'] at hfa
    have HFA := Lib.hid hfa
    clear fa fa' hfa hfb
    go_enter Try.func4, Try.ntmps4
    go_wp2_with fail
    refine (awake_any _).mono ?_
    rintro e w1 ⟨rfl, hb1⟩
    have hc1 : Below w.heap.size w w1 := hb1.mono (by first | exact Nat.le_refl _ | (simp only [World.size_alloc, World.size_setCell, World.size_drew, sz_drewN]; omega)) |> fun h => (by first | exact h | exact Below.trans (by (repeat' (first | (with_reducible exact Below.refl _ _) | (with_reducible refine Below.setCell ?_ ?_ _) | (with_reducible refine Below.alloc ?_ ?_ _) | exact Nat.le_refl _))) h)
    go_wp2_with fail
    refine (HFA.out _ (HR.out.later hc1)).mono ?_
    rintro e w2 ⟨rfl, hb2⟩
    have hc2 : Below w.heap.size w w2 := hc1.trans (hb2.mono hc1.size)
    go_wp2_with fail
    refine (awake_any _).mono ?_
    rintro e w3 ⟨rfl, hb3⟩
    have hc3 : Below w.heap.size w w3 := hc2.trans (hb3.mono hc2.size)
    go_wp2
    go_ret
    exact ⟨rfl, hc3⟩
  rw [fa] at hfa
  have HFA := Lib.hid hfa
  have hn300 : n ≤ 1000 := by have := few_len fa; have := HN.out; omega
  clear fa hfa
  by_cases fb : fewB r = true
  case neg =>
    have fb' : fewB r = false := by simpa using fb
    rw [fb'] at hfb
    have HFB := Lib.hid hfb
    clear fb fb' hfb
    go_enter Try.func4, Try.ntmps4
    go_wp2_with fail
    refine (awake_any _).mono ?_
    rintro e w1 ⟨rfl, hb1⟩
    have hc1 : Below w.heap.size w w1 := hb1.mono (by first | exact Nat.le_refl _ | (simp only [World.size_alloc, World.size_setCell, World.size_drew, sz_drewN]; omega)) |> fun h => (by first | exact h | exact Below.trans (by (repeat' (first | (with_reducible exact Below.refl _ _) | (with_reducible refine Below.setCell ?_ ?_ _) | (with_reducible refine Below.alloc ?_ ?_ _) | exact Nat.le_refl _))) h)
    go_wp2_with fail
    refine (HFA.out _ (HR.out.later hc1)).mono ?_
    rintro e w2 ⟨rfl, hb2⟩
    have hc2 : Below w.heap.size w w2 := hc1.trans (hb2.mono hc1.size)
    go_wp2_with fail
    refine (HFB.out _ (HRB.out.later hc2)).mono ?_
    rintro e w3 ⟨rfl, hb3⟩
    have hc3 : Below w.heap.size w w3 := hc2.trans (hb3.mono hc2.size)
    go_wp2_with fail
    refine (awake_any _).mono ?_
    rintro e w4 ⟨rfl, hb4⟩
    have hc4 : Below w.heap.size w w4 := hc3.trans (hb4.mono hc3.size)
    go_wp2
    go_ret
    exact ⟨rfl, hc4⟩
  rw [fb] at hfb
  have HFB := Lib.hid hfb
  clear fb hfb
  have hva := fun W h => value_any A n c l key W HN (Lib.hid h) hcn hcm
  have hrva := fun W h => rvalue_any A n c l key W HN (Lib.hid h) hcn hcm
  have hha := fun W h h' => has_any A B n c m d l r W HN HM (Lib.hid h) (Lib.hid h') hcn hcm hd hd2
  have hrha := fun W h h' => rhas_any A B n c m d l r W HN HM (Lib.hid h) (Lib.hid h') hcn hcm hd hd2
  have hso := fun W h => sorted_any A n c l W HN (Lib.hid h) hn300
  have hrso := fun W h => rsorted_any A n c l W HN (Lib.hid h) hcn hcm hn300
  rcases hv : valueP l key with ⟨v, ok⟩
  rw [hv] at hva hrva
  unfold retV at hva hrva
  simp only [] at hva hrva
  generalize hasB l r = hb at hha hrha
  have HVA := Lib.hid hva
  have HRVA := Lib.hid hrva
  have HHA := Lib.hid hha
  have HRHA := Lib.hid hrha
  have HSO := Lib.hid hso
  have HRSO := Lib.hid hrso
  have evv : (v.toList == v.toList) = true := sE_refl v
  clear hva hrva hha hrha hso hrso hv
  go_enter Try.func4, Try.ntmps4
  go_wp2_with fail
  refine (awake_any _).mono ?_
  rintro e w1 ⟨rfl, hb1⟩
  have hc1 : Below w.heap.size w w1 := hb1.mono (by first | exact Nat.le_refl _ | (simp only [World.size_alloc, World.size_setCell, World.size_drew, sz_drewN]; omega)) |> fun h => (by first | exact h | exact Below.trans (by (repeat' (first | (with_reducible exact Below.refl _ _) | (with_reducible refine Below.setCell ?_ ?_ _) | (with_reducible refine Below.alloc ?_ ?_ _) | exact Nat.le_refl _))) h)
  go_wp2_with fail
  refine (HFA.out _ (HR.out.later hc1)).mono ?_
  rintro e w2 ⟨rfl, hb2⟩
  have hc2 : Below w.heap.size w w2 := hc1.trans (hb2.mono hc1.size)
  go_wp2_with fail
  refine (HFB.out _ (HRB.out.later hc2)).mono ?_
  rintro e w3 ⟨rfl, hb3⟩
  have hc3 : Below w.heap.size w w3 := hc2.trans (hb3.mono hc2.size)
  go_wp2_with fail
  refine (HVA.out _ (HR.out.later hc3)).mono ?_
  rintro e w4 ⟨rfl, hb4⟩
  have hc4 : Below w.heap.size w w4 := hc3.trans (hb4.mono hc3.size)
  go_wp2_with fail
  refine (HRVA.out _ (HR.out.later hc4)).mono ?_
  rintro e w5 ⟨rfl, hb5⟩
  have hc5 : Below w.heap.size w w5 := hc4.trans (hb5.mono hc4.size)
  go_wp2_with fail
  refine (HHA.out _ (HR.out.later hc5) (HRB.out.later hc5)).mono ?_
  rintro e w6 ⟨rfl, hb6⟩
  have hc6 : Below w.heap.size w w6 := hc5.trans (hb6.mono hc5.size)
  go_wp2_with fail
  refine (HRHA.out _ (HR.out.later hc6) (HRB.out.later hc6)).mono ?_
  rintro e w7 ⟨rfl, hb7⟩
  have hc7 : Below w.heap.size w w7 := hc6.trans (hb7.mono hc6.size)
  go_wp2_with fail
  refine (HSO.out _ (HR.out.later hc7)).mono ?_
  rintro e w8 ⟨v1, s1, rfl, hs1, hl1, hO1, hb8⟩
  have hc8 : Below w.heap.size w w8 := hc7.trans (hb8.mono hc7.size)
  obtain ⟨A1, c1, S1⟩ := hO1.sl
  have hv1 := S1.val
  subst hv1
  have hcap1 := S1.cap
  have hcap1' := S1.cap2
  have HS1 := Lib.hid S1.rd
  have HEQ := Lib.hid hs1
  simp only [maxLen] at hcap1'
  obtain ⟨m1, hm1⟩ : ∃ m1, m1 = s1.length := ⟨_, rfl⟩
  rw [← hm1] at hcap1 ⊢
  have HM1 := Lib.hid hm1
  clear S1 hO1 hs1 hl1 hm1
  go_wp2_with fail
  refine (HRSO.out _ (HR.out.later hc8)).mono ?_
  rintro e w9 ⟨v2, rfl, hO2, hb9⟩
  have hc9 : Below w.heap.size w w9 := hc8.trans (hb9.mono hc8.size)
  obtain ⟨A2, c2, S2⟩ := hO2.sl
  have hv2 := S2.val
  subst hv2
  have hcap2 := S2.cap
  have hcap2' := S2.cap2
  have HS2 := Lib.hid S2.rd
  simp only [maxLen] at hcap2'
  obtain ⟨m2, hm2⟩ : ∃ m2, m2 = (rSorted l).length := ⟨_, rfl⟩
  rw [← hm2] at hcap2 ⊢
  have HM2 := Lib.hid hm2
  have hsame := same_any A1 A2 m1 c1 m2 c2 s1 (rSorted l) w9 HM1 HM2 (Lib.hid (HS1.out.later hb9)) HS2 hcap1 (by omega) hcap2 (by omega)
  rw [sorted_unique HEQ.out (rSorted_sorted _ l rfl), same_refl] at hsame
  have HSame := Lib.hid hsame
  clear S2 hO2 hm2 hsame
  go_wp2_with fail
  refine (HSame.out).mono ?_
  rintro e w10 ⟨rfl, hb10⟩
  have hc10 : Below w.heap.size w w10 := hc9.trans (hb10.mono hc9.size)
  go_wp2
  go_ret
  exact ⟨by simp, hc10⟩
end Go.Proofs.Ytnidpipbdgolfaa.identLabels
