/- The walk of IdentHas: to have labels is an order; and to have labels that can be is to have each by its key. Conditions: the arguments are ones that Go can have. -/
import Derived.Test.YtnidpipbdgolfaaAwk
namespace Go.Proofs.Ytnidpipbdgolfaa.identHas
open Go.RowKit
set_option linter.unusedSimpArgs false
set_option linter.unusedVariables false

theorem contains_iff {l : List Lb} {x : Lb} : containsB l x = true ↔ x ∈ l := by
  unfold containsB
  rw [List.any_eq_true]
  constructor
  · rintro ⟨y, hy, h⟩; rw [← lE_iff.1 h]; exact hy
  · intro h; exact ⟨x, h, lE_iff.2 rfl⟩
theorem has_iff {l r : List Lb} : hasB l r = true ↔ ∀ x ∈ r, x ∈ l := by
  unfold hasB
  rw [List.all_eq_true]
  exact ⟨fun h x hx => contains_iff.1 (h x hx), fun h x hx => contains_iff.2 (h x hx)⟩
theorem has_refl (l : List Lb) : hasB l l = true := has_iff.2 fun _ h => h
theorem has_nil (l : List Lb) : hasB l [] = true := rfl
theorem has_trans {a b c : List Lb} (h1 : hasB a b = true) (h2 : hasB b c = true) : hasB a c = true := has_iff.2 fun x hx => has_iff.1 h1 x (has_iff.1 h2 x hx)

/-- Valid labels ascend. -/
theorem labels_asc {l : List Lb} (h : labelsB l = true) : Asc l := by
  unfold labelsB at h
  rw [Bool.and_eq_true] at h
  have hs : ∀ i, (hi : i + 1 < l.length) → sL l[i].1 l[i + 1].1 = true := fun i hi => by
    have := List.all_eq_true.1 h.2 (i + 1) (List.mem_range.2 hi)
    rw [labAt_succ hi] at this
    exact (Bool.and_eq_true _ _ |>.mp this).2
  unfold Asc
  rw [List.pairwise_iff_getElem]
  intro i j hi hj hij
  induction j with
  | zero => omega
  | succ j ih =>
    rcases Nat.eq_or_lt_of_le (Nat.le_of_lt_succ hij) with e | e
    · subst e; exact hs i hj
    · exact sL_trans (ih (by omega) e) (hs j hj)
theorem find_none {l : List Lb} {key : ByteArray} (h : l.find? (fun x => sE x.1 key) = none) : ∀ x ∈ l, x.1 ≠ key := by
  rw [List.find?_eq_none] at h
  intro x hx e
  exact h x hx (sE_iff.2 e)
/-- Each by its key: of labels whose keys ascend. -/
theorem value_has {l : List Lb} (h : Asc l) (x : Lb) : containsB l x = ((valueP l x.1).2 && sE (valueP l x.1).1 x.2) := by
  unfold valueP
  cases hf : l.find? fun y => sE y.1 x.1 with
  | none =>
    simp only [Bool.false_and]
    rw [Bool.eq_false_iff]; intro hc
    exact find_none hf x (contains_iff.1 hc) rfl
  | some y =>
    have hy := List.mem_of_find?_eq_some hf
    have hk : y.1 = x.1 := sE_iff.1 (List.find?_some (p := fun y : Lb => sE y.1 x.1) hf)
    simp only [Bool.true_and]
    rw [Bool.eq_iff_iff, contains_iff, sE_iff]
    constructor
    · intro hx; rw [asc_key h hy hx hk]
    · intro e
      have : y = x := Prod.ext hk e
      rw [← this]; exact hy

set_option maxHeartbeats 8000000 in
set_option maxRecDepth 100000 in
theorem walk (A : Option Addr) (n c : Nat) (l : List Lb) (B : Option Addr) (m d : Nat) (r : List Lb) (C : Option Addr) (q f : Nat) (t : List Lb) (w : World)
    (hn : n = l.length) (hr : RdL w A l) (hcn : n ≤ c) (hcm : c ≤ 9223372036854775807) (hz : Sz l)
    (hm : m = r.length) (hrb : RdL w B r) (hd : m ≤ d) (hd2 : d ≤ 9223372036854775807) (hzb : Sz r)
    (hq : q = t.length) (hrc : RdL w C t) (hf : q ≤ f) (hf2 : f ≤ 9223372036854775807) (hzc : Sz t) :
    Calls Try.prog 6 #[.slice A n c, .slice B m d, .slice C q f] w fun e w' => e = .returned (.bool true) ∧ Below w.heap.size w w' := by
  have HN := Lib.hid hn
  have HR := Lib.hid hr
  have HZ := Lib.hid hz
  have HM := Lib.hid hm
  have HRB := Lib.hid hrb
  have HZB := Lib.hid hzb
  have HQ := Lib.hid hq
  have HRC := Lib.hid hrc
  have HZC := Lib.hid hzc
  clear hn hr hz hm hrb hzb hq hrc hzc
  have hfa := fun W h => few_any A n c l W HN (Lib.hid h) HZ hcn hcm
  have hfb := fun W h => few_any B m d r W HM (Lib.hid h) HZB hd hd2
  have hfc := fun W h => few_any C q f t W HQ (Lib.hid h) HZC hf hf2
  have haa := Lib.hid (fun W h => has_any A A n c n c l l W HN HN (Lib.hid h) (Lib.hid h) hcn hcm hcn hcm)
  have han := Lib.hid (fun W h => has_any A none n c 0 0 l [] W HN (Lib.hid rfl) (Lib.hid h) (Lib.hid (RdL.nil _ _)) hcn hcm (Nat.le_refl _) (by omega))
  have hab := fun W h h' => has_any A B n c m d l r W HN HM (Lib.hid h) (Lib.hid h') hcn hcm hd hd2
  have hbc := fun W h h' => has_any B C m d q f r t W HM HQ (Lib.hid h) (Lib.hid h') hd hd2 hf hf2
  have hac := fun W h h' => has_any A C n c q f l t W HN HQ (Lib.hid h) (Lib.hid h') hcn hcm hf hf2
  have hla := fun W h => labels_any A n c l W HN (Lib.hid h) HZ hcn hcm
  rw [has_refl] at haa
  rw [has_nil] at han
  by_cases fa : fewB l = true
  case neg =>
    have fa' : fewB l = false := by simpa using fa
    rw [fa'] at hfa
    have HFA := Lib.hid hfa
    clear fa fa' hfa hfb hfc hab hbc hac hla
    go_enter Try.func6, Try.ntmps6
    go_wp2_with fail
    refine (awake_any _).mono ?_
    rintro e w1 ⟨rfl, hb1⟩
    have hc1 : Below w.heap.size w w1 := hb1.mono (by first | exact Nat.le_refl _ | (simp only [World.size_alloc, World.size_setCell, World.size_drew, sz_drewN]; omega)) |> fun h => (by first | exact h | exact Below.trans (by (repeat' (first | (with_reducible exact Below.refl _ _) | (with_reducible refine Below.setCell ?_ ?_ _) | (with_reducible refine Below.alloc ?_ ?_ _) | exact Nat.le_refl _))) h)
    go_wp2_with fail
    refine (HFA.out _ (HR.out.later hc1)).mono ?_
    rintro e w2 ⟨rfl, hb2⟩
    have hc2 : Below w.heap.size w w2 := hc1.trans (hb2.mono hc1.size)
    go_wp2_with fail
    refine (awake_any _).mono ?_
    rintro e w3 ⟨rfl, hb3⟩
    have hc3 : Below w.heap.size w w3 := hc2.trans (hb3.mono hc2.size)
    go_wp2
    go_ret
    exact ⟨rfl, hc3⟩
  rw [fa] at hfa
  have HFA := Lib.hid hfa
  clear fa hfa
  by_cases fb : fewB r = true
  case neg =>
    have fb' : fewB r = false := by simpa using fb
    rw [fb'] at hfb
    have HFB := Lib.hid hfb
    clear fb fb' hfb hfc hab hbc hac hla
    go_enter Try.func6, Try.ntmps6
    go_wp2_with fail
    refine (awake_any _).mono ?_
    rintro e w1 ⟨rfl, hb1⟩
    have hc1 : Below w.heap.size w w1 := hb1.mono (by first | exact Nat.le_refl _ | (simp only [World.size_alloc, World.size_setCell, World.size_drew, sz_drewN]; omega)) |> fun h => (by first | exact h | exact Below.trans (by (repeat' (first | (with_reducible exact Below.refl _ _) | (with_reducible refine Below.setCell ?_ ?_ _) | (with_reducible refine Below.alloc ?_ ?_ _) | exact Nat.le_refl _))) h)
    go_wp2_with fail
    refine (HFA.out _ (HR.out.later hc1)).mono ?_
    rintro e w2 ⟨rfl, hb2⟩
    have hc2 : Below w.heap.size w w2 := hc1.trans (hb2.mono hc1.size)
    go_wp2_with fail
    refine (HFB.out _ (HRB.out.later hc2)).mono ?_
    rintro e w3 ⟨rfl, hb3⟩
    have hc3 : Below w.heap.size w w3 := hc2.trans (hb3.mono hc2.size)
    go_wp2_with fail
    refine (awake_any _).mono ?_
    rintro e w4 ⟨rfl, hb4⟩
    have hc4 : Below w.heap.size w w4 := hc3.trans (hb4.mono hc3.size)
    go_wp2
    go_ret
    exact ⟨rfl, hc4⟩
  rw [fb] at hfb
  have HFB := Lib.hid hfb
  clear fb hfb
  by_cases fc : fewB t = true
  case neg =>
    have fc' : fewB t = false := by simpa using fc
    rw [fc'] at hfc
    have HFC := Lib.hid hfc
    clear fc fc' hfc hab hbc hac hla
    go_enter Try.func6, Try.ntmps6
    go_wp2_with fail
    refine (awake_any _).mono ?_
    rintro e w1 ⟨rfl, hb1⟩
    have hc1 : Below w.heap.size w w1 := hb1.mono (by first | exact Nat.le_refl _ | (simp only [World.size_alloc, World.size_setCell, World.size_drew, sz_drewN]; omega)) |> fun h => (by first | exact h | exact Below.trans (by (repeat' (first | (with_reducible exact Below.refl _ _) | (with_reducible refine Below.setCell ?_ ?_ _) | (with_reducible refine Below.alloc ?_ ?_ _) | exact Nat.le_refl _))) h)
    go_wp2_with fail
    refine (HFA.out _ (HR.out.later hc1)).mono ?_
    rintro e w2 ⟨rfl, hb2⟩
    have hc2 : Below w.heap.size w w2 := hc1.trans (hb2.mono hc1.size)
    go_wp2_with fail
    refine (HFB.out _ (HRB.out.later hc2)).mono ?_
    rintro e w3 ⟨rfl, hb3⟩
    have hc3 : Below w.heap.size w w3 := hc2.trans (hb3.mono hc2.size)
    go_wp2_with fail
    refine (HFC.out _ (HRC.out.later hc3)).mono ?_
    rintro e w4 ⟨rfl, hb4⟩
    have hc4 : Below w.heap.size w w4 := hc3.trans (hb4.mono hc3.size)
    go_wp2_with fail
    refine (awake_any _).mono ?_
    rintro e w5 ⟨rfl, hb5⟩
    have hc5 : Below w.heap.size w w5 := hc4.trans (hb5.mono hc4.size)
    go_wp2
    go_ret
    exact ⟨rfl, hc5⟩
  rw [fc] at hfc
  have HFC := Lib.hid hfc
  clear fc hfc
  by_cases eab : hasB l r = true
  case neg =>
    have eab' : hasB l r = false := by simpa using eab
    rw [eab'] at hab
    have HAB := Lib.hid hab
    have HE := Lib.hid eab'
    clear eab eab' hab hbc hac
    by_cases ela : labelsB l = true
    · have HAsc := Lib.hid (labels_asc ela)
      rw [ela] at hla
      have HLA := Lib.hid hla
      clear ela hla
      go_enter Try.func6, Try.ntmps6
      go_wp2_with fail
      refine (awake_any _).mono ?_
      rintro e w1 ⟨rfl, hb1⟩
      have hc1 : Below w.heap.size w w1 := hb1.mono (by first | exact Nat.le_refl _ | (simp only [World.size_alloc, World.size_setCell, World.size_drew, sz_drewN]; omega)) |> fun h => (by first | exact h | exact Below.trans (by (repeat' (first | (with_reducible exact Below.refl _ _) | (with_reducible refine Below.setCell ?_ ?_ _) | (with_reducible refine Below.alloc ?_ ?_ _) | exact Nat.le_refl _))) h)
      go_wp2_with fail
      refine (HFA.out _ (HR.out.later hc1)).mono ?_
      rintro e w2 ⟨rfl, hb2⟩
      have hc2 : Below w.heap.size w w2 := hc1.trans (hb2.mono hc1.size)
      go_wp2_with fail
      refine (HFB.out _ (HRB.out.later hc2)).mono ?_
      rintro e w3 ⟨rfl, hb3⟩
      have hc3 : Below w.heap.size w w3 := hc2.trans (hb3.mono hc2.size)
      go_wp2_with fail
      refine (HFC.out _ (HRC.out.later hc3)).mono ?_
      rintro e w4 ⟨rfl, hb4⟩
      have hc4 : Below w.heap.size w w4 := hc3.trans (hb4.mono hc3.size)
      go_wp2_with fail
      refine (haa.out _ (HR.out.later hc4)).mono ?_
      rintro e w5 ⟨rfl, hb5⟩
      have hc5 : Below w.heap.size w w5 := hc4.trans (hb5.mono hc4.size)
      go_wp2_with fail
      refine (han.out _ (HR.out.later hc5)).mono ?_
      rintro e w6 ⟨rfl, hb6⟩
      have hc6 : Below w.heap.size w w6 := hc5.trans (hb6.mono hc5.size)
      go_wp2_with fail
      refine (HAB.out _ (HR.out.later hc6) (HRB.out.later hc6)).mono ?_
      rintro e w7 ⟨rfl, hb7⟩
      have hc7 : Below w.heap.size w w7 := hc6.trans (hb7.mono hc6.size)
      go_wp2_with fail
      refine (HLA.out _ (HR.out.later hc7)).mono ?_
      rintro e w8 ⟨rfl, hb8⟩
      have hc8 : Below w.heap.size w w8 := hc7.trans (hb8.mono hc7.size)
      go_wp2_with fail
      go_loopw [7, 8, 9, 10, 59] (fun al _ _ _ i wr => ∃ k : Nat, k ≤ m ∧ i = .int .i64 k ∧ al = .bool ((r.take k).all (containsB l)) ∧ Below w.heap.size w wr) (fun _ _ _ _ i wr => m - (intOf i).toNat)
      case atStart => exact ⟨0, Nat.zero_le _, rfl, rfl, hc8⟩
      case round =>
        obtain ⟨k, hk, rfl, rfl, hb⟩ := hrel
        have hsz := hb.size
        by_cases hlt : k < m
        · have hl : k < r.length := by have := HM.out; omega
          obtain ⟨g, o, rfl, hg, h1, h2⟩ := (HRB.out.later hb).at hl
          have hS := @all_takeL r (containsB l) k hl
          rw [value_has HAsc.out r[k]] at hS
          have hcon := value_any A n c l r[k].1 wr HN (Lib.hid (HR.out.later hb)) hcn hcm
          rcases hv : valueP l r[k].1 with ⟨v, ok⟩
          rw [hv] at hcon hS
          unfold retV at hcon
          simp only [] at hcon hS
          have HC := Lib.hid hcon
          clear hcon hv
          by_cases hP : (r.take k).all (containsB l) = true
          · rw [hP] at hS ⊢
            cases ok with
            | false =>
              have HS : Hid (false = (r.take (k + 1)).all (containsB l)) := Lib.hid (by rw [hS]; rfl)
              clear hS hP
              go_wp2_with fail
              refine HC.out.mono ?_
              rintro e wv ⟨rfl, hbv⟩
              go_wp2
              go_round
              case rel => exact ⟨k + 1, by omega, by go_num, congrArg Value.bool HS.out, hb.trans (hbv.mono hsz)⟩
              case measure => simp [intOf]; omega
            | true =>
              have hgv : g < wr.heap.size := hg
              by_cases hE : sE v r[k].2 = true
              · have HS : Hid (true = (r.take (k + 1)).all (containsB l)) := Lib.hid (by rw [hS, hE]; rfl)
                have e1 : (v.toList == r[k].2.toList) = true := hE
                clear hS hP hE
                go_wp2_with fail
                refine HC.out.mono ?_
                rintro e wv ⟨rfl, hbv⟩
                have h2v : wv.cell? ⟨g, o + k * 2 + 1, none⟩ = some (.string r[k].2) := (hbv.cell (p := ⟨g, o + k * 2 + 1, none⟩) hg).trans h2
                go_wp2
                go_round
                case rel => exact ⟨k + 1, by omega, by go_num, congrArg Value.bool HS.out, hb.trans (hbv.mono hsz)⟩
                case measure => simp [intOf]; omega
              · have hE' : sE v r[k].2 = false := by simpa using hE
                have HS : Hid (false = (r.take (k + 1)).all (containsB l)) := Lib.hid (by rw [hS, hE']; rfl)
                have e1 : (v.toList == r[k].2.toList) = false := hE'
                clear hS hP hE hE'
                go_wp2_with fail
                refine HC.out.mono ?_
                rintro e wv ⟨rfl, hbv⟩
                have h2v : wv.cell? ⟨g, o + k * 2 + 1, none⟩ = some (.string r[k].2) := (hbv.cell (p := ⟨g, o + k * 2 + 1, none⟩) hg).trans h2
                go_wp2
                go_round
                case rel => exact ⟨k + 1, by omega, by go_num, congrArg Value.bool HS.out, hb.trans (hbv.mono hsz)⟩
                case measure => simp [intOf]; omega
          · have hP' : (r.take k).all (containsB l) = false := by simpa using hP
            rw [hP'] at hS ⊢
            have HS : Hid (false = (r.take (k + 1)).all (containsB l)) := Lib.hid (by rw [hS]; rfl)
            clear hS hP hP'
            go_wp2_with fail
            refine HC.out.mono ?_
            rintro e wv ⟨rfl, hbv⟩
            go_wp2
            go_round
            case rel => exact ⟨k + 1, by omega, by go_num, congrArg Value.bool HS.out, hb.trans (hbv.mono hsz)⟩
            case measure => simp [intOf]; omega
        · have hkm : r.take k = r := List.take_of_length_le (by have := HM.out; omega)
          rw [hkm, show r.all (containsB l) = hasB l r from rfl, HE.out]
          clear hkm
          go_wp2_with fail
          refine (HAB.out _ (HR.out.later hb) (HRB.out.later hb)).mono ?_
          rintro e wz ⟨rfl, hbz⟩
          go_wp2
          go_ret
          exact ⟨rfl, hb.trans (hbz.mono hsz)⟩
    · have ela' : labelsB l = false := by simpa using ela
      rw [ela'] at hla
      have HLA := Lib.hid hla
      clear ela ela' hla
      go_enter Try.func6, Try.ntmps6
      go_wp2_with fail
      refine (awake_any _).mono ?_
      rintro e w1 ⟨rfl, hb1⟩
      have hc1 : Below w.heap.size w w1 := hb1.mono (by first | exact Nat.le_refl _ | (simp only [World.size_alloc, World.size_setCell, World.size_drew, sz_drewN]; omega)) |> fun h => (by first | exact h | exact Below.trans (by (repeat' (first | (with_reducible exact Below.refl _ _) | (with_reducible refine Below.setCell ?_ ?_ _) | (with_reducible refine Below.alloc ?_ ?_ _) | exact Nat.le_refl _))) h)
      go_wp2_with fail
      refine (HFA.out _ (HR.out.later hc1)).mono ?_
      rintro e w2 ⟨rfl, hb2⟩
      have hc2 : Below w.heap.size w w2 := hc1.trans (hb2.mono hc1.size)
      go_wp2_with fail
      refine (HFB.out _ (HRB.out.later hc2)).mono ?_
      rintro e w3 ⟨rfl, hb3⟩
      have hc3 : Below w.heap.size w w3 := hc2.trans (hb3.mono hc2.size)
      go_wp2_with fail
      refine (HFC.out _ (HRC.out.later hc3)).mono ?_
      rintro e w4 ⟨rfl, hb4⟩
      have hc4 : Below w.heap.size w w4 := hc3.trans (hb4.mono hc3.size)
      go_wp2_with fail
      refine (haa.out _ (HR.out.later hc4)).mono ?_
      rintro e w5 ⟨rfl, hb5⟩
      have hc5 : Below w.heap.size w w5 := hc4.trans (hb5.mono hc4.size)
      go_wp2_with fail
      refine (han.out _ (HR.out.later hc5)).mono ?_
      rintro e w6 ⟨rfl, hb6⟩
      have hc6 : Below w.heap.size w w6 := hc5.trans (hb6.mono hc5.size)
      go_wp2_with fail
      refine (HAB.out _ (HR.out.later hc6) (HRB.out.later hc6)).mono ?_
      rintro e w7 ⟨rfl, hb7⟩
      have hc7 : Below w.heap.size w w7 := hc6.trans (hb7.mono hc6.size)
      go_wp2_with fail
      refine (HLA.out _ (HR.out.later hc7)).mono ?_
      rintro e w8 ⟨rfl, hb8⟩
      have hc8 : Below w.heap.size w w8 := hc7.trans (hb8.mono hc7.size)
      go_wp2
      go_ret
      exact ⟨rfl, hc8⟩
  by_cases ebc : hasB r t = true
  case neg =>
    have ebc' : hasB r t = false := by simpa using ebc
    rw [ebc'] at hbc
    rw [eab] at hab
    have HAB := Lib.hid hab
    have HBC := Lib.hid hbc
    have HE := Lib.hid eab
    clear eab ebc ebc' hab hbc hac
    by_cases ela : labelsB l = true
    · have HAsc := Lib.hid (labels_asc ela)
      rw [ela] at hla
      have HLA := Lib.hid hla
      clear ela hla
      go_enter Try.func6, Try.ntmps6
      go_wp2_with fail
      refine (awake_any _).mono ?_
      rintro e w1 ⟨rfl, hb1⟩
      have hc1 : Below w.heap.size w w1 := hb1.mono (by first | exact Nat.le_refl _ | (simp only [World.size_alloc, World.size_setCell, World.size_drew, sz_drewN]; omega)) |> fun h => (by first | exact h | exact Below.trans (by (repeat' (first | (with_reducible exact Below.refl _ _) | (with_reducible refine Below.setCell ?_ ?_ _) | (with_reducible refine Below.alloc ?_ ?_ _) | exact Nat.le_refl _))) h)
      go_wp2_with fail
      refine (HFA.out _ (HR.out.later hc1)).mono ?_
      rintro e w2 ⟨rfl, hb2⟩
      have hc2 : Below w.heap.size w w2 := hc1.trans (hb2.mono hc1.size)
      go_wp2_with fail
      refine (HFB.out _ (HRB.out.later hc2)).mono ?_
      rintro e w3 ⟨rfl, hb3⟩
      have hc3 : Below w.heap.size w w3 := hc2.trans (hb3.mono hc2.size)
      go_wp2_with fail
      refine (HFC.out _ (HRC.out.later hc3)).mono ?_
      rintro e w4 ⟨rfl, hb4⟩
      have hc4 : Below w.heap.size w w4 := hc3.trans (hb4.mono hc3.size)
      go_wp2_with fail
      refine (haa.out _ (HR.out.later hc4)).mono ?_
      rintro e w5 ⟨rfl, hb5⟩
      have hc5 : Below w.heap.size w w5 := hc4.trans (hb5.mono hc4.size)
      go_wp2_with fail
      refine (han.out _ (HR.out.later hc5)).mono ?_
      rintro e w6 ⟨rfl, hb6⟩
      have hc6 : Below w.heap.size w w6 := hc5.trans (hb6.mono hc5.size)
      go_wp2_with fail
      refine (HAB.out _ (HR.out.later hc6) (HRB.out.later hc6)).mono ?_
      rintro e w7 ⟨rfl, hb7⟩
      have hc7 : Below w.heap.size w w7 := hc6.trans (hb7.mono hc6.size)
      go_wp2_with fail
      refine (HBC.out _ (HRB.out.later hc7) (HRC.out.later hc7)).mono ?_
      rintro e w8 ⟨rfl, hb8⟩
      have hc8 : Below w.heap.size w w8 := hc7.trans (hb8.mono hc7.size)
      go_wp2_with fail
      refine (HLA.out _ (HR.out.later hc8)).mono ?_
      rintro e w9 ⟨rfl, hb9⟩
      have hc9 : Below w.heap.size w w9 := hc8.trans (hb9.mono hc8.size)
      go_wp2_with fail
      go_loopw [7, 8, 9, 10, 59] (fun al _ _ _ i wr => ∃ k : Nat, k ≤ m ∧ i = .int .i64 k ∧ al = .bool ((r.take k).all (containsB l)) ∧ Below w.heap.size w wr) (fun _ _ _ _ i wr => m - (intOf i).toNat)
      case atStart => exact ⟨0, Nat.zero_le _, rfl, rfl, hc9⟩
      case round =>
        obtain ⟨k, hk, rfl, rfl, hb⟩ := hrel
        have hsz := hb.size
        by_cases hlt : k < m
        · have hl : k < r.length := by have := HM.out; omega
          obtain ⟨g, o, rfl, hg, h1, h2⟩ := (HRB.out.later hb).at hl
          have hS := @all_takeL r (containsB l) k hl
          rw [value_has HAsc.out r[k]] at hS
          have hcon := value_any A n c l r[k].1 wr HN (Lib.hid (HR.out.later hb)) hcn hcm
          rcases hv : valueP l r[k].1 with ⟨v, ok⟩
          rw [hv] at hcon hS
          unfold retV at hcon
          simp only [] at hcon hS
          have HC := Lib.hid hcon
          clear hcon hv
          by_cases hP : (r.take k).all (containsB l) = true
          · rw [hP] at hS ⊢
            cases ok with
            | false =>
              have HS : Hid (false = (r.take (k + 1)).all (containsB l)) := Lib.hid (by rw [hS]; rfl)
              clear hS hP
              go_wp2_with fail
              refine HC.out.mono ?_
              rintro e wv ⟨rfl, hbv⟩
              go_wp2
              go_round
              case rel => exact ⟨k + 1, by omega, by go_num, congrArg Value.bool HS.out, hb.trans (hbv.mono hsz)⟩
              case measure => simp [intOf]; omega
            | true =>
              have hgv : g < wr.heap.size := hg
              by_cases hE : sE v r[k].2 = true
              · have HS : Hid (true = (r.take (k + 1)).all (containsB l)) := Lib.hid (by rw [hS, hE]; rfl)
                have e1 : (v.toList == r[k].2.toList) = true := hE
                clear hS hP hE
                go_wp2_with fail
                refine HC.out.mono ?_
                rintro e wv ⟨rfl, hbv⟩
                have h2v : wv.cell? ⟨g, o + k * 2 + 1, none⟩ = some (.string r[k].2) := (hbv.cell (p := ⟨g, o + k * 2 + 1, none⟩) hg).trans h2
                go_wp2
                go_round
                case rel => exact ⟨k + 1, by omega, by go_num, congrArg Value.bool HS.out, hb.trans (hbv.mono hsz)⟩
                case measure => simp [intOf]; omega
              · have hE' : sE v r[k].2 = false := by simpa using hE
                have HS : Hid (false = (r.take (k + 1)).all (containsB l)) := Lib.hid (by rw [hS, hE']; rfl)
                have e1 : (v.toList == r[k].2.toList) = false := hE'
                clear hS hP hE hE'
                go_wp2_with fail
                refine HC.out.mono ?_
                rintro e wv ⟨rfl, hbv⟩
                have h2v : wv.cell? ⟨g, o + k * 2 + 1, none⟩ = some (.string r[k].2) := (hbv.cell (p := ⟨g, o + k * 2 + 1, none⟩) hg).trans h2
                go_wp2
                go_round
                case rel => exact ⟨k + 1, by omega, by go_num, congrArg Value.bool HS.out, hb.trans (hbv.mono hsz)⟩
                case measure => simp [intOf]; omega
          · have hP' : (r.take k).all (containsB l) = false := by simpa using hP
            rw [hP'] at hS ⊢
            have HS : Hid (false = (r.take (k + 1)).all (containsB l)) := Lib.hid (by rw [hS]; rfl)
            clear hS hP hP'
            go_wp2_with fail
            refine HC.out.mono ?_
            rintro e wv ⟨rfl, hbv⟩
            go_wp2
            go_round
            case rel => exact ⟨k + 1, by omega, by go_num, congrArg Value.bool HS.out, hb.trans (hbv.mono hsz)⟩
            case measure => simp [intOf]; omega
        · have hkm : r.take k = r := List.take_of_length_le (by have := HM.out; omega)
          rw [hkm, show r.all (containsB l) = hasB l r from rfl, HE.out]
          clear hkm
          go_wp2_with fail
          refine (HAB.out _ (HR.out.later hb) (HRB.out.later hb)).mono ?_
          rintro e wz ⟨rfl, hbz⟩
          go_wp2
          go_ret
          exact ⟨rfl, hb.trans (hbz.mono hsz)⟩
    · have ela' : labelsB l = false := by simpa using ela
      rw [ela'] at hla
      have HLA := Lib.hid hla
      clear ela ela' hla
      go_enter Try.func6, Try.ntmps6
      go_wp2_with fail
      refine (awake_any _).mono ?_
      rintro e w1 ⟨rfl, hb1⟩
      have hc1 : Below w.heap.size w w1 := hb1.mono (by first | exact Nat.le_refl _ | (simp only [World.size_alloc, World.size_setCell, World.size_drew, sz_drewN]; omega)) |> fun h => (by first | exact h | exact Below.trans (by (repeat' (first | (with_reducible exact Below.refl _ _) | (with_reducible refine Below.setCell ?_ ?_ _) | (with_reducible refine Below.alloc ?_ ?_ _) | exact Nat.le_refl _))) h)
      go_wp2_with fail
      refine (HFA.out _ (HR.out.later hc1)).mono ?_
      rintro e w2 ⟨rfl, hb2⟩
      have hc2 : Below w.heap.size w w2 := hc1.trans (hb2.mono hc1.size)
      go_wp2_with fail
      refine (HFB.out _ (HRB.out.later hc2)).mono ?_
      rintro e w3 ⟨rfl, hb3⟩
      have hc3 : Below w.heap.size w w3 := hc2.trans (hb3.mono hc2.size)
      go_wp2_with fail
      refine (HFC.out _ (HRC.out.later hc3)).mono ?_
      rintro e w4 ⟨rfl, hb4⟩
      have hc4 : Below w.heap.size w w4 := hc3.trans (hb4.mono hc3.size)
      go_wp2_with fail
      refine (haa.out _ (HR.out.later hc4)).mono ?_
      rintro e w5 ⟨rfl, hb5⟩
      have hc5 : Below w.heap.size w w5 := hc4.trans (hb5.mono hc4.size)
      go_wp2_with fail
      refine (han.out _ (HR.out.later hc5)).mono ?_
      rintro e w6 ⟨rfl, hb6⟩
      have hc6 : Below w.heap.size w w6 := hc5.trans (hb6.mono hc5.size)
      go_wp2_with fail
      refine (HAB.out _ (HR.out.later hc6) (HRB.out.later hc6)).mono ?_
      rintro e w7 ⟨rfl, hb7⟩
      have hc7 : Below w.heap.size w w7 := hc6.trans (hb7.mono hc6.size)
      go_wp2_with fail
      refine (HBC.out _ (HRB.out.later hc7) (HRC.out.later hc7)).mono ?_
      rintro e w8 ⟨rfl, hb8⟩
      have hc8 : Below w.heap.size w w8 := hc7.trans (hb8.mono hc7.size)
      go_wp2_with fail
      refine (HLA.out _ (HR.out.later hc8)).mono ?_
      rintro e w9 ⟨rfl, hb9⟩
      have hc9 : Below w.heap.size w w9 := hc8.trans (hb9.mono hc8.size)
      go_wp2
      go_ret
      exact ⟨rfl, hc9⟩
  case pos =>
    rw [has_trans eab ebc] at hac
    rw [ebc] at hbc
    rw [eab] at hab
    have HAB := Lib.hid hab
    have HBC := Lib.hid hbc
    have HAC := Lib.hid hac
    have HE := Lib.hid eab
    clear eab ebc hab hbc hac
    by_cases ela : labelsB l = true
    · have HAsc := Lib.hid (labels_asc ela)
      rw [ela] at hla
      have HLA := Lib.hid hla
      clear ela hla
      go_enter Try.func6, Try.ntmps6
      go_wp2_with fail
      refine (awake_any _).mono ?_
      rintro e w1 ⟨rfl, hb1⟩
      have hc1 : Below w.heap.size w w1 := hb1.mono (by first | exact Nat.le_refl _ | (simp only [World.size_alloc, World.size_setCell, World.size_drew, sz_drewN]; omega)) |> fun h => (by first | exact h | exact Below.trans (by (repeat' (first | (with_reducible exact Below.refl _ _) | (with_reducible refine Below.setCell ?_ ?_ _) | (with_reducible refine Below.alloc ?_ ?_ _) | exact Nat.le_refl _))) h)
      go_wp2_with fail
      refine (HFA.out _ (HR.out.later hc1)).mono ?_
      rintro e w2 ⟨rfl, hb2⟩
      have hc2 : Below w.heap.size w w2 := hc1.trans (hb2.mono hc1.size)
      go_wp2_with fail
      refine (HFB.out _ (HRB.out.later hc2)).mono ?_
      rintro e w3 ⟨rfl, hb3⟩
      have hc3 : Below w.heap.size w w3 := hc2.trans (hb3.mono hc2.size)
      go_wp2_with fail
      refine (HFC.out _ (HRC.out.later hc3)).mono ?_
      rintro e w4 ⟨rfl, hb4⟩
      have hc4 : Below w.heap.size w w4 := hc3.trans (hb4.mono hc3.size)
      go_wp2_with fail
      refine (haa.out _ (HR.out.later hc4)).mono ?_
      rintro e w5 ⟨rfl, hb5⟩
      have hc5 : Below w.heap.size w w5 := hc4.trans (hb5.mono hc4.size)
      go_wp2_with fail
      refine (han.out _ (HR.out.later hc5)).mono ?_
      rintro e w6 ⟨rfl, hb6⟩
      have hc6 : Below w.heap.size w w6 := hc5.trans (hb6.mono hc5.size)
      go_wp2_with fail
      refine (HAB.out _ (HR.out.later hc6) (HRB.out.later hc6)).mono ?_
      rintro e w7 ⟨rfl, hb7⟩
      have hc7 : Below w.heap.size w w7 := hc6.trans (hb7.mono hc6.size)
      go_wp2_with fail
      refine (HBC.out _ (HRB.out.later hc7) (HRC.out.later hc7)).mono ?_
      rintro e w8 ⟨rfl, hb8⟩
      have hc8 : Below w.heap.size w w8 := hc7.trans (hb8.mono hc7.size)
      go_wp2_with fail
      refine (HAC.out _ (HR.out.later hc8) (HRC.out.later hc8)).mono ?_
      rintro e w9 ⟨rfl, hb9⟩
      have hc9 : Below w.heap.size w w9 := hc8.trans (hb9.mono hc8.size)
      go_wp2_with fail
      refine (HLA.out _ (HR.out.later hc9)).mono ?_
      rintro e w10 ⟨rfl, hb10⟩
      have hc10 : Below w.heap.size w w10 := hc9.trans (hb10.mono hc9.size)
      go_wp2_with fail
      go_loopw [7, 8, 9, 10, 59] (fun al _ _ _ i wr => ∃ k : Nat, k ≤ m ∧ i = .int .i64 k ∧ al = .bool ((r.take k).all (containsB l)) ∧ Below w.heap.size w wr) (fun _ _ _ _ i wr => m - (intOf i).toNat)
      case atStart => exact ⟨0, Nat.zero_le _, rfl, rfl, hc10⟩
      case round =>
        obtain ⟨k, hk, rfl, rfl, hb⟩ := hrel
        have hsz := hb.size
        by_cases hlt : k < m
        · have hl : k < r.length := by have := HM.out; omega
          obtain ⟨g, o, rfl, hg, h1, h2⟩ := (HRB.out.later hb).at hl
          have hS := @all_takeL r (containsB l) k hl
          rw [value_has HAsc.out r[k]] at hS
          have hcon := value_any A n c l r[k].1 wr HN (Lib.hid (HR.out.later hb)) hcn hcm
          rcases hv : valueP l r[k].1 with ⟨v, ok⟩
          rw [hv] at hcon hS
          unfold retV at hcon
          simp only [] at hcon hS
          have HC := Lib.hid hcon
          clear hcon hv
          by_cases hP : (r.take k).all (containsB l) = true
          · rw [hP] at hS ⊢
            cases ok with
            | false =>
              have HS : Hid (false = (r.take (k + 1)).all (containsB l)) := Lib.hid (by rw [hS]; rfl)
              clear hS hP
              go_wp2_with fail
              refine HC.out.mono ?_
              rintro e wv ⟨rfl, hbv⟩
              go_wp2
              go_round
              case rel => exact ⟨k + 1, by omega, by go_num, congrArg Value.bool HS.out, hb.trans (hbv.mono hsz)⟩
              case measure => simp [intOf]; omega
            | true =>
              have hgv : g < wr.heap.size := hg
              by_cases hE : sE v r[k].2 = true
              · have HS : Hid (true = (r.take (k + 1)).all (containsB l)) := Lib.hid (by rw [hS, hE]; rfl)
                have e1 : (v.toList == r[k].2.toList) = true := hE
                clear hS hP hE
                go_wp2_with fail
                refine HC.out.mono ?_
                rintro e wv ⟨rfl, hbv⟩
                have h2v : wv.cell? ⟨g, o + k * 2 + 1, none⟩ = some (.string r[k].2) := (hbv.cell (p := ⟨g, o + k * 2 + 1, none⟩) hg).trans h2
                go_wp2
                go_round
                case rel => exact ⟨k + 1, by omega, by go_num, congrArg Value.bool HS.out, hb.trans (hbv.mono hsz)⟩
                case measure => simp [intOf]; omega
              · have hE' : sE v r[k].2 = false := by simpa using hE
                have HS : Hid (false = (r.take (k + 1)).all (containsB l)) := Lib.hid (by rw [hS, hE']; rfl)
                have e1 : (v.toList == r[k].2.toList) = false := hE'
                clear hS hP hE hE'
                go_wp2_with fail
                refine HC.out.mono ?_
                rintro e wv ⟨rfl, hbv⟩
                have h2v : wv.cell? ⟨g, o + k * 2 + 1, none⟩ = some (.string r[k].2) := (hbv.cell (p := ⟨g, o + k * 2 + 1, none⟩) hg).trans h2
                go_wp2
                go_round
                case rel => exact ⟨k + 1, by omega, by go_num, congrArg Value.bool HS.out, hb.trans (hbv.mono hsz)⟩
                case measure => simp [intOf]; omega
          · have hP' : (r.take k).all (containsB l) = false := by simpa using hP
            rw [hP'] at hS ⊢
            have HS : Hid (false = (r.take (k + 1)).all (containsB l)) := Lib.hid (by rw [hS]; rfl)
            clear hS hP hP'
            go_wp2_with fail
            refine HC.out.mono ?_
            rintro e wv ⟨rfl, hbv⟩
            go_wp2
            go_round
            case rel => exact ⟨k + 1, by omega, by go_num, congrArg Value.bool HS.out, hb.trans (hbv.mono hsz)⟩
            case measure => simp [intOf]; omega
        · have hkm : r.take k = r := List.take_of_length_le (by have := HM.out; omega)
          rw [hkm, show r.all (containsB l) = hasB l r from rfl, HE.out]
          clear hkm
          go_wp2_with fail
          refine (HAB.out _ (HR.out.later hb) (HRB.out.later hb)).mono ?_
          rintro e wz ⟨rfl, hbz⟩
          go_wp2
          go_ret
          exact ⟨rfl, hb.trans (hbz.mono hsz)⟩
    · have ela' : labelsB l = false := by simpa using ela
      rw [ela'] at hla
      have HLA := Lib.hid hla
      clear ela ela' hla
      go_enter Try.func6, Try.ntmps6
      go_wp2_with fail
      refine (awake_any _).mono ?_
      rintro e w1 ⟨rfl, hb1⟩
      have hc1 : Below w.heap.size w w1 := hb1.mono (by first | exact Nat.le_refl _ | (simp only [World.size_alloc, World.size_setCell, World.size_drew, sz_drewN]; omega)) |> fun h => (by first | exact h | exact Below.trans (by (repeat' (first | (with_reducible exact Below.refl _ _) | (with_reducible refine Below.setCell ?_ ?_ _) | (with_reducible refine Below.alloc ?_ ?_ _) | exact Nat.le_refl _))) h)
      go_wp2_with fail
      refine (HFA.out _ (HR.out.later hc1)).mono ?_
      rintro e w2 ⟨rfl, hb2⟩
      have hc2 : Below w.heap.size w w2 := hc1.trans (hb2.mono hc1.size)
      go_wp2_with fail
      refine (HFB.out _ (HRB.out.later hc2)).mono ?_
      rintro e w3 ⟨rfl, hb3⟩
      have hc3 : Below w.heap.size w w3 := hc2.trans (hb3.mono hc2.size)
      go_wp2_with fail
      refine (HFC.out _ (HRC.out.later hc3)).mono ?_
      rintro e w4 ⟨rfl, hb4⟩
      have hc4 : Below w.heap.size w w4 := hc3.trans (hb4.mono hc3.size)
      go_wp2_with fail
      refine (haa.out _ (HR.out.later hc4)).mono ?_
      rintro e w5 ⟨rfl, hb5⟩
      have hc5 : Below w.heap.size w w5 := hc4.trans (hb5.mono hc4.size)
      go_wp2_with fail
      refine (han.out _ (HR.out.later hc5)).mono ?_
      rintro e w6 ⟨rfl, hb6⟩
      have hc6 : Below w.heap.size w w6 := hc5.trans (hb6.mono hc5.size)
      go_wp2_with fail
      refine (HAB.out _ (HR.out.later hc6) (HRB.out.later hc6)).mono ?_
      rintro e w7 ⟨rfl, hb7⟩
      have hc7 : Below w.heap.size w w7 := hc6.trans (hb7.mono hc6.size)
      go_wp2_with fail
      refine (HBC.out _ (HRB.out.later hc7) (HRC.out.later hc7)).mono ?_
      rintro e w8 ⟨rfl, hb8⟩
      have hc8 : Below w.heap.size w w8 := hc7.trans (hb8.mono hc7.size)
      go_wp2_with fail
      refine (HAC.out _ (HR.out.later hc8) (HRC.out.later hc8)).mono ?_
      rintro e w9 ⟨rfl, hb9⟩
      have hc9 : Below w.heap.size w w9 := hc8.trans (hb9.mono hc8.size)
      go_wp2_with fail
      refine (HLA.out _ (HR.out.later hc9)).mono ?_
      rintro e w10 ⟨rfl, hb10⟩
      have hc10 : Below w.heap.size w w10 := hc9.trans (hb10.mono hc9.size)
      go_wp2
      go_ret
      exact ⟨rfl, hc10⟩
end Go.Proofs.Ytnidpipbdgolfaa.identHas
