/- The contract of the document's own Sorted: each label is put into what is sorted already. Condition: at most 1000 labels. -/
import Derived.Test.YtnidpipbdgolfaaOwn
import Derived.BigQuiet
import Derived.Deep.QuietTactic
import Derived.Laws.Cover1
namespace Go.Proofs.Ytnidpipbdgolfaa
open Go.Shelf Go.RowKit Go.Lib Go.Sort Go.Proofs
set_option linter.unusedSimpArgs false
set_option linter.unusedVariables false

theorem two_filters (p q : Lb → Bool) (h : ∀ y, p y = true → q y = false) : ∀ s : List Lb, (s.filter p).length + (s.filter q).length ≤ s.length
  | [] => by simp
  | y :: s => by
    have ih := two_filters p q h s
    rw [List.filter_cons, List.filter_cons]
    by_cases c : p y = true
    · rw [if_pos c, h y c, if_neg (by simp)]; simp only [List.length_cons]; omega
    · rw [if_neg c]; split <;> simp only [List.length_cons] <;> omega
theorem rSorted_len : ∀ (k : Nat) (l : List Lb), l.length = k → (rSorted l).length ≤ k := by
  intro k
  induction k with
  | zero => intro l hl; rw [List.length_eq_zero_iff] at hl; subst hl; simp [rSorted]
  | succ k ih =>
    intro l hl
    rcases List.eq_nil_or_concat l with rfl | ⟨q, y, rfl⟩
    · simp at hl
    · have hq : q.length = k := by simpa using hl
      rw [List.concat_eq_append]
      have : rSorted (q ++ [y]) = insR y (rSorted q) := by unfold rSorted; rw [List.foldl_append]; rfl
      rw [this, insR_eq y _ (rSorted_sorted q.length q rfl).1]
      have h1 := two_filters (fun z => sL z.1 y.1) (fun z => sL y.1 z.1) (fun z hz => sL_asymm hz) (rSorted q)
      have h2 := ih q hq
      simp only [List.length_append, List.length_cons]
      omega
theorem fold_len (x : Lb) : ∀ (p : List Lb) (st : List Lb × Bool), (p.foldl (insStep x) st).1.length ≤ st.1.length + 2 * p.length
  | [], st => by simp
  | y :: p, st => by
    rw [List.foldl_cons]
    have ih := fold_len x p (insStep x st y)
    have : (insStep x st y).1.length ≤ st.1.length + 2 := by
      unfold insStep
      simp only []
      split <;> split <;> simp
    simp only [List.length_cons]
    omega
theorem fold_step (x : Lb) (out : List Lb) (j : Nat) (h : j < out.length) (st : List Lb × Bool) (hst : st = (out.take j).foldl (insStep x) ([], false)) :
    (out.take (j + 1)).foldl (insStep x) ([], false) = insStep x st out[j] := by
  rw [List.take_succ_eq_append_getElem h, List.foldl_append, ← hst]; rfl

set_option maxHeartbeats 16000000 in
set_option maxRecDepth 1000000 in
theorem rsorted_any (A : Option Addr) (n c : Nat) (l : List Lb) (w : World) (hn : Hid (n = l.length)) (hr : Hid (RdL w A l)) (hc : n ≤ c) (hc2 : c ≤ 9223372036854775807) (hbig : n ≤ 1000) :
    Calls Try.prog 21 #[.slice A n c] w fun e w' => ∃ v, e = .returned v ∧ OwnL w' w.heap.size v (rSorted l) ∧ Below w.heap.size w w' := by
  go_enter Try.func21, Try.ntmps21
  go_wp2
  go_loopw [3, 4, 5, 6, 7, 10, 15] (fun s3 _ _ _ _ i _ wr => ∃ (k : Nat) (v : Value), k ≤ n ∧ i = .int .i64 k ∧ s3 = v ∧ Hid (OwnL wr w.heap.size v (rSorted (l.take k))) ∧ Below w.heap.size w wr) (fun _ _ _ _ _ i _ wr => n - (intOf i).toNat)
  case atStart => exact ⟨0, _, Nat.zero_le _, rfl, rfl, Lib.hid (OwnL.nil _ _), Below.refl _ _⟩
  case round =>
    obtain ⟨k, vo, hk, rfl, rfl, HOut, hb⟩ := hrel
    have hsz := hb.size
    by_cases hlt : k < n
    · have hl : k < l.length := by have := hn.out; omega
      obtain ⟨wo, hwo⟩ : ∃ wo, wo = wr := ⟨_, rfl⟩
      subst hwo
      obtain ⟨x, hx⟩ : ∃ x, x = l[k] := ⟨_, rfl⟩
      obtain ⟨out, hout⟩ : ∃ out, out = rSorted (l.take k) := ⟨_, rfl⟩
      have hlen := rSorted_len (l.take k).length (l.take k) rfl
      rw [← hout] at HOut hlen
      obtain ⟨A2, c2, S⟩ := HOut.out.sl
      have hv := S.val
      have hcap := S.cap
      have hcap2 := S.cap2
      simp only [maxLen] at hcap2
      obtain ⟨m, hm⟩ : ∃ m, m = out.length := ⟨_, rfl⟩
      rw [← hm] at hv hcap hlen
      subst hv
      have HS := Lib.hid S.rd
      have HM := Lib.hid hm
      have hm1 : m ≤ 1000 := by
        have : (l.take k).length ≤ k := List.length_take_le _ _
        omega
      obtain ⟨g, o, rfl, hg, hx1, hx2⟩ := (hr.out.later hb).at hl
      rw [← hx] at hx1 hx2
      have HX := Lib.hid hx
      have HOUT := Lib.hid hout
      clear hx hout S hm hlen
      go_wp2
      go_loopw [5, 6, 7, 15] (fun s5 s6 _ i wr => ∃ (j : Nat) (vn : Value) (st : List Lb × Bool), j ≤ m ∧ i = .int .i64 j ∧ s5 = vn ∧ s6 = .bool st.2 ∧ Hid (st = (out.take j).foldl (insStep x) ([], false)) ∧ Hid (OwnL wr wo.heap.size vn st.1) ∧ Below wo.heap.size wo wr) (fun _ _ _ i wr => m - (intOf i).toNat)
      case atStart => exact ⟨0, _, ([], false), Nat.zero_le _, rfl, rfl, rfl, Lib.hid rfl, Lib.hid (OwnL.nil _ _), Below.refl _ _⟩
      case round =>
        obtain ⟨j, vn, ⟨sl, dn⟩, hj, rfl, rfl, rfl, HF, HO, hb2⟩ := hrel
        have hszw := hb2.size
        have HLen : Hid (sl.length ≤ 2000) := Lib.hid (by
          have h1 := fold_len x (out.take j) ([], false)
          rw [← HF.out] at h1
          have : (out.take j).length ≤ j := List.length_take_le _ _
          simp only [List.length_nil] at h1
          omega)
        by_cases hjm : j < m
        · have hjo : j < out.length := by have := HM.out; omega
          obtain ⟨y, hy⟩ : ∃ y, y = out[j] := ⟨_, rfl⟩
          obtain ⟨g', o', rfl, hg', hy1, hy2⟩ := HS.out.at hjo
          rw [← hy] at hy1 hy2
          have hgl : g < wr.heap.size := by omega
          have hgl' : g' < wr.heap.size := by omega
          have hfold := fold_step x out j hjo _ HF.out
          rw [← hy] at hfold
          have HY := Lib.hid hy
          clear hy HF
          cases dn with
          | true =>
            rcases Bool.eq_false_or_eq_true (sL y.1 x.1) with hsl | hsl
            · have hsl' := hsl
              have e10 : Op.bytesLess y.1.toList x.1.toList = true := hsl
              clear hsl
              have a1 : wr.cell? ⟨g, o + k * 2, none⟩ = some (.string x.1) := (hb2.cell (p := ⟨g, o + k * 2, none⟩) hg).trans hx1
              have a2 : wr.cell? ⟨g, o + k * 2 + 1, none⟩ = some (.string x.2) := (hb2.cell (p := ⟨g, o + k * 2 + 1, none⟩) hg).trans hx2
              have b1 : wr.cell? ⟨g', o' + j * 2, none⟩ = some (.string y.1) := (hb2.cell (p := ⟨g', o' + j * 2, none⟩) hg').trans hy1
              have b2 : wr.cell? ⟨g', o' + j * 2 + 1, none⟩ = some (.string y.2) := (hb2.cell (p := ⟨g', o' + j * 2 + 1, none⟩) hg').trans hy2
              go_wp2_with fail
              go_quiet (fail)
              have hb3 := hb2
              have HO3 := HO
              by_cases hE : sE y.1 x.1 = true
              · have e13 : (y.1.toList == x.1.toList) = true := hE
                have HStep : Hid ((sl, true) = (out.take (j + 1)).foldl (insStep x) ([], false)) := Lib.hid (by rw [hfold]; simp [insStep, hE, hsl'])
                clear hE hfold hsl'
                go_wp2_with fail
                go_quiet (fail)
                go_wp2
                go_round
                case rel => exact ⟨j + 1, _, (sl, true), by omega, by go_num, rfl, rfl, HStep, Lib.hid (OwnL.below HO3.out (by (repeat' (first | (with_reducible exact Below.refl _ _) | (with_reducible refine bdrewN ?_ _) | (with_reducible refine Below.drew ?_) | (with_reducible refine Below.setCell ?_ ?_ _) | (with_reducible refine Below.alloc ?_ ?_ _) | (with_reducible exact Nat.le_refl _) | (with_reducible assumption) | omega | (simp only [World.size_alloc, World.size_setCell, World.size_drew, sz_drewN]; omega))))), (by (repeat' (first | (with_reducible exact Below.refl _ _) | (with_reducible refine bdrewN ?_ _) | (with_reducible refine Below.drew ?_) | (with_reducible refine Below.setCell ?_ ?_ _) | (with_reducible refine Below.alloc ?_ ?_ _) | (with_reducible refine Below.trans ?_ (Below.mono hb3 ?_)) | (with_reducible exact Nat.le_refl _) | (with_reducible assumption) | omega | (simp only [World.size_alloc, World.size_setCell, World.size_drew, sz_drewN]; omega))))⟩
                case measure => simp [intOf]; omega
              · have hE' : sE y.1 x.1 = false := by simpa using hE
                have e13 : (y.1.toList == x.1.toList) = false := hE'
                have HStep : Hid ((sl ++ [y], true) = (out.take (j + 1)).foldl (insStep x) ([], false)) := Lib.hid (by rw [hfold]; simp [insStep, hE', hsl'])
                clear hE hE' hfold hsl'
                go_wp2_with fail
                go_quiet (fail)
                obtain ⟨i0, hi, hz0, hz1, hz2⟩ := info_partsL info33
                go_wp2_with (at_builtin; refine wpList_append_own _ rfl _ _ 22 rfl wo.heap.size 33 i0 _ 2 32 Try.underlying22 hi hz0 hz1 hz2 rfl (by decide) _ _ _ rfl (OwnL.below HO3.out (by (repeat' (first | (with_reducible exact Below.refl _ _) | (with_reducible refine bdrewN ?_ _) | (with_reducible refine Below.drew ?_) | (with_reducible refine Below.setCell ?_ ?_ _) | (with_reducible refine Below.alloc ?_ ?_ _) | (with_reducible exact Nat.le_refl _) | (with_reducible assumption) | omega | (simp only [World.size_alloc, World.size_setCell, World.size_drew, sz_drewN]; omega))))) _ 1 1 (cellsL [y]) rfl ?qc1 ?qc2 ?qc3 ?qc4 ?qc5 ?qc6 ?_)
                case qc1 => rw [cellsL_length]; rfl
                case qc2 =>
                  intro j' u hj'
                  first | exact news_at _ y 33 j' u hj' | (rw [cellsL_one'] at hj'; exact hj') | (rw [cellsL_one'] at hj'; simpa using hj')
                case qc3 => exact cellsL_one _
                case qc4 => have := HLen.out; simp only [maxLen, List.length_append, List.length_cons, List.length_nil]; omega
                case qc5 => have := HLen.out; (try simp only [List.length_append, List.length_cons, List.length_nil]); omega
                case qc6 => (try simp only [World.size_alloc, World.size_setCell, World.size_drew, sz_drewN]); omega
                intro v4 w4 hown hgrow hnil
                have hb3' : Below wo.heap.size wo w4 := Below.grown (by (repeat' (first | (with_reducible exact Below.refl _ _) | (with_reducible refine bdrewN ?_ _) | (with_reducible refine Below.drew ?_) | (with_reducible refine Below.setCell ?_ ?_ _) | (with_reducible refine Below.alloc ?_ ?_ _) | (with_reducible refine Below.trans ?_ (Below.mono hb3 ?_)) | (with_reducible exact Nat.le_refl _) | (with_reducible assumption) | omega | (simp only [World.size_alloc, World.size_setCell, World.size_drew, sz_drewN]; omega)))) hgrow (by (try simp only [World.size_alloc, World.size_setCell, World.size_drew, sz_drewN]); omega) (by
                  intro q hq
                  exact (World.ownsRow.lt HO3.out q hq).1)
                have HO4 : Hid (OwnL w4 wo.heap.size v4 ((sl) ++ [y])) := by
                  show OwnL _ _ _ _
                  unfold OwnL
                  rw [cellsL_append]
                  simp only [List.length_append, List.length_cons, List.length_nil, Nat.zero_add] at hown ⊢
                  exact hown
                clear hown hgrow hnil
                have hsz4 := hb3'.size
                have hb4 := hb3'
                go_wp2
                go_round
                case rel => exact ⟨j + 1, _, (sl ++ [y], true), by omega, by go_num, rfl, rfl, HStep, HO4, hb4⟩
                case measure => simp [intOf]; omega
            · have hsl' := hsl
              have e10 : Op.bytesLess y.1.toList x.1.toList = false := hsl
              clear hsl
              have a1 : wr.cell? ⟨g, o + k * 2, none⟩ = some (.string x.1) := (hb2.cell (p := ⟨g, o + k * 2, none⟩) hg).trans hx1
              have a2 : wr.cell? ⟨g, o + k * 2 + 1, none⟩ = some (.string x.2) := (hb2.cell (p := ⟨g, o + k * 2 + 1, none⟩) hg).trans hx2
              have b1 : wr.cell? ⟨g', o' + j * 2, none⟩ = some (.string y.1) := (hb2.cell (p := ⟨g', o' + j * 2, none⟩) hg').trans hy1
              have b2 : wr.cell? ⟨g', o' + j * 2 + 1, none⟩ = some (.string y.2) := (hb2.cell (p := ⟨g', o' + j * 2 + 1, none⟩) hg').trans hy2
              go_wp2_with fail
              go_quiet (fail)
              have hb3 := hb2
              have HO3 := HO
              by_cases hE : sE y.1 x.1 = true
              · have e13 : (y.1.toList == x.1.toList) = true := hE
                have HStep : Hid ((sl, true) = (out.take (j + 1)).foldl (insStep x) ([], false)) := Lib.hid (by rw [hfold]; simp [insStep, hE, hsl'])
                clear hE hfold hsl'
                go_wp2_with fail
                go_quiet (fail)
                go_wp2
                go_round
                case rel => exact ⟨j + 1, _, (sl, true), by omega, by go_num, rfl, rfl, HStep, Lib.hid (OwnL.below HO3.out (by (repeat' (first | (with_reducible exact Below.refl _ _) | (with_reducible refine bdrewN ?_ _) | (with_reducible refine Below.drew ?_) | (with_reducible refine Below.setCell ?_ ?_ _) | (with_reducible refine Below.alloc ?_ ?_ _) | (with_reducible exact Nat.le_refl _) | (with_reducible assumption) | omega | (simp only [World.size_alloc, World.size_setCell, World.size_drew, sz_drewN]; omega))))), (by (repeat' (first | (with_reducible exact Below.refl _ _) | (with_reducible refine bdrewN ?_ _) | (with_reducible refine Below.drew ?_) | (with_reducible refine Below.setCell ?_ ?_ _) | (with_reducible refine Below.alloc ?_ ?_ _) | (with_reducible refine Below.trans ?_ (Below.mono hb3 ?_)) | (with_reducible exact Nat.le_refl _) | (with_reducible assumption) | omega | (simp only [World.size_alloc, World.size_setCell, World.size_drew, sz_drewN]; omega))))⟩
                case measure => simp [intOf]; omega
              · have hE' : sE y.1 x.1 = false := by simpa using hE
                have e13 : (y.1.toList == x.1.toList) = false := hE'
                have HStep : Hid ((sl ++ [y], true) = (out.take (j + 1)).foldl (insStep x) ([], false)) := Lib.hid (by rw [hfold]; simp [insStep, hE', hsl'])
                clear hE hE' hfold hsl'
                go_wp2_with fail
                go_quiet (fail)
                obtain ⟨i0, hi, hz0, hz1, hz2⟩ := info_partsL info33
                go_wp2_with (at_builtin; refine wpList_append_own _ rfl _ _ 22 rfl wo.heap.size 33 i0 _ 2 32 Try.underlying22 hi hz0 hz1 hz2 rfl (by decide) _ _ _ rfl (OwnL.below HO3.out (by (repeat' (first | (with_reducible exact Below.refl _ _) | (with_reducible refine bdrewN ?_ _) | (with_reducible refine Below.drew ?_) | (with_reducible refine Below.setCell ?_ ?_ _) | (with_reducible refine Below.alloc ?_ ?_ _) | (with_reducible exact Nat.le_refl _) | (with_reducible assumption) | omega | (simp only [World.size_alloc, World.size_setCell, World.size_drew, sz_drewN]; omega))))) _ 1 1 (cellsL [y]) rfl ?qc1 ?qc2 ?qc3 ?qc4 ?qc5 ?qc6 ?_)
                case qc1 => rw [cellsL_length]; rfl
                case qc2 =>
                  intro j' u hj'
                  first | exact news_at _ y 33 j' u hj' | (rw [cellsL_one'] at hj'; exact hj') | (rw [cellsL_one'] at hj'; simpa using hj')
                case qc3 => exact cellsL_one _
                case qc4 => have := HLen.out; simp only [maxLen, List.length_append, List.length_cons, List.length_nil]; omega
                case qc5 => have := HLen.out; (try simp only [List.length_append, List.length_cons, List.length_nil]); omega
                case qc6 => (try simp only [World.size_alloc, World.size_setCell, World.size_drew, sz_drewN]); omega
                intro v4 w4 hown hgrow hnil
                have hb3' : Below wo.heap.size wo w4 := Below.grown (by (repeat' (first | (with_reducible exact Below.refl _ _) | (with_reducible refine bdrewN ?_ _) | (with_reducible refine Below.drew ?_) | (with_reducible refine Below.setCell ?_ ?_ _) | (with_reducible refine Below.alloc ?_ ?_ _) | (with_reducible refine Below.trans ?_ (Below.mono hb3 ?_)) | (with_reducible exact Nat.le_refl _) | (with_reducible assumption) | omega | (simp only [World.size_alloc, World.size_setCell, World.size_drew, sz_drewN]; omega)))) hgrow (by (try simp only [World.size_alloc, World.size_setCell, World.size_drew, sz_drewN]); omega) (by
                  intro q hq
                  exact (World.ownsRow.lt HO3.out q hq).1)
                have HO4 : Hid (OwnL w4 wo.heap.size v4 ((sl) ++ [y])) := by
                  show OwnL _ _ _ _
                  unfold OwnL
                  rw [cellsL_append]
                  simp only [List.length_append, List.length_cons, List.length_nil, Nat.zero_add] at hown ⊢
                  exact hown
                clear hown hgrow hnil
                have hsz4 := hb3'.size
                have hb4 := hb3'
                go_wp2
                go_round
                case rel => exact ⟨j + 1, _, (sl ++ [y], true), by omega, by go_num, rfl, rfl, HStep, HO4, hb4⟩
                case measure => simp [intOf]; omega
          | false =>
            rcases Bool.eq_false_or_eq_true (sL y.1 x.1) with hsl | hsl
            · have hsl' := hsl
              have e10 : Op.bytesLess y.1.toList x.1.toList = true := hsl
              clear hsl
              have a1 : wr.cell? ⟨g, o + k * 2, none⟩ = some (.string x.1) := (hb2.cell (p := ⟨g, o + k * 2, none⟩) hg).trans hx1
              have a2 : wr.cell? ⟨g, o + k * 2 + 1, none⟩ = some (.string x.2) := (hb2.cell (p := ⟨g, o + k * 2 + 1, none⟩) hg).trans hx2
              have b1 : wr.cell? ⟨g', o' + j * 2, none⟩ = some (.string y.1) := (hb2.cell (p := ⟨g', o' + j * 2, none⟩) hg').trans hy1
              have b2 : wr.cell? ⟨g', o' + j * 2 + 1, none⟩ = some (.string y.2) := (hb2.cell (p := ⟨g', o' + j * 2 + 1, none⟩) hg').trans hy2
              go_wp2_with fail
              go_quiet (fail)
              have hb3 := hb2
              have HO3 := HO
              by_cases hE : sE y.1 x.1 = true
              · have e13 : (y.1.toList == x.1.toList) = true := hE
                have HStep : Hid ((sl, false) = (out.take (j + 1)).foldl (insStep x) ([], false)) := Lib.hid (by rw [hfold]; simp [insStep, hE, hsl'])
                clear hE hfold hsl'
                go_wp2_with fail
                go_quiet (fail)
                go_wp2
                go_round
                case rel => exact ⟨j + 1, _, (sl, false), by omega, by go_num, rfl, rfl, HStep, Lib.hid (OwnL.below HO3.out (by (repeat' (first | (with_reducible exact Below.refl _ _) | (with_reducible refine bdrewN ?_ _) | (with_reducible refine Below.drew ?_) | (with_reducible refine Below.setCell ?_ ?_ _) | (with_reducible refine Below.alloc ?_ ?_ _) | (with_reducible exact Nat.le_refl _) | (with_reducible assumption) | omega | (simp only [World.size_alloc, World.size_setCell, World.size_drew, sz_drewN]; omega))))), (by (repeat' (first | (with_reducible exact Below.refl _ _) | (with_reducible refine bdrewN ?_ _) | (with_reducible refine Below.drew ?_) | (with_reducible refine Below.setCell ?_ ?_ _) | (with_reducible refine Below.alloc ?_ ?_ _) | (with_reducible refine Below.trans ?_ (Below.mono hb3 ?_)) | (with_reducible exact Nat.le_refl _) | (with_reducible assumption) | omega | (simp only [World.size_alloc, World.size_setCell, World.size_drew, sz_drewN]; omega))))⟩
                case measure => simp [intOf]; omega
              · have hE' : sE y.1 x.1 = false := by simpa using hE
                have e13 : (y.1.toList == x.1.toList) = false := hE'
                have HStep : Hid ((sl ++ [y], false) = (out.take (j + 1)).foldl (insStep x) ([], false)) := Lib.hid (by rw [hfold]; simp [insStep, hE', hsl'])
                clear hE hE' hfold hsl'
                go_wp2_with fail
                go_quiet (fail)
                obtain ⟨i0, hi, hz0, hz1, hz2⟩ := info_partsL info33
                go_wp2_with (at_builtin; refine wpList_append_own _ rfl _ _ 22 rfl wo.heap.size 33 i0 _ 2 32 Try.underlying22 hi hz0 hz1 hz2 rfl (by decide) _ _ _ rfl (OwnL.below HO3.out (by (repeat' (first | (with_reducible exact Below.refl _ _) | (with_reducible refine bdrewN ?_ _) | (with_reducible refine Below.drew ?_) | (with_reducible refine Below.setCell ?_ ?_ _) | (with_reducible refine Below.alloc ?_ ?_ _) | (with_reducible exact Nat.le_refl _) | (with_reducible assumption) | omega | (simp only [World.size_alloc, World.size_setCell, World.size_drew, sz_drewN]; omega))))) _ 1 1 (cellsL [y]) rfl ?qc1 ?qc2 ?qc3 ?qc4 ?qc5 ?qc6 ?_)
                case qc1 => rw [cellsL_length]; rfl
                case qc2 =>
                  intro j' u hj'
                  first | exact news_at _ y 33 j' u hj' | (rw [cellsL_one'] at hj'; exact hj') | (rw [cellsL_one'] at hj'; simpa using hj')
                case qc3 => exact cellsL_one _
                case qc4 => have := HLen.out; simp only [maxLen, List.length_append, List.length_cons, List.length_nil]; omega
                case qc5 => have := HLen.out; (try simp only [List.length_append, List.length_cons, List.length_nil]); omega
                case qc6 => (try simp only [World.size_alloc, World.size_setCell, World.size_drew, sz_drewN]); omega
                intro v4 w4 hown hgrow hnil
                have hb3' : Below wo.heap.size wo w4 := Below.grown (by (repeat' (first | (with_reducible exact Below.refl _ _) | (with_reducible refine bdrewN ?_ _) | (with_reducible refine Below.drew ?_) | (with_reducible refine Below.setCell ?_ ?_ _) | (with_reducible refine Below.alloc ?_ ?_ _) | (with_reducible refine Below.trans ?_ (Below.mono hb3 ?_)) | (with_reducible exact Nat.le_refl _) | (with_reducible assumption) | omega | (simp only [World.size_alloc, World.size_setCell, World.size_drew, sz_drewN]; omega)))) hgrow (by (try simp only [World.size_alloc, World.size_setCell, World.size_drew, sz_drewN]); omega) (by
                  intro q hq
                  exact (World.ownsRow.lt HO3.out q hq).1)
                have HO4 : Hid (OwnL w4 wo.heap.size v4 ((sl) ++ [y])) := by
                  show OwnL _ _ _ _
                  unfold OwnL
                  rw [cellsL_append]
                  simp only [List.length_append, List.length_cons, List.length_nil, Nat.zero_add] at hown ⊢
                  exact hown
                clear hown hgrow hnil
                have hsz4 := hb3'.size
                have hb4 := hb3'
                go_wp2
                go_round
                case rel => exact ⟨j + 1, _, (sl ++ [y], false), by omega, by go_num, rfl, rfl, HStep, HO4, hb4⟩
                case measure => simp [intOf]; omega
            · have hsl' := hsl
              have e10 : Op.bytesLess y.1.toList x.1.toList = false := hsl
              clear hsl
              have a1 : wr.cell? ⟨g, o + k * 2, none⟩ = some (.string x.1) := (hb2.cell (p := ⟨g, o + k * 2, none⟩) hg).trans hx1
              have a2 : wr.cell? ⟨g, o + k * 2 + 1, none⟩ = some (.string x.2) := (hb2.cell (p := ⟨g, o + k * 2 + 1, none⟩) hg).trans hx2
              have b1 : wr.cell? ⟨g', o' + j * 2, none⟩ = some (.string y.1) := (hb2.cell (p := ⟨g', o' + j * 2, none⟩) hg').trans hy1
              have b2 : wr.cell? ⟨g', o' + j * 2 + 1, none⟩ = some (.string y.2) := (hb2.cell (p := ⟨g', o' + j * 2 + 1, none⟩) hg').trans hy2
              go_wp2_with fail
              go_quiet (fail)
              obtain ⟨i0, hi, hz0, hz1, hz2⟩ := info_partsL info33
              go_wp2_with (at_builtin; refine wpList_append_own _ rfl _ _ 22 rfl wo.heap.size 33 i0 _ 2 32 Try.underlying22 hi hz0 hz1 hz2 rfl (by decide) _ _ _ rfl (OwnL.below HO.out (by (repeat' (first | (with_reducible exact Below.refl _ _) | (with_reducible refine bdrewN ?_ _) | (with_reducible refine Below.drew ?_) | (with_reducible refine Below.setCell ?_ ?_ _) | (with_reducible refine Below.alloc ?_ ?_ _) | (with_reducible exact Nat.le_refl _) | (with_reducible assumption) | omega | (simp only [World.size_alloc, World.size_setCell, World.size_drew, sz_drewN]; omega))))) _ 1 1 (cellsL [x]) rfl ?qc1 ?qc2 ?qc3 ?qc4 ?qc5 ?qc6 ?_)
              case qc1 => rw [cellsL_length]; rfl
              case qc2 =>
                intro j' u hj'
                first | exact news_at _ x 33 j' u hj' | (rw [cellsL_one'] at hj'; exact hj') | (rw [cellsL_one'] at hj'; simpa using hj')
              case qc3 => exact cellsL_one _
              case qc4 => have := HLen.out; simp only [maxLen, List.length_append, List.length_cons, List.length_nil]; omega
              case qc5 => have := HLen.out; (try simp only [List.length_append, List.length_cons, List.length_nil]); omega
              case qc6 => (try simp only [World.size_alloc, World.size_setCell, World.size_drew, sz_drewN]); omega
              intro v3 w3 hown hgrow hnil
              have hb2' : Below wo.heap.size wo w3 := Below.grown (by (repeat' (first | (with_reducible exact Below.refl _ _) | (with_reducible refine bdrewN ?_ _) | (with_reducible refine Below.drew ?_) | (with_reducible refine Below.setCell ?_ ?_ _) | (with_reducible refine Below.alloc ?_ ?_ _) | (with_reducible refine Below.trans ?_ (Below.mono hb2 ?_)) | (with_reducible exact Nat.le_refl _) | (with_reducible assumption) | omega | (simp only [World.size_alloc, World.size_setCell, World.size_drew, sz_drewN]; omega)))) hgrow (by (try simp only [World.size_alloc, World.size_setCell, World.size_drew, sz_drewN]); omega) (by
                intro q hq
                exact (World.ownsRow.lt HO.out q hq).1)
              have HO3 : Hid (OwnL w3 wo.heap.size v3 (sl ++ [x])) := by
                show OwnL _ _ _ _
                unfold OwnL
                rw [cellsL_append]
                simp only [List.length_append, List.length_cons, List.length_nil, Nat.zero_add] at hown ⊢
                exact hown
              clear hown hgrow hnil
              have hsz3 := hb2'.size
              have hb3 := hb2'
              clear a1 a2 b1 b2
              have a1 : w3.cell? ⟨g, o + k * 2, none⟩ = some (.string x.1) := (hb3.cell (p := ⟨g, o + k * 2, none⟩) hg).trans hx1
              have a2 : w3.cell? ⟨g, o + k * 2 + 1, none⟩ = some (.string x.2) := (hb3.cell (p := ⟨g, o + k * 2 + 1, none⟩) hg).trans hx2
              have b1 : w3.cell? ⟨g', o' + j * 2, none⟩ = some (.string y.1) := (hb3.cell (p := ⟨g', o' + j * 2, none⟩) hg').trans hy1
              have b2 : w3.cell? ⟨g', o' + j * 2 + 1, none⟩ = some (.string y.2) := (hb3.cell (p := ⟨g', o' + j * 2 + 1, none⟩) hg').trans hy2
              by_cases hE : sE y.1 x.1 = true
              · have e13 : (y.1.toList == x.1.toList) = true := hE
                have HStep : Hid ((sl ++ [x], true) = (out.take (j + 1)).foldl (insStep x) ([], false)) := Lib.hid (by rw [hfold]; simp [insStep, hE, hsl'])
                clear hE hfold hsl'
                go_wp2_with fail
                go_quiet (fail)
                go_wp2
                go_round
                case rel => exact ⟨j + 1, _, (sl ++ [x], true), by omega, by go_num, rfl, rfl, HStep, Lib.hid (OwnL.below HO3.out (by (repeat' (first | (with_reducible exact Below.refl _ _) | (with_reducible refine bdrewN ?_ _) | (with_reducible refine Below.drew ?_) | (with_reducible refine Below.setCell ?_ ?_ _) | (with_reducible refine Below.alloc ?_ ?_ _) | (with_reducible exact Nat.le_refl _) | (with_reducible assumption) | omega | (simp only [World.size_alloc, World.size_setCell, World.size_drew, sz_drewN]; omega))))), (by (repeat' (first | (with_reducible exact Below.refl _ _) | (with_reducible refine bdrewN ?_ _) | (with_reducible refine Below.drew ?_) | (with_reducible refine Below.setCell ?_ ?_ _) | (with_reducible refine Below.alloc ?_ ?_ _) | (with_reducible refine Below.trans ?_ (Below.mono hb3 ?_)) | (with_reducible exact Nat.le_refl _) | (with_reducible assumption) | omega | (simp only [World.size_alloc, World.size_setCell, World.size_drew, sz_drewN]; omega))))⟩
                case measure => simp [intOf]; omega
              · have hE' : sE y.1 x.1 = false := by simpa using hE
                have e13 : (y.1.toList == x.1.toList) = false := hE'
                have HStep : Hid ((sl ++ [x] ++ [y], true) = (out.take (j + 1)).foldl (insStep x) ([], false)) := Lib.hid (by rw [hfold]; simp [insStep, hE', hsl'])
                clear hE hE' hfold hsl'
                go_wp2_with fail
                go_quiet (fail)
                obtain ⟨i0, hi, hz0, hz1, hz2⟩ := info_partsL info33
                go_wp2_with (at_builtin; refine wpList_append_own _ rfl _ _ 22 rfl wo.heap.size 33 i0 _ 2 32 Try.underlying22 hi hz0 hz1 hz2 rfl (by decide) _ _ _ rfl (OwnL.below HO3.out (by (repeat' (first | (with_reducible exact Below.refl _ _) | (with_reducible refine bdrewN ?_ _) | (with_reducible refine Below.drew ?_) | (with_reducible refine Below.setCell ?_ ?_ _) | (with_reducible refine Below.alloc ?_ ?_ _) | (with_reducible exact Nat.le_refl _) | (with_reducible assumption) | omega | (simp only [World.size_alloc, World.size_setCell, World.size_drew, sz_drewN]; omega))))) _ 1 1 (cellsL [y]) rfl ?qc1 ?qc2 ?qc3 ?qc4 ?qc5 ?qc6 ?_)
                case qc1 => rw [cellsL_length]; rfl
                case qc2 =>
                  intro j' u hj'
                  first | exact news_at _ y 33 j' u hj' | (rw [cellsL_one'] at hj'; exact hj') | (rw [cellsL_one'] at hj'; simpa using hj')
                case qc3 => exact cellsL_one _
                case qc4 => have := HLen.out; simp only [maxLen, List.length_append, List.length_cons, List.length_nil]; omega
                case qc5 => have := HLen.out; (try simp only [List.length_append, List.length_cons, List.length_nil]); omega
                case qc6 => (try simp only [World.size_alloc, World.size_setCell, World.size_drew, sz_drewN]); omega
                intro v4 w4 hown hgrow hnil
                have hb3' : Below wo.heap.size wo w4 := Below.grown (by (repeat' (first | (with_reducible exact Below.refl _ _) | (with_reducible refine bdrewN ?_ _) | (with_reducible refine Below.drew ?_) | (with_reducible refine Below.setCell ?_ ?_ _) | (with_reducible refine Below.alloc ?_ ?_ _) | (with_reducible refine Below.trans ?_ (Below.mono hb3 ?_)) | (with_reducible exact Nat.le_refl _) | (with_reducible assumption) | omega | (simp only [World.size_alloc, World.size_setCell, World.size_drew, sz_drewN]; omega)))) hgrow (by (try simp only [World.size_alloc, World.size_setCell, World.size_drew, sz_drewN]); omega) (by
                  intro q hq
                  exact (World.ownsRow.lt HO3.out q hq).1)
                have HO4 : Hid (OwnL w4 wo.heap.size v4 ((sl ++ [x]) ++ [y])) := by
                  show OwnL _ _ _ _
                  unfold OwnL
                  rw [cellsL_append]
                  simp only [List.length_append, List.length_cons, List.length_nil, Nat.zero_add] at hown ⊢
                  exact hown
                clear hown hgrow hnil
                have hsz4 := hb3'.size
                have hb4 := hb3'
                go_wp2
                go_round
                case rel => exact ⟨j + 1, _, (sl ++ [x] ++ [y], true), by omega, by go_num, rfl, rfl, HStep, HO4, hb4⟩
                case measure => simp [intOf]; omega
        · have hje : out.take j = out := List.take_of_length_le (by have := HM.out; omega)
          have hF := HF.out
          rw [hje] at hF
          have hins : rSorted (l.take (k + 1)) = if dn then sl else sl ++ [x] := by
            rw [rSorted_take hl, ← HX.out, ← HOUT.out]
            unfold insR
            rw [← hF]
          have HIns := Lib.hid hins
          clear hins hF hje HF
          have hwle : w.heap.size ≤ wo.heap.size := hsz
          cases dn with
          | true =>
            go_wp2
            go_round
            case rel => exact ⟨k + 1, _, by omega, by go_num, rfl, Lib.hid (by rw [HIns.out]; exact OwnL.base HO.out hwle), hb.trans (hb2.mono hwle)⟩
            case measure => simp [intOf]; omega
          | false =>
            have a1 : wr.cell? ⟨g, o + k * 2, none⟩ = some (.string x.1) := (hb2.cell (p := ⟨g, o + k * 2, none⟩) hg).trans hx1
            have a2 : wr.cell? ⟨g, o + k * 2 + 1, none⟩ = some (.string x.2) := (hb2.cell (p := ⟨g, o + k * 2 + 1, none⟩) hg).trans hx2
            have hgl : g < wr.heap.size := by omega
            obtain ⟨i0, hi, hz0, hz1, hz2⟩ := info_partsL info33
            go_wp2_with (at_builtin; refine wpList_append_own _ rfl _ _ 22 rfl wo.heap.size 33 i0 _ 2 32 Try.underlying22 hi hz0 hz1 hz2 rfl (by decide) _ _ _ rfl (OwnL.below HO.out (by (repeat' (first | (with_reducible exact Below.refl _ _) | (with_reducible refine bdrewN ?_ _) | (with_reducible refine Below.drew ?_) | (with_reducible refine Below.setCell ?_ ?_ _) | (with_reducible refine Below.alloc ?_ ?_ _) | (with_reducible exact Nat.le_refl _) | (with_reducible assumption) | omega | (simp only [World.size_alloc, World.size_setCell, World.size_drew, sz_drewN]; omega))))) _ 1 1 (cellsL [x]) rfl ?qc1 ?qc2 ?qc3 ?qc4 ?qc5 ?qc6 ?_)
            case qc1 => rw [cellsL_length]; rfl
            case qc2 =>
              intro j' u hj'
              first | exact news_at _ x 33 j' u hj' | (rw [cellsL_one'] at hj'; exact hj') | (rw [cellsL_one'] at hj'; simpa using hj')
            case qc3 => exact cellsL_one _
            case qc4 => have := HLen.out; simp only [maxLen, List.length_append, List.length_cons, List.length_nil]; omega
            case qc5 => have := HLen.out; (try simp only [List.length_append, List.length_cons, List.length_nil]); omega
            case qc6 => (try simp only [World.size_alloc, World.size_setCell, World.size_drew, sz_drewN]); omega
            intro v5 w5 hown hgrow hnil
            have hb2' : Below wo.heap.size wo w5 := Below.grown (by (repeat' (first | (with_reducible exact Below.refl _ _) | (with_reducible refine bdrewN ?_ _) | (with_reducible refine Below.drew ?_) | (with_reducible refine Below.setCell ?_ ?_ _) | (with_reducible refine Below.alloc ?_ ?_ _) | (with_reducible refine Below.trans ?_ (Below.mono hb2 ?_)) | (with_reducible exact Nat.le_refl _) | (with_reducible assumption) | omega | (simp only [World.size_alloc, World.size_setCell, World.size_drew, sz_drewN]; omega)))) hgrow (by (try simp only [World.size_alloc, World.size_setCell, World.size_drew, sz_drewN]); omega) (by
              intro q hq
              exact (World.ownsRow.lt HO.out q hq).1)
            have HO5 : Hid (OwnL w5 wo.heap.size v5 (sl ++ [x])) := by
              show OwnL _ _ _ _
              unfold OwnL
              rw [cellsL_append]
              simp only [List.length_append, List.length_cons, List.length_nil, Nat.zero_add] at hown ⊢
              exact hown
            clear hown hgrow hnil
            have hsz5 := hb2'.size
            go_wp2
            go_round
            case rel => exact ⟨k + 1, _, by omega, by go_num, rfl, Lib.hid (by rw [HIns.out]; exact OwnL.base HO5.out hwle), hb.trans (hb2'.mono hwle)⟩
            case measure => simp [intOf]; omega
    · have hkn : l.take k = l := List.take_of_length_le (by have := hn.out; omega)
      have HOut' : Hid (OwnL wr w.heap.size u3 (rSorted l)) := Lib.hid (by have := HOut.out; rwa [hkn] at this)
      clear hkn HOut
      go_wp2
      go_ret
      exact ⟨_, rfl, HOut'.out, hb⟩
end Go.Proofs.Ytnidpipbdgolfaa
