/- The sort of the standard library (slices.Sort at []string), laid at this program; what it does to a row of texts that the call owns. No condition beyond that the row is no longer than Go allows. -/
import Derived.Test.YtbegbecmnhldkaaSt
import Derived.Shelf.SortG.SortNone
import Derived.Shelf.SortG.Plain
import Derived.Sort.OwnSorted
namespace Go.Proofs.Ytbegbecmnhldkaa
open Go.Shelf Go.RowKit Go.Sort
set_option linter.unusedSimpArgs false
set_option linter.unusedVariables false

/-- The numbers of the standard library's sort in this program. -/
def renS : Ren := ⟨fun x => match x with | 54 => 22 | 61 => 31 | 64 => 24 | 65 => 23 | 69 => 41 | 78 => 34 | 79 => 35 | 80 => 25 | 81 => 26 | 82 => 27 | 83 => 28 | 84 => 29 | 85 => 30 | 86 => 32 | 87 => 33 | 89 => 37 | 90 => 38 | 93 => 36 | 94 => 39 | 95 => 40 | 97 => 42 | n => n,
  fun x => match x with | 0 => 0 | 3 => 3 | 4 => 4 | 5 => 5 | 9 => 9 | 25 => 28 | 26 => 9 | 44 => 40 | 51 => 56 | 60 => 58 | 61 => 59 | 67 => 66 | 69 => 68 | 75 => 69 | 79 => 73 | 83 => 75 | 84 => 76 | n => n, fun x => x⟩
set_option maxRecDepth 100000 in
theorem layS : SlLaysN.n54 Try.prog renS where
  mixed := by kernel_rfl
  f54 := ⟨Try.f22.name, by kernel_rfl, by kernel_rfl⟩
  f61 := ⟨Try.f31.name, by kernel_rfl, by kernel_rfl⟩
  f64 := Try.func24.trans (congrArg some (by kernel_rfl))
  f65 := ⟨Try.f23.name, by kernel_rfl, by kernel_rfl⟩
  f69 := ⟨Try.f41.name, by kernel_rfl, by kernel_rfl⟩
  f78 := Try.func34.trans (congrArg some (by kernel_rfl))
  f79 := Try.func35.trans (congrArg some (by kernel_rfl))
  f80 := ⟨Try.f25.name, by kernel_rfl, by kernel_rfl⟩
  f81 := ⟨Try.f26.name, by kernel_rfl, by kernel_rfl⟩
  f82 := ⟨Try.f27.name, by kernel_rfl, by kernel_rfl⟩
  f83 := ⟨Try.f28.name, by kernel_rfl, by kernel_rfl⟩
  f84 := ⟨Try.f29.name, by kernel_rfl, by kernel_rfl⟩
  f85 := ⟨Try.f30.name, by kernel_rfl, by kernel_rfl⟩
  f86 := ⟨Try.f32.name, by kernel_rfl, by kernel_rfl⟩
  f87 := ⟨Try.f33.name, by kernel_rfl, by kernel_rfl⟩
  f89 := Try.func37.trans (congrArg some (by kernel_rfl))
  f90 := Try.func38.trans (congrArg some (by kernel_rfl))
  f93 := ⟨Try.f36.name, by kernel_rfl, by kernel_rfl⟩
  f94 := ⟨Try.f39.name, by kernel_rfl, by kernel_rfl⟩
  f95 := ⟨Try.f40.name, by kernel_rfl, by kernel_rfl⟩
  f97 := ⟨Try.f42.name, by kernel_rfl, by kernel_rfl⟩
  t0 := Try.underlying0
  a0 := Try.isAgg0
  z0 := Try.sizeOf0
  v0 := Try.zeroValue0
  t3 := Try.underlying3
  a3 := Try.isAgg3
  z3 := Try.sizeOf3
  v3 := Try.zeroValue3
  t4 := Try.underlying4
  a4 := Try.isAgg4
  z4 := Try.sizeOf4
  v4 := Try.zeroValue4
  t5 := Try.underlying5
  a5 := Try.isAgg5
  z5 := Try.sizeOf5
  v5 := Try.zeroValue5
  t9 := Try.underlying9
  a9 := Try.isAgg9
  z9 := Try.sizeOf9
  v9 := Try.zeroValue9
  t25 := Try.underlying28
  a25 := Try.isAgg28
  z25 := Try.sizeOf28
  v25 := Try.zeroValue28
  t26 := Try.underlying9
  a26 := Try.isAgg9
  z26 := Try.sizeOf9
  v26 := Try.zeroValue9
  t44 := Try.underlying40
  a44 := Try.isAgg40
  z44 := Try.sizeOf40
  v44 := Try.zeroValue40
  t51 := Try.underlying56
  a51 := Try.isAgg56
  z51 := Try.sizeOf56
  v51 := Try.zeroValue56
  t60 := Try.underlying58
  a60 := Try.isAgg58
  z60 := Try.sizeOf58
  v60 := Try.zeroValue58
  t61 := Try.underlying59
  a61 := Try.isAgg59
  z61 := Try.sizeOf59
  v61 := Try.zeroValue59
  t67 := Try.underlying66
  a67 := Try.isAgg66
  z67 := Try.sizeOf66
  v67 := Try.zeroValue66
  t69 := Try.underlying68
  a69 := Try.isAgg68
  z69 := Try.sizeOf68
  v69 := Try.zeroValue68
  t75 := Try.underlying69
  a75 := Try.isAgg69
  z75 := Try.sizeOf69
  v75 := Try.zeroValue69
  t79 := Try.underlying73
  a79 := Try.isAgg73
  z79 := Try.sizeOf73
  v79 := Try.zeroValue73
  t83 := Try.underlying75
  a83 := Try.isAgg75
  z83 := Try.sizeOf75
  v83 := Try.zeroValue75
  t84 := Try.underlying76
  a84 := Try.isAgg76
  z84 := Try.sizeOf76
  v84 := Try.zeroValue76

theorem ba_mk (s : ByteArray) : (⟨s.data.toList.toArray⟩ : ByteArray) = s := by cases s; simp
def bytesL (s : ByteArray) : List UInt8 := s.data.toList
def ofL (l : List UInt8) : ByteArray := ⟨l.toArray⟩
theorem ofL_bytes (s : ByteArray) : ofL (bytesL s) = s := by cases s; simp [ofL, bytesL]
theorem bytes_ofL (l : List UInt8) : bytesL (ofL l) = l := by simp [ofL, bytesL]
theorem encStr_bytes (s : ByteArray) : encStr (bytesL s) = .string s := by
  have := ofL_bytes s
  unfold ofL at this
  unfold encStr
  rw [this]
theorem cells_enc (l : List ByteArray) : (cellsS l).flatten = (l.map bytesL).map encStr := by
  induction l with
  | nil => rfl
  | cons x l ih => simp only [cellsS, List.map_cons, List.flatten_cons] at ih ⊢; rw [ih, encStr_bytes]; rfl
/-- A row of texts that the call owns is sorted. -/
theorem sortS_any (w : World) (b n c : Nat) (A : Option Addr) (l : List ByteArray) (hn0 : n ≤ 1000000) (hO : Hid (OwnK w b 9 1 (.slice A n c) (cellsS l))) :
    Calls Try.prog 22 #[.slice A n c] w fun e w' => e = .returned (.tuple #[]) ∧ (∃ l', l'.Perm l ∧ l'.Pairwise (fun x y => sL y x = false) ∧ OwnK w' b 9 1 (.slice A n c) (cellsS l')) ∧ Below b w w' := by
  rcases hO.out.2.2 with ⟨hv, h0⟩ | ⟨g, cap, cur, hv, hb, hg, hn, hm, hc, ht⟩
  · injection hv with e1 e2 e3
    subst e1 e2 e3
    have hl : l = [] := by
      have := List.length_eq_zero_iff.1 h0
      cases l with
      | nil => rfl
      | cons x l => simp [cellsS] at this
    subst hl
    refine (calls_of_every_depth fun D => AnySG.slices_Sort_string_none_in layS D none 0 w).mono ?_
    rintro e w' ⟨rfl, rfl⟩
    exact ⟨rfl, ⟨[], List.Perm.refl _, List.Pairwise.nil, hO.out⟩, Below.refl _ _⟩
  · injection hv with e1 e2 e3
    subst e1 e3
    have hln : n = (l.map bytesL).length := by rw [e2, cellsS_length, List.length_map]
    rw [cellsS_length] at hn
    rw [cellsS_length, Nat.mul_one, cells_enc] at ht
    rw [← List.length_map (f := bytesL)] at hn ht
    have hlt : g < w.heap.size := (Array.getElem?_eq_some_iff.1 hg).1
    subst hln
    refine (AnyG.slices_Sort_string layS g 0 c (l.map bytesL) w (holds_of_block hg ht) hlt (by omega)).mono ?_
    rintro e w' ⟨rfl, q, os, rfl⟩
    refine ⟨rfl, ⟨((l.map bytesL).mergeSort fun x y => decide (x ≤ y)).map ofL, ?_, ?_, ?_⟩, ?_⟩
    · have h1 := (List.mergeSort_perm (l.map bytesL) fun x y => decide (x ≤ y)).map ofL
      rw [List.map_map, show ofL ∘ bytesL = id from funext ofL_bytes, List.map_id] at h1
      exact h1
    · rw [List.pairwise_map]
      have h2 := List.pairwise_mergeSort (le := fun x y : List UInt8 => decide (x ≤ y)) (fun x y z h1 h2 => decide_eq_true (List.le_trans (of_decide_eq_true h1) (of_decide_eq_true h2))) (fun x y => by
        simp only [Bool.or_eq_true, decide_eq_true_eq]; exact List.le_total x y) (l.map bytesL)
      refine h2.imp fun {x y} h => ?_
      have h := of_decide_eq_true h
      cases hs : sL (ofL y) (ofL x) with
      | false => rfl
      | true =>
        have := sL_iff.1 hs
        rw [show (ofL y).data.toList = y from bytes_ofL y, show (ofL x).data.toList = x from bytes_ofL x] at this
        exact absurd this (List.not_lt.2 h)
    · have h3 := ownsRow_sorted (n := q) (os := os) (ss := l.map bytesL) (ts := (l.map bytesL).mergeSort fun x y => decide (x ≤ y)) (by simp) hb hg hn hm hc
      have e4 : (cellsS (((l.map bytesL).mergeSort fun x y => decide (x ≤ y)).map ofL)).length = (l.map bytesL).length := by simp [cellsS]
      refine ⟨by simp [cellsS], ?_⟩
      have e5 : ∀ X : List (List UInt8), (X.map ofL).map bytesL = X := fun X => by rw [List.map_map, show bytesL ∘ ofL = id from funext bytes_ofL, List.map_id]
      rw [e4, cells_enc, e5]
      exact h3
    · exact (Below.refl _ _).grown (grownBy_sorted _) (by omega) fun k hk => by injection hk with hk; omega
end Go.Proofs.Ytbegbecmnhldkaa

