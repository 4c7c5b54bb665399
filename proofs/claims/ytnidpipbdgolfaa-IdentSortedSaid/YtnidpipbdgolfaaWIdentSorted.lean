/- The walk of IdentSorted: sorted labels are sorted once more as they are; each key is there once, with the last value; and they are valid just where they may be. Conditions: the arguments are ones that Go can have. -/
import Derived.Test.YtnidpipbdgolfaaWIdentLabels
import Derived.Test.YtnidpipbdgolfaaWIdentHas
namespace Go.Proofs.Ytnidpipbdgolfaa.identSorted
open Go.RowKit
open Go.Proofs.Ytnidpipbdgolfaa.identLabels (few_len same_refl)
open Go.Proofs.Ytnidpipbdgolfaa.identHas (find_none)
set_option linter.unusedSimpArgs false
set_option linter.unusedVariables false

theorem lastIn_mem {l : List Lb} {x : Lb} (h : LastIn l x) : x ∈ l := by obtain ⟨p, s, e, _⟩ := h; rw [e]; simp
theorem has_last : ∀ (k : Nat) (l : List Lb), l.length = k → ∀ x ∈ l, ∃ y, LastIn l y ∧ y.1 = x.1 := by
  intro k
  induction k with
  | zero => intro l hl x hx; rw [List.length_eq_zero_iff] at hl; subst hl; simp at hx
  | succ k ih =>
    intro l hl x hx
    rcases List.eq_nil_or_concat l with rfl | ⟨q, z, rfl⟩
    · simp at hx
    · rw [List.concat_eq_append] at hx ⊢
      by_cases hz : z.1 = x.1
      · exact ⟨z, (lastIn_snoc q z z).2 (.inl rfl), hz⟩
      · rcases List.mem_append.1 hx with h | h
        · obtain ⟨y, hy, hk⟩ := ih q (by simpa using hl) x h
          exact ⟨y, (lastIn_snoc q z y).2 (.inr ⟨hy, fun e => hz (e.symm.trans hk)⟩), hk⟩
        · simp at h; subst h; exact absurd rfl hz
theorem value_sorted {l s : List Lb} (hs : IsSorted l s) {x : Lb} (hx : LastIn l x) : valueP s x.1 = (x.2, true) := by
  have hm := (hs.2 x).2 hx
  unfold valueP
  cases hf : s.find? fun y => sE y.1 x.1 with
  | none => exact absurd rfl (find_none hf x hm)
  | some y =>
    have hk : y.1 = x.1 := sE_iff.1 (List.find?_some (p := fun y : Lb => sE y.1 x.1) hf)
    rw [asc_key hs.1 (List.mem_of_find?_eq_some hf) hm hk]

/-- Has no place behind i, ahead of q, the key of i? -/
def lastQ (l : List Lb) (i q : Nat) : Bool := (List.range q).all fun t => decide (t ≤ i) || !sE (l.getD t default).1 (l.getD i default).1
theorem lastQ_start (l : List Lb) (i : Nat) : lastQ l i (i + 1) = true := by
  unfold lastQ
  rw [List.all_eq_true]
  intro t ht
  rw [decide_eq_true (show t ≤ i by have := List.mem_range.1 ht; omega)]; rfl
theorem getD_lt {l : List Lb} {i : Nat} (h : i < l.length) : l.getD i default = l[i] := by simp [List.getD, List.getElem?_eq_getElem h]
theorem lastQ_step {l : List Lb} {i q : Nat} (hi : i < q) (hq : q < l.length) : lastQ l i (q + 1) = (lastQ l i q && !sE l[q].1 (l[i]'(by omega)).1) := by
  unfold lastQ
  rw [range_all, getD_lt hq, getD_lt (show i < l.length by omega), show decide (q ≤ i) = false from decide_eq_false (by omega)]; rfl
theorem lastQ_last {l : List Lb} {i : Nat} (hi : i < l.length) (h : lastQ l i l.length = true) : LastIn l l[i] := by
  refine ⟨l.take i, l.drop (i + 1), ?_, fun y hy hk => ?_⟩
  · rw [← List.drop_eq_getElem_cons hi, List.take_append_drop]
  · obtain ⟨j, hj, e⟩ := List.getElem_of_mem hy
    rw [List.getElem_drop] at e
    rw [List.length_drop] at hj
    unfold lastQ at h
    have := List.all_eq_true.1 h (i + 1 + j) (List.mem_range.2 (by omega))
    rw [getD_lt (show i + 1 + j < l.length by omega), getD_lt hi, show decide (i + 1 + j ≤ i) = false from decide_eq_false (by omega), e, sE_iff.2 hk] at this
    cases this

/-- Are both texts of this label names? -/
def nmP (x : Lb) : Bool := nameB x.1 && nameB x.2
/-- What the statement has reckoned after k of the labels. -/
def nmB (s : List Lb) (k : Nat) : Bool := decide (s.length ≤ 4) && (s.take k).all nmP
theorem nmB_step {s : List Lb} {k : Nat} (h : k < s.length) : nmB s (k + 1) = (nmB s k && nmP s[k]) := by
  unfold nmB; rw [all_takeL h, Bool.and_assoc]
theorem asc_at {s : List Lb} (h : Asc s) (j : Nat) (hj : j + 1 < s.length) : sL s[j].1 s[j + 1].1 = true := List.pairwise_iff_getElem.1 h j (j + 1) (by omega) hj (by omega)
theorem labels_of_asc {s : List Lb} (h : Asc s) : labelsB s = nmB s s.length := by
  unfold labelsB nmB
  rw [List.take_of_length_le (Nat.le_refl _)]
  congr 1
  rw [Bool.eq_iff_iff, List.all_eq_true, List.all_eq_true]
  constructor
  · intro hh x hx
    obtain ⟨i, hi, rfl⟩ := List.getElem_of_mem hx
    have := hh i (List.mem_range.2 hi)
    rw [labAt_lt hi, Bool.and_eq_true] at this
    exact this.1
  · intro hh i hi
    have hi' := List.mem_range.1 hi
    have := hh _ (List.getElem_mem hi')
    rcases Nat.eq_zero_or_pos i with rfl | hp
    · rw [labAt_zero hi']; exact this
    · obtain ⟨j, rfl⟩ : ∃ j, i = j + 1 := ⟨i - 1, by omega⟩
      rw [labAt_succ hi', asc_at h j hi', Bool.and_true]; exact this

set_option maxHeartbeats 16000000 in
set_option maxRecDepth 100000 in
theorem walk (A : Option Addr) (n c : Nat) (l : List Lb) (w : World)
    (hn : n = l.length) (hr : RdL w A l) (hcn : n ≤ c) (hcm : c ≤ 9223372036854775807) (hz : Sz l) :
    Calls Try.prog 5 #[.slice A n c] w fun e w' => e = .returned (.bool true) ∧ Below w.heap.size w w' := by
  have HN := Lib.hid hn
  have HR := Lib.hid hr
  have HZ := Lib.hid hz
  clear hn hr hz
  have hfa := fun W h => few_any A n c l W HN (Lib.hid h) HZ hcn hcm
  by_cases fa : fewB l = true
  case neg =>
    have fa' : fewB l = false := by simpa using fa
    rw [fa'] at hfa
    have HFA := Lib.hid hfa
    clear fa fa' hfa
    go_enter Try.func5, Try.ntmps5
    go_wp2_with fail
    refine (awake_any _).mono ?_
    rintro e w1 ⟨rfl, hb1⟩
    have hc1 : Below w.heap.size w w1 := hb1.mono (by first | exact Nat.le_refl _ | (simp only [World.size_alloc, World.size_setCell, World.size_drew, sz_drewN]; omega)) |> fun h => (by first | exact h | exact Below.trans (by (repeat' (first | (with_reducible exact Below.refl _ _) | (with_reducible refine Below.setCell ?_ ?_ _) | (with_reducible refine Below.alloc ?_ ?_ _) | exact Nat.le_refl _))) h)
    go_wp2_with fail
    refine (HFA.out _ (HR.out.later hc1)).mono ?_
    rintro e w2 ⟨rfl, hb2⟩
    have hc2 : Below w.heap.size w w2 := hc1.trans (hb2.mono hc1.size)
    go_wp2_with fail
    refine (awake_any _).mono ?_
    rintro e w3 ⟨rfl, hb3⟩
    have hc3 : Below w.heap.size w w3 := hc2.trans (hb3.mono hc2.size)
    go_wp2
    go_ret
    exact ⟨rfl, hc3⟩
  rw [fa] at hfa
  have HFA := Lib.hid hfa
  have hn300 : n ≤ 300 := by have := few_len fa; have := HN.out; omega
  clear fa hfa
  have hso := fun W h => sorted_any A n c l W HN (Lib.hid h) (by omega)
  have HSO := Lib.hid hso
  clear hso
  go_enter Try.func5, Try.ntmps5
  go_wp2_with fail
  refine (awake_any _).mono ?_
  rintro e w1 ⟨rfl, hb1⟩
  have hc1 : Below w.heap.size w w1 := hb1.mono (by first | exact Nat.le_refl _ | (simp only [World.size_alloc, World.size_setCell, World.size_drew, sz_drewN]; omega)) |> fun h => (by first | exact h | exact Below.trans (by (repeat' (first | (with_reducible exact Below.refl _ _) | (with_reducible refine Below.setCell ?_ ?_ _) | (with_reducible refine Below.alloc ?_ ?_ _) | exact Nat.le_refl _))) h)
  go_wp2_with fail
  refine (HFA.out _ (HR.out.later hc1)).mono ?_
  rintro e w2 ⟨rfl, hb2⟩
  have hc2 : Below w.heap.size w w2 := hc1.trans (hb2.mono hc1.size)
  go_wp2_with fail
  refine (HSO.out _ (HR.out.later hc2)).mono ?_
  rintro e w3 ⟨v1, s1, rfl, hs1, hl1, hO1, hb3⟩
  have hc3 : Below w.heap.size w w3 := hc2.trans (hb3.mono hc2.size)
  obtain ⟨A1, c1, S1⟩ := hO1.sl
  have hv1 := S1.val
  subst hv1
  have hcap1 := S1.cap
  have hcap1' := S1.cap2
  have HS1 := Lib.hid S1.rd
  have HSort := Lib.hid hs1
  simp only [maxLen] at hcap1'
  obtain ⟨m1, hm1⟩ : ∃ m1, m1 = s1.length := ⟨_, rfl⟩
  rw [← hm1] at hcap1 hl1 ⊢
  have HM1 := Lib.hid hm1
  have hm1n : m1 ≤ n := by have := HN.out; omega
  have hso1 := fun W h => sorted_any A1 m1 c1 s1 W HM1 (Lib.hid h) (by omega)
  have HSO1 := Lib.hid hso1
  have HAscAt : Hid (∀ j, (hj : j + 1 < s1.length) → sL s1[j].1 s1[j + 1].1 = true) := Lib.hid (asc_at HSort.out.1)
  have HZ1 : Hid (Sz s1) := Lib.hid (fun x hx => HZ.out x (lastIn_mem ((HSort.out.2 x).1 hx)))
  clear S1 hO1 hs1 hm1 hso1 hl1
  go_wp2_with fail
  refine (HSO1.out _ HS1.out).mono ?_
  rintro e w4 ⟨v2, s2, rfl, hs2, hl2, hO2, hb4⟩
  have hc4 : Below w.heap.size w w4 := hc3.trans (hb4.mono hc3.size)
  obtain ⟨A2, c2, S2⟩ := hO2.sl
  have hv2 := S2.val
  subst hv2
  have hcap2 := S2.cap
  have hcap2' := S2.cap2
  have HS2 := Lib.hid S2.rd
  have hE2 : s2 = s1 := sorted_unique hs2 (sorted_again HSort.out.1)
  simp only [maxLen] at hcap2'
  obtain ⟨m2, hm2⟩ : ∃ m2, m2 = s2.length := ⟨_, rfl⟩
  rw [← hm2] at hcap2 ⊢
  have HM2 := Lib.hid hm2
  have hsame := same_any A2 A1 m2 c2 m1 c1 s2 s1 w4 HM2 HM1 HS2 (Lib.hid (HS1.out.later hb4)) hcap2 (by omega) hcap1 (by omega)
  rw [hE2, same_refl] at hsame
  have HSame := Lib.hid hsame
  clear S2 hO2 hm2 hsame hs2 hl2 hE2
  go_wp2_with fail
  refine HSame.out.mono ?_
  rintro e w5 ⟨rfl, hb5⟩
  have hc5 : Below w.heap.size w w5 := hc4.trans (hb5.mono hc4.size)
  have hb45 : Below w3.heap.size w3 w5 := hb4.trans (hb5.mono hb4.size)
  have hnle : ¬ (n : Int) < (m1 : Int) := by omega
  have hwz : w.heap.size ≤ w3.heap.size := hc3.size
  go_wp2
  rw [show decide (n < m1) = false from decide_eq_false (by omega)]
  generalize hb4e : decide ((m1 : Int) ≤ 4) = b4
  have HB4 : Hid (b4 = nmB s1 0) := Lib.hid (by rw [← hb4e]; unfold nmB; rw [← HM1.out]; simp; omega)
  clear hb4e
  go_loopw [4, 5, 38] (fun nm _ i wr => ∃ k : Nat, k ≤ m1 ∧ i = .int .i64 k ∧ nm = .bool (nmB s1 k) ∧ Below w3.heap.size w3 wr) (fun _ _ i wr => m1 - (intOf i).toNat)
  case atStart => exact ⟨0, Nat.zero_le _, rfl, congrArg Value.bool HB4.out, hb45⟩
  case round =>
    obtain ⟨k, hk, rfl, rfl, hb⟩ := hrel
    have hb4 : Below w3.heap.size w3 wr := hb
    have hszr := hb.size
    by_cases hlt : k < m1
    · have hl : k < s1.length := by have := HM1.out; omega
      obtain ⟨g, o, rfl, hg, h1, h2⟩ := (HS1.out.later hb4).at hl
      obtain ⟨z1, z2⟩ := HZ1.out.at hl
      have hS := nmB_step hl
      have hcon1 := fun w => name_any s1[k].1 w (by omega)
      have hcon2 := fun w => name_any s1[k].2 w (by omega)
      have hlen1 : s1.length = m1 := HM1.out.symm
      by_cases hP : nmB s1 k = true
      · rw [hP] at hS ⊢
        by_cases hN1 : nameB s1[k].1 = true
        · rw [hN1] at hcon1
          by_cases hN2 : nameB s1[k].2 = true
          · rw [hN2] at hcon2
            have HC1 := Lib.hid hcon1
            have HC2 := Lib.hid hcon2
            have HS : Hid (true = nmB s1 (k + 1)) := Lib.hid (by rw [hS]; unfold nmP; rw [hN1, hN2]; rfl)
            have HLen1 := Lib.hid hlen1
            clear hS hP hN1 hN2 hcon1 hcon2 hlen1
            have hm1l : m1 ≤ s1.length := by have := HLen1.out; omega
            by_cases hk0 : 0 < k
            case neg =>
              have hp0 : decide ((0 : Int) < (k : Int)) = false := decide_eq_false (by omega)
              go_wp2_with fail
              refine (HC1.out _).mono ?_
              rintro e w' ⟨rfl, rfl⟩
              go_wp2_with fail
              refine (HC2.out _).mono ?_
              rintro e w' ⟨rfl, rfl⟩
              go_wp2_with fail
              go_quiet (fail)
              go_wp2
              go_round
              case rel => exact ⟨k + 1, by omega, by go_num, congrArg Value.bool HS.out, (by (repeat' (first | (with_reducible exact Below.refl _ _) | (with_reducible refine bdrewN ?_ _) | (with_reducible refine Below.drew ?_) | (with_reducible refine Below.setCell ?_ ?_ _) | (with_reducible refine Below.alloc ?_ ?_ _) | (with_reducible refine Below.trans ?_ (Below.mono hb ?_)) | (with_reducible exact Nat.le_refl _) | (with_reducible assumption) | omega | (simp only [World.size_alloc, World.size_setCell, World.size_drew, sz_drewN]; omega))))⟩
              case measure => simp [intOf]; omega
            case pos =>
              obtain ⟨j, rfl⟩ : ∃ j, k = j + 1 := ⟨k - 1, by omega⟩
              obtain ⟨g', o', ha, hg', h1', h2'⟩ := (HS1.out.later hb4).at (show j < s1.length by omega)
              injection ha with ha; injection ha with ha1 ha2; subst ha1 ha2
              have hwp : IntKind.i64.wrap (j : Int) = (j : Int) := by rw [IntKind.wrap_i64]; omega
              have jn : (j : Int) < (m1 : Int) := by omega
              have jt : ((j : Int)).toNat = j := by omega
              have e1 : Op.bytesLess s1[j].1.toList s1[j + 1].1.toList = true := HAscAt.out j (by omega)
              go_wp2_with fail
              refine (HC1.out _).mono ?_
              rintro e w' ⟨rfl, rfl⟩
              go_wp2_with fail
              refine (HC2.out _).mono ?_
              rintro e w' ⟨rfl, rfl⟩
              go_wp2_with fail
              go_quiet (fail)
              go_wp2
              go_round
              case rel => exact ⟨j + 1 + 1, by omega, by go_num, congrArg Value.bool HS.out, (by (repeat' (first | (with_reducible exact Below.refl _ _) | (with_reducible refine bdrewN ?_ _) | (with_reducible refine Below.drew ?_) | (with_reducible refine Below.setCell ?_ ?_ _) | (with_reducible refine Below.alloc ?_ ?_ _) | (with_reducible refine Below.trans ?_ (Below.mono hb ?_)) | (with_reducible exact Nat.le_refl _) | (with_reducible assumption) | omega | (simp only [World.size_alloc, World.size_setCell, World.size_drew, sz_drewN]; omega))))⟩
              case measure => simp [intOf]; omega
          · have hN2' : nameB s1[k].2 = false := by simpa using hN2
            rw [hN2'] at hcon2
            have HC1 := Lib.hid hcon1
            have HC2 := Lib.hid hcon2
            have HS : Hid (false = nmB s1 (k + 1)) := Lib.hid (by rw [hS]; unfold nmP; rw [hN1, hN2']; rfl)
            have HLen1 := Lib.hid hlen1
            clear hS hP hN1 hN2 hN2' hcon1 hcon2 hlen1
            have hm1l : m1 ≤ s1.length := by have := HLen1.out; omega
            by_cases hk0 : 0 < k
            case neg =>
              have hp0 : decide ((0 : Int) < (k : Int)) = false := decide_eq_false (by omega)
              go_wp2_with fail
              refine (HC1.out _).mono ?_
              rintro e w' ⟨rfl, rfl⟩
              go_wp2_with fail
              refine (HC2.out _).mono ?_
              rintro e w' ⟨rfl, rfl⟩
              go_wp2_with fail
              go_quiet (fail)
              go_wp2
              go_round
              case rel => exact ⟨k + 1, by omega, by go_num, congrArg Value.bool HS.out, (by (repeat' (first | (with_reducible exact Below.refl _ _) | (with_reducible refine bdrewN ?_ _) | (with_reducible refine Below.drew ?_) | (with_reducible refine Below.setCell ?_ ?_ _) | (with_reducible refine Below.alloc ?_ ?_ _) | (with_reducible refine Below.trans ?_ (Below.mono hb ?_)) | (with_reducible exact Nat.le_refl _) | (with_reducible assumption) | omega | (simp only [World.size_alloc, World.size_setCell, World.size_drew, sz_drewN]; omega))))⟩
              case measure => simp [intOf]; omega
            case pos =>
              obtain ⟨j, rfl⟩ : ∃ j, k = j + 1 := ⟨k - 1, by omega⟩
              obtain ⟨g', o', ha, hg', h1', h2'⟩ := (HS1.out.later hb4).at (show j < s1.length by omega)
              injection ha with ha; injection ha with ha1 ha2; subst ha1 ha2
              have hwp : IntKind.i64.wrap (j : Int) = (j : Int) := by rw [IntKind.wrap_i64]; omega
              have jn : (j : Int) < (m1 : Int) := by omega
              have jt : ((j : Int)).toNat = j := by omega
              have e1 : Op.bytesLess s1[j].1.toList s1[j + 1].1.toList = true := HAscAt.out j (by omega)
              go_wp2_with fail
              refine (HC1.out _).mono ?_
              rintro e w' ⟨rfl, rfl⟩
              go_wp2_with fail
              refine (HC2.out _).mono ?_
              rintro e w' ⟨rfl, rfl⟩
              go_wp2_with fail
              go_quiet (fail)
              go_wp2
              go_round
              case rel => exact ⟨j + 1 + 1, by omega, by go_num, congrArg Value.bool HS.out, (by (repeat' (first | (with_reducible exact Below.refl _ _) | (with_reducible refine bdrewN ?_ _) | (with_reducible refine Below.drew ?_) | (with_reducible refine Below.setCell ?_ ?_ _) | (with_reducible refine Below.alloc ?_ ?_ _) | (with_reducible refine Below.trans ?_ (Below.mono hb ?_)) | (with_reducible exact Nat.le_refl _) | (with_reducible assumption) | omega | (simp only [World.size_alloc, World.size_setCell, World.size_drew, sz_drewN]; omega))))⟩
              case measure => simp [intOf]; omega
        · have hN1' : nameB s1[k].1 = false := by simpa using hN1
          rw [hN1'] at hcon1
          have HC1 := Lib.hid hcon1
          have HS : Hid (false = nmB s1 (k + 1)) := Lib.hid (by rw [hS]; unfold nmP; rw [hN1']; rfl)
          have HLen1 := Lib.hid hlen1
          clear hS hP hN1 hN1' hcon1 hcon2 hlen1
          have hm1l : m1 ≤ s1.length := by have := HLen1.out; omega
          by_cases hk0 : 0 < k
          case neg =>
            have hp0 : decide ((0 : Int) < (k : Int)) = false := decide_eq_false (by omega)
            go_wp2_with fail
            refine (HC1.out _).mono ?_
            rintro e w' ⟨rfl, rfl⟩
            go_wp2_with fail
            go_quiet (fail)
            go_wp2
            go_round
            case rel => exact ⟨k + 1, by omega, by go_num, congrArg Value.bool HS.out, (by (repeat' (first | (with_reducible exact Below.refl _ _) | (with_reducible refine bdrewN ?_ _) | (with_reducible refine Below.drew ?_) | (with_reducible refine Below.setCell ?_ ?_ _) | (with_reducible refine Below.alloc ?_ ?_ _) | (with_reducible refine Below.trans ?_ (Below.mono hb ?_)) | (with_reducible exact Nat.le_refl _) | (with_reducible assumption) | omega | (simp only [World.size_alloc, World.size_setCell, World.size_drew, sz_drewN]; omega))))⟩
            case measure => simp [intOf]; omega
          case pos =>
            obtain ⟨j, rfl⟩ : ∃ j, k = j + 1 := ⟨k - 1, by omega⟩
            obtain ⟨g', o', ha, hg', h1', h2'⟩ := (HS1.out.later hb4).at (show j < s1.length by omega)
            injection ha with ha; injection ha with ha1 ha2; subst ha1 ha2
            have hwp : IntKind.i64.wrap (j : Int) = (j : Int) := by rw [IntKind.wrap_i64]; omega
            have jn : (j : Int) < (m1 : Int) := by omega
            have jt : ((j : Int)).toNat = j := by omega
            have e1 : Op.bytesLess s1[j].1.toList s1[j + 1].1.toList = true := HAscAt.out j (by omega)
            go_wp2_with fail
            refine (HC1.out _).mono ?_
            rintro e w' ⟨rfl, rfl⟩
            go_wp2_with fail
            go_quiet (fail)
            go_wp2
            go_round
            case rel => exact ⟨j + 1 + 1, by omega, by go_num, congrArg Value.bool HS.out, (by (repeat' (first | (with_reducible exact Below.refl _ _) | (with_reducible refine bdrewN ?_ _) | (with_reducible refine Below.drew ?_) | (with_reducible refine Below.setCell ?_ ?_ _) | (with_reducible refine Below.alloc ?_ ?_ _) | (with_reducible refine Below.trans ?_ (Below.mono hb ?_)) | (with_reducible exact Nat.le_refl _) | (with_reducible assumption) | omega | (simp only [World.size_alloc, World.size_setCell, World.size_drew, sz_drewN]; omega))))⟩
            case measure => simp [intOf]; omega
      · have hP' : nmB s1 k = false := by simpa using hP
        rw [hP'] at hS ⊢
        have HS : Hid (false = nmB s1 (k + 1)) := Lib.hid (by rw [hS]; rfl)
        have HLen1 := Lib.hid hlen1
        clear hS hP hP' hcon1 hcon2 hlen1
        have hm1l : m1 ≤ s1.length := by have := HLen1.out; omega
        by_cases hk0 : 0 < k
        case neg =>
          have hp0 : decide ((0 : Int) < (k : Int)) = false := decide_eq_false (by omega)
          go_wp2_with fail
          go_quiet (fail)
          go_wp2
          go_round
          case rel => exact ⟨k + 1, by omega, by go_num, congrArg Value.bool HS.out, (by (repeat' (first | (with_reducible exact Below.refl _ _) | (with_reducible refine bdrewN ?_ _) | (with_reducible refine Below.drew ?_) | (with_reducible refine Below.setCell ?_ ?_ _) | (with_reducible refine Below.alloc ?_ ?_ _) | (with_reducible refine Below.trans ?_ (Below.mono hb ?_)) | (with_reducible exact Nat.le_refl _) | (with_reducible assumption) | omega | (simp only [World.size_alloc, World.size_setCell, World.size_drew, sz_drewN]; omega))))⟩
          case measure => simp [intOf]; omega
        case pos =>
          obtain ⟨j, rfl⟩ : ∃ j, k = j + 1 := ⟨k - 1, by omega⟩
          obtain ⟨g', o', ha, hg', h1', h2'⟩ := (HS1.out.later hb4).at (show j < s1.length by omega)
          injection ha with ha; injection ha with ha1 ha2; subst ha1 ha2
          have hwp : IntKind.i64.wrap (j : Int) = (j : Int) := by rw [IntKind.wrap_i64]; omega
          have jn : (j : Int) < (m1 : Int) := by omega
          have jt : ((j : Int)).toNat = j := by omega
          have e1 : Op.bytesLess s1[j].1.toList s1[j + 1].1.toList = true := HAscAt.out j (by omega)
          go_wp2_with fail
          go_quiet (fail)
          go_wp2
          go_round
          case rel => exact ⟨j + 1 + 1, by omega, by go_num, congrArg Value.bool HS.out, (by (repeat' (first | (with_reducible exact Below.refl _ _) | (with_reducible refine bdrewN ?_ _) | (with_reducible refine Below.drew ?_) | (with_reducible refine Below.setCell ?_ ?_ _) | (with_reducible refine Below.alloc ?_ ?_ _) | (with_reducible refine Below.trans ?_ (Below.mono hb ?_)) | (with_reducible exact Nat.le_refl _) | (with_reducible assumption) | omega | (simp only [World.size_alloc, World.size_setCell, World.size_drew, sz_drewN]; omega))))⟩
          case measure => simp [intOf]; omega
    · have hkm : k = m1 := by omega
      have hnm : nmB s1 k = labelsB s1 := by rw [labels_of_asc HSort.out.1, hkm, HM1.out]
      rw [hnm]
      clear hnm
      obtain ⟨wo, hwo⟩ : ∃ wo, wo = wr := ⟨_, rfl⟩
      subst hwo
      have hlab := fun W h => labels_any A1 m1 c1 s1 W HM1 (Lib.hid h) HZ1 hcap1 (by omega)
      generalize labelsB s1 = lb at hlab ⊢
      have HLab := Lib.hid hlab
      clear hlab hkm hk
      go_wp2
      go_loopw [6, 7, 8, 9, 10, 77] (fun _ _ _ _ _ i wr => ∃ k : Nat, k ≤ n ∧ i = .int .i64 k ∧ Below w3.heap.size w3 wr) (fun _ _ _ _ _ i wr => n - (intOf i).toNat)
      case atStart => exact ⟨0, Nat.zero_le _, rfl, hb⟩
      case round =>
        obtain ⟨k, hk, rfl, hb6⟩ := hrel
        have hsz6 := hb6.size
        by_cases hlt : k < n
        · have hl : k < l.length := by have := HN.out; omega
          obtain ⟨wp, hwp⟩ : ∃ wp, wp = wr := ⟨_, rfl⟩
          subst hwp
          have hR3 : RdL w3 A l := HR.out.later hc3
          have HR3 := Lib.hid hR3
          clear hR3
          go_wp2
          go_loopw [7, 8] (fun la qi wr => ∃ q : Nat, k < q ∧ q ≤ n ∧ qi = .int .i64 q ∧ la = .bool (lastQ l k q) ∧ Below w3.heap.size w3 wr) (fun _ qi wr => n - (intOf qi).toNat)
          case atStart => exact ⟨k + 1, by omega, by omega, by go_num, congrArg Value.bool (lastQ_start l k).symm, hb6⟩
          case round =>
            obtain ⟨q, hkq, hqn, rfl, rfl, hb7⟩ := hrel
            have hsz7 := hb7.size
            by_cases hqlt : q < n
            · have hql : q < l.length := by have := HN.out; omega
              obtain ⟨g, o, rfl, hg, h1, h2⟩ := (HR3.out.later hb7).at hql
              obtain ⟨g', o', ha, hg', h1', h2'⟩ := (HR3.out.later hb7).at hl
              injection ha with ha; injection ha with ha1 ha2; subst ha1 ha2
              have hS := lastQ_step hkq hql
              by_cases hP : lastQ l k q = true
              · rw [hP] at hS ⊢
                by_cases hE : sE l[q].1 l[k].1 = true
                · have HS : Hid (false = lastQ l k (q + 1)) := Lib.hid (by rw [hS, hE]; rfl)
                  have e1 : (l[q].1.toList == l[k].1.toList) = true := hE
                  clear hS hP hE
                  go_wp2_with fail
                  go_quiet (fail)
                  go_wp2
                  go_round
                  case rel => exact ⟨q + 1, by omega, by omega, by go_num, congrArg Value.bool HS.out, (by (repeat' (first | (with_reducible exact Below.refl _ _) | (with_reducible refine bdrewN ?_ _) | (with_reducible refine Below.drew ?_) | (with_reducible refine Below.setCell ?_ ?_ _) | (with_reducible refine Below.alloc ?_ ?_ _) | (with_reducible refine Below.trans ?_ (Below.mono hb7 ?_)) | (with_reducible exact Nat.le_refl _) | (with_reducible assumption) | omega | (simp only [World.size_alloc, World.size_setCell, World.size_drew, sz_drewN]; omega))))⟩
                  case measure => simp [intOf]; omega
                · have hE' : sE l[q].1 l[k].1 = false := by simpa using hE
                  have HS : Hid (true = lastQ l k (q + 1)) := Lib.hid (by rw [hS, hE']; rfl)
                  have e1 : (l[q].1.toList == l[k].1.toList) = false := hE'
                  clear hS hP hE hE'
                  go_wp2_with fail
                  go_quiet (fail)
                  go_wp2
                  go_round
                  case rel => exact ⟨q + 1, by omega, by omega, by go_num, congrArg Value.bool HS.out, (by (repeat' (first | (with_reducible exact Below.refl _ _) | (with_reducible refine bdrewN ?_ _) | (with_reducible refine Below.drew ?_) | (with_reducible refine Below.setCell ?_ ?_ _) | (with_reducible refine Below.alloc ?_ ?_ _) | (with_reducible refine Below.trans ?_ (Below.mono hb7 ?_)) | (with_reducible exact Nat.le_refl _) | (with_reducible assumption) | omega | (simp only [World.size_alloc, World.size_setCell, World.size_drew, sz_drewN]; omega))))⟩
                  case measure => simp [intOf]; omega
              · have hP' : lastQ l k q = false := by simpa using hP
                rw [hP'] at hS ⊢
                have HS : Hid (false = lastQ l k (q + 1)) := Lib.hid (by rw [hS]; rfl)
                clear hS hP hP'
                go_wp2_with fail
                go_quiet (fail)
                go_wp2
                go_round
                case rel => exact ⟨q + 1, by omega, by omega, by go_num, congrArg Value.bool HS.out, (by (repeat' (first | (with_reducible exact Below.refl _ _) | (with_reducible refine bdrewN ?_ _) | (with_reducible refine Below.drew ?_) | (with_reducible refine Below.setCell ?_ ?_ _) | (with_reducible refine Below.alloc ?_ ?_ _) | (with_reducible refine Below.trans ?_ (Below.mono hb7 ?_)) | (with_reducible exact Nat.le_refl _) | (with_reducible assumption) | omega | (simp only [World.size_alloc, World.size_setCell, World.size_drew, sz_drewN]; omega))))⟩
                case measure => simp [intOf]; omega
            · have hqe : q = l.length := by have := HN.out; omega
              obtain ⟨g, o, rfl, hg, h1, h2⟩ := (HR3.out.later hb7).at hl
              have hval := value_any A1 m1 c1 s1 l[k].1 wr HM1 (Lib.hid (HS1.out.later hb7)) hcap1 (by omega)
              by_cases hP : lastQ l k q = true
              · have hlast := lastQ_last hl (by rw [← hqe]; exact hP)
                rw [value_sorted HSort.out hlast] at hval
                unfold retV at hval
                simp only [] at hval
                rw [hP]
                have e1 : (l[k].2.toList == l[k].2.toList) = true := sE_refl _
                have HVal := Lib.hid hval
                clear hval hlast hP hqe
                go_wp2_with fail
                refine HVal.out.mono ?_
                rintro e wv ⟨rfl, hbv⟩
                have h2v : wv.cell? ⟨g, o + k * 2 + 1, none⟩ = some (.string l[k].2) := (hbv.cell (p := ⟨g, o + k * 2 + 1, none⟩) hg).trans h2
                have h1v : wv.cell? ⟨g, o + k * 2, none⟩ = some (.string l[k].1) := (hbv.cell (p := ⟨g, o + k * 2, none⟩) hg).trans h1
                go_wp2
                go_round
                case rel => exact ⟨k + 1, by omega, by go_num, hb7.trans (hbv.mono hsz7)⟩
                case measure => simp [intOf]; omega
              · have hP' : lastQ l k q = false := by simpa using hP
                obtain ⟨y, hy, hky⟩ := has_last l.length l rfl l[k] (List.getElem_mem hl)
                rw [← hky, value_sorted HSort.out hy, hky] at hval
                unfold retV at hval
                simp only [] at hval
                rw [hP']
                have HVal := Lib.hid hval
                clear hval hP hP' hqe hky hy
                go_wp2_with fail
                refine HVal.out.mono ?_
                rintro e wv ⟨rfl, hbv⟩
                go_wp2
                go_round
                case rel => exact ⟨k + 1, by omega, by go_num, hb7.trans (hbv.mono hsz7)⟩
                case measure => simp [intOf]; omega
        · go_wp2_with fail
          refine (HLab.out _ (HS1.out.later hb6)).mono ?_
          rintro e wz ⟨rfl, hbz⟩
          go_wp2
          go_ret
          exact ⟨by simp, hc3.trans ((hb6.trans (hbz.mono hsz6)).mono hwz)⟩
end Go.Proofs.Ytnidpipbdgolfaa.identSorted
