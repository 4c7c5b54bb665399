/- The contracts of ident.Labels and of the document's own Labels: are these labels valid. Condition: the slice is one that Go can have, its texts too. -/
import Derived.Test.YtjgojgmgicpgaaaGreatTQ07
import Derived.Laws.Cover1
namespace Go.Proofs.YtjgojgmgicpgaaaGreat
open Go.RowKit
set_option linter.unusedSimpArgs false
set_option linter.unusedVariables false

/-- Is the label at this place one that may stand there? -/
def labAt (l : List Lb) (i : Nat) : Bool := nameB (l.getD i default).1 && nameB (l.getD i default).2 && (decide (i = 0) || sL (l.getD (i - 1) default).1 (l.getD i default).1)
/-- Are these labels valid? -/
def labelsB (l : List Lb) : Bool := decide (l.length ≤ 4) && (List.range l.length).all (labAt l)
theorem labAt_lt {l : List Lb} {i : Nat} (h : i < l.length) : labAt l i = (nameB l[i].1 && nameB l[i].2 && (decide (i = 0) || sL (l.getD (i - 1) default).1 l[i].1)) := by
  unfold labAt
  rw [show l.getD i default = l[i] by simp [List.getD, List.getElem?_eq_getElem h]]
theorem labAt_zero {l : List Lb} (h : 0 < l.length) : labAt l 0 = (nameB l[0].1 && nameB l[0].2) := by rw [labAt_lt h]; simp
theorem labAt_succ {l : List Lb} {i : Nat} (h : i + 1 < l.length) : labAt l (i + 1) = (nameB l[i + 1].1 && nameB l[i + 1].2 && sL l[i].1 l[i + 1].1) := by
  rw [labAt_lt h, Nat.add_sub_cancel, show l.getD i default = l[i] by simp [List.getD, List.getElem?_eq_getElem (show i < l.length by omega)]]; simp
theorem range_all {p : Nat → Bool} {k : Nat} : (List.range (k + 1)).all p = ((List.range k).all p && p k) := by
  rw [List.range_succ, List.all_append]; simp
theorem labelsB_bad {l : List Lb} {k : Nat} (h : k < l.length) (hp : labAt l k = false) : labelsB l = false := by
  unfold labelsB
  rw [Bool.and_eq_false_iff]; right
  rw [List.all_eq_false]
  exact ⟨k, List.mem_range.2 h, by simp [hp]⟩
theorem labelsB_long {l : List Lb} (h : 4 < l.length) : labelsB l = false := by
  unfold labelsB; rw [show decide (l.length ≤ 4) = false from decide_eq_false (by omega)]; rfl
theorem labelsB_good {l : List Lb} (h : l.length ≤ 4) (h2 : (List.range l.length).all (labAt l) = true) : labelsB l = true := by
  unfold labelsB; rw [h2, decide_eq_true h]; rfl

theorem name_later (s : ByteArray) (w : World) (hs : s.size ≤ 9223372036854775807) : Calls Tryz.prog 141 #[.string s] w fun e w' => e = .returned (.bool (nameB s)) ∧ Below w.heap.size w w' :=
  (name_any s w hs).mono fun _ _ ⟨he, hw⟩ => ⟨he, by rw [← hw]; exact Below.refl _ _⟩
theorem rname_later (s : ByteArray) (w : World) (hs : s.size ≤ 9223372036854775807) : Calls Tryz.prog 205 #[.string s] w fun e w' => e = .returned (.bool (nameB s)) ∧ Below w.heap.size w w' :=
  (rname_any s w hs).mono fun _ _ ⟨he, hw⟩ => ⟨he, by rw [← hw]; exact Below.refl _ _⟩

set_option maxRecDepth 100000 in
set_option maxHeartbeats 3200000 in
theorem labels_any (A : Option Addr) (n c : Nat) (l : List Lb) (w : World) (hn : Hid (n = l.length)) (hr : Hid (RdL w A l)) (hz : Hid (Sz l)) (hc : n ≤ c) (hc2 : c ≤ 9223372036854775807) :
    Calls Tryz.prog 215 #[.slice A n c] w fun e w' => e = .returned (.bool (labelsB l)) ∧ Below w.heap.size w w' := by
  by_cases h4 : 4 < n
  · have hr : labelsB l = false := labelsB_long (by have := hn.out; omega)
    rw [hr]
    go_enter Tryz.func215, Tryz.ntmps215
    go_wp2
    go_ret
    exact ⟨rfl, Below.refl _ _⟩
  have h4' : n ≤ 4 := by omega
  go_enter Tryz.func215, Tryz.ntmps215
  go_wp2
  go_loopw [3, 4, 10] (fun _ _ i wr => ∃ k : Nat, k ≤ n ∧ i = .int .i64 k ∧ Hid ((List.range k).all (labAt l) = true) ∧ Below w.heap.size w wr) (fun _ _ i wr => n - (intOf i).toNat)
  case atStart => exact ⟨0, Nat.zero_le _, rfl, rfl, Below.refl _ _⟩
  case round =>
    obtain ⟨k, hk, rfl, HA, hb⟩ := hrel
    have hsz := hb.size
    by_cases hlt : k < n
    · have hl : k < l.length := by have := hn.out; omega
      obtain ⟨g, o, rfl, hg, h1, h2⟩ := (hr.out.later hb).at hl
      obtain ⟨z1, z2⟩ := hz.out.at hl
      have hL := labAt_lt hl
      have hcon1 := fun w => name_any l[k].1 w (by omega)
      have hcon2 := fun w => name_any l[k].2 w (by omega)
      by_cases hN1 : nameB l[k].1 = true
      · rw [hN1] at hcon1
        have HC1 : Hid _ := hcon1
        clear hcon1
        by_cases hN2 : nameB l[k].2 = true
        · rw [hN2] at hcon2
          have HC2 : Hid _ := hcon2
          clear hcon2
          by_cases hpos : 0 < k
          case neg =>
            have HS : Hid ((List.range (k + 1)).all (labAt l) = true) := by show _ = _; rw [range_all, HA.out, hL, hN1, hN2, decide_eq_true (show k = 0 by omega)]; rfl
            have hp0 : decide ((0 : Int) < (k : Int)) = false := decide_eq_false (by omega)
            clear hL hN1 hN2 HA
            go_wp2_with fail
            refine (HC1.out _).mono ?_; rintro e w1 ⟨rfl, rfl⟩
            go_wp2_with fail
            refine (HC2.out _).mono ?_; rintro e w1 ⟨rfl, rfl⟩
            go_wp2_with fail
            go_quiet (fail)
            go_wp2
            go_round
            case rel => exact ⟨k + 1, by omega, by go_num, HS, (by (repeat' (first | (with_reducible exact Below.refl _ _) | (with_reducible refine bdrewN ?_ _) | (with_reducible refine Below.drew ?_) | (with_reducible refine Below.setCell ?_ ?_ _) | (with_reducible refine Below.alloc ?_ ?_ _) | (with_reducible refine Below.trans ?_ (Below.mono hb ?_)) | (with_reducible exact Nat.le_refl _) | (with_reducible assumption) | omega | (simp only [World.size_alloc, World.size_setCell, World.size_drew, sz_drewN]; omega))))⟩
            case measure => simp [intOf]; omega
          case pos =>
            obtain ⟨j, rfl⟩ : ∃ j, k = j + 1 := ⟨k - 1, by omega⟩
            have hL2 := labAt_succ hl
            obtain ⟨g', o', ha, hg', h1', h2'⟩ := (hr.out.later hb).at (show j < l.length by omega)
            injection ha with ha; injection ha with ha1 ha2; subst ha1 ha2
            have hwp : IntKind.i64.wrap (j : Int) = (j : Int) := by rw [IntKind.wrap_i64]; omega
            have jn : (j : Int) < (n : Int) := by omega
            have jt : ((j : Int)).toNat = j := by omega
            by_cases hS : sL l[j].1 l[j + 1].1 = true
            · have HS : Hid ((List.range (j + 1 + 1)).all (labAt l) = true) := by show _ = _; rw [range_all, HA.out, hL2, hN1, hN2, hS]; rfl
              have e1 : Op.bytesLess l[j].1.toList l[j + 1].1.toList = true := hS
              clear hL hN1 hN2 HA hL2 hS
              go_wp2_with fail
              refine (HC1.out _).mono ?_; rintro e w1 ⟨rfl, rfl⟩
              go_wp2_with fail
              refine (HC2.out _).mono ?_; rintro e w1 ⟨rfl, rfl⟩
              go_wp2_with fail
              go_quiet (fail)
              go_wp2
              go_round
              case rel => exact ⟨j + 1 + 1, by omega, by go_num, HS, (by (repeat' (first | (with_reducible exact Below.refl _ _) | (with_reducible refine bdrewN ?_ _) | (with_reducible refine Below.drew ?_) | (with_reducible refine Below.setCell ?_ ?_ _) | (with_reducible refine Below.alloc ?_ ?_ _) | (with_reducible refine Below.trans ?_ (Below.mono hb ?_)) | (with_reducible exact Nat.le_refl _) | (with_reducible assumption) | omega | (simp only [World.size_alloc, World.size_setCell, World.size_drew, sz_drewN]; omega))))⟩
              case measure => simp [intOf]; omega
            · have hS' : sL l[j].1 l[j + 1].1 = false := by simpa using hS
              have HV : Hid (labelsB l = false) := labelsB_bad hl (by rw [hL2, hS']; simp)
              have e1 : Op.bytesLess l[j].1.toList l[j + 1].1.toList = false := hS'
              clear hL hN1 hN2 HA hL2 hS hS'
              go_wp2_with fail
              refine (HC1.out _).mono ?_; rintro e w1 ⟨rfl, rfl⟩
              go_wp2_with fail
              refine (HC2.out _).mono ?_; rintro e w1 ⟨rfl, rfl⟩
              go_wp2_with fail
              go_quiet (fail)
              go_wp2
              go_ret
              exact ⟨ret_bool' HV.out.symm, (by (repeat' (first | (with_reducible exact Below.refl _ _) | (with_reducible refine bdrewN ?_ _) | (with_reducible refine Below.drew ?_) | (with_reducible refine Below.setCell ?_ ?_ _) | (with_reducible refine Below.alloc ?_ ?_ _) | (with_reducible refine Below.trans ?_ (Below.mono hb ?_)) | (with_reducible exact Nat.le_refl _) | (with_reducible assumption) | omega | (simp only [World.size_alloc, World.size_setCell, World.size_drew, sz_drewN]; omega))))⟩
        · have hN2' : nameB l[k].2 = false := by simpa using hN2
          have HV : Hid (labelsB l = false) := labelsB_bad hl (by rw [hL, hN2']; simp)
          rw [hN2'] at hcon2
          have HC2 : Hid _ := hcon2
          clear hL hN1 hN2 hN2' HA hcon2
          go_wp2_with fail
          refine (HC1.out _).mono ?_; rintro e w1 ⟨rfl, rfl⟩
          go_wp2_with fail
          refine (HC2.out _).mono ?_; rintro e w1 ⟨rfl, rfl⟩
          go_wp2
          go_ret
          exact ⟨ret_bool' HV.out.symm, (by (repeat' (first | (with_reducible exact Below.refl _ _) | (with_reducible refine bdrewN ?_ _) | (with_reducible refine Below.drew ?_) | (with_reducible refine Below.setCell ?_ ?_ _) | (with_reducible refine Below.alloc ?_ ?_ _) | (with_reducible refine Below.trans ?_ (Below.mono hb ?_)) | (with_reducible exact Nat.le_refl _) | (with_reducible assumption) | omega | (simp only [World.size_alloc, World.size_setCell, World.size_drew, sz_drewN]; omega))))⟩
      · have hN1' : nameB l[k].1 = false := by simpa using hN1
        have HV : Hid (labelsB l = false) := labelsB_bad hl (by rw [hL, hN1']; simp)
        rw [hN1'] at hcon1
        have HC1 : Hid _ := hcon1
        clear hL hN1 hN1' HA hcon1 hcon2
        go_wp2_with fail
        refine (HC1.out _).mono ?_; rintro e w1 ⟨rfl, rfl⟩
        go_wp2
        go_ret
        exact ⟨ret_bool' HV.out.symm, (by (repeat' (first | (with_reducible exact Below.refl _ _) | (with_reducible refine bdrewN ?_ _) | (with_reducible refine Below.drew ?_) | (with_reducible refine Below.setCell ?_ ?_ _) | (with_reducible refine Below.alloc ?_ ?_ _) | (with_reducible refine Below.trans ?_ (Below.mono hb ?_)) | (with_reducible exact Nat.le_refl _) | (with_reducible assumption) | omega | (simp only [World.size_alloc, World.size_setCell, World.size_drew, sz_drewN]; omega))))⟩
    · have HV : Hid (labelsB l = true) := labelsB_good (by have := hn.out; omega) (by have := HA.out; rwa [show k = l.length by have := hn.out; omega] at this)
      go_wp2
      go_ret
      exact ⟨ret_bool' HV.out.symm, (by (repeat' (first | (with_reducible exact Below.refl _ _) | (with_reducible refine bdrewN ?_ _) | (with_reducible refine Below.drew ?_) | (with_reducible refine Below.setCell ?_ ?_ _) | (with_reducible refine Below.alloc ?_ ?_ _) | (with_reducible refine Below.trans ?_ (Below.mono hb ?_)) | (with_reducible exact Nat.le_refl _) | (with_reducible assumption) | omega | (simp only [World.size_alloc, World.size_setCell, World.size_drew, sz_drewN]; omega))))⟩

set_option maxRecDepth 100000 in
set_option maxHeartbeats 6400000 in
theorem rlabels_any (A : Option Addr) (n c : Nat) (l : List Lb) (w : World) (hn : Hid (n = l.length)) (hr : Hid (RdL w A l)) (hz : Hid (Sz l)) (hc : n ≤ c) (hc2 : c ≤ 9223372036854775807) :
    Calls Tryz.prog 207 #[.slice A n c] w fun e w' => e = .returned (.bool (labelsB l)) ∧ Below w.heap.size w w' := by
  by_cases h4 : 4 < n
  · have hr : labelsB l = false := labelsB_long (by have := hn.out; omega)
    rw [hr]
    go_enter Tryz.func207, Tryz.ntmps207
    go_wp2
    go_ret
    exact ⟨rfl, Below.refl _ _⟩
  have h4' : n ≤ 4 := by omega
  go_enter Tryz.func207, Tryz.ntmps207
  go_wp2
  go_loopw [3, 9] (fun _ i wr => ∃ k : Nat, k ≤ n ∧ i = .int .i64 k ∧ Hid ((List.range k).all (labAt l) = true) ∧ Below w.heap.size w wr) (fun _ i wr => n - (intOf i).toNat)
  case atStart => exact ⟨0, Nat.zero_le _, rfl, rfl, Below.refl _ _⟩
  case round =>
    obtain ⟨k, hk, rfl, HA, hb⟩ := hrel
    have hsz := hb.size
    by_cases hlt : k < n
    · have hl : k < l.length := by have := hn.out; omega
      obtain ⟨g, o, rfl, hg, h1, h2⟩ := (hr.out.later hb).at hl
      obtain ⟨z1, z2⟩ := hz.out.at hl
      have hL := labAt_lt hl
      have hcon1 := fun w => rname_later l[k].1 w (by omega)
      have hcon2 := fun w => rname_later l[k].2 w (by omega)
      by_cases hN1 : nameB l[k].1 = true
      · rw [hN1] at hcon1
        have HC1 : Hid _ := hcon1
        clear hcon1
        by_cases hN2 : nameB l[k].2 = true
        · rw [hN2] at hcon2
          have HC2 : Hid _ := hcon2
          clear hcon2
          by_cases hpos : 0 < k
          case neg =>
            have HS : Hid ((List.range (k + 1)).all (labAt l) = true) := by show _ = _; rw [range_all, HA.out, hL, hN1, hN2, decide_eq_true (show k = 0 by omega)]; rfl
            have hp0 : decide ((0 : Int) < (k : Int)) = false := decide_eq_false (by omega)
            clear hL hN1 hN2 HA
            go_wp2_with fail
            refine wp_region_later (by kernel_rfl) (by kernel_rfl) ?_; have hL : ∀ (w : World) (x : Later w) (b o : Nat), b < w.heap.size → x.to.cell? ⟨b, o, none⟩ = w.cell? ⟨b, o, none⟩ := fun w x b o hb => x.cell hb; have hN := Later.some; (repeat (go_big_quiet_step (((go_at_call 205; first | (with_reducible exact Later.call (HC1.out _)) | (with_reducible exact Later.call (HC2.out _))))))); refine wpQuiet_nil ?_; intro w1 hw1; have hb1 := Later.out hw1; clear hw1 hL hN
            go_wp2
            go_round
            case rel => exact ⟨k + 1, by omega, by go_num, HS, (by (repeat' (first | (with_reducible exact Below.refl _ _) | (with_reducible refine bdrewN ?_ _) | (with_reducible refine Below.drew ?_) | (with_reducible refine Below.setCell ?_ ?_ _) | (with_reducible refine Below.alloc ?_ ?_ _) | (with_reducible refine Below.trans ?_ (Below.mono hb1 ?_)) | (with_reducible refine Below.trans ?_ (Below.mono hb ?_)) | (with_reducible exact Nat.le_refl _) | (with_reducible assumption) | omega | (simp only [World.size_alloc, World.size_setCell, World.size_drew, sz_drewN]; omega))))⟩
            case measure => simp [intOf]; omega
          case pos =>
            obtain ⟨j, rfl⟩ : ∃ j, k = j + 1 := ⟨k - 1, by omega⟩
            have hL2 := labAt_succ hl
            obtain ⟨g', o', ha, hg', h1', h2'⟩ := (hr.out.later hb).at (show j < l.length by omega)
            injection ha with ha; injection ha with ha1 ha2; subst ha1 ha2
            have hwp : IntKind.i64.wrap (j : Int) = (j : Int) := by rw [IntKind.wrap_i64]; omega
            have jn : (j : Int) < (n : Int) := by omega
            have jt : ((j : Int)).toNat = j := by omega
            by_cases hS : sL l[j].1 l[j + 1].1 = true
            · have HS : Hid ((List.range (j + 1 + 1)).all (labAt l) = true) := by show _ = _; rw [range_all, HA.out, hL2, hN1, hN2, hS]; rfl
              have e1 : Op.bytesLess l[j].1.toList l[j + 1].1.toList = true := hS
              clear hL hN1 hN2 HA hL2 hS
              go_wp2_with fail
              refine wp_region_later (by kernel_rfl) (by kernel_rfl) ?_; have hL : ∀ (w : World) (x : Later w) (b o : Nat), b < w.heap.size → x.to.cell? ⟨b, o, none⟩ = w.cell? ⟨b, o, none⟩ := fun w x b o hb => x.cell hb; have hN := Later.some; (repeat (go_big_quiet_step (((go_at_call 205; first | (with_reducible exact Later.call (HC1.out _)) | (with_reducible exact Later.call (HC2.out _))))))); refine wpQuiet_nil ?_; intro w1 hw1; have hb1 := Later.out hw1; clear hw1 hL hN
              go_wp2
              go_round
              case rel => exact ⟨j + 1 + 1, by omega, by go_num, HS, (by (repeat' (first | (with_reducible exact Below.refl _ _) | (with_reducible refine bdrewN ?_ _) | (with_reducible refine Below.drew ?_) | (with_reducible refine Below.setCell ?_ ?_ _) | (with_reducible refine Below.alloc ?_ ?_ _) | (with_reducible refine Below.trans ?_ (Below.mono hb1 ?_)) | (with_reducible refine Below.trans ?_ (Below.mono hb ?_)) | (with_reducible exact Nat.le_refl _) | (with_reducible assumption) | omega | (simp only [World.size_alloc, World.size_setCell, World.size_drew, sz_drewN]; omega))))⟩
              case measure => simp [intOf]; omega
            · have hS' : sL l[j].1 l[j + 1].1 = false := by simpa using hS
              have HV : Hid (labelsB l = false) := labelsB_bad hl (by rw [hL2, hS']; simp)
              have e1 : Op.bytesLess l[j].1.toList l[j + 1].1.toList = false := hS'
              clear hL hN1 hN2 HA hL2 hS hS'
              go_wp2_with fail
              refine wp_region_later (by kernel_rfl) (by kernel_rfl) ?_; have hL : ∀ (w : World) (x : Later w) (b o : Nat), b < w.heap.size → x.to.cell? ⟨b, o, none⟩ = w.cell? ⟨b, o, none⟩ := fun w x b o hb => x.cell hb; have hN := Later.some; (repeat (go_big_quiet_step (((go_at_call 205; first | (with_reducible exact Later.call (HC1.out _)) | (with_reducible exact Later.call (HC2.out _))))))); refine wpQuiet_nil ?_; intro w1 hw1; have hb1 := Later.out hw1; clear hw1 hL hN
              go_wp2
              go_ret
              exact ⟨ret_bool' HV.out.symm, (by (repeat' (first | (with_reducible exact Below.refl _ _) | (with_reducible refine bdrewN ?_ _) | (with_reducible refine Below.drew ?_) | (with_reducible refine Below.setCell ?_ ?_ _) | (with_reducible refine Below.alloc ?_ ?_ _) | (with_reducible refine Below.trans ?_ (Below.mono hb1 ?_)) | (with_reducible refine Below.trans ?_ (Below.mono hb ?_)) | (with_reducible exact Nat.le_refl _) | (with_reducible assumption) | omega | (simp only [World.size_alloc, World.size_setCell, World.size_drew, sz_drewN]; omega))))⟩
        · have hN2' : nameB l[k].2 = false := by simpa using hN2
          have HV : Hid (labelsB l = false) := labelsB_bad hl (by rw [hL, hN2']; simp)
          rw [hN2'] at hcon2
          have HC2 : Hid _ := hcon2
          clear hL hN1 hN2 hN2' HA hcon2
          go_wp2_with fail
          refine wp_region_later (by kernel_rfl) (by kernel_rfl) ?_; have hL : ∀ (w : World) (x : Later w) (b o : Nat), b < w.heap.size → x.to.cell? ⟨b, o, none⟩ = w.cell? ⟨b, o, none⟩ := fun w x b o hb => x.cell hb; have hN := Later.some; (repeat (go_big_quiet_step (((go_at_call 205; first | (with_reducible exact Later.call (HC1.out _)) | (with_reducible exact Later.call (HC2.out _))))))); refine wpQuiet_nil ?_; intro w1 hw1; have hb1 := Later.out hw1; clear hw1 hL hN
          go_wp2
          go_ret
          exact ⟨ret_bool' HV.out.symm, (by (repeat' (first | (with_reducible exact Below.refl _ _) | (with_reducible refine bdrewN ?_ _) | (with_reducible refine Below.drew ?_) | (with_reducible refine Below.setCell ?_ ?_ _) | (with_reducible refine Below.alloc ?_ ?_ _) | (with_reducible refine Below.trans ?_ (Below.mono hb1 ?_)) | (with_reducible refine Below.trans ?_ (Below.mono hb ?_)) | (with_reducible exact Nat.le_refl _) | (with_reducible assumption) | omega | (simp only [World.size_alloc, World.size_setCell, World.size_drew, sz_drewN]; omega))))⟩
      · have hN1' : nameB l[k].1 = false := by simpa using hN1
        have HV : Hid (labelsB l = false) := labelsB_bad hl (by rw [hL, hN1']; simp)
        rw [hN1'] at hcon1
        have HC1 : Hid _ := hcon1
        clear hL hN1 hN1' HA hcon1 hcon2
        go_wp2_with fail
        refine wp_region_later (by kernel_rfl) (by kernel_rfl) ?_; have hL : ∀ (w : World) (x : Later w) (b o : Nat), b < w.heap.size → x.to.cell? ⟨b, o, none⟩ = w.cell? ⟨b, o, none⟩ := fun w x b o hb => x.cell hb; have hN := Later.some; (repeat (go_big_quiet_step (((go_at_call 205; (with_reducible exact Later.call (HC1.out _))))))); refine wpQuiet_nil ?_; intro w1 hw1; have hb1 := Later.out hw1; clear hw1 hL hN
        go_wp2
        go_ret
        exact ⟨ret_bool' HV.out.symm, (by (repeat' (first | (with_reducible exact Below.refl _ _) | (with_reducible refine bdrewN ?_ _) | (with_reducible refine Below.drew ?_) | (with_reducible refine Below.setCell ?_ ?_ _) | (with_reducible refine Below.alloc ?_ ?_ _) | (with_reducible refine Below.trans ?_ (Below.mono hb1 ?_)) | (with_reducible refine Below.trans ?_ (Below.mono hb ?_)) | (with_reducible exact Nat.le_refl _) | (with_reducible assumption) | omega | (simp only [World.size_alloc, World.size_setCell, World.size_drew, sz_drewN]; omega))))⟩
    · have HV : Hid (labelsB l = true) := labelsB_good (by have := hn.out; omega) (by have := HA.out; rwa [show k = l.length by have := hn.out; omega] at this)
      go_wp2
      go_ret
      exact ⟨ret_bool' HV.out.symm, (by (repeat' (first | (with_reducible exact Below.refl _ _) | (with_reducible refine bdrewN ?_ _) | (with_reducible refine Below.drew ?_) | (with_reducible refine Below.setCell ?_ ?_ _) | (with_reducible refine Below.alloc ?_ ?_ _) | (with_reducible refine Below.trans ?_ (Below.mono hb ?_)) | (with_reducible exact Nat.le_refl _) | (with_reducible assumption) | omega | (simp only [World.size_alloc, World.size_setCell, World.size_drew, sz_drewN]; omega))))⟩
end Go.Proofs.YtjgojgmgicpgaaaGreat
