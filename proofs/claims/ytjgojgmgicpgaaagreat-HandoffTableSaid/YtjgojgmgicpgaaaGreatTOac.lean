/- Lists of acts, answers: the contracts of slices.Equal at acts, of the document's own Acts, of oper.Same and of the document's own Same: are they alike. Condition: slices are ones that Go can have. -/
import Derived.Test.YtjgojgmgicpgaaaGreatTQ01
import Derived.Test.YtjgojgmgicpgaaaGreatTQ03
import Derived.Test.YtjgojgmgicpgaaaGreatTQ00
namespace Go.Proofs.YtjgojgmgicpgaaaGreat
open Go.RowKit
set_option linter.unusedSimpArgs false
set_option linter.unusedVariables false

/-- An act: its kind, the task, the node. -/
abbrev Ac := Int × ByteArray × ByteArray
/-- A slice at this address reads as these acts. -/
def RdA (w : World) (A : Option Addr) (l : List Ac) : Prop :=
  ∀ i x, l[i]? = some x → ∃ g o, A = some ⟨g, o, none⟩ ∧ w.cell? ⟨g, o + i * 3, none⟩ = some (.int .i64 x.1) ∧ w.cell? ⟨g, o + i * 3 + 1, none⟩ = some (.string x.2.1) ∧ w.cell? ⟨g, o + i * 3 + 2, none⟩ = some (.string x.2.2)
section
variable {w w' : World} {A : Option Addr} {l : List Ac}
theorem RdA.later (h : RdA w A l) (hb : Below w.heap.size w w') : RdA w' A l := fun i b hb' => by
  obtain ⟨g, o, ha, h1, h2, h3⟩ := h i b hb'
  exact ⟨g, o, ha, (hb.cell (World.block_lt_of_cell? w _ h1)).trans h1, (hb.cell (World.block_lt_of_cell? w _ h2)).trans h2, (hb.cell (World.block_lt_of_cell? w _ h3)).trans h3⟩
theorem RdA.at (h : RdA w A l) {i : Nat} (hi : i < l.length) : ∃ g o, A = some ⟨g, o, none⟩ ∧ g < w.heap.size ∧ w.cell? ⟨g, o + i * 3, none⟩ = some (.int .i64 l[i].1) ∧ w.cell? ⟨g, o + i * 3 + 1, none⟩ = some (.string l[i].2.1) ∧ w.cell? ⟨g, o + i * 3 + 2, none⟩ = some (.string l[i].2.2) := by
  obtain ⟨g, o, ha, h1, h2, h3⟩ := h i l[i] (List.getElem?_eq_getElem hi)
  exact ⟨g, o, ha, World.block_lt_of_cell? w _ h1, h1, h2, h3⟩
end
@[go_sem] theorem run_guardA (op : BinOp) (x y : Operand) (xs ys : Array Value) (w : World) : (eqGuard op 233 x y (.agg xs) (.agg ys)).run Tryz.prog w = .ok () w := run_eqGuard_agg w op 233 x y xs ys (by kernel_rfl)
theorem aE_no {x y : Ac} (h : ¬ x = y) : (¬ x.1 = y.1) ∨ (x.1 = y.1 ∧ x.2.1.toList ≠ y.2.1.toList) ∨ (x.1 = y.1 ∧ x.2.1.toList = y.2.1.toList ∧ x.2.2.toList ≠ y.2.2.toList) := by
  have key : ∀ a b : ByteArray, a.toList = b.toList → a = b := fun a b h => sE_iff.1 (by unfold sE; rw [h]; simp)
  by_cases h1 : x.1 = y.1
  · by_cases h2 : x.2.1.toList = y.2.1.toList
    · by_cases h3 : x.2.2.toList = y.2.2.toList
      · exact absurd (Prod.ext h1 (Prod.ext (key _ _ h2) (key _ _ h3))) h
      · exact .inr (.inr ⟨h1, h2, h3⟩)
    · exact .inr (.inl ⟨h1, h2⟩)
  · exact .inl h1
/-- Are lists of acts alike? -/
def sameA (l m : List Ac) : Bool := decide (l = m)
theorem sameA_comm (l m : List Ac) : sameA l m = sameA m l := decide_eq_decide.2 eq_comm
theorem sameA_refl (l : List Ac) : sameA l l = true := decide_eq_true rfl
theorem sameA_len {l m : List Ac} (h : l.length ≠ m.length) : sameA l m = false := decide_eq_false fun hc => h (by rw [hc])
theorem sameA_at {l m : List Ac} {k : Nat} (h1 : k < l.length) (h2 : k < m.length) (h : ¬ l[k] = m[k]) : sameA l m = false := decide_eq_false fun hc => by subst hc; exact h rfl

set_option maxHeartbeats 3200000 in
set_option maxRecDepth 100000 in
theorem equalA_any (A B : Option Addr) (n c m d : Nat) (l r : List Ac) (w : World) (hn : Hid (n = l.length)) (hm : Hid (m = r.length)) (hr : Hid (RdA w A l)) (hq : Hid (RdA w B r)) (hc : n ≤ c) (hc2 : c ≤ 9223372036854775807) (hd : m ≤ d) (hd2 : d ≤ 9223372036854775807) :
    Calls Tryz.prog 184 #[.slice A n c, .slice B m d] w fun e w' => e = .returned (.bool (sameA l r)) ∧ Below w.heap.size w w' := by
  by_cases hnm : n = m
  · obtain rfl : n = m := hnm
    go_enter Tryz.func184, Tryz.ntmps184
    go_wp2
    go_loopw [5, 13] (fun _ i wr => ∃ k : Nat, k ≤ n ∧ i = .int .i64 k ∧ Hid (l.take k = r.take k) ∧ Below w.heap.size w wr) (fun _ i wr => n - (intOf i).toNat)
    case atStart => exact ⟨0, Nat.zero_le _, rfl, (show l.take 0 = r.take 0 by simp), Below.refl _ _⟩
    case round =>
      obtain ⟨k, hk, rfl, HA, hb⟩ := hrel
      by_cases hlt : k < n
      · have hl : k < l.length := by have := hn.out; omega
        have hl2 : k < r.length := by have := hm.out; omega
        obtain ⟨g, o, rfl, hg, h1, h2, h3⟩ := (hr.out.later hb).at hl
        obtain ⟨g', o', rfl, hg', h1', h2', h3'⟩ := (hq.out.later hb).at hl2
        by_cases hE : l[k] = r[k]
        · have HS : Hid (l.take (k + 1) = r.take (k + 1)) := by
            show _ = _
            rw [List.take_succ_eq_append_getElem hl, List.take_succ_eq_append_getElem hl2, HA.out, hE]
          rw [← hE] at h1' h2' h3'
          clear hE
          go_wp2_with fail
          go_quiet (fail)
          go_wp2
          go_round
          case rel => exact ⟨k + 1, by omega, by go_num, HS, (by (repeat' (first | (with_reducible exact Below.refl _ _) | (with_reducible refine bdrewN ?_ _) | (with_reducible refine Below.drew ?_) | (with_reducible refine Below.setCell ?_ ?_ _) | (with_reducible refine Below.alloc ?_ ?_ _) | (with_reducible refine Below.trans ?_ (Below.mono hb ?_)) | (with_reducible exact Nat.le_refl _) | (with_reducible assumption) | omega | (simp only [World.size_alloc, World.size_setCell, World.size_drew, sz_drewN]; omega))))⟩
          case measure => simp [intOf]; omega
        · have HK : Hid (sameA l r = false) := sameA_at hl hl2 hE
          have hE' := aE_no hE
          clear hE
          rcases hE' with e1 | ⟨e1, e2⟩ | ⟨e1, e2, e3⟩
          · go_wp2_with fail
            go_quiet (fail)
            go_wp2
            go_ret
            exact ⟨ret_bool' HK.out.symm, (by (repeat' (first | (with_reducible exact Below.refl _ _) | (with_reducible refine bdrewN ?_ _) | (with_reducible refine Below.drew ?_) | (with_reducible refine Below.setCell ?_ ?_ _) | (with_reducible refine Below.alloc ?_ ?_ _) | (with_reducible refine Below.trans ?_ (Below.mono hb ?_)) | (with_reducible exact Nat.le_refl _) | (with_reducible assumption) | omega | (simp only [World.size_alloc, World.size_setCell, World.size_drew, sz_drewN]; omega))))⟩
          · rw [← e1] at h1'
            clear e1
            go_wp2_with fail
            go_quiet (fail)
            go_wp2
            go_ret
            exact ⟨ret_bool' HK.out.symm, (by (repeat' (first | (with_reducible exact Below.refl _ _) | (with_reducible refine bdrewN ?_ _) | (with_reducible refine Below.drew ?_) | (with_reducible refine Below.setCell ?_ ?_ _) | (with_reducible refine Below.alloc ?_ ?_ _) | (with_reducible refine Below.trans ?_ (Below.mono hb ?_)) | (with_reducible exact Nat.le_refl _) | (with_reducible assumption) | omega | (simp only [World.size_alloc, World.size_setCell, World.size_drew, sz_drewN]; omega))))⟩
          · rw [← e1] at h1'
            clear e1
            go_wp2_with fail
            go_quiet (fail)
            go_wp2
            go_ret
            exact ⟨ret_bool' HK.out.symm, (by (repeat' (first | (with_reducible exact Below.refl _ _) | (with_reducible refine bdrewN ?_ _) | (with_reducible refine Below.drew ?_) | (with_reducible refine Below.setCell ?_ ?_ _) | (with_reducible refine Below.alloc ?_ ?_ _) | (with_reducible refine Below.trans ?_ (Below.mono hb ?_)) | (with_reducible exact Nat.le_refl _) | (with_reducible assumption) | omega | (simp only [World.size_alloc, World.size_setCell, World.size_drew, sz_drewN]; omega))))⟩
      · have HK : Hid (sameA l r = true) := decide_eq_true (by
          have := HA.out
          rwa [List.take_of_length_le (by have := hn.out; omega), List.take_of_length_le (by have := hm.out; omega)] at this)
        go_wp2
        go_ret
        exact ⟨ret_bool' HK.out.symm, (by (repeat' (first | (with_reducible exact Below.refl _ _) | (with_reducible refine bdrewN ?_ _) | (with_reducible refine Below.drew ?_) | (with_reducible refine Below.setCell ?_ ?_ _) | (with_reducible refine Below.alloc ?_ ?_ _) | (with_reducible refine Below.trans ?_ (Below.mono hb ?_)) | (with_reducible exact Nat.le_refl _) | (with_reducible assumption) | omega | (simp only [World.size_alloc, World.size_setCell, World.size_drew, sz_drewN]; omega))))⟩
  · have hr : sameA l r = false := sameA_len (by have := hn.out; have := hm.out; omega)
    rw [hr]
    go_enter Tryz.func184, Tryz.ntmps184
    go_wp2
    go_ret
    exact ⟨rfl, Below.refl _ _⟩

set_option maxHeartbeats 3200000 in
set_option maxRecDepth 100000 in
theorem acts_any (A B : Option Addr) (n c m d : Nat) (l r : List Ac) (w : World) (hn : Hid (n = l.length)) (hm : Hid (m = r.length)) (hr : Hid (RdA w A l)) (hq : Hid (RdA w B r)) (hc : n ≤ c) (hc2 : c ≤ 9223372036854775807) (hd : m ≤ d) (hd2 : d ≤ 9223372036854775807) :
    Calls Tryz.prog 70 #[.slice A n c, .slice B m d] w fun e w' => e = .returned (.bool (sameA l r)) ∧ Below w.heap.size w w' := by
  by_cases hnm : n = m
  · obtain rfl : n = m := hnm
    go_enter Tryz.func70, Tryz.ntmps70
    go_wp2
    go_loopw [5, 13] (fun _ i wr => ∃ k : Nat, k ≤ n ∧ i = .int .i64 k ∧ Hid (l.take k = r.take k) ∧ Below w.heap.size w wr) (fun _ i wr => n - (intOf i).toNat)
    case atStart => exact ⟨0, Nat.zero_le _, rfl, (show l.take 0 = r.take 0 by simp), Below.refl _ _⟩
    case round =>
      obtain ⟨k, hk, rfl, HA, hb⟩ := hrel
      by_cases hlt : k < n
      · have hl : k < l.length := by have := hn.out; omega
        have hl2 : k < r.length := by have := hm.out; omega
        obtain ⟨g, o, rfl, hg, h1, h2, h3⟩ := (hr.out.later hb).at hl
        obtain ⟨g', o', rfl, hg', h1', h2', h3'⟩ := (hq.out.later hb).at hl2
        by_cases hE : l[k] = r[k]
        · have HS : Hid (l.take (k + 1) = r.take (k + 1)) := by
            show _ = _
            rw [List.take_succ_eq_append_getElem hl, List.take_succ_eq_append_getElem hl2, HA.out, hE]
          rw [← hE] at h1' h2' h3'
          clear hE
          go_wp2_with fail
          go_quiet (fail)
          go_wp2
          go_round
          case rel => exact ⟨k + 1, by omega, by go_num, HS, (by (repeat' (first | (with_reducible exact Below.refl _ _) | (with_reducible refine bdrewN ?_ _) | (with_reducible refine Below.drew ?_) | (with_reducible refine Below.setCell ?_ ?_ _) | (with_reducible refine Below.alloc ?_ ?_ _) | (with_reducible refine Below.trans ?_ (Below.mono hb ?_)) | (with_reducible exact Nat.le_refl _) | (with_reducible assumption) | omega | (simp only [World.size_alloc, World.size_setCell, World.size_drew, sz_drewN]; omega))))⟩
          case measure => simp [intOf]; omega
        · have HK : Hid (sameA l r = false) := sameA_at hl hl2 hE
          have hE' := aE_no hE
          clear hE
          rcases hE' with e1 | ⟨e1, e2⟩ | ⟨e1, e2, e3⟩
          · go_wp2_with fail
            go_quiet (fail)
            go_wp2
            go_ret
            exact ⟨ret_bool' HK.out.symm, (by (repeat' (first | (with_reducible exact Below.refl _ _) | (with_reducible refine bdrewN ?_ _) | (with_reducible refine Below.drew ?_) | (with_reducible refine Below.setCell ?_ ?_ _) | (with_reducible refine Below.alloc ?_ ?_ _) | (with_reducible refine Below.trans ?_ (Below.mono hb ?_)) | (with_reducible exact Nat.le_refl _) | (with_reducible assumption) | omega | (simp only [World.size_alloc, World.size_setCell, World.size_drew, sz_drewN]; omega))))⟩
          · rw [← e1] at h1'
            clear e1
            go_wp2_with fail
            go_quiet (fail)
            go_wp2
            go_ret
            exact ⟨ret_bool' HK.out.symm, (by (repeat' (first | (with_reducible exact Below.refl _ _) | (with_reducible refine bdrewN ?_ _) | (with_reducible refine Below.drew ?_) | (with_reducible refine Below.setCell ?_ ?_ _) | (with_reducible refine Below.alloc ?_ ?_ _) | (with_reducible refine Below.trans ?_ (Below.mono hb ?_)) | (with_reducible exact Nat.le_refl _) | (with_reducible assumption) | omega | (simp only [World.size_alloc, World.size_setCell, World.size_drew, sz_drewN]; omega))))⟩
          · rw [← e1] at h1'
            clear e1
            go_wp2_with fail
            go_quiet (fail)
            go_wp2
            go_ret
            exact ⟨ret_bool' HK.out.symm, (by (repeat' (first | (with_reducible exact Below.refl _ _) | (with_reducible refine bdrewN ?_ _) | (with_reducible refine Below.drew ?_) | (with_reducible refine Below.setCell ?_ ?_ _) | (with_reducible refine Below.alloc ?_ ?_ _) | (with_reducible refine Below.trans ?_ (Below.mono hb ?_)) | (with_reducible exact Nat.le_refl _) | (with_reducible assumption) | omega | (simp only [World.size_alloc, World.size_setCell, World.size_drew, sz_drewN]; omega))))⟩
      · have HK : Hid (sameA l r = true) := decide_eq_true (by
          have := HA.out
          rwa [List.take_of_length_le (by have := hn.out; omega), List.take_of_length_le (by have := hm.out; omega)] at this)
        go_wp2
        go_ret
        exact ⟨ret_bool' HK.out.symm, (by (repeat' (first | (with_reducible exact Below.refl _ _) | (with_reducible refine bdrewN ?_ _) | (with_reducible refine Below.drew ?_) | (with_reducible refine Below.setCell ?_ ?_ _) | (with_reducible refine Below.alloc ?_ ?_ _) | (with_reducible refine Below.trans ?_ (Below.mono hb ?_)) | (with_reducible exact Nat.le_refl _) | (with_reducible assumption) | omega | (simp only [World.size_alloc, World.size_setCell, World.size_drew, sz_drewN]; omega))))⟩
  · have hr : sameA l r = false := sameA_len (by have := hn.out; have := hm.out; omega)
    rw [hr]
    go_enter Tryz.func70, Tryz.ntmps70
    go_wp2
    go_ret
    exact ⟨rfl, Below.refl _ _⟩

/-- Are answers alike? -/
def sameAns (e1 : Int) (l : List Ac) (e2 : Int) (r : List Ac) : Bool := (e1 == e2) && sameA l r
theorem sameAns_comm (e1 e2 : Int) (l r : List Ac) : sameAns e2 r e1 l = sameAns e1 l e2 r := by unfold sameAns; rw [sameA_comm r l, show (e2 == e1) = (e1 == e2) from by rw [Bool.eq_iff_iff, beq_iff_eq, beq_iff_eq]; exact eq_comm]
theorem sameAns_refl (e : Int) (l : List Ac) : sameAns e l e l = true := by unfold sameAns; rw [sameA_refl]; simp
set_option maxHeartbeats 3200000 in
set_option maxRecDepth 100000 in
theorem sameAns_any (e1 e2 : Int) (A B : Option Addr) (n c m d : Nat) (l r : List Ac) (w : World) (hn : Hid (n = l.length)) (hm : Hid (m = r.length)) (hr : Hid (RdA w A l)) (hq : Hid (RdA w B r)) (hc : n ≤ c) (hc2 : c ≤ 9223372036854775807) (hd : m ≤ d) (hd2 : d ≤ 9223372036854775807) :
    Calls Tryz.prog 83 #[.agg #[.int .i64 e1, .slice A n c], .agg #[.int .i64 e2, .slice B m d]] w fun e w' => e = .returned (.bool (sameAns e1 l e2 r)) ∧ Below w.heap.size w w' := by
  have ks := fun W (h : RdA W A l) (g : RdA W B r) => equalA_any A B n c m d l r W hn hm (Lib.hid h) (Lib.hid g) hc hc2 hd hd2
  unfold sameAns
  generalize sameA l r = q at ks ⊢
  have KS := Lib.hid ks
  clear ks
  by_cases he : (e1 == e2) = true
  case neg =>
    have he' : (e1 == e2) = false := by simpa using he
    rw [he']
    clear he
    go_enter Tryz.func83, Tryz.ntmps83
    go_wp2
    go_ret
    exact ⟨rfl, (by (repeat' (first | (with_reducible exact Below.refl _ _) | (with_reducible refine bdrewN ?_ _) | (with_reducible refine Below.drew ?_) | (with_reducible refine Below.setCell ?_ ?_ _) | (with_reducible refine Below.alloc ?_ ?_ _) | (with_reducible exact Nat.le_refl _) | (with_reducible assumption) | omega | (simp only [World.size_alloc, World.size_setCell, World.size_drew, sz_drewN]; omega))))⟩
  case pos =>
    rw [he]
    go_enter Tryz.func83, Tryz.ntmps83
    go_wp2_with fail
    refine (KS.out _ (hr.out.later (by (repeat' (first | (with_reducible exact Below.refl _ _) | (with_reducible refine bdrewN ?_ _) | (with_reducible refine Below.drew ?_) | (with_reducible refine Below.setCell ?_ ?_ _) | (with_reducible refine Below.alloc ?_ ?_ _) | (with_reducible exact Nat.le_refl _) | (with_reducible assumption) | omega | (simp only [World.size_alloc, World.size_setCell, World.size_drew, sz_drewN]; omega))))) (hq.out.later (by (repeat' (first | (with_reducible exact Below.refl _ _) | (with_reducible refine bdrewN ?_ _) | (with_reducible refine Below.drew ?_) | (with_reducible refine Below.setCell ?_ ?_ _) | (with_reducible refine Below.alloc ?_ ?_ _) | (with_reducible exact Nat.le_refl _) | (with_reducible assumption) | omega | (simp only [World.size_alloc, World.size_setCell, World.size_drew, sz_drewN]; omega)))))).mono ?_
    rintro e w1 ⟨rfl, hb1⟩
    go_wp2
    go_ret
    exact ⟨rfl, (by (repeat' (first | (with_reducible exact Below.refl _ _) | (with_reducible refine bdrewN ?_ _) | (with_reducible refine Below.drew ?_) | (with_reducible refine Below.setCell ?_ ?_ _) | (with_reducible refine Below.alloc ?_ ?_ _) | (with_reducible refine Below.trans ?_ (Below.mono hb1 ?_)) | (with_reducible exact Nat.le_refl _) | (with_reducible assumption) | omega | (simp only [World.size_alloc, World.size_setCell, World.size_drew, sz_drewN]; omega))))⟩

set_option maxHeartbeats 3200000 in
set_option maxRecDepth 100000 in
theorem rsameAns_any (e1 e2 : Int) (A B : Option Addr) (n c m d : Nat) (l r : List Ac) (w : World) (hn : Hid (n = l.length)) (hm : Hid (m = r.length)) (hr : Hid (RdA w A l)) (hq : Hid (RdA w B r)) (hc : n ≤ c) (hc2 : c ≤ 9223372036854775807) (hd : m ≤ d) (hd2 : d ≤ 9223372036854775807) :
    Calls Tryz.prog 27 #[.agg #[.int .i64 e1, .slice A n c], .agg #[.int .i64 e2, .slice B m d]] w fun e w' => e = .returned (.bool (sameAns e1 l e2 r)) ∧ Below w.heap.size w w' := by
  have ks := fun W (h : RdA W A l) (g : RdA W B r) => acts_any A B n c m d l r W hn hm (Lib.hid h) (Lib.hid g) hc hc2 hd hd2
  unfold sameAns
  generalize sameA l r = q at ks ⊢
  have KS := Lib.hid ks
  clear ks
  by_cases he : (e1 == e2) = true
  case neg =>
    have he' : (e1 == e2) = false := by simpa using he
    rw [he']
    clear he
    go_enter Tryz.func27, Tryz.ntmps27
    go_wp2
    go_ret
    exact ⟨rfl, (by (repeat' (first | (with_reducible exact Below.refl _ _) | (with_reducible refine bdrewN ?_ _) | (with_reducible refine Below.drew ?_) | (with_reducible refine Below.setCell ?_ ?_ _) | (with_reducible refine Below.alloc ?_ ?_ _) | (with_reducible exact Nat.le_refl _) | (with_reducible assumption) | omega | (simp only [World.size_alloc, World.size_setCell, World.size_drew, sz_drewN]; omega))))⟩
  case pos =>
    rw [he]
    go_enter Tryz.func27, Tryz.ntmps27
    go_wp2_with fail
    refine (KS.out _ (hr.out.later (by (repeat' (first | (with_reducible exact Below.refl _ _) | (with_reducible refine bdrewN ?_ _) | (with_reducible refine Below.drew ?_) | (with_reducible refine Below.setCell ?_ ?_ _) | (with_reducible refine Below.alloc ?_ ?_ _) | (with_reducible exact Nat.le_refl _) | (with_reducible assumption) | omega | (simp only [World.size_alloc, World.size_setCell, World.size_drew, sz_drewN]; omega))))) (hq.out.later (by (repeat' (first | (with_reducible exact Below.refl _ _) | (with_reducible refine bdrewN ?_ _) | (with_reducible refine Below.drew ?_) | (with_reducible refine Below.setCell ?_ ?_ _) | (with_reducible refine Below.alloc ?_ ?_ _) | (with_reducible exact Nat.le_refl _) | (with_reducible assumption) | omega | (simp only [World.size_alloc, World.size_setCell, World.size_drew, sz_drewN]; omega)))))).mono ?_
    rintro e w1 ⟨rfl, hb1⟩
    go_wp2
    go_ret
    exact ⟨rfl, (by (repeat' (first | (with_reducible exact Below.refl _ _) | (with_reducible refine bdrewN ?_ _) | (with_reducible refine Below.drew ?_) | (with_reducible refine Below.setCell ?_ ?_ _) | (with_reducible refine Below.alloc ?_ ?_ _) | (with_reducible refine Below.trans ?_ (Below.mono hb1 ?_)) | (with_reducible exact Nat.le_refl _) | (with_reducible assumption) | omega | (simp only [World.size_alloc, World.size_setCell, World.size_drew, sz_drewN]; omega))))⟩

end Go.Proofs.YtjgojgmgicpgaaaGreat
