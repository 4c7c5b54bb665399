/- The contracts of oper.word and Text, and of the document's own Text: the text of an act. Condition: texts of at most 5000 bytes together. -/
import Derived.Test.YtehkdaknhgmdkaaWh
import Derived.Test.YtehkdaknhgmdkaaLat
import Derived.Lib.Strings
import Derived.Laws.Cover1
import Derived.Deep.RegionHeld3
import Derived.Deep.DrawnRows
import Derived.BigQuiet
namespace Go.Proofs.Ytehkdaknhgmdkaa
open Go.RowKit
set_option linter.unusedSimpArgs false
set_option linter.unusedVariables false

/-- The word for a kind of acts. -/
def wordB (k : Int) : ByteArray := if k = 1 then ⟨#[98, 105, 110, 100]⟩ else if k = 2 then ⟨#[101, 118, 105, 99, 116]⟩ else if k = 3 then ⟨#[114, 101, 108, 101, 97, 115, 101]⟩ else ⟨#[63]⟩
theorem wordB_le (k : Int) : (wordB k).size ≤ 7 := by unfold wordB; split; decide; split; decide; split; decide; decide
theorem sp1 : (⟨#[32]⟩ : ByteArray).size = 1 := rfl
/-- The text of an act. -/
def textB (k : Int) (t n : ByteArray) : ByteArray := wordB k ++ ⟨#[32]⟩ ++ t ++ ⟨#[32]⟩ ++ n

set_option maxHeartbeats 1600000 in
set_option maxRecDepth 100000 in
theorem word_any (k : Int) (w : World) : Calls Try.prog 47 #[.int .i64 k] w fun e w' => e = .returned (.string (wordB k)) ∧ w = w' := by
  by_cases h1 : k = 1
  case pos =>
    subst h1
    go_enter Try.func47, Try.ntmps47
    go_wp2
    go_ret
    exact ⟨rfl, rfl⟩
  case neg =>
    by_cases h2 : k = 2
    case pos =>
      subst h2
      go_enter Try.func47, Try.ntmps47
      go_wp2
      go_ret
      exact ⟨rfl, rfl⟩
    case neg =>
      by_cases h3 : k = 3
      case pos =>
        subst h3
        go_enter Try.func47, Try.ntmps47
        go_wp2
        go_ret
        exact ⟨rfl, rfl⟩
      case neg =>
        have hres : wordB k = ⟨#[63]⟩ := by unfold wordB; rw [if_neg h1, if_neg h2, if_neg h3]
        rw [hres]
        have e1 : (k == 1) = false := by simpa using h1
        have e2 : (k == 2) = false := by simpa using h2
        have e3 : (k == 3) = false := by simpa using h3
        clear hres h1 h2 h3
        go_enter Try.func47, Try.ntmps47
        go_wp2
        go_ret
        exact ⟨rfl, rfl⟩

theorem word_later (k : Int) (w : World) : Calls Try.prog 47 #[.int .i64 k] w fun e w' => e = .returned (.string (wordB k)) ∧ Below w.heap.size w w' := (word_any k w).mono fun _ _ ⟨he, hw⟩ => ⟨he, hw ▸ Below.refl _ _⟩

set_option maxHeartbeats 3200000 in
set_option maxRecDepth 100000 in
theorem text_any (k : Int) (t n : ByteArray) (w : World) (hz : t.size + n.size ≤ 5000) : Calls Try.prog 17 #[.agg #[.int .i64 k, .string t, .string n]] w fun e w' => e = .returned (.string (textB k t n)) ∧ Below w.heap.size w w' := by
  have kw := fun W => word_later k W
  unfold textB
  have h0 := wordB_le k
  generalize wordB k = x at kw h0 ⊢
  have s1 : x.size + (⟨#[32]⟩ : ByteArray).size ≤ 9223372036854775807 := by rw [sp1]; omega
  have e1 : (x ++ ⟨#[32]⟩ : ByteArray).size = x.size + 1 := by rw [ByteArray.size_append]; rfl
  have s2 : (x ++ ⟨#[32]⟩ : ByteArray).size + t.size ≤ 9223372036854775807 := by omega
  have e2 : (x ++ ⟨#[32]⟩ ++ t : ByteArray).size = x.size + 1 + t.size := by rw [ByteArray.size_append, e1]
  have s3 : (x ++ ⟨#[32]⟩ ++ t : ByteArray).size + (⟨#[32]⟩ : ByteArray).size ≤ 9223372036854775807 := by rw [sp1]; omega
  have e3 : (x ++ ⟨#[32]⟩ ++ t ++ ⟨#[32]⟩ : ByteArray).size = x.size + 1 + t.size + 1 := by rw [ByteArray.size_append, e2]; rfl
  have s4 : (x ++ ⟨#[32]⟩ ++ t ++ ⟨#[32]⟩ : ByteArray).size + n.size ≤ 9223372036854775807 := by omega
  have KW := Lib.hid kw
  clear kw e1 e2 e3 h0 hz
  go_enter Try.func17, Try.ntmps17
  go_wp2_with fail
  refine wp_region_later (by kernel_rfl) (by kernel_rfl) ?_; have hL : ∀ (w : World) (x : Later w) (b o : Nat), b < w.heap.size → x.to.cell? ⟨b, o, none⟩ = w.cell? ⟨b, o, none⟩ := fun w x b o hb => x.cell hb; have hN := Later.some; (repeat (go_big_quiet_step (((go_at_call 47; (with_reducible exact Later.call (KW.out _))))))); refine wpQuiet_nil ?_; intro w1 hw1; have hb1 := Later.out hw1; clear hw1 hL hN
  go_wp2
  go_ret
  exact ⟨rfl, (by (repeat' (first | (with_reducible exact Below.refl _ _) | (with_reducible refine bdrewN ?_ _) | (with_reducible refine Below.drew ?_) | (with_reducible refine Below.setCell ?_ ?_ _) | (with_reducible refine Below.alloc ?_ ?_ _) | (with_reducible refine Below.trans ?_ (Below.mono hb1 ?_)) | (with_reducible exact Nat.le_refl _) | (with_reducible assumption) | omega | (simp only [World.size_alloc, World.size_setCell, World.size_drew, sz_drewN]; omega))))⟩

set_option maxHeartbeats 3200000 in
set_option maxRecDepth 100000 in
theorem rtextA_any (k : Int) (t n : ByteArray) (w : World) (hz : t.size + n.size ≤ 5000) : Calls Try.prog 18 #[.agg #[.int .i64 k, .string t, .string n]] w fun e w' => e = .returned (.string (textB k t n)) ∧ Below w.heap.size w w' := by
  unfold textB
  have h0 := wordB_le k
  obtain ⟨x, hx⟩ : ∃ x, x = wordB k := ⟨_, rfl⟩
  rw [← hx] at h0 ⊢
  have s1 : x.size + (⟨#[32]⟩ : ByteArray).size ≤ 9223372036854775807 := by rw [sp1]; omega
  have e1 : (x ++ ⟨#[32]⟩ : ByteArray).size = x.size + 1 := by rw [ByteArray.size_append]; rfl
  have s2 : (x ++ ⟨#[32]⟩ : ByteArray).size + t.size ≤ 9223372036854775807 := by omega
  have e2 : (x ++ ⟨#[32]⟩ ++ t : ByteArray).size = x.size + 1 + t.size := by rw [ByteArray.size_append, e1]
  have s3 : (x ++ ⟨#[32]⟩ ++ t : ByteArray).size + (⟨#[32]⟩ : ByteArray).size ≤ 9223372036854775807 := by rw [sp1]; omega
  have e3 : (x ++ ⟨#[32]⟩ ++ t ++ ⟨#[32]⟩ : ByteArray).size = x.size + 1 + t.size + 1 := by rw [ByteArray.size_append, e2]; rfl
  have s4 : (x ++ ⟨#[32]⟩ ++ t ++ ⟨#[32]⟩ : ByteArray).size + n.size ≤ 9223372036854775807 := by omega
  clear e1 e2 e3 h0 hz
  by_cases h0 : k = 0
  case pos =>
    subst h0
    have hx0 : x = ⟨#[63]⟩ := hx.trans rfl
    clear hx
    subst hx0
    go_enter Try.func18, Try.ntmps18
    go_wp2
    go_ret
    exact ⟨rfl, (by (repeat' (first | (with_reducible exact Below.refl _ _) | (with_reducible refine bdrewN ?_ _) | (with_reducible refine Below.drew ?_) | (with_reducible refine Below.setCell ?_ ?_ _) | (with_reducible refine Below.alloc ?_ ?_ _) | (with_reducible exact Nat.le_refl _) | (with_reducible assumption) | omega | (simp only [World.size_alloc, World.size_setCell, World.size_drew, sz_drewN]; omega))))⟩
  case neg =>
  by_cases h1 : k = 1
  case pos =>
    subst h1
    have hx1 : x = ⟨#[98, 105, 110, 100]⟩ := hx.trans rfl
    clear hx
    subst hx1
    go_enter Try.func18, Try.ntmps18
    go_wp2
    go_ret
    exact ⟨rfl, (by (repeat' (first | (with_reducible exact Below.refl _ _) | (with_reducible refine bdrewN ?_ _) | (with_reducible refine Below.drew ?_) | (with_reducible refine Below.setCell ?_ ?_ _) | (with_reducible refine Below.alloc ?_ ?_ _) | (with_reducible exact Nat.le_refl _) | (with_reducible assumption) | omega | (simp only [World.size_alloc, World.size_setCell, World.size_drew, sz_drewN]; omega))))⟩
  case neg =>
  by_cases h2 : k = 2
  case pos =>
    subst h2
    have hx2 : x = ⟨#[101, 118, 105, 99, 116]⟩ := hx.trans rfl
    clear hx
    subst hx2
    go_enter Try.func18, Try.ntmps18
    go_wp2
    go_ret
    exact ⟨rfl, (by (repeat' (first | (with_reducible exact Below.refl _ _) | (with_reducible refine bdrewN ?_ _) | (with_reducible refine Below.drew ?_) | (with_reducible refine Below.setCell ?_ ?_ _) | (with_reducible refine Below.alloc ?_ ?_ _) | (with_reducible exact Nat.le_refl _) | (with_reducible assumption) | omega | (simp only [World.size_alloc, World.size_setCell, World.size_drew, sz_drewN]; omega))))⟩
  case neg =>
  by_cases h3 : k = 3
  case pos =>
    subst h3
    have hx3 : x = ⟨#[114, 101, 108, 101, 97, 115, 101]⟩ := hx.trans rfl
    clear hx
    subst hx3
    go_enter Try.func18, Try.ntmps18
    go_wp2
    go_ret
    exact ⟨rfl, (by (repeat' (first | (with_reducible exact Below.refl _ _) | (with_reducible refine bdrewN ?_ _) | (with_reducible refine Below.drew ?_) | (with_reducible refine Below.setCell ?_ ?_ _) | (with_reducible refine Below.alloc ?_ ?_ _) | (with_reducible exact Nat.le_refl _) | (with_reducible assumption) | omega | (simp only [World.size_alloc, World.size_setCell, World.size_drew, sz_drewN]; omega))))⟩
  case neg =>
  have hx4 : x = ⟨#[63]⟩ := hx.trans (by unfold wordB; rw [if_neg h1, if_neg h2, if_neg h3])
  clear hx
  subst hx4
  by_cases hlo : k < 0
  case pos =>
    have e5 : decide (0 ≤ k) = false := decide_eq_false (by omega)
    clear h0 h1 h2 h3
    go_enter Try.func18, Try.ntmps18
    go_wp2
    go_ret
    exact ⟨rfl, (by (repeat' (first | (with_reducible exact Below.refl _ _) | (with_reducible refine bdrewN ?_ _) | (with_reducible refine Below.drew ?_) | (with_reducible refine Below.setCell ?_ ?_ _) | (with_reducible refine Below.alloc ?_ ?_ _) | (with_reducible exact Nat.le_refl _) | (with_reducible assumption) | omega | (simp only [World.size_alloc, World.size_setCell, World.size_drew, sz_drewN]; omega))))⟩
  case neg =>
    have e5 : decide (0 ≤ k) = true := decide_eq_true (by omega)
    have e6 : decide (k < 4) = false := decide_eq_false (by omega)
    have e7 : 4 ≤ k := by omega
    clear h0 h1 h2 h3 hlo
    go_enter Try.func18, Try.ntmps18
    go_wp2
    go_ret
    exact ⟨rfl, (by (repeat' (first | (with_reducible exact Below.refl _ _) | (with_reducible refine bdrewN ?_ _) | (with_reducible refine Below.drew ?_) | (with_reducible refine Below.setCell ?_ ?_ _) | (with_reducible refine Below.alloc ?_ ?_ _) | (with_reducible exact Nat.le_refl _) | (with_reducible assumption) | omega | (simp only [World.size_alloc, World.size_setCell, World.size_drew, sz_drewN]; omega))))⟩
end Go.Proofs.Ytehkdaknhgmdkaa
