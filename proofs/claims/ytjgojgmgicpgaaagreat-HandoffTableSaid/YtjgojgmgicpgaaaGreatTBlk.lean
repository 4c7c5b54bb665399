/- Is an operation zero but for its kind: the contracts of isBlankNode, isBlankTask, isBlank, and of the document's zeroNode, zeroTask, named. Condition: slices are ones that Go can have. -/
import Derived.Test.YtjgojgmgicpgaaaGreatTOvb
namespace Go.Proofs.YtjgojgmgicpgaaaGreat
open Go.RowKit
set_option linter.unusedSimpArgs false
set_option linter.unusedVariables false

theorem sE_full {s : ByteArray} (h : ¬ s.size = 0) : sE s ⟨#[]⟩ = false := by
  cases hs : sE s ⟨#[]⟩ with
  | false => rfl
  | true => exact absurd (by rw [sE_iff.1 hs]; rfl) h
theorem sE_none : sE ⟨#[]⟩ ⟨#[]⟩ = true := sE_refl _
theorem sameB_none {l : List Lb} (h : l.length = 0) : sameB l [] = true := decide_eq_true (List.eq_nil_of_length_eq_zero h)
theorem sameB_full {l : List Lb} (h : ¬ l.length = 0) : sameB l [] = false := decide_eq_false fun e => h (by rw [e]; rfl)
theorem eq3_none : eq3 0 0 0 0 0 0 = true := rfl

set_option maxHeartbeats 3200000 in
set_option maxRecDepth 100000 in
theorem isBlankNode_any (nm : ByteArray) (a b c : Int) (A : Option Addr) (n cp : Nat) (l : List Lb) (w : World) (hn : Hid (n = l.length)) (hc : n ≤ cp) (hc2 : cp ≤ 9223372036854775807) : Calls Tryz.prog 242 #[.agg #[.string nm, .int .i64 a, .int .i64 b, .int .i64 c, .slice A n cp]] w fun e w' => e = .returned (.bool (blankN nm a b c l)) ∧ Below w.heap.size w w' := by
  by_cases h0 : nm.size = 0
  case neg =>
    have hx := sE_full h0
    have hres : blankN nm a b c l = false := by unfold blankN sameNodeB; rw [hx]; simp
    rw [hres]
    obtain ⟨f1, f2⟩ := full_of h0
    clear hx hres h0
    go_enter Tryz.func242, Tryz.ntmps242
    go_wp2
    go_ret
    exact ⟨rfl, (by (repeat' (first | (with_reducible exact Below.refl _ _) | (with_reducible refine bdrewN ?_ _) | (with_reducible refine Below.drew ?_) | (with_reducible refine Below.setCell ?_ ?_ _) | (with_reducible refine Below.alloc ?_ ?_ _) | (with_reducible exact Nat.le_refl _) | (with_reducible assumption) | omega | (simp only [World.size_alloc, World.size_setCell, World.size_drew, sz_drewN]; omega))))⟩
  case pos =>
    obtain rfl := empty_of h0
    clear h0
    by_cases h1 : eq3 a b c 0 0 0 = true
    case neg =>
      have hx : eq3 a b c 0 0 0 = false := by simpa using h1
      have hres : blankN ⟨#[]⟩ a b c l = false := by unfold blankN sameNodeB; rw [hx]; simp
      rw [hres]
      clear hres h1
      go_enter Tryz.func242, Tryz.ntmps242
      go_wp2
      go_ret
      exact ⟨rfl, (by (repeat' (first | (with_reducible exact Below.refl _ _) | (with_reducible refine bdrewN ?_ _) | (with_reducible refine Below.drew ?_) | (with_reducible refine Below.setCell ?_ ?_ _) | (with_reducible refine Below.alloc ?_ ?_ _) | (with_reducible exact Nat.le_refl _) | (with_reducible assumption) | omega | (simp only [World.size_alloc, World.size_setCell, World.size_drew, sz_drewN]; omega))))⟩
    case pos =>
      by_cases h2 : n = 0
      case neg =>
        have hx := sameB_full (l := l) (by have := hn.out; omega)
        have hres : blankN ⟨#[]⟩ a b c l = false := by unfold blankN sameNodeB; rw [hx]; simp
        rw [hres]
        have hy : ((n : Int) == 0) = false := by simp; omega
        clear hres hx h2
        go_enter Tryz.func242, Tryz.ntmps242
        go_wp2
        go_ret
        exact ⟨rfl, (by (repeat' (first | (with_reducible exact Below.refl _ _) | (with_reducible refine bdrewN ?_ _) | (with_reducible refine Below.drew ?_) | (with_reducible refine Below.setCell ?_ ?_ _) | (with_reducible refine Below.alloc ?_ ?_ _) | (with_reducible exact Nat.le_refl _) | (with_reducible assumption) | omega | (simp only [World.size_alloc, World.size_setCell, World.size_drew, sz_drewN]; omega))))⟩
      case pos =>
        have hx2 := sameB_none (l := l) (by have := hn.out; omega)
        subst h2
        have hres : blankN ⟨#[]⟩ a b c l = true := by unfold blankN sameNodeB; rw [sE_none, h1, hx2]; rfl
        rw [hres]
        clear hres hx2
        go_enter Tryz.func242, Tryz.ntmps242
        go_wp2
        go_ret
        exact ⟨rfl, (by (repeat' (first | (with_reducible exact Below.refl _ _) | (with_reducible refine bdrewN ?_ _) | (with_reducible refine Below.drew ?_) | (with_reducible refine Below.setCell ?_ ?_ _) | (with_reducible refine Below.alloc ?_ ?_ _) | (with_reducible exact Nat.le_refl _) | (with_reducible assumption) | omega | (simp only [World.size_alloc, World.size_setCell, World.size_drew, sz_drewN]; omega))))⟩

set_option maxHeartbeats 3200000 in
set_option maxRecDepth 100000 in
theorem isBlankTask_any (nm qu : ByteArray) (pr a b c : Int) (A : Option Addr) (n cp : Nat) (l : List Lb) (ap ga : ByteArray) (sz : Int) (w : World) (hn : Hid (n = l.length)) (hc : n ≤ cp) (hc2 : cp ≤ 9223372036854775807) : Calls Tryz.prog 243 #[.agg #[.string nm, .string qu, .int .i64 pr, .int .i64 a, .int .i64 b, .int .i64 c, .slice A n cp, .string ap, .string ga, .int .i64 sz]] w fun e w' => e = .returned (.bool (blankT nm qu pr a b c l ap ga sz)) ∧ Below w.heap.size w w' := by
  by_cases h0 : nm.size = 0
  case neg =>
    have hx := sE_full h0
    have hres : blankT nm qu pr a b c l ap ga sz = false := by unfold blankT sameTaskB; rw [hx]; simp
    rw [hres]
    obtain ⟨f1, f2⟩ := full_of h0
    clear hx hres h0
    go_enter Tryz.func243, Tryz.ntmps243
    go_wp2
    go_ret
    exact ⟨rfl, (by (repeat' (first | (with_reducible exact Below.refl _ _) | (with_reducible refine bdrewN ?_ _) | (with_reducible refine Below.drew ?_) | (with_reducible refine Below.setCell ?_ ?_ _) | (with_reducible refine Below.alloc ?_ ?_ _) | (with_reducible exact Nat.le_refl _) | (with_reducible assumption) | omega | (simp only [World.size_alloc, World.size_setCell, World.size_drew, sz_drewN]; omega))))⟩
  case pos =>
    obtain rfl := empty_of h0
    clear h0
    by_cases h1 : qu.size = 0
    case neg =>
      have hx := sE_full h1
      have hres : blankT ⟨#[]⟩ qu pr a b c l ap ga sz = false := by unfold blankT sameTaskB; rw [hx]; simp
      rw [hres]
      obtain ⟨f1, f2⟩ := full_of h1
      clear hx hres h1
      go_enter Tryz.func243, Tryz.ntmps243
      go_wp2
      go_ret
      exact ⟨rfl, (by (repeat' (first | (with_reducible exact Below.refl _ _) | (with_reducible refine bdrewN ?_ _) | (with_reducible refine Below.drew ?_) | (with_reducible refine Below.setCell ?_ ?_ _) | (with_reducible refine Below.alloc ?_ ?_ _) | (with_reducible exact Nat.le_refl _) | (with_reducible assumption) | omega | (simp only [World.size_alloc, World.size_setCell, World.size_drew, sz_drewN]; omega))))⟩
    case pos =>
      obtain rfl := empty_of h1
      clear h1
      by_cases h2 : pr = 0
      case neg =>
        have hx : (pr == 0) = false := by simpa using h2
        have hres : blankT ⟨#[]⟩ ⟨#[]⟩ pr a b c l ap ga sz = false := by unfold blankT sameTaskB; rw [hx]; simp
        rw [hres]
        clear hres h2
        go_enter Tryz.func243, Tryz.ntmps243
        go_wp2
        go_ret
        exact ⟨rfl, (by (repeat' (first | (with_reducible exact Below.refl _ _) | (with_reducible refine bdrewN ?_ _) | (with_reducible refine Below.drew ?_) | (with_reducible refine Below.setCell ?_ ?_ _) | (with_reducible refine Below.alloc ?_ ?_ _) | (with_reducible exact Nat.le_refl _) | (with_reducible assumption) | omega | (simp only [World.size_alloc, World.size_setCell, World.size_drew, sz_drewN]; omega))))⟩
      case pos =>
        subst h2
        by_cases h3 : eq3 a b c 0 0 0 = true
        case neg =>
          have hx : eq3 a b c 0 0 0 = false := by simpa using h3
          have hres : blankT ⟨#[]⟩ ⟨#[]⟩ 0 a b c l ap ga sz = false := by unfold blankT sameTaskB; rw [hx]; simp
          rw [hres]
          clear hres h3
          go_enter Tryz.func243, Tryz.ntmps243
          go_wp2
          go_ret
          exact ⟨rfl, (by (repeat' (first | (with_reducible exact Below.refl _ _) | (with_reducible refine bdrewN ?_ _) | (with_reducible refine Below.drew ?_) | (with_reducible refine Below.setCell ?_ ?_ _) | (with_reducible refine Below.alloc ?_ ?_ _) | (with_reducible exact Nat.le_refl _) | (with_reducible assumption) | omega | (simp only [World.size_alloc, World.size_setCell, World.size_drew, sz_drewN]; omega))))⟩
        case pos =>
          by_cases h4 : n = 0
          case neg =>
            have hx := sameB_full (l := l) (by have := hn.out; omega)
            have hres : blankT ⟨#[]⟩ ⟨#[]⟩ 0 a b c l ap ga sz = false := by unfold blankT sameTaskB; rw [hx]; simp
            rw [hres]
            have hy : ((n : Int) == 0) = false := by simp; omega
            clear hres hx h4
            go_enter Tryz.func243, Tryz.ntmps243
            go_wp2
            go_ret
            exact ⟨rfl, (by (repeat' (first | (with_reducible exact Below.refl _ _) | (with_reducible refine bdrewN ?_ _) | (with_reducible refine Below.drew ?_) | (with_reducible refine Below.setCell ?_ ?_ _) | (with_reducible refine Below.alloc ?_ ?_ _) | (with_reducible exact Nat.le_refl _) | (with_reducible assumption) | omega | (simp only [World.size_alloc, World.size_setCell, World.size_drew, sz_drewN]; omega))))⟩
          case pos =>
            have hx4 := sameB_none (l := l) (by have := hn.out; omega)
            subst h4
            by_cases h5 : ap.size = 0
            case neg =>
              have hx := sE_full h5
              have hres : blankT ⟨#[]⟩ ⟨#[]⟩ 0 a b c l ap ga sz = false := by unfold blankT sameTaskB; rw [hx]; simp
              rw [hres]
              obtain ⟨f1, f2⟩ := full_of h5
              clear hx hres h5
              go_enter Tryz.func243, Tryz.ntmps243
              go_wp2
              go_ret
              exact ⟨rfl, (by (repeat' (first | (with_reducible exact Below.refl _ _) | (with_reducible refine bdrewN ?_ _) | (with_reducible refine Below.drew ?_) | (with_reducible refine Below.setCell ?_ ?_ _) | (with_reducible refine Below.alloc ?_ ?_ _) | (with_reducible exact Nat.le_refl _) | (with_reducible assumption) | omega | (simp only [World.size_alloc, World.size_setCell, World.size_drew, sz_drewN]; omega))))⟩
            case pos =>
              obtain rfl := empty_of h5
              clear h5
              by_cases h6 : ga.size = 0
              case neg =>
                have hx := sE_full h6
                have hres : blankT ⟨#[]⟩ ⟨#[]⟩ 0 a b c l ⟨#[]⟩ ga sz = false := by unfold blankT sameTaskB; rw [hx]; simp
                rw [hres]
                obtain ⟨f1, f2⟩ := full_of h6
                clear hx hres h6
                go_enter Tryz.func243, Tryz.ntmps243
                go_wp2
                go_ret
                exact ⟨rfl, (by (repeat' (first | (with_reducible exact Below.refl _ _) | (with_reducible refine bdrewN ?_ _) | (with_reducible refine Below.drew ?_) | (with_reducible refine Below.setCell ?_ ?_ _) | (with_reducible refine Below.alloc ?_ ?_ _) | (with_reducible exact Nat.le_refl _) | (with_reducible assumption) | omega | (simp only [World.size_alloc, World.size_setCell, World.size_drew, sz_drewN]; omega))))⟩
              case pos =>
                obtain rfl := empty_of h6
                clear h6
                by_cases h7 : sz = 0
                case neg =>
                  have hx : (sz == 0) = false := by simpa using h7
                  have hres : blankT ⟨#[]⟩ ⟨#[]⟩ 0 a b c l ⟨#[]⟩ ⟨#[]⟩ sz = false := by unfold blankT sameTaskB; rw [hx]; simp
                  rw [hres]
                  clear hres h7
                  go_enter Tryz.func243, Tryz.ntmps243
                  go_wp2
                  go_ret
                  exact ⟨rfl, (by (repeat' (first | (with_reducible exact Below.refl _ _) | (with_reducible refine bdrewN ?_ _) | (with_reducible refine Below.drew ?_) | (with_reducible refine Below.setCell ?_ ?_ _) | (with_reducible refine Below.alloc ?_ ?_ _) | (with_reducible exact Nat.le_refl _) | (with_reducible assumption) | omega | (simp only [World.size_alloc, World.size_setCell, World.size_drew, sz_drewN]; omega))))⟩
                case pos =>
                  subst h7
                  have hres : blankT ⟨#[]⟩ ⟨#[]⟩ 0 a b c l ⟨#[]⟩ ⟨#[]⟩ 0 = true := by unfold blankT sameTaskB; rw [sE_none, h3, hx4]; rfl
                  rw [hres]
                  clear hres hx4
                  go_enter Tryz.func243, Tryz.ntmps243
                  go_wp2
                  go_ret
                  exact ⟨rfl, (by (repeat' (first | (with_reducible exact Below.refl _ _) | (with_reducible refine bdrewN ?_ _) | (with_reducible refine Below.drew ?_) | (with_reducible refine Below.setCell ?_ ?_ _) | (with_reducible refine Below.alloc ?_ ?_ _) | (with_reducible exact Nat.le_refl _) | (with_reducible assumption) | omega | (simp only [World.size_alloc, World.size_setCell, World.size_drew, sz_drewN]; omega))))⟩

set_option maxHeartbeats 3200000 in
set_option maxRecDepth 100000 in
theorem zeroNode_any (nm : ByteArray) (a b c : Int) (A : Option Addr) (n cp : Nat) (l : List Lb) (w : World) (hn : Hid (n = l.length)) (hc : n ≤ cp) (hc2 : cp ≤ 9223372036854775807) (hr : Hid (RdL w A l)) : Calls Tryz.prog 275 #[.agg #[.string nm, .int .i64 a, .int .i64 b, .int .i64 c, .slice A n cp]] w fun e w' => e = .returned (.bool (blankN nm a b c l)) ∧ Below w.heap.size w w' := by
  have ks := fun W (h : RdL W A l) => sameNode_any nm a b c A n cp l ⟨#[]⟩ 0 0 0 none 0 0 [] W hn (Lib.hid h) hc hc2 (show Hid ((0 : Nat) = ([] : List Lb).length) from rfl) (Lib.hid (RdL.nil W none)) (Nat.le_refl 0) (by decide)
  obtain ⟨r, hr0⟩ : ∃ r, r = blankN nm a b c l := ⟨_, rfl⟩
  have ks2 : ∀ W, RdL W A l → Calls Tryz.prog 60 #[.agg #[.string nm, .int .i64 a, .int .i64 b, .int .i64 c, .slice A n cp], .agg #[.string ⟨#[]⟩, .int .i64 0, .int .i64 0, .int .i64 0, .slice none 0 0]] W fun e w' => e = .returned (.bool r) ∧ Below W.heap.size W w' := by rw [hr0]; exact ks
  rw [← hr0]
  have KS := Lib.hid ks2
  clear ks ks2 hr0
  go_enter Tryz.func275, Tryz.ntmps275
  go_wp2_with fail
  refine (KS.out _ (hr.out.later (by (repeat' (first | (with_reducible exact Below.refl _ _) | (with_reducible refine bdrewN ?_ _) | (with_reducible refine Below.drew ?_) | (with_reducible refine Below.setCell ?_ ?_ _) | (with_reducible refine Below.alloc ?_ ?_ _) | (with_reducible exact Nat.le_refl _) | (with_reducible assumption) | omega | (simp only [World.size_alloc, World.size_setCell, World.size_drew, sz_drewN]; omega)))))).mono ?_
  rintro e w1 ⟨rfl, hb1⟩
  go_wp2
  go_ret
  exact ⟨rfl, (by (repeat' (first | (with_reducible exact Below.refl _ _) | (with_reducible refine bdrewN ?_ _) | (with_reducible refine Below.drew ?_) | (with_reducible refine Below.setCell ?_ ?_ _) | (with_reducible refine Below.alloc ?_ ?_ _) | (with_reducible refine Below.trans ?_ (Below.mono hb1 ?_)) | (with_reducible exact Nat.le_refl _) | (with_reducible assumption) | omega | (simp only [World.size_alloc, World.size_setCell, World.size_drew, sz_drewN]; omega))))⟩

set_option maxHeartbeats 3200000 in
set_option maxRecDepth 100000 in
theorem zeroTask_any (nm qu : ByteArray) (pr a b c : Int) (A : Option Addr) (n cp : Nat) (l : List Lb) (ap ga : ByteArray) (sz : Int) (w : World) (hn : Hid (n = l.length)) (hc : n ≤ cp) (hc2 : cp ≤ 9223372036854775807) (hr : Hid (RdL w A l)) : Calls Tryz.prog 276 #[.agg #[.string nm, .string qu, .int .i64 pr, .int .i64 a, .int .i64 b, .int .i64 c, .slice A n cp, .string ap, .string ga, .int .i64 sz]] w fun e w' => e = .returned (.bool (blankT nm qu pr a b c l ap ga sz)) ∧ Below w.heap.size w w' := by
  have ks := fun W (h : RdL W A l) => sameTask_any nm qu pr a b c A n cp l ap ga sz ⟨#[]⟩ ⟨#[]⟩ 0 0 0 0 none 0 0 [] ⟨#[]⟩ ⟨#[]⟩ 0 W hn (Lib.hid h) hc hc2 (show Hid ((0 : Nat) = ([] : List Lb).length) from rfl) (Lib.hid (RdL.nil W none)) (Nat.le_refl 0) (by decide)
  obtain ⟨r, hr0⟩ : ∃ r, r = blankT nm qu pr a b c l ap ga sz := ⟨_, rfl⟩
  have ks2 : ∀ W, RdL W A l → Calls Tryz.prog 61 #[.agg #[.string nm, .string qu, .int .i64 pr, .int .i64 a, .int .i64 b, .int .i64 c, .slice A n cp, .string ap, .string ga, .int .i64 sz], .agg #[.string ⟨#[]⟩, .string ⟨#[]⟩, .int .i64 0, .int .i64 0, .int .i64 0, .int .i64 0, .slice none 0 0, .string ⟨#[]⟩, .string ⟨#[]⟩, .int .i64 0]] W fun e w' => e = .returned (.bool r) ∧ Below W.heap.size W w' := by rw [hr0]; exact ks
  rw [← hr0]
  have KS := Lib.hid ks2
  clear ks ks2 hr0
  go_enter Tryz.func276, Tryz.ntmps276
  go_wp2_with fail
  refine (KS.out _ (hr.out.later (by (repeat' (first | (with_reducible exact Below.refl _ _) | (with_reducible refine bdrewN ?_ _) | (with_reducible refine Below.drew ?_) | (with_reducible refine Below.setCell ?_ ?_ _) | (with_reducible refine Below.alloc ?_ ?_ _) | (with_reducible exact Nat.le_refl _) | (with_reducible assumption) | omega | (simp only [World.size_alloc, World.size_setCell, World.size_drew, sz_drewN]; omega)))))).mono ?_
  rintro e w1 ⟨rfl, hb1⟩
  go_wp2
  go_ret
  exact ⟨rfl, (by (repeat' (first | (with_reducible exact Below.refl _ _) | (with_reducible refine bdrewN ?_ _) | (with_reducible refine Below.drew ?_) | (with_reducible refine Below.setCell ?_ ?_ _) | (with_reducible refine Below.alloc ?_ ?_ _) | (with_reducible refine Below.trans ?_ (Below.mono hb1 ?_)) | (with_reducible exact Nat.le_refl _) | (with_reducible assumption) | omega | (simp only [World.size_alloc, World.size_setCell, World.size_drew, sz_drewN]; omega))))⟩

set_option maxHeartbeats 1600000 in
set_option maxRecDepth 100000 in
theorem named_any (k : Int) (w : World) : Calls Tryz.prog 277 #[.int .i64 k] w fun e w' => e = .returned (.bool (namedB k)) ∧ w = w' := by
  by_cases h0 : k = 2
  · subst h0
    go_enter Tryz.func277, Tryz.ntmps277
    go_wp2
    go_ret
    exact ⟨rfl, rfl⟩
  by_cases h1 : k = 4
  · subst h1
    go_enter Tryz.func277, Tryz.ntmps277
    go_wp2
    go_ret
    exact ⟨rfl, rfl⟩
  by_cases h2 : k = 6
  · subst h2
    go_enter Tryz.func277, Tryz.ntmps277
    go_wp2
    go_ret
    exact ⟨rfl, rfl⟩
  by_cases h3 : k = 7
  · subst h3
    go_enter Tryz.func277, Tryz.ntmps277
    go_wp2
    go_ret
    exact ⟨rfl, rfl⟩
  by_cases h4 : k = 8
  · subst h4
    go_enter Tryz.func277, Tryz.ntmps277
    go_wp2
    go_ret
    exact ⟨rfl, rfl⟩
  have hres : namedB k = false := decide_eq_false (by omega)
  rw [hres]
  have g0 : (k == 2) = false := by simpa using h0
  have g1 : (k == 4) = false := by simpa using h1
  have g2 : (k == 6) = false := by simpa using h2
  have g3 : (k == 7) = false := by simpa using h3
  have g4 : (k == 8) = false := by simpa using h4
  clear hres h0 h1 h2 h3 h4
  go_enter Tryz.func277, Tryz.ntmps277
  go_wp2
  go_ret
  exact ⟨rfl, rfl⟩

theorem run_guardB (op : BinOp) (x y : Operand) (xs ys : Array Value) (w : World) : (eqGuard op 55 x y (.agg xs) (.agg ys)).run Tryz.prog w = .ok () w := run_eqGuard_agg w op 55 x y xs ys (by kernel_rfl)
attribute [local go_sem] run_guardB
set_option maxHeartbeats 6400000 in
set_option maxRecDepth 100000 in
theorem isBlank_any (k : Int) (nn : ByteArray) (a1 b1 c1 : Int) (A1 : Option Addr) (m1 p1 : Nat) (l1 : List Lb) (qn : ByteArray) (a2 b2 c2 : Int) (tn tq : ByteArray) (tp a3 b3 c3 : Int) (A3 : Option Addr) (m3 p3 : Nat) (l3 : List Lb) (ta tg : ByteArray) (ts : Int) (s : ByteArray) (w : World) (hn1 : Hid (m1 = l1.length)) (hp1 : m1 ≤ p1) (hq1 : p1 ≤ 9223372036854775807) (hn3 : Hid (m3 = l3.length)) (hp3 : m3 ≤ p3) (hq3 : p3 ≤ 9223372036854775807) : Calls Tryz.prog 142 #[.agg #[.int .i64 k, .string nn, .int .i64 a1, .int .i64 b1, .int .i64 c1, .slice A1 m1 p1, .string qn, .int .i64 a2, .int .i64 b2, .int .i64 c2, .string tn, .string tq, .int .i64 tp, .int .i64 a3, .int .i64 b3, .int .i64 c3, .slice A3 m3 p3, .string ta, .string tg, .int .i64 ts, .string s]] w fun e w' => e = .returned (.bool (Ov.blank ⟨k, nn, a1, b1, c1, l1, qn, a2, b2, c2, tn, tq, tp, a3, b3, c3, l3, ta, tg, ts, s⟩)) ∧ Below w.heap.size w w' := by
  have hres : Ov.blank ⟨k, nn, a1, b1, c1, l1, qn, a2, b2, c2, tn, tq, tp, a3, b3, c3, l3, ta, tg, ts, s⟩ = (blankN nn a1 b1 c1 l1 && blankQ qn a2 b2 c2 && blankT tn tq tp a3 b3 c3 l3 ta tg ts && sE s ⟨#[]⟩) := rfl
  rw [hres]
  have k1 := fun W => isBlankNode_any nn a1 b1 c1 A1 m1 p1 l1 W hn1 hp1 hq1
  have k3 := fun W => isBlankTask_any tn tq tp a3 b3 c3 A3 m3 p3 l3 ta tg ts W hn3 hp3 hq3
  have k2 : ∀ W, (binOp .eql 55 (.agg #[.string qn, .int .i64 a2, .int .i64 b2, .int .i64 c2]) (.agg #[.string ⟨#[]⟩, .int .i64 0, .int .i64 0, .int .i64 0])).run Tryz.prog W = .ok (.bool (blankQ qn a2 b2 c2)) W := fun W => eql_queue_any qn ⟨#[]⟩ a2 b2 c2 0 0 0 W
  generalize blankN nn a1 b1 c1 l1 = r1 at k1 ⊢
  generalize blankQ qn a2 b2 c2 = r2 at k2 ⊢
  generalize blankT tn tq tp a3 b3 c3 l3 ta tg ts = r3 at k3 ⊢
  have K1 := Lib.hid k1
  have K3 := Lib.hid k3
  clear hres k1 k3
  cases r1
  case false =>
    simp only [Bool.true_and, Bool.false_and, Bool.and_true, Bool.and_false]
    go_enter Tryz.func142, Tryz.ntmps142
    go_wp2_with fail
    refine (K1.out _).mono ?_
    rintro e w1 ⟨rfl, hb1⟩
    obtain ⟨hc1, hf1⟩ := bcell hb1; have hz1 : w.heap.size < w1.heap.size := by have h := hb1.size; (try simp only [World.size_alloc] at h); omega
    go_wp2
    go_ret
    exact ⟨rfl, (by (repeat' (first | (with_reducible exact Below.refl _ _) | (with_reducible refine bdrewN ?_ _) | (with_reducible refine Below.drew ?_) | (with_reducible refine Below.setCell ?_ ?_ _) | (with_reducible refine Below.alloc ?_ ?_ _) | (with_reducible refine Below.trans ?_ (Below.mono hb1 ?_)) | (with_reducible exact Nat.le_refl _) | (with_reducible assumption) | omega | (simp only [World.size_alloc, World.size_setCell, World.size_drew, sz_drewN]; omega))))⟩
  case true =>
    cases r2
    case false =>
      simp only [Bool.true_and, Bool.false_and, Bool.and_true, Bool.and_false]
      go_enter Tryz.func142, Tryz.ntmps142
      go_wp2_with fail
      refine (K1.out _).mono ?_
      rintro e w1 ⟨rfl, hb1⟩
      obtain ⟨hc1, hf1⟩ := bcell hb1; have hz1 : w.heap.size < w1.heap.size := by have h := hb1.size; (try simp only [World.size_alloc] at h); omega
      go_wp2
      go_ret
      exact ⟨rfl, (by (repeat' (first | (with_reducible exact Below.refl _ _) | (with_reducible refine bdrewN ?_ _) | (with_reducible refine Below.drew ?_) | (with_reducible refine Below.setCell ?_ ?_ _) | (with_reducible refine Below.alloc ?_ ?_ _) | (with_reducible refine Below.trans ?_ (Below.mono hb1 ?_)) | (with_reducible exact Nat.le_refl _) | (with_reducible assumption) | omega | (simp only [World.size_alloc, World.size_setCell, World.size_drew, sz_drewN]; omega))))⟩
    case true =>
      cases r3
      case false =>
        simp only [Bool.true_and, Bool.false_and, Bool.and_true, Bool.and_false]
        go_enter Tryz.func142, Tryz.ntmps142
        go_wp2_with fail
        refine (K1.out _).mono ?_
        rintro e w1 ⟨rfl, hb1⟩
        obtain ⟨hc1, hf1⟩ := bcell hb1; have hz1 : w.heap.size < w1.heap.size := by have h := hb1.size; (try simp only [World.size_alloc] at h); omega
        go_wp2_with fail
        refine (K3.out _).mono ?_
        rintro e w2 ⟨rfl, hb2⟩
        obtain ⟨hc2, hf2⟩ := bcell hb2; have hz2 : w.heap.size < w2.heap.size := by have h := hb2.size; (try simp only [World.size_alloc] at h); omega
        go_wp2
        go_ret
        exact ⟨rfl, (by (repeat' (first | (with_reducible exact Below.refl _ _) | (with_reducible refine bdrewN ?_ _) | (with_reducible refine Below.drew ?_) | (with_reducible refine Below.setCell ?_ ?_ _) | (with_reducible refine Below.alloc ?_ ?_ _) | (with_reducible refine Below.trans ?_ (Below.mono hb2 ?_)) | (with_reducible refine Below.trans ?_ (Below.mono hb1 ?_)) | (with_reducible exact Nat.le_refl _) | (with_reducible assumption) | omega | (simp only [World.size_alloc, World.size_setCell, World.size_drew, sz_drewN]; omega))))⟩
      case true =>
        by_cases h : s.size = 0
        case pos =>
          obtain rfl := empty_of h
          rw [sE_none]
          clear h
          simp only [Bool.true_and, Bool.false_and, Bool.and_true, Bool.and_false]
          go_enter Tryz.func142, Tryz.ntmps142
          go_wp2_with fail
          refine (K1.out _).mono ?_
          rintro e w1 ⟨rfl, hb1⟩
          obtain ⟨hc1, hf1⟩ := bcell hb1; have hz1 : w.heap.size < w1.heap.size := by have h := hb1.size; (try simp only [World.size_alloc] at h); omega
          go_wp2_with fail
          refine (K3.out _).mono ?_
          rintro e w2 ⟨rfl, hb2⟩
          obtain ⟨hc2, hf2⟩ := bcell hb2; have hz2 : w.heap.size < w2.heap.size := by have h := hb2.size; (try simp only [World.size_alloc] at h); omega
          go_wp2
          go_ret
          exact ⟨rfl, (by (repeat' (first | (with_reducible exact Below.refl _ _) | (with_reducible refine bdrewN ?_ _) | (with_reducible refine Below.drew ?_) | (with_reducible refine Below.setCell ?_ ?_ _) | (with_reducible refine Below.alloc ?_ ?_ _) | (with_reducible refine Below.trans ?_ (Below.mono hb2 ?_)) | (with_reducible refine Below.trans ?_ (Below.mono hb1 ?_)) | (with_reducible exact Nat.le_refl _) | (with_reducible assumption) | omega | (simp only [World.size_alloc, World.size_setCell, World.size_drew, sz_drewN]; omega))))⟩
        case neg =>
          rw [sE_full h]
          obtain ⟨f1, f2⟩ := full_of h
          clear h
          simp only [Bool.true_and, Bool.false_and, Bool.and_true, Bool.and_false]
          go_enter Tryz.func142, Tryz.ntmps142
          go_wp2_with fail
          refine (K1.out _).mono ?_
          rintro e w1 ⟨rfl, hb1⟩
          obtain ⟨hc1, hf1⟩ := bcell hb1; have hz1 : w.heap.size < w1.heap.size := by have h := hb1.size; (try simp only [World.size_alloc] at h); omega
          go_wp2_with fail
          refine (K3.out _).mono ?_
          rintro e w2 ⟨rfl, hb2⟩
          obtain ⟨hc2, hf2⟩ := bcell hb2; have hz2 : w.heap.size < w2.heap.size := by have h := hb2.size; (try simp only [World.size_alloc] at h); omega
          go_wp2
          go_ret
          exact ⟨rfl, (by (repeat' (first | (with_reducible exact Below.refl _ _) | (with_reducible refine bdrewN ?_ _) | (with_reducible refine Below.drew ?_) | (with_reducible refine Below.setCell ?_ ?_ _) | (with_reducible refine Below.alloc ?_ ?_ _) | (with_reducible refine Below.trans ?_ (Below.mono hb2 ?_)) | (with_reducible refine Below.trans ?_ (Below.mono hb1 ?_)) | (with_reducible exact Nat.le_refl _) | (with_reducible assumption) | omega | (simp only [World.size_alloc, World.size_setCell, World.size_drew, sz_drewN]; omega))))⟩
end Go.Proofs.YtjgojgmgicpgaaaGreat
