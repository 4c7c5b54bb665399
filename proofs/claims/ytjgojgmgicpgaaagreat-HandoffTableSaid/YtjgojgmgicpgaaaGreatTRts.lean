/- The contract of the document's own Task: is this task valid. Condition: texts and slices are ones that Go can have. -/
import Derived.Test.YtjgojgmgicpgaaaGreatTMod
namespace Go.Proofs.YtjgojgmgicpgaaaGreat
open Go.RowKit
set_option linter.unusedSimpArgs false
set_option linter.unusedVariables false

set_option maxHeartbeats 3200000 in
set_option maxRecDepth 100000 in
theorem rtask_any (nm qu : ByteArray) (pr a b c : Int) (A : Option Addr) (n cp : Nat) (l : List Lb) (ap ga : ByteArray) (sz : Int) (w : World) (hnm : nm.size ≤ 9223372036854775807) (hqu : qu.size ≤ 9223372036854775807) (hn : Hid (n = l.length)) (hr : Hid (RdL w A l)) (hz : Hid (Sz l)) (hc : n ≤ cp) (hc2 : cp ≤ 9223372036854775807) (hap : ap.size ≤ 9223372036854775807) (hga : ga.size ≤ 9223372036854775807) : Calls Tryz.prog 110 #[.agg #[.string nm, .string qu, .int .i64 pr, .int .i64 a, .int .i64 b, .int .i64 c, .slice A n cp, .string ap, .string ga, .int .i64 sz]] w fun e w' => e = .returned (.bool (taskB nm qu pr a b c l ap ga sz)) ∧ Below w.heap.size w w' := by
  have k1 := fun W => rname_any nm W hnm
  have k2 := fun W => rname_any qu W hqu
  have k5 := fun W => rright_any a b c W
  have k6 := fun W (h : RdL W A l) => rlabels_any A n cp l W hn (Lib.hid h) hz hc hc2
  by_cases c1 : nameB nm = true
  case neg =>
    have c1x : nameB nm = false := by simpa using c1
    have hres : taskB nm qu pr a b c l ap ga sz = false := by unfold taskB; rw [c1x]; simp
    rw [c1x] at k1
    rw [hres]
    have HK1 := Lib.hid k1
    clear hres k1 k2 k5 k6 c1 c1x
    go_enter Tryz.func110, Tryz.ntmps110
    go_wp2_with fail
    refine (HK1.out _).mono ?_; rintro e w' ⟨rfl, rfl⟩
    go_wp2
    go_ret
    exact ⟨rfl, (by (repeat' (first | (with_reducible exact Below.refl _ _) | (with_reducible refine Below.alloc ?_ ?_ _) | (with_reducible exact Nat.le_refl _) | (with_reducible assumption) | omega | (simp only [World.size_alloc]; omega))))⟩
  case pos =>
    rw [c1] at k1
    by_cases c2 : nameB qu = true
    case neg =>
      have c2x : nameB qu = false := by simpa using c2
      have hres : taskB nm qu pr a b c l ap ga sz = false := by unfold taskB; rw [c2x]; simp
      rw [c2x] at k2
      rw [hres]
      have HK1 := Lib.hid k1
      have HK2 := Lib.hid k2
      clear hres k1 k2 k5 k6 c1 c2 c2x
      go_enter Tryz.func110, Tryz.ntmps110
      go_wp2_with fail
      refine (HK1.out _).mono ?_; rintro e w' ⟨rfl, rfl⟩
      go_wp2_with fail
      refine (HK2.out _).mono ?_; rintro e w' ⟨rfl, rfl⟩
      go_wp2
      go_ret
      exact ⟨rfl, (by (repeat' (first | (with_reducible exact Below.refl _ _) | (with_reducible refine Below.alloc ?_ ?_ _) | (with_reducible exact Nat.le_refl _) | (with_reducible assumption) | omega | (simp only [World.size_alloc]; omega))))⟩
    case pos =>
      rw [c2] at k2
      by_cases c3 : 0 ≤ pr
      case neg =>
        have hres : taskB nm qu pr a b c l ap ga sz = false := by unfold taskB; rw [show decide (0 ≤ pr) = false from decide_eq_false c3]; simp
        rw [hres]
        have HK1 := Lib.hid k1
        have HK2 := Lib.hid k2
        clear hres k1 k2 k5 k6 c1 c2
        go_enter Tryz.func110, Tryz.ntmps110
        go_wp2_with fail
        refine (HK1.out _).mono ?_; rintro e w' ⟨rfl, rfl⟩
        go_wp2_with fail
        refine (HK2.out _).mono ?_; rintro e w' ⟨rfl, rfl⟩
        go_wp2
        go_ret
        exact ⟨rfl, (by (repeat' (first | (with_reducible exact Below.refl _ _) | (with_reducible refine Below.alloc ?_ ?_ _) | (with_reducible exact Nat.le_refl _) | (with_reducible assumption) | omega | (simp only [World.size_alloc]; omega))))⟩
      case pos =>
        by_cases c4 : pr ≤ 9
        case neg =>
          have hres : taskB nm qu pr a b c l ap ga sz = false := by unfold taskB; rw [show decide (pr ≤ 9) = false from decide_eq_false c4]; simp
          rw [hres]
          have HK1 := Lib.hid k1
          have HK2 := Lib.hid k2
          clear hres k1 k2 k5 k6 c1 c2
          go_enter Tryz.func110, Tryz.ntmps110
          go_wp2_with fail
          refine (HK1.out _).mono ?_; rintro e w' ⟨rfl, rfl⟩
          go_wp2_with fail
          refine (HK2.out _).mono ?_; rintro e w' ⟨rfl, rfl⟩
          go_wp2
          go_ret
          exact ⟨rfl, (by (repeat' (first | (with_reducible exact Below.refl _ _) | (with_reducible refine Below.alloc ?_ ?_ _) | (with_reducible exact Nat.le_refl _) | (with_reducible assumption) | omega | (simp only [World.size_alloc]; omega))))⟩
        case pos =>
          by_cases c5 : rB a b c = true
          case neg =>
            have c5x : rB a b c = false := by simpa using c5
            have hres : taskB nm qu pr a b c l ap ga sz = false := by unfold taskB; rw [c5x]; simp
            rw [c5x] at k5
            rw [hres]
            have HK1 := Lib.hid k1
            have HK2 := Lib.hid k2
            have HK5 := Lib.hid k5
            clear hres k1 k2 k5 k6 c1 c2 c5 c5x
            go_enter Tryz.func110, Tryz.ntmps110
            go_wp2_with fail
            refine (HK1.out _).mono ?_; rintro e w' ⟨rfl, rfl⟩
            go_wp2_with fail
            refine (HK2.out _).mono ?_; rintro e w' ⟨rfl, rfl⟩
            go_wp2_with fail
            refine (HK5.out _).mono ?_; rintro e w1 ⟨rfl, hb1⟩
            obtain ⟨hc1, hf1⟩ := bcell hb1; have hz1 : w.heap.size < w1.heap.size := by have h := hb1.size; (try simp only [World.size_alloc] at h); omega
            go_wp2
            go_ret
            exact ⟨rfl, (by (repeat' (first | (with_reducible exact Below.refl _ _) | (with_reducible refine Below.alloc ?_ ?_ _) | (with_reducible refine Below.trans ?_ (Below.mono hb1 ?_)) | (with_reducible exact Nat.le_refl _) | (with_reducible assumption) | omega | (simp only [World.size_alloc]; omega))))⟩
          case pos =>
            rw [c5] at k5
            by_cases c6 : labelsB l = true
            case neg =>
              have c6x : labelsB l = false := by simpa using c6
              have hres : taskB nm qu pr a b c l ap ga sz = false := by unfold taskB; rw [c6x]; simp
              rw [c6x] at k6
              rw [hres]
              have HK1 := Lib.hid k1
              have HK2 := Lib.hid k2
              have HK5 := Lib.hid k5
              have HK6 := Lib.hid k6
              clear hres k1 k2 k5 k6 c1 c2 c5 c6 c6x
              go_enter Tryz.func110, Tryz.ntmps110
              go_wp2_with fail
              refine (HK1.out _).mono ?_; rintro e w' ⟨rfl, rfl⟩
              go_wp2_with fail
              refine (HK2.out _).mono ?_; rintro e w' ⟨rfl, rfl⟩
              go_wp2_with fail
              refine (HK5.out _).mono ?_; rintro e w1 ⟨rfl, hb1⟩
              obtain ⟨hc1, hf1⟩ := bcell hb1; have hz1 : w.heap.size < w1.heap.size := by have h := hb1.size; (try simp only [World.size_alloc] at h); omega
              go_wp2_with fail
              refine (HK6.out _ (hr.out.later (by (repeat' (first | (with_reducible exact Below.refl _ _) | (with_reducible refine Below.alloc ?_ ?_ _) | (with_reducible refine Below.trans ?_ (Below.mono hb1 ?_)) | (with_reducible exact Nat.le_refl _) | (with_reducible assumption) | omega | (simp only [World.size_alloc]; omega)))))).mono ?_; rintro e w2 ⟨rfl, hb2⟩
              obtain ⟨hc2, hf2⟩ := bcell hb2; have hz2 : w.heap.size < w2.heap.size := by have h := hb2.size; (try simp only [World.size_alloc] at h); omega
              go_wp2
              go_ret
              exact ⟨rfl, (by (repeat' (first | (with_reducible exact Below.refl _ _) | (with_reducible refine Below.alloc ?_ ?_ _) | (with_reducible refine Below.trans ?_ (Below.mono hb2 ?_)) | (with_reducible refine Below.trans ?_ (Below.mono hb1 ?_)) | (with_reducible exact Nat.le_refl _) | (with_reducible assumption) | omega | (simp only [World.size_alloc]; omega))))⟩
            case pos =>
              rw [c6] at k6
              have hres : taskB nm qu pr a b c l ap ga sz = (apartB ap && gangB ga sz) := by unfold taskB; rw [c1, c2, show decide (0 ≤ pr) = true from decide_eq_true c3, show decide (pr ≤ 9) = true from decide_eq_true c4, c5, c6]; simp
              rw [hres]
              have HK1 := Lib.hid k1
              have HK2 := Lib.hid k2
              have HK5 := Lib.hid k5
              have HK6 := Lib.hid k6
              clear hres k1 c1 k2 c2 k5 c5 k6 c6
              have k7 := fun W => rname_any ap W hap
              have k8 := fun W => rname_any ga W hga
              by_cases a0 : ap.size = 0
              case pos =>
                obtain rfl := empty_of a0
                rw [apartB_empty, Bool.true_and]
                clear k7 a0
                by_cases g0 : ga.size = 0
                case pos =>
                  obtain rfl := empty_of g0
                  rw [gangB_empty]
                  clear k8 g0
                  by_cases hk : sz = 0
                  case pos =>
                    subst hk
                    go_enter Tryz.func110, Tryz.ntmps110
                    go_wp2_with fail
                    refine (HK1.out _).mono ?_; rintro e w' ⟨rfl, rfl⟩
                    go_wp2_with fail
                    refine (HK2.out _).mono ?_; rintro e w' ⟨rfl, rfl⟩
                    go_wp2_with fail
                    refine (HK5.out _).mono ?_; rintro e w1 ⟨rfl, hb1⟩
                    obtain ⟨hc1, hf1⟩ := bcell hb1; have hz1 : w.heap.size < w1.heap.size := by have h := hb1.size; (try simp only [World.size_alloc] at h); omega
                    go_wp2_with fail
                    refine (HK6.out _ (hr.out.later (by (repeat' (first | (with_reducible exact Below.refl _ _) | (with_reducible refine Below.alloc ?_ ?_ _) | (with_reducible refine Below.trans ?_ (Below.mono hb1 ?_)) | (with_reducible exact Nat.le_refl _) | (with_reducible assumption) | omega | (simp only [World.size_alloc]; omega)))))).mono ?_; rintro e w2 ⟨rfl, hb2⟩
                    obtain ⟨hc2, hf2⟩ := bcell hb2; have hz2 : w.heap.size < w2.heap.size := by have h := hb2.size; (try simp only [World.size_alloc] at h); omega
                    go_wp2
                    go_ret
                    exact ⟨rfl, (by (repeat' (first | (with_reducible exact Below.refl _ _) | (with_reducible refine Below.alloc ?_ ?_ _) | (with_reducible refine Below.trans ?_ (Below.mono hb2 ?_)) | (with_reducible refine Below.trans ?_ (Below.mono hb1 ?_)) | (with_reducible exact Nat.le_refl _) | (with_reducible assumption) | omega | (simp only [World.size_alloc]; omega))))⟩
                  case neg =>
                    have hk' : (sz == 0) = false := by simpa using hk
                    rw [decide_eq_false hk]
                    clear hk
                    go_enter Tryz.func110, Tryz.ntmps110
                    go_wp2_with fail
                    refine (HK1.out _).mono ?_; rintro e w' ⟨rfl, rfl⟩
                    go_wp2_with fail
                    refine (HK2.out _).mono ?_; rintro e w' ⟨rfl, rfl⟩
                    go_wp2_with fail
                    refine (HK5.out _).mono ?_; rintro e w1 ⟨rfl, hb1⟩
                    obtain ⟨hc1, hf1⟩ := bcell hb1; have hz1 : w.heap.size < w1.heap.size := by have h := hb1.size; (try simp only [World.size_alloc] at h); omega
                    go_wp2_with fail
                    refine (HK6.out _ (hr.out.later (by (repeat' (first | (with_reducible exact Below.refl _ _) | (with_reducible refine Below.alloc ?_ ?_ _) | (with_reducible refine Below.trans ?_ (Below.mono hb1 ?_)) | (with_reducible exact Nat.le_refl _) | (with_reducible assumption) | omega | (simp only [World.size_alloc]; omega)))))).mono ?_; rintro e w2 ⟨rfl, hb2⟩
                    obtain ⟨hc2, hf2⟩ := bcell hb2; have hz2 : w.heap.size < w2.heap.size := by have h := hb2.size; (try simp only [World.size_alloc] at h); omega
                    go_wp2
                    go_ret
                    exact ⟨rfl, (by (repeat' (first | (with_reducible exact Below.refl _ _) | (with_reducible refine Below.alloc ?_ ?_ _) | (with_reducible refine Below.trans ?_ (Below.mono hb2 ?_)) | (with_reducible refine Below.trans ?_ (Below.mono hb1 ?_)) | (with_reducible exact Nat.le_refl _) | (with_reducible assumption) | omega | (simp only [World.size_alloc]; omega))))⟩
                case neg =>
                  obtain ⟨g1, g2⟩ := full_of g0
                  rw [gangB_full g0]
                  by_cases hG : nameB ga = true
                  case neg =>
                    have hG' : nameB ga = false := by simpa using hG
                    rw [hG'] at k8 ⊢
                    have HK8 := Lib.hid k8
                    clear k8 hG hG' g0
                    go_enter Tryz.func110, Tryz.ntmps110
                    go_wp2_with fail
                    refine (HK1.out _).mono ?_; rintro e w' ⟨rfl, rfl⟩
                    go_wp2_with fail
                    refine (HK2.out _).mono ?_; rintro e w' ⟨rfl, rfl⟩
                    go_wp2_with fail
                    refine (HK5.out _).mono ?_; rintro e w1 ⟨rfl, hb1⟩
                    obtain ⟨hc1, hf1⟩ := bcell hb1; have hz1 : w.heap.size < w1.heap.size := by have h := hb1.size; (try simp only [World.size_alloc] at h); omega
                    go_wp2_with fail
                    refine (HK6.out _ (hr.out.later (by (repeat' (first | (with_reducible exact Below.refl _ _) | (with_reducible refine Below.alloc ?_ ?_ _) | (with_reducible refine Below.trans ?_ (Below.mono hb1 ?_)) | (with_reducible exact Nat.le_refl _) | (with_reducible assumption) | omega | (simp only [World.size_alloc]; omega)))))).mono ?_; rintro e w2 ⟨rfl, hb2⟩
                    obtain ⟨hc2, hf2⟩ := bcell hb2; have hz2 : w.heap.size < w2.heap.size := by have h := hb2.size; (try simp only [World.size_alloc] at h); omega
                    go_wp2_with fail
                    refine (HK8.out _).mono ?_; rintro e w' ⟨rfl, rfl⟩
                    go_wp2
                    go_ret
                    exact ⟨rfl, (by (repeat' (first | (with_reducible exact Below.refl _ _) | (with_reducible refine Below.alloc ?_ ?_ _) | (with_reducible refine Below.trans ?_ (Below.mono hb2 ?_)) | (with_reducible refine Below.trans ?_ (Below.mono hb1 ?_)) | (with_reducible exact Nat.le_refl _) | (with_reducible assumption) | omega | (simp only [World.size_alloc]; omega))))⟩
                  case pos =>
                    rw [hG] at k8 ⊢
                    have HK8 := Lib.hid k8
                    clear k8 hG g0
                    by_cases s1 : 2 ≤ sz
                    case pos =>
                      rw [decide_eq_true s1]
                      go_enter Tryz.func110, Tryz.ntmps110
                      go_wp2_with fail
                      refine (HK1.out _).mono ?_; rintro e w' ⟨rfl, rfl⟩
                      go_wp2_with fail
                      refine (HK2.out _).mono ?_; rintro e w' ⟨rfl, rfl⟩
                      go_wp2_with fail
                      refine (HK5.out _).mono ?_; rintro e w1 ⟨rfl, hb1⟩
                      obtain ⟨hc1, hf1⟩ := bcell hb1; have hz1 : w.heap.size < w1.heap.size := by have h := hb1.size; (try simp only [World.size_alloc] at h); omega
                      go_wp2_with fail
                      refine (HK6.out _ (hr.out.later (by (repeat' (first | (with_reducible exact Below.refl _ _) | (with_reducible refine Below.alloc ?_ ?_ _) | (with_reducible refine Below.trans ?_ (Below.mono hb1 ?_)) | (with_reducible exact Nat.le_refl _) | (with_reducible assumption) | omega | (simp only [World.size_alloc]; omega)))))).mono ?_; rintro e w2 ⟨rfl, hb2⟩
                      obtain ⟨hc2, hf2⟩ := bcell hb2; have hz2 : w.heap.size < w2.heap.size := by have h := hb2.size; (try simp only [World.size_alloc] at h); omega
                      go_wp2_with fail
                      refine (HK8.out _).mono ?_; rintro e w' ⟨rfl, rfl⟩
                      go_wp2
                      go_ret
                      exact ⟨rfl, (by (repeat' (first | (with_reducible exact Below.refl _ _) | (with_reducible refine Below.alloc ?_ ?_ _) | (with_reducible refine Below.trans ?_ (Below.mono hb2 ?_)) | (with_reducible refine Below.trans ?_ (Below.mono hb1 ?_)) | (with_reducible exact Nat.le_refl _) | (with_reducible assumption) | omega | (simp only [World.size_alloc]; omega))))⟩
                    case neg =>
                      rw [decide_eq_false s1]
                      go_enter Tryz.func110, Tryz.ntmps110
                      go_wp2_with fail
                      refine (HK1.out _).mono ?_; rintro e w' ⟨rfl, rfl⟩
                      go_wp2_with fail
                      refine (HK2.out _).mono ?_; rintro e w' ⟨rfl, rfl⟩
                      go_wp2_with fail
                      refine (HK5.out _).mono ?_; rintro e w1 ⟨rfl, hb1⟩
                      obtain ⟨hc1, hf1⟩ := bcell hb1; have hz1 : w.heap.size < w1.heap.size := by have h := hb1.size; (try simp only [World.size_alloc] at h); omega
                      go_wp2_with fail
                      refine (HK6.out _ (hr.out.later (by (repeat' (first | (with_reducible exact Below.refl _ _) | (with_reducible refine Below.alloc ?_ ?_ _) | (with_reducible refine Below.trans ?_ (Below.mono hb1 ?_)) | (with_reducible exact Nat.le_refl _) | (with_reducible assumption) | omega | (simp only [World.size_alloc]; omega)))))).mono ?_; rintro e w2 ⟨rfl, hb2⟩
                      obtain ⟨hc2, hf2⟩ := bcell hb2; have hz2 : w.heap.size < w2.heap.size := by have h := hb2.size; (try simp only [World.size_alloc] at h); omega
                      go_wp2_with fail
                      refine (HK8.out _).mono ?_; rintro e w' ⟨rfl, rfl⟩
                      go_wp2
                      go_ret
                      exact ⟨rfl, (by (repeat' (first | (with_reducible exact Below.refl _ _) | (with_reducible refine Below.alloc ?_ ?_ _) | (with_reducible refine Below.trans ?_ (Below.mono hb2 ?_)) | (with_reducible refine Below.trans ?_ (Below.mono hb1 ?_)) | (with_reducible exact Nat.le_refl _) | (with_reducible assumption) | omega | (simp only [World.size_alloc]; omega))))⟩
              case neg =>
                obtain ⟨f1, f2⟩ := full_of a0
                rw [apartB_full a0]
                by_cases hA : nameB ap = true
                case neg =>
                  have hA' : nameB ap = false := by simpa using hA
                  rw [hA', Bool.false_and]
                  rw [hA'] at k7
                  have HK7 := Lib.hid k7
                  clear k7 k8 hA hA' a0
                  go_enter Tryz.func110, Tryz.ntmps110
                  go_wp2_with fail
                  refine (HK1.out _).mono ?_; rintro e w' ⟨rfl, rfl⟩
                  go_wp2_with fail
                  refine (HK2.out _).mono ?_; rintro e w' ⟨rfl, rfl⟩
                  go_wp2_with fail
                  refine (HK5.out _).mono ?_; rintro e w1 ⟨rfl, hb1⟩
                  obtain ⟨hc1, hf1⟩ := bcell hb1; have hz1 : w.heap.size < w1.heap.size := by have h := hb1.size; (try simp only [World.size_alloc] at h); omega
                  go_wp2_with fail
                  refine (HK6.out _ (hr.out.later (by (repeat' (first | (with_reducible exact Below.refl _ _) | (with_reducible refine Below.alloc ?_ ?_ _) | (with_reducible refine Below.trans ?_ (Below.mono hb1 ?_)) | (with_reducible exact Nat.le_refl _) | (with_reducible assumption) | omega | (simp only [World.size_alloc]; omega)))))).mono ?_; rintro e w2 ⟨rfl, hb2⟩
                  obtain ⟨hc2, hf2⟩ := bcell hb2; have hz2 : w.heap.size < w2.heap.size := by have h := hb2.size; (try simp only [World.size_alloc] at h); omega
                  go_wp2_with fail
                  refine (HK7.out _).mono ?_; rintro e w' ⟨rfl, rfl⟩
                  go_wp2
                  go_ret
                  exact ⟨rfl, (by (repeat' (first | (with_reducible exact Below.refl _ _) | (with_reducible refine Below.alloc ?_ ?_ _) | (with_reducible refine Below.trans ?_ (Below.mono hb2 ?_)) | (with_reducible refine Below.trans ?_ (Below.mono hb1 ?_)) | (with_reducible exact Nat.le_refl _) | (with_reducible assumption) | omega | (simp only [World.size_alloc]; omega))))⟩
                case pos =>
                  rw [hA, Bool.true_and]
                  rw [hA] at k7
                  have HK7 := Lib.hid k7
                  clear k7 hA a0
                  by_cases g0 : ga.size = 0
                  case pos =>
                    obtain rfl := empty_of g0
                    rw [gangB_empty]
                    clear k8 g0
                    by_cases hk : sz = 0
                    case pos =>
                      subst hk
                      go_enter Tryz.func110, Tryz.ntmps110
                      go_wp2_with fail
                      refine (HK1.out _).mono ?_; rintro e w' ⟨rfl, rfl⟩
                      go_wp2_with fail
                      refine (HK2.out _).mono ?_; rintro e w' ⟨rfl, rfl⟩
                      go_wp2_with fail
                      refine (HK5.out _).mono ?_; rintro e w1 ⟨rfl, hb1⟩
                      obtain ⟨hc1, hf1⟩ := bcell hb1; have hz1 : w.heap.size < w1.heap.size := by have h := hb1.size; (try simp only [World.size_alloc] at h); omega
                      go_wp2_with fail
                      refine (HK6.out _ (hr.out.later (by (repeat' (first | (with_reducible exact Below.refl _ _) | (with_reducible refine Below.alloc ?_ ?_ _) | (with_reducible refine Below.trans ?_ (Below.mono hb1 ?_)) | (with_reducible exact Nat.le_refl _) | (with_reducible assumption) | omega | (simp only [World.size_alloc]; omega)))))).mono ?_; rintro e w2 ⟨rfl, hb2⟩
                      obtain ⟨hc2, hf2⟩ := bcell hb2; have hz2 : w.heap.size < w2.heap.size := by have h := hb2.size; (try simp only [World.size_alloc] at h); omega
                      go_wp2_with fail
                      refine (HK7.out _).mono ?_; rintro e w' ⟨rfl, rfl⟩
                      go_wp2
                      go_ret
                      exact ⟨rfl, (by (repeat' (first | (with_reducible exact Below.refl _ _) | (with_reducible refine Below.alloc ?_ ?_ _) | (with_reducible refine Below.trans ?_ (Below.mono hb2 ?_)) | (with_reducible refine Below.trans ?_ (Below.mono hb1 ?_)) | (with_reducible exact Nat.le_refl _) | (with_reducible assumption) | omega | (simp only [World.size_alloc]; omega))))⟩
                    case neg =>
                      have hk' : (sz == 0) = false := by simpa using hk
                      rw [decide_eq_false hk]
                      clear hk
                      go_enter Tryz.func110, Tryz.ntmps110
                      go_wp2_with fail
                      refine (HK1.out _).mono ?_; rintro e w' ⟨rfl, rfl⟩
                      go_wp2_with fail
                      refine (HK2.out _).mono ?_; rintro e w' ⟨rfl, rfl⟩
                      go_wp2_with fail
                      refine (HK5.out _).mono ?_; rintro e w1 ⟨rfl, hb1⟩
                      obtain ⟨hc1, hf1⟩ := bcell hb1; have hz1 : w.heap.size < w1.heap.size := by have h := hb1.size; (try simp only [World.size_alloc] at h); omega
                      go_wp2_with fail
                      refine (HK6.out _ (hr.out.later (by (repeat' (first | (with_reducible exact Below.refl _ _) | (with_reducible refine Below.alloc ?_ ?_ _) | (with_reducible refine Below.trans ?_ (Below.mono hb1 ?_)) | (with_reducible exact Nat.le_refl _) | (with_reducible assumption) | omega | (simp only [World.size_alloc]; omega)))))).mono ?_; rintro e w2 ⟨rfl, hb2⟩
                      obtain ⟨hc2, hf2⟩ := bcell hb2; have hz2 : w.heap.size < w2.heap.size := by have h := hb2.size; (try simp only [World.size_alloc] at h); omega
                      go_wp2_with fail
                      refine (HK7.out _).mono ?_; rintro e w' ⟨rfl, rfl⟩
                      go_wp2
                      go_ret
                      exact ⟨rfl, (by (repeat' (first | (with_reducible exact Below.refl _ _) | (with_reducible refine Below.alloc ?_ ?_ _) | (with_reducible refine Below.trans ?_ (Below.mono hb2 ?_)) | (with_reducible refine Below.trans ?_ (Below.mono hb1 ?_)) | (with_reducible exact Nat.le_refl _) | (with_reducible assumption) | omega | (simp only [World.size_alloc]; omega))))⟩
                  case neg =>
                    obtain ⟨g1, g2⟩ := full_of g0
                    rw [gangB_full g0]
                    by_cases hG : nameB ga = true
                    case neg =>
                      have hG' : nameB ga = false := by simpa using hG
                      rw [hG'] at k8 ⊢
                      have HK8 := Lib.hid k8
                      clear k8 hG hG' g0
                      go_enter Tryz.func110, Tryz.ntmps110
                      go_wp2_with fail
                      refine (HK1.out _).mono ?_; rintro e w' ⟨rfl, rfl⟩
                      go_wp2_with fail
                      refine (HK2.out _).mono ?_; rintro e w' ⟨rfl, rfl⟩
                      go_wp2_with fail
                      refine (HK5.out _).mono ?_; rintro e w1 ⟨rfl, hb1⟩
                      obtain ⟨hc1, hf1⟩ := bcell hb1; have hz1 : w.heap.size < w1.heap.size := by have h := hb1.size; (try simp only [World.size_alloc] at h); omega
                      go_wp2_with fail
                      refine (HK6.out _ (hr.out.later (by (repeat' (first | (with_reducible exact Below.refl _ _) | (with_reducible refine Below.alloc ?_ ?_ _) | (with_reducible refine Below.trans ?_ (Below.mono hb1 ?_)) | (with_reducible exact Nat.le_refl _) | (with_reducible assumption) | omega | (simp only [World.size_alloc]; omega)))))).mono ?_; rintro e w2 ⟨rfl, hb2⟩
                      obtain ⟨hc2, hf2⟩ := bcell hb2; have hz2 : w.heap.size < w2.heap.size := by have h := hb2.size; (try simp only [World.size_alloc] at h); omega
                      go_wp2_with fail
                      refine (HK7.out _).mono ?_; rintro e w' ⟨rfl, rfl⟩
                      go_wp2_with fail
                      refine (HK8.out _).mono ?_; rintro e w' ⟨rfl, rfl⟩
                      go_wp2
                      go_ret
                      exact ⟨rfl, (by (repeat' (first | (with_reducible exact Below.refl _ _) | (with_reducible refine Below.alloc ?_ ?_ _) | (with_reducible refine Below.trans ?_ (Below.mono hb2 ?_)) | (with_reducible refine Below.trans ?_ (Below.mono hb1 ?_)) | (with_reducible exact Nat.le_refl _) | (with_reducible assumption) | omega | (simp only [World.size_alloc]; omega))))⟩
                    case pos =>
                      rw [hG] at k8 ⊢
                      have HK8 := Lib.hid k8
                      clear k8 hG g0
                      by_cases s1 : 2 ≤ sz
                      case pos =>
                        rw [decide_eq_true s1]
                        go_enter Tryz.func110, Tryz.ntmps110
                        go_wp2_with fail
                        refine (HK1.out _).mono ?_; rintro e w' ⟨rfl, rfl⟩
                        go_wp2_with fail
                        refine (HK2.out _).mono ?_; rintro e w' ⟨rfl, rfl⟩
                        go_wp2_with fail
                        refine (HK5.out _).mono ?_; rintro e w1 ⟨rfl, hb1⟩
                        obtain ⟨hc1, hf1⟩ := bcell hb1; have hz1 : w.heap.size < w1.heap.size := by have h := hb1.size; (try simp only [World.size_alloc] at h); omega
                        go_wp2_with fail
                        refine (HK6.out _ (hr.out.later (by (repeat' (first | (with_reducible exact Below.refl _ _) | (with_reducible refine Below.alloc ?_ ?_ _) | (with_reducible refine Below.trans ?_ (Below.mono hb1 ?_)) | (with_reducible exact Nat.le_refl _) | (with_reducible assumption) | omega | (simp only [World.size_alloc]; omega)))))).mono ?_; rintro e w2 ⟨rfl, hb2⟩
                        obtain ⟨hc2, hf2⟩ := bcell hb2; have hz2 : w.heap.size < w2.heap.size := by have h := hb2.size; (try simp only [World.size_alloc] at h); omega
                        go_wp2_with fail
                        refine (HK7.out _).mono ?_; rintro e w' ⟨rfl, rfl⟩
                        go_wp2_with fail
                        refine (HK8.out _).mono ?_; rintro e w' ⟨rfl, rfl⟩
                        go_wp2
                        go_ret
                        exact ⟨rfl, (by (repeat' (first | (with_reducible exact Below.refl _ _) | (with_reducible refine Below.alloc ?_ ?_ _) | (with_reducible refine Below.trans ?_ (Below.mono hb2 ?_)) | (with_reducible refine Below.trans ?_ (Below.mono hb1 ?_)) | (with_reducible exact Nat.le_refl _) | (with_reducible assumption) | omega | (simp only [World.size_alloc]; omega))))⟩
                      case neg =>
                        rw [decide_eq_false s1]
                        go_enter Tryz.func110, Tryz.ntmps110
                        go_wp2_with fail
                        refine (HK1.out _).mono ?_; rintro e w' ⟨rfl, rfl⟩
                        go_wp2_with fail
                        refine (HK2.out _).mono ?_; rintro e w' ⟨rfl, rfl⟩
                        go_wp2_with fail
                        refine (HK5.out _).mono ?_; rintro e w1 ⟨rfl, hb1⟩
                        obtain ⟨hc1, hf1⟩ := bcell hb1; have hz1 : w.heap.size < w1.heap.size := by have h := hb1.size; (try simp only [World.size_alloc] at h); omega
                        go_wp2_with fail
                        refine (HK6.out _ (hr.out.later (by (repeat' (first | (with_reducible exact Below.refl _ _) | (with_reducible refine Below.alloc ?_ ?_ _) | (with_reducible refine Below.trans ?_ (Below.mono hb1 ?_)) | (with_reducible exact Nat.le_refl _) | (with_reducible assumption) | omega | (simp only [World.size_alloc]; omega)))))).mono ?_; rintro e w2 ⟨rfl, hb2⟩
                        obtain ⟨hc2, hf2⟩ := bcell hb2; have hz2 : w.heap.size < w2.heap.size := by have h := hb2.size; (try simp only [World.size_alloc] at h); omega
                        go_wp2_with fail
                        refine (HK7.out _).mono ?_; rintro e w' ⟨rfl, rfl⟩
                        go_wp2_with fail
                        refine (HK8.out _).mono ?_; rintro e w' ⟨rfl, rfl⟩
                        go_wp2
                        go_ret
                        exact ⟨rfl, (by (repeat' (first | (with_reducible exact Below.refl _ _) | (with_reducible refine Below.alloc ?_ ?_ _) | (with_reducible refine Below.trans ?_ (Below.mono hb2 ?_)) | (with_reducible refine Below.trans ?_ (Below.mono hb1 ?_)) | (with_reducible exact Nat.le_refl _) | (with_reducible assumption) | omega | (simp only [World.size_alloc]; omega))))⟩
end Go.Proofs.YtjgojgmgicpgaaaGreat
