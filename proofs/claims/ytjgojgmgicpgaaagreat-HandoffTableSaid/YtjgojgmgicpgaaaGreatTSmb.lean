/- Are nodes, queues, tasks alike: the contracts of the document's SameNode and SameTask, at whatever values; == and != of two queues. Condition: the slices are ones that Go can have. -/
import Derived.Test.YtjgojgmgicpgaaaGreatTVr
import Derived.Test.YtjgojgmgicpgaaaGreatTQ03
import Derived.Laws.StructEq
namespace Go.Proofs.YtjgojgmgicpgaaaGreat
open Go.RowKit
set_option linter.unusedSimpArgs false
set_option linter.unusedVariables false

theorem sE_on {a b : ByteArray} (h : sE a b = true) : a.toList = b.toList := by rw [sE_iff.1 h]
theorem sE_off {a b : ByteArray} (h : sE a b = false) : (a.toList == b.toList) = false := h
/-- Are nodes, tasks alike? -/
def sameNodeB (nm : ByteArray) (a b c : Int) (l : List Lb) (nm' : ByteArray) (a' b' c' : Int) (l' : List Lb) : Bool := sE nm nm' && eq3 a b c a' b' c' && sameB l l'
def sameTaskB (nm qu : ByteArray) (pr a b c : Int) (l : List Lb) (ap ga : ByteArray) (sz : Int) (nm' qu' : ByteArray) (pr' a' b' c' : Int) (l' : List Lb) (ap' ga' : ByteArray) (sz' : Int) : Bool :=
  sE nm nm' && sE qu qu' && (pr == pr') && eq3 a b c a' b' c' && sameB l l' && sE ap ap' && sE ga ga' && (sz == sz')

set_option maxHeartbeats 3200000 in
set_option maxRecDepth 100000 in
theorem sameNode_any (nm : ByteArray) (a b c : Int) (A : Option Addr) (n cp : Nat) (l : List Lb) (nm' : ByteArray) (a' b' c' : Int) (B : Option Addr) (m dp : Nat) (l' : List Lb) (w : World) (hn : Hid (n = l.length)) (hr : Hid (RdL w A l)) (hc : n ≤ cp) (hc2 : cp ≤ 9223372036854775807) (hm : Hid (m = l'.length)) (hq : Hid (RdL w B l')) (hd : m ≤ dp) (hd2 : dp ≤ 9223372036854775807) : Calls Tryz.prog 60 #[.agg #[.string nm, .int .i64 a, .int .i64 b, .int .i64 c, .slice A n cp], .agg #[.string nm', .int .i64 a', .int .i64 b', .int .i64 c', .slice B m dp]] w fun e w' => e = .returned (.bool (sameNodeB nm a b c l nm' a' b' c' l')) ∧ Below w.heap.size w w' := by
  have ks := fun W (h : RdL W A l) (g : RdL W B l') => same_any A B n cp m dp l l' W hn hm (Lib.hid h) (Lib.hid g) hc hc2 hd hd2
  by_cases k0 : sE nm nm' = true
  case neg =>
    have k0x : sE nm nm' = false := by simpa using k0
    have hres : sameNodeB nm a b c l nm' a' b' c' l' = false := by unfold sameNodeB; rw [k0x]; simp
    rw [hres]
    have e0 := sE_off k0x
    clear hres k0 k0x ks
    go_enter Tryz.func60, Tryz.ntmps60
    go_wp2
    go_ret
    exact ⟨rfl, (by (repeat' (first | (with_reducible exact Below.refl _ _) | (with_reducible refine Below.alloc ?_ ?_ _) | (with_reducible exact Nat.le_refl _) | (with_reducible assumption) | omega | (simp only [World.size_alloc]; omega))))⟩
  case pos =>
    by_cases k1 : eq3 a b c a' b' c' = true
    case neg =>
      have k1x : eq3 a b c a' b' c' = false := by simpa using k1
      have hres : sameNodeB nm a b c l nm' a' b' c' l' = false := by unfold sameNodeB; rw [k1x]; simp
      rw [hres]
      have e0 := sE_on k0
      clear hres k1 k0 ks
      go_enter Tryz.func60, Tryz.ntmps60
      go_wp2
      go_ret
      exact ⟨rfl, (by (repeat' (first | (with_reducible exact Below.refl _ _) | (with_reducible refine Below.alloc ?_ ?_ _) | (with_reducible exact Nat.le_refl _) | (with_reducible assumption) | omega | (simp only [World.size_alloc]; omega))))⟩
    case pos =>
      by_cases k2 : sameB l l' = true
      case neg =>
        have k2x : sameB l l' = false := by simpa using k2
        have hres : sameNodeB nm a b c l nm' a' b' c' l' = false := by unfold sameNodeB; rw [k2x]; simp
        rw [hres]
        have e0 := sE_on k0
        rw [k2x] at ks
        have HS := Lib.hid ks
        clear hres k2 k0 k2x ks
        go_enter Tryz.func60, Tryz.ntmps60
        go_wp2_with fail
        refine (HS.out _ (hr.out.later (by (repeat' (first | (with_reducible exact Below.refl _ _) | (with_reducible refine Below.alloc ?_ ?_ _) | (with_reducible exact Nat.le_refl _) | (with_reducible assumption) | omega | (simp only [World.size_alloc]; omega))))) (hq.out.later (by (repeat' (first | (with_reducible exact Below.refl _ _) | (with_reducible refine Below.alloc ?_ ?_ _) | (with_reducible exact Nat.le_refl _) | (with_reducible assumption) | omega | (simp only [World.size_alloc]; omega)))))).mono ?_; rintro e w1 ⟨rfl, hb1⟩
        obtain ⟨hc1, hf1⟩ := bcell hb1; have hz1 : w.heap.size < w1.heap.size := by have h := hb1.size; (simp only [World.size_alloc] at h); omega
        have hz2 : w.heap.size + 1 < w1.heap.size := by have h := hb1.size; (simp only [World.size_alloc] at h); omega
        go_wp2
        go_ret
        exact ⟨rfl, (by (repeat' (first | (with_reducible exact Below.refl _ _) | (with_reducible refine Below.alloc ?_ ?_ _) | (with_reducible refine Below.trans ?_ (Below.mono hb1 ?_)) | (with_reducible exact Nat.le_refl _) | (with_reducible assumption) | omega | (simp only [World.size_alloc]; omega))))⟩
      case pos =>
        rw [k2] at ks
        have hres : sameNodeB nm a b c l nm' a' b' c' l' = true := by unfold sameNodeB; rw [k0, k1, k2]; rfl
        rw [hres]
        have HS := Lib.hid ks
        have e0 := sE_on k0
        clear hres ks k0 k2
        go_enter Tryz.func60, Tryz.ntmps60
        go_wp2_with fail
        refine (HS.out _ (hr.out.later (by (repeat' (first | (with_reducible exact Below.refl _ _) | (with_reducible refine Below.alloc ?_ ?_ _) | (with_reducible exact Nat.le_refl _) | (with_reducible assumption) | omega | (simp only [World.size_alloc]; omega))))) (hq.out.later (by (repeat' (first | (with_reducible exact Below.refl _ _) | (with_reducible refine Below.alloc ?_ ?_ _) | (with_reducible exact Nat.le_refl _) | (with_reducible assumption) | omega | (simp only [World.size_alloc]; omega)))))).mono ?_; rintro e w1 ⟨rfl, hb1⟩
        obtain ⟨hc1, hf1⟩ := bcell hb1; have hz1 : w.heap.size < w1.heap.size := by have h := hb1.size; (simp only [World.size_alloc] at h); omega
        have hz2 : w.heap.size + 1 < w1.heap.size := by have h := hb1.size; (simp only [World.size_alloc] at h); omega
        go_wp2
        go_ret
        exact ⟨rfl, (by (repeat' (first | (with_reducible exact Below.refl _ _) | (with_reducible refine Below.alloc ?_ ?_ _) | (with_reducible refine Below.trans ?_ (Below.mono hb1 ?_)) | (with_reducible exact Nat.le_refl _) | (with_reducible assumption) | omega | (simp only [World.size_alloc]; omega))))⟩

set_option maxHeartbeats 3200000 in
set_option maxRecDepth 100000 in
theorem sameTask_any (nm qu : ByteArray) (pr a b c : Int) (A : Option Addr) (n cp : Nat) (l : List Lb) (ap ga : ByteArray) (sz : Int) (nm' qu' : ByteArray) (pr' a' b' c' : Int) (B : Option Addr) (m dp : Nat) (l' : List Lb) (ap' ga' : ByteArray) (sz' : Int) (w : World) (hn : Hid (n = l.length)) (hr : Hid (RdL w A l)) (hc : n ≤ cp) (hc2 : cp ≤ 9223372036854775807) (hm : Hid (m = l'.length)) (hq : Hid (RdL w B l')) (hd : m ≤ dp) (hd2 : dp ≤ 9223372036854775807) : Calls Tryz.prog 61 #[.agg #[.string nm, .string qu, .int .i64 pr, .int .i64 a, .int .i64 b, .int .i64 c, .slice A n cp, .string ap, .string ga, .int .i64 sz], .agg #[.string nm', .string qu', .int .i64 pr', .int .i64 a', .int .i64 b', .int .i64 c', .slice B m dp, .string ap', .string ga', .int .i64 sz']] w fun e w' => e = .returned (.bool (sameTaskB nm qu pr a b c l ap ga sz nm' qu' pr' a' b' c' l' ap' ga' sz')) ∧ Below w.heap.size w w' := by
  have ks := fun W (h : RdL W A l) (g : RdL W B l') => same_any A B n cp m dp l l' W hn hm (Lib.hid h) (Lib.hid g) hc hc2 hd hd2
  by_cases k0 : sE nm nm' = true
  case neg =>
    have k0x : sE nm nm' = false := by simpa using k0
    have hres : sameTaskB nm qu pr a b c l ap ga sz nm' qu' pr' a' b' c' l' ap' ga' sz' = false := by unfold sameTaskB; rw [k0x]; simp
    rw [hres]
    have e0 := sE_off k0x
    clear hres k0 k0x ks
    go_enter Tryz.func61, Tryz.ntmps61
    go_wp2
    go_ret
    exact ⟨rfl, (by (repeat' (first | (with_reducible exact Below.refl _ _) | (with_reducible refine Below.alloc ?_ ?_ _) | (with_reducible exact Nat.le_refl _) | (with_reducible assumption) | omega | (simp only [World.size_alloc]; omega))))⟩
  case pos =>
    by_cases k1 : sE qu qu' = true
    case neg =>
      have k1x : sE qu qu' = false := by simpa using k1
      have hres : sameTaskB nm qu pr a b c l ap ga sz nm' qu' pr' a' b' c' l' ap' ga' sz' = false := by unfold sameTaskB; rw [k1x]; simp
      rw [hres]
      have e0 := sE_on k0
      have e1 := sE_off k1x
      clear hres k1 k0 k1x ks
      go_enter Tryz.func61, Tryz.ntmps61
      go_wp2
      go_ret
      exact ⟨rfl, (by (repeat' (first | (with_reducible exact Below.refl _ _) | (with_reducible refine Below.alloc ?_ ?_ _) | (with_reducible exact Nat.le_refl _) | (with_reducible assumption) | omega | (simp only [World.size_alloc]; omega))))⟩
    case pos =>
      by_cases k2 : (pr == pr') = true
      case neg =>
        have k2x : (pr == pr') = false := by simpa using k2
        have hres : sameTaskB nm qu pr a b c l ap ga sz nm' qu' pr' a' b' c' l' ap' ga' sz' = false := by unfold sameTaskB; rw [k2x]; simp
        rw [hres]
        have e0 := sE_on k0
        have e1 := sE_on k1
        clear hres k2 k0 k1 ks
        go_enter Tryz.func61, Tryz.ntmps61
        go_wp2
        go_ret
        exact ⟨rfl, (by (repeat' (first | (with_reducible exact Below.refl _ _) | (with_reducible refine Below.alloc ?_ ?_ _) | (with_reducible exact Nat.le_refl _) | (with_reducible assumption) | omega | (simp only [World.size_alloc]; omega))))⟩
      case pos =>
        by_cases k3 : eq3 a b c a' b' c' = true
        case neg =>
          have k3x : eq3 a b c a' b' c' = false := by simpa using k3
          have hres : sameTaskB nm qu pr a b c l ap ga sz nm' qu' pr' a' b' c' l' ap' ga' sz' = false := by unfold sameTaskB; rw [k3x]; simp
          rw [hres]
          have e0 := sE_on k0
          have e1 := sE_on k1
          clear hres k3 k0 k1 ks
          go_enter Tryz.func61, Tryz.ntmps61
          go_wp2
          go_ret
          exact ⟨rfl, (by (repeat' (first | (with_reducible exact Below.refl _ _) | (with_reducible refine Below.alloc ?_ ?_ _) | (with_reducible exact Nat.le_refl _) | (with_reducible assumption) | omega | (simp only [World.size_alloc]; omega))))⟩
        case pos =>
          by_cases k4 : sameB l l' = true
          case neg =>
            have k4x : sameB l l' = false := by simpa using k4
            have hres : sameTaskB nm qu pr a b c l ap ga sz nm' qu' pr' a' b' c' l' ap' ga' sz' = false := by unfold sameTaskB; rw [k4x]; simp
            rw [hres]
            have e0 := sE_on k0
            have e1 := sE_on k1
            rw [k4x] at ks
            have HS := Lib.hid ks
            clear hres k4 k0 k1 k4x ks
            go_enter Tryz.func61, Tryz.ntmps61
            go_wp2_with fail
            refine (HS.out _ (hr.out.later (by (repeat' (first | (with_reducible exact Below.refl _ _) | (with_reducible refine Below.alloc ?_ ?_ _) | (with_reducible exact Nat.le_refl _) | (with_reducible assumption) | omega | (simp only [World.size_alloc]; omega))))) (hq.out.later (by (repeat' (first | (with_reducible exact Below.refl _ _) | (with_reducible refine Below.alloc ?_ ?_ _) | (with_reducible exact Nat.le_refl _) | (with_reducible assumption) | omega | (simp only [World.size_alloc]; omega)))))).mono ?_; rintro e w1 ⟨rfl, hb1⟩
            obtain ⟨hc1, hf1⟩ := bcell hb1; have hz1 : w.heap.size < w1.heap.size := by have h := hb1.size; (simp only [World.size_alloc] at h); omega
            have hz2 : w.heap.size + 1 < w1.heap.size := by have h := hb1.size; (simp only [World.size_alloc] at h); omega
            go_wp2
            go_ret
            exact ⟨rfl, (by (repeat' (first | (with_reducible exact Below.refl _ _) | (with_reducible refine Below.alloc ?_ ?_ _) | (with_reducible refine Below.trans ?_ (Below.mono hb1 ?_)) | (with_reducible exact Nat.le_refl _) | (with_reducible assumption) | omega | (simp only [World.size_alloc]; omega))))⟩
          case pos =>
            rw [k4] at ks
            by_cases k5 : sE ap ap' = true
            case neg =>
              have k5x : sE ap ap' = false := by simpa using k5
              have hres : sameTaskB nm qu pr a b c l ap ga sz nm' qu' pr' a' b' c' l' ap' ga' sz' = false := by unfold sameTaskB; rw [k5x]; simp
              rw [hres]
              have e0 := sE_on k0
              have e1 := sE_on k1
              have e5 := sE_off k5x
              have HS := Lib.hid ks
              clear hres k5 k0 k1 k4 k5x ks
              go_enter Tryz.func61, Tryz.ntmps61
              go_wp2_with fail
              refine (HS.out _ (hr.out.later (by (repeat' (first | (with_reducible exact Below.refl _ _) | (with_reducible refine Below.alloc ?_ ?_ _) | (with_reducible exact Nat.le_refl _) | (with_reducible assumption) | omega | (simp only [World.size_alloc]; omega))))) (hq.out.later (by (repeat' (first | (with_reducible exact Below.refl _ _) | (with_reducible refine Below.alloc ?_ ?_ _) | (with_reducible exact Nat.le_refl _) | (with_reducible assumption) | omega | (simp only [World.size_alloc]; omega)))))).mono ?_; rintro e w1 ⟨rfl, hb1⟩
              obtain ⟨hc1, hf1⟩ := bcell hb1; have hz1 : w.heap.size < w1.heap.size := by have h := hb1.size; (simp only [World.size_alloc] at h); omega
              have hz2 : w.heap.size + 1 < w1.heap.size := by have h := hb1.size; (simp only [World.size_alloc] at h); omega
              go_wp2
              go_ret
              exact ⟨rfl, (by (repeat' (first | (with_reducible exact Below.refl _ _) | (with_reducible refine Below.alloc ?_ ?_ _) | (with_reducible refine Below.trans ?_ (Below.mono hb1 ?_)) | (with_reducible exact Nat.le_refl _) | (with_reducible assumption) | omega | (simp only [World.size_alloc]; omega))))⟩
            case pos =>
              by_cases k6 : sE ga ga' = true
              case neg =>
                have k6x : sE ga ga' = false := by simpa using k6
                have hres : sameTaskB nm qu pr a b c l ap ga sz nm' qu' pr' a' b' c' l' ap' ga' sz' = false := by unfold sameTaskB; rw [k6x]; simp
                rw [hres]
                have e0 := sE_on k0
                have e1 := sE_on k1
                have e5 := sE_on k5
                have e6 := sE_off k6x
                have HS := Lib.hid ks
                clear hres k6 k0 k1 k4 k5 k6x ks
                go_enter Tryz.func61, Tryz.ntmps61
                go_wp2_with fail
                refine (HS.out _ (hr.out.later (by (repeat' (first | (with_reducible exact Below.refl _ _) | (with_reducible refine Below.alloc ?_ ?_ _) | (with_reducible exact Nat.le_refl _) | (with_reducible assumption) | omega | (simp only [World.size_alloc]; omega))))) (hq.out.later (by (repeat' (first | (with_reducible exact Below.refl _ _) | (with_reducible refine Below.alloc ?_ ?_ _) | (with_reducible exact Nat.le_refl _) | (with_reducible assumption) | omega | (simp only [World.size_alloc]; omega)))))).mono ?_; rintro e w1 ⟨rfl, hb1⟩
                obtain ⟨hc1, hf1⟩ := bcell hb1; have hz1 : w.heap.size < w1.heap.size := by have h := hb1.size; (simp only [World.size_alloc] at h); omega
                have hz2 : w.heap.size + 1 < w1.heap.size := by have h := hb1.size; (simp only [World.size_alloc] at h); omega
                go_wp2
                go_ret
                exact ⟨rfl, (by (repeat' (first | (with_reducible exact Below.refl _ _) | (with_reducible refine Below.alloc ?_ ?_ _) | (with_reducible refine Below.trans ?_ (Below.mono hb1 ?_)) | (with_reducible exact Nat.le_refl _) | (with_reducible assumption) | omega | (simp only [World.size_alloc]; omega))))⟩
              case pos =>
                by_cases k7 : (sz == sz') = true
                case neg =>
                  have k7x : (sz == sz') = false := by simpa using k7
                  have hres : sameTaskB nm qu pr a b c l ap ga sz nm' qu' pr' a' b' c' l' ap' ga' sz' = false := by unfold sameTaskB; rw [k7x]; simp
                  rw [hres]
                  have e0 := sE_on k0
                  have e1 := sE_on k1
                  have e5 := sE_on k5
                  have e6 := sE_on k6
                  have HS := Lib.hid ks
                  clear hres k7 k0 k1 k4 k5 k6 ks
                  go_enter Tryz.func61, Tryz.ntmps61
                  go_wp2_with fail
                  refine (HS.out _ (hr.out.later (by (repeat' (first | (with_reducible exact Below.refl _ _) | (with_reducible refine Below.alloc ?_ ?_ _) | (with_reducible exact Nat.le_refl _) | (with_reducible assumption) | omega | (simp only [World.size_alloc]; omega))))) (hq.out.later (by (repeat' (first | (with_reducible exact Below.refl _ _) | (with_reducible refine Below.alloc ?_ ?_ _) | (with_reducible exact Nat.le_refl _) | (with_reducible assumption) | omega | (simp only [World.size_alloc]; omega)))))).mono ?_; rintro e w1 ⟨rfl, hb1⟩
                  obtain ⟨hc1, hf1⟩ := bcell hb1; have hz1 : w.heap.size < w1.heap.size := by have h := hb1.size; (simp only [World.size_alloc] at h); omega
                  have hz2 : w.heap.size + 1 < w1.heap.size := by have h := hb1.size; (simp only [World.size_alloc] at h); omega
                  go_wp2
                  go_ret
                  exact ⟨rfl, (by (repeat' (first | (with_reducible exact Below.refl _ _) | (with_reducible refine Below.alloc ?_ ?_ _) | (with_reducible refine Below.trans ?_ (Below.mono hb1 ?_)) | (with_reducible exact Nat.le_refl _) | (with_reducible assumption) | omega | (simp only [World.size_alloc]; omega))))⟩
                case pos =>
                  have hres : sameTaskB nm qu pr a b c l ap ga sz nm' qu' pr' a' b' c' l' ap' ga' sz' = true := by unfold sameTaskB; rw [k0, k1, k2, k3, k4, k5, k6, k7]; rfl
                  rw [hres]
                  have HS := Lib.hid ks
                  have e0 := sE_on k0
                  have e1 := sE_on k1
                  have e5 := sE_on k5
                  have e6 := sE_on k6
                  clear hres ks k0 k1 k4 k5 k6
                  go_enter Tryz.func61, Tryz.ntmps61
                  go_wp2_with fail
                  refine (HS.out _ (hr.out.later (by (repeat' (first | (with_reducible exact Below.refl _ _) | (with_reducible refine Below.alloc ?_ ?_ _) | (with_reducible exact Nat.le_refl _) | (with_reducible assumption) | omega | (simp only [World.size_alloc]; omega))))) (hq.out.later (by (repeat' (first | (with_reducible exact Below.refl _ _) | (with_reducible refine Below.alloc ?_ ?_ _) | (with_reducible exact Nat.le_refl _) | (with_reducible assumption) | omega | (simp only [World.size_alloc]; omega)))))).mono ?_; rintro e w1 ⟨rfl, hb1⟩
                  obtain ⟨hc1, hf1⟩ := bcell hb1; have hz1 : w.heap.size < w1.heap.size := by have h := hb1.size; (simp only [World.size_alloc] at h); omega
                  have hz2 : w.heap.size + 1 < w1.heap.size := by have h := hb1.size; (simp only [World.size_alloc] at h); omega
                  go_wp2
                  go_ret
                  exact ⟨rfl, (by (repeat' (first | (with_reducible exact Below.refl _ _) | (with_reducible refine Below.alloc ?_ ?_ _) | (with_reducible refine Below.trans ?_ (Below.mono hb1 ?_)) | (with_reducible exact Nat.le_refl _) | (with_reducible assumption) | omega | (simp only [World.size_alloc]; omega))))⟩

/-! ### Two queues, by == and != -/
theorem eq3_in (d : Nat) (a b c a' b' c' : Int) (w : World) : (Op.equalIn (d + 2) 50 (.agg #[.int .i64 a, .int .i64 b, .int .i64 c]) (.agg #[.int .i64 a', .int .i64 b', .int .i64 c'])).run Tryz.prog w = .ok (eq3 a b c a' b' c') w := by
  have u3 := Tryz.underlying3
  have a3 := Tryz.isAgg3
  have z3 := Tryz.sizeOf3
  rw [Op.equalIn]
  simp only [Sem.run_bind, run_underlying Tryz.underlying50, Result.andThen_ok]
  simp only [Std.Legacy.Range.forIn_eq_forIn_range', Std.Legacy.Range.size, Nat.sub_zero, Nat.add_sub_cancel, Nat.div_one, List.range'_succ, List.range'_zero, List.forIn_cons, List.forIn_nil]
  go_simp
  by_cases h1 : a = a' <;> by_cases h2 : b = b' <;> by_cases h3 : c = c' <;> simp [h1, h2, h3, eq3]
theorem eq_queue_in (s s' : ByteArray) (a b c a' b' c' : Int) (w : World) : (Op.equalIn 10000 55 (.agg #[.string s, .int .i64 a, .int .i64 b, .int .i64 c]) (.agg #[.string s', .int .i64 a', .int .i64 b', .int .i64 c'])).run Tryz.prog w = .ok (sE s s' && eq3 a b c a' b' c') w := by
  have h := eq3_in 9997 a b c a' b' c'
  have u9 := Tryz.underlying9
  rw [show (10000 : Nat) = 9999 + 1 from rfl, run_equalIn_agg w 9999 _ _ _ (by kernel_rfl) (by kernel_rfl)]
  have hf : Tryz.prog.fieldsOf 55 = #[{ name := "Name", type := 9, offset := 0, embedded := false, tag := "", pkgPath := "", byteOffset := 0 }, { name := "Quota", type := 50, offset := 1, embedded := false, tag := "", pkgPath := "", byteOffset := 16 }] := by kernel_rfl
  rw [hf]
  by_cases k : sE s s' = true
  · have e := sE_on k
    rw [k, Bool.true_and]
    generalize eq3 a b c a' b' c' = r at h ⊢
    cases r <;> go_simp
  · have k' : sE s s' = false := by simpa using k
    have e := sE_off k'
    rw [k', Bool.false_and]
    go_simp
theorem neq_queue_any (s s' : ByteArray) (a b c a' b' c' : Int) (w : World) : (binOp .neq 55 (.agg #[.string s, .int .i64 a, .int .i64 b, .int .i64 c]) (.agg #[.string s', .int .i64 a', .int .i64 b', .int .i64 c'])).run Tryz.prog w = .ok (.bool (!(sE s s' && eq3 a b c a' b' c'))) w := by
  rw [run_neq_struct, eq_queue_in]; rfl
theorem eql_queue_any (s s' : ByteArray) (a b c a' b' c' : Int) (w : World) : (binOp .eql 55 (.agg #[.string s, .int .i64 a, .int .i64 b, .int .i64 c]) (.agg #[.string s', .int .i64 a', .int .i64 b', .int .i64 c'])).run Tryz.prog w = .ok (.bool (sE s s' && eq3 a b c a' b' c')) w := by
  rw [run_eql_struct, eq_queue_in]; rfl
end Go.Proofs.YtjgojgmgicpgaaaGreat
