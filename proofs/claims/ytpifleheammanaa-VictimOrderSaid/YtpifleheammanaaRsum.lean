/- The contract of Sum, the document's own. Condition: the slice reads as a list of vectors. -/
import Derived.Test.YtpifleheammanaaSm
import Derived.Test.YtpifleheammanaaRv2
import Derived.Deep.RegionHeld3
import Derived.Deep.DeepCutAuto
namespace Go.Proofs.Ytpifleheammanaa
open Go.RowKit
set_option linter.unusedSimpArgs false
set_option linter.unusedVariables false
set_option maxHeartbeats 1600000 in
theorem rsum_any (A : Option Addr) (n cap : Nat) (l : List (Int × Int × Int)) (w : World) (hn : Hid (n = l.length)) (hl : n ≤ 9223372036854775807) (hA : Hid (RdV w A l)) (x y z v : Int) (hs : Hid (sm 0 0 0 l = (x, y, z, v))) :
    Calls Try.prog 54 #[.slice A n cap] w fun r w' => r = .returned (.tuple #[.agg #[.int .i64 x, .int .i64 y, .int .i64 z], .int .i64 v]) ∧ Below w.heap.size w w' := by
  go_enter Try.func54, Try.ntmps54
  go_wp2_with fail
  go_outline
  go_loopw [11] (fun i wr => ∃ (k : Nat) (p q r : Int), k ≤ n ∧ i = .int .i64 k ∧ sm p q r (l.drop k) = (x, y, z, v) ∧ Below w.heap.size w wr ∧ w.heap.size + 1 < wr.heap.size ∧
      wr.cell? ⟨w.heap.size + 1, 0, none⟩ = some (.int .i64 p) ∧ wr.cell? ⟨w.heap.size + 1, 1, none⟩ = some (.int .i64 q) ∧ wr.cell? ⟨w.heap.size + 1, 2, none⟩ = some (.int .i64 r) ∧
      wr.frozen? ⟨w.heap.size + 1, 0, none⟩ = false ∧ wr.frozen? ⟨w.heap.size + 1, 1, none⟩ = false ∧ wr.frozen? ⟨w.heap.size + 1, 2, none⟩ = false ∧
      (∃ o0 o1 o2, wr.cell? ⟨w.heap.size, 0, none⟩ = some o0 ∧ wr.cell? ⟨w.heap.size, 1, none⟩ = some o1 ∧ wr.cell? ⟨w.heap.size, 2, none⟩ = some o2) ∧
      wr.frozen? ⟨w.heap.size, 0, none⟩ = false ∧ wr.frozen? ⟨w.heap.size, 1, none⟩ = false ∧ wr.frozen? ⟨w.heap.size, 2, none⟩ = false) (fun i _ => n - (intOf i).toNat)
  case atStart =>
    exact ⟨0, 0, 0, 0, Nat.zero_le _, rfl, by simpa using hs.out, by go_grown, by simp, by simp, by simp, by simp, by simp, by simp, by simp, ⟨_, _, _, by simp; rfl, by simp; rfl, by simp; rfl⟩, by simp, by simp, by simp⟩
  case round =>
    obtain ⟨k, p, q, r, hk, rfl, hsm, hb1, hz, k10, k11, k12, m10, m11, m12, ⟨o0, o1, o2, k00, k01, k02⟩, m00, m01, m02⟩ := hrel
    have HS := Lib.hid hsm; clear hsm
    by_cases hlt : k < n
    · obtain ⟨t, ht⟩ : ∃ t, l[k]? = some t := ⟨l[k]'(by rw [← hn.out]; exact hlt), List.getElem?_eq_getElem _⟩
      obtain ⟨g, o, ha, c0, c1, c2⟩ := (hA.out.below hb1) k t ht
      have HT := Lib.hid ht; clear ht
      subst ha
      obtain ⟨d, e, f⟩ := t
      simp only at c0 c1 c2
      have hd : l.drop k = (d, e, f) :: l.drop (k + 1) := by
        have hkl : k < l.length := by rw [← hn.out]; exact hlt
        rw [List.drop_eq_getElem_cons hkl]
        have := HT.out
        rw [List.getElem?_eq_getElem hkl, Option.some.injEq] at this
        rw [this]
      have HD := Lib.hid hd; clear hd
      have lt0 : w.heap.size < wr.heap.size := by omega
      have lg : g < wr.heap.size := World.block_lt_of_cell? wr _ c0
      have keepS : ∀ w', Below wr.heap.size wr w' → (Below wr.heap.size wr w' ∧ w'.cell? ⟨w.heap.size + 1, 0, none⟩ = some (.int .i64 p) ∧ w'.cell? ⟨w.heap.size + 1, 1, none⟩ = some (.int .i64 q) ∧ w'.cell? ⟨w.heap.size + 1, 2, none⟩ = some (.int .i64 r) ∧ w'.cell? ⟨g, o + k * 3, none⟩ = some (.int .i64 d) ∧ w'.cell? ⟨g, o + k * 3 + 1, none⟩ = some (.int .i64 e) ∧ w'.cell? ⟨g, o + k * 3 + 2, none⟩ = some (.int .i64 f)) := fun w' hh =>
        ⟨hh, (hh.cell (p := ⟨w.heap.size + 1, 0, none⟩) hz).trans k10, (hh.cell (p := ⟨w.heap.size + 1, 1, none⟩) hz).trans k11, (hh.cell (p := ⟨w.heap.size + 1, 2, none⟩) hz).trans k12, (hh.cell (p := ⟨g, o + k * 3, none⟩) lg).trans c0, (hh.cell (p := ⟨g, o + k * 3 + 1, none⟩) lg).trans c1, (hh.cell (p := ⟨g, o + k * 3 + 2, none⟩) lg).trans c2⟩
      have KS := Lib.hid keepS; clear keepS
      go_upto_region 5 with fail
      go_cut [6, 7] (fun s6 s7 wx => ∃ g6 : Nat, s6 = .pointer (some ⟨g6, 0, none⟩) ∧ s7 = .int .i64 (adE p q r d e f) ∧ Below wr.heap.size wr wx ∧
        wx.cell? ⟨g6, 0, none⟩ = some (.int .i64 (kp (adB p q r d e f) (p + d))) ∧ wx.cell? ⟨g6, 1, none⟩ = some (.int .i64 (kp (adB p q r d e f) (q + e))) ∧ wx.cell? ⟨g6, 2, none⟩ = some (.int .i64 (kp (adB p q r d e f) (r + f))))
      case first =>
        go_region_held3 (fun w' => Below wr.heap.size wr w' ∧ w'.cell? ⟨w.heap.size + 1, 0, none⟩ = some (.int .i64 p) ∧ w'.cell? ⟨w.heap.size + 1, 1, none⟩ = some (.int .i64 q) ∧ w'.cell? ⟨w.heap.size + 1, 2, none⟩ = some (.int .i64 r) ∧ w'.cell? ⟨g, o + k * 3, none⟩ = some (.int .i64 d) ∧ w'.cell? ⟨g, o + k * 3 + 1, none⟩ = some (.int .i64 e) ∧ w'.cell? ⟨g, o + k * 3 + 2, none⟩ = some (.int .i64 f))
          ((refine KS.out _ ?_; (repeat' (first | (with_reducible exact Below.refl _ _) | (with_reducible refine Below.drew ?_) | (with_reducible refine Below.setCell ?_ ?_ _) | (with_reducible refine Below.alloc ?_ ?_ _) | (with_reducible refine Below.trans ?_ (Below.mono hb1 ?_)) | (with_reducible refine Below.trans ?_ (Below.mono hb2 ?_)) | go_size))))
          ((go_at_call 66; (with_reducible refine (radd_any _ _ _ _ _ _ _).mono ?_); rintro r' w2 ⟨rfl, hb2⟩; obtain ⟨hc2, hf2⟩ := bcell hb2; have hs2 := hb2.size; simp only [World.size_alloc, World.size_setCell, World.size_drew] at hs2))
        all_goals go_wp2_with fail
        all_goals go_meet
        · exact ⟨_, rfl, rfl, by (repeat' (first | (with_reducible exact Below.refl _ _) | (with_reducible refine Below.drew ?_) | (with_reducible refine Below.setCell ?_ ?_ _) | (with_reducible refine Below.alloc ?_ ?_ _) | (with_reducible refine Below.trans ?_ (Below.mono hb1 ?_)) | (with_reducible refine Below.trans ?_ (Below.mono hb2 ?_)) | go_size)), by go_cell, by go_cell, by go_cell⟩
        · have hwr : wr.heap.size < w2.heap.size := by omega
          have e0 : w2.cell? ⟨wr.heap.size, 0, none⟩ = some (.int .i64 0) := (hc2 _ _ (by simp)).trans (by go_cell)
          have e1 : w2.cell? ⟨wr.heap.size, 1, none⟩ = some (.int .i64 0) := (hc2 _ _ (by simp)).trans (by go_cell)
          have e2 : w2.cell? ⟨wr.heap.size, 2, none⟩ = some (.int .i64 0) := (hc2 _ _ (by simp)).trans (by go_cell)
          clear hc2
          exact ⟨_, rfl, rfl, by (repeat' (first | (with_reducible exact Below.refl _ _) | (with_reducible refine Below.drew ?_) | (with_reducible refine Below.setCell ?_ ?_ _) | (with_reducible refine Below.alloc ?_ ?_ _) | (with_reducible refine Below.trans ?_ (Below.mono hb1 ?_)) | (with_reducible refine Below.trans ?_ (Below.mono hb2 ?_)) | go_size)), by go_cell, by go_cell, by go_cell⟩
      case rest =>
        obtain ⟨g6, rfl, rfl, hb2, e0, e1, e2⟩ := hcut
        have lt2 : w.heap.size < wc.heap.size := Nat.lt_of_lt_of_le lt0 hb2.size
        have lt3 : w.heap.size + 1 < wc.heap.size := Nat.lt_of_lt_of_le hz hb2.size
        have j00 : wc.cell? ⟨w.heap.size, 0, none⟩ = some o0 := (hb2.cell (p := ⟨w.heap.size, 0, none⟩) (by go_size)).trans (by go_cell); have n00 : wc.frozen? ⟨w.heap.size, 0, none⟩ = false := (hb2.frozen (p := ⟨w.heap.size, 0, none⟩) (by go_size)).trans (by first | assumption | (go_simp; done)); have j01 : wc.cell? ⟨w.heap.size, 1, none⟩ = some o1 := (hb2.cell (p := ⟨w.heap.size, 1, none⟩) (by go_size)).trans (by go_cell); have n01 : wc.frozen? ⟨w.heap.size, 1, none⟩ = false := (hb2.frozen (p := ⟨w.heap.size, 1, none⟩) (by go_size)).trans (by first | assumption | (go_simp; done)); have j02 : wc.cell? ⟨w.heap.size, 2, none⟩ = some o2 := (hb2.cell (p := ⟨w.heap.size, 2, none⟩) (by go_size)).trans (by go_cell); have n02 : wc.frozen? ⟨w.heap.size, 2, none⟩ = false := (hb2.frozen (p := ⟨w.heap.size, 2, none⟩) (by go_size)).trans (by first | assumption | (go_simp; done)); have j10 : wc.cell? ⟨w.heap.size + 1, 0, none⟩ = some (.int .i64 p) := (hb2.cell (p := ⟨w.heap.size + 1, 0, none⟩) (by go_size)).trans (by go_cell); have n10 : wc.frozen? ⟨w.heap.size + 1, 0, none⟩ = false := (hb2.frozen (p := ⟨w.heap.size + 1, 0, none⟩) (by go_size)).trans (by first | assumption | (go_simp; done)); have j11 : wc.cell? ⟨w.heap.size + 1, 1, none⟩ = some (.int .i64 q) := (hb2.cell (p := ⟨w.heap.size + 1, 1, none⟩) (by go_size)).trans (by go_cell); have n11 : wc.frozen? ⟨w.heap.size + 1, 1, none⟩ = false := (hb2.frozen (p := ⟨w.heap.size + 1, 1, none⟩) (by go_size)).trans (by first | assumption | (go_simp; done)); have j12 : wc.cell? ⟨w.heap.size + 1, 2, none⟩ = some (.int .i64 r) := (hb2.cell (p := ⟨w.heap.size + 1, 2, none⟩) (by go_size)).trans (by go_cell); have n12 : wc.frozen? ⟨w.heap.size + 1, 2, none⟩ = false := (hb2.frozen (p := ⟨w.heap.size + 1, 2, none⟩) (by go_size)).trans (by first | assumption | (go_simp; done))
        clear k00 k01 k02 k10 k11 k12 m00 m01 m02 m10 m11 m12
        cases h : adB p q r d e f
        · have hv := adE_no h
          have hfin := HS.out
          rw [HD.out, sm_no h] at hfin
          simp only [Prod.mk.injEq] at hfin
          obtain ⟨rfl, rfl, rfl, hfv⟩ := hfin
          rw [hfv] at hv
          rw [h] at e0 e1 e2
          rw [kp_f] at e0 e1 e2
          rw [hfv]
          clear hfv h
          rcases hv with rfl | rfl
          all_goals
            go_wp2_with fail
            first
              | exact bodyPost_ret (v := .tuple #[.agg #[.int .i64 0, .int .i64 0, .int .i64 0], .int .i64 1]) (by simp [results, Try.results54, go_sem, lt0, lt2, lt3, j00, j01, j02, j10, j11, j12]) rfl ⟨rfl, by (repeat' (first | (with_reducible exact Below.refl _ _) | (with_reducible refine Below.drew ?_) | (with_reducible refine Below.setCell ?_ ?_ _) | (with_reducible refine Below.alloc ?_ ?_ _) | (with_reducible refine Below.trans ?_ (Below.mono hb1 ?_)) | (with_reducible refine Below.trans ?_ (Below.mono hb2 ?_)) | go_size))⟩
              | exact bodyPost_ret (v := .tuple #[.agg #[.int .i64 0, .int .i64 0, .int .i64 0], .int .i64 6]) (by simp [results, Try.results54, go_sem, lt0, lt2, lt3, j00, j01, j02, j10, j11, j12]) rfl ⟨rfl, by (repeat' (first | (with_reducible exact Below.refl _ _) | (with_reducible refine Below.drew ?_) | (with_reducible refine Below.setCell ?_ ?_ _) | (with_reducible refine Below.alloc ?_ ?_ _) | (with_reducible refine Below.trans ?_ (Below.mono hb1 ?_)) | (with_reducible refine Below.trans ?_ (Below.mono hb2 ?_)) | go_size))⟩
        · have hfin := HS.out
          rw [HD.out, sm_ok h] at hfin
          have HF := Lib.hid hfin; clear hfin
          rw [h] at e0 e1 e2
          rw [kp_t] at e0 e1 e2
          rw [adE_ok h]
          clear h
          go_wp2_with fail
          go_roundw
          case rel =>
            refine ⟨k + 1, p + d, q + e, r + f, by omega, by go_num, HF.out, by (repeat' (first | (with_reducible exact Below.refl _ _) | (with_reducible refine Below.drew ?_) | (with_reducible refine Below.setCell ?_ ?_ _) | (with_reducible refine Below.alloc ?_ ?_ _) | (with_reducible refine Below.trans ?_ (Below.mono hb1 ?_)) | (with_reducible refine Below.trans ?_ (Below.mono hb2 ?_)) | go_size)), by go_size, ?_, ?_, ?_, ?_, ?_, ?_, ⟨o0, o1, o2, ?_, ?_, ?_⟩, ?_, ?_, ?_⟩
            all_goals (first | (go_simp; done) | go_cell)
          case measure => simp [intOf]; omega
    · have hk' : k = n := by omega
      subst hk'
      have hfin := HS.out
      rw [hn.out, List.drop_length, sm_nil] at hfin
      simp only [Prod.mk.injEq] at hfin
      obtain ⟨rfl, rfl, rfl, rfl⟩ := hfin
      go_wp2_with fail
      exact bodyPost_ret (v := .tuple #[.agg #[.int .i64 p, .int .i64 q, .int .i64 r], .int .i64 0]) (by simp [results, Try.results54, go_sem, k00, k01, k02]) rfl ⟨rfl, by (repeat' (first | (with_reducible exact Below.refl _ _) | (with_reducible refine Below.drew ?_) | (with_reducible refine Below.setCell ?_ ?_ _) | (with_reducible refine Below.alloc ?_ ?_ _) | (with_reducible refine Below.trans ?_ (Below.mono hb1 ?_)) | go_size))⟩
end Go.Proofs.Ytpifleheammanaa
