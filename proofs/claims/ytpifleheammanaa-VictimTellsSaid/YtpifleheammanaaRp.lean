/- The contract of feas.repels. Condition: the slice reads as a list of jobs. -/
import Derived.Test.YtpifleheammanaaFr
namespace Go.Proofs.Ytpifleheammanaa
open Go.RowKit
set_option linter.unusedSimpArgs false
set_option linter.unusedVariables false

/-- Does this job bother a task of this name, that is to be kept apart by this text, on this machine? -/
def both (s ap nm : ByteArray) (j : Jb) : Bool := sE j.nd s && sE j.ap ap && !sE j.nm nm
/-- Does any of them? -/
def rep (s ap nm : ByteArray) (l : List Jb) : Bool := !decide (ap.size = 0) && l.any (both s ap nm)
theorem rep_empty (s nm : ByteArray) (l : List Jb) : rep s ⟨#[]⟩ nm l = false := rfl
theorem rep_full {s ap nm : ByteArray} {l : List Jb} (h : ¬ ap.size = 0) : rep s ap nm l = l.any (both s ap nm) := by unfold rep; rw [decide_eq_false h]; rfl
theorem any_takeJ {l : List Jb} {p : Jb → Bool} {k : Nat} (h : k < l.length) : (l.take (k + 1)).any p = ((l.take k).any p || p l[k]) := by
  rw [List.take_succ_eq_append_getElem h, List.any_append]; simp
theorem any_atJ {l : List Jb} {p : Jb → Bool} {k : Nat} (hk : k < l.length) (hp : p l[k] = true) : l.any p = true := List.any_eq_true.2 ⟨l[k], List.getElem_mem hk, hp⟩

set_option maxHeartbeats 3200000 in
theorem repels_any (m : Mc) (A : Option Addr) (n cap : Nat) (l : List Jb) (t : Kt) (w : World) (hn : Hid (n = l.length)) (hl : n ≤ 1000000) (hA : Hid (RdJ w A l)) :
    Calls Try.prog 27 #[.agg m.arr, .slice A n cap, .agg t.arr] w fun e w' => e = .returned (.bool (rep m.nm t.ap t.nm l)) ∧ Below w.heap.size w w' := by
  obtain ⟨nm, qu, pr, a, b, c, A2, n2, cp2, ap, ga, sz⟩ := t
  show Calls _ _ _ _ fun e w' => e = .returned (.bool (rep m.nm ap nm l)) ∧ _
  by_cases h : ap.size = 0
  · obtain rfl := empty_of h
    rw [rep_empty]
    clear h
    go_enter Try.func27, Try.ntmps27
    go_wp2
    go_ret
    exact ⟨rfl, (by (repeat' (first | (with_reducible exact Below.refl _ _) | (with_reducible refine bdrewN ?_ _) | (with_reducible refine Below.drew ?_) | (with_reducible refine Below.setCell ?_ ?_ _) | (with_reducible refine Below.alloc ?_ ?_ _) | (with_reducible exact Nat.le_refl _) | (with_reducible assumption) | omega | (simp only [World.size_alloc, World.size_setCell, World.size_drew, sz_drewN]; omega))))⟩
  · rw [rep_full h]
    have hf := full_of h
    clear h
    obtain ⟨hf1, hf2⟩ := hf
    obtain ⟨T, hT⟩ : ∃ T : Kt, T = ⟨nm, qu, pr, a, b, c, A2, n2, cp2, ap, ga, sz⟩ := ⟨_, rfl⟩
    obtain ⟨R, hR⟩ : ∃ R, R = l.any (both m.nm ap nm) := ⟨_, rfl⟩
    rw [← hR]
    have HR := Lib.hid hR; clear hR
    go_enter Try.func27, Try.ntmps27
    have hM0 : Bk ((w.alloc (.cells m.arr 37)).alloc (.cells #[.string nm, .string qu, .int .i64 pr, .int .i64 a, .int .i64 b, .int .i64 c, .slice A2 n2 cp2, .string ap, .string ga, .int .i64 sz] 28)) w.heap.size 37 m.arr := (Bk.fresh w _ _).later ((Below.refl _ _).alloc (Nat.le_refl _) _)
    have hT0 : Bk ((w.alloc (.cells m.arr 37)).alloc (.cells #[.string nm, .string qu, .int .i64 pr, .int .i64 a, .int .i64 b, .int .i64 c, .slice A2 n2 cp2, .string ap, .string ga, .int .i64 sz] 28)) (w.heap.size + 1) 28 #[.string nm, .string qu, .int .i64 pr, .int .i64 a, .int .i64 b, .int .i64 c, .slice A2 n2 cp2, .string ap, .string ga, .int .i64 sz] := Bk.freshAt _ _ _ (by simp)
    have hB0 : Below w.heap.size w ((w.alloc (.cells m.arr 37)).alloc (.cells #[.string nm, .string qu, .int .i64 pr, .int .i64 a, .int .i64 b, .int .i64 c, .slice A2 n2 cp2, .string ap, .string ga, .int .i64 sz] 28)) := ((Below.refl _ _).alloc (Nat.le_refl _) _).alloc (by simp) _
    have HM0 := Lib.hid hM0; clear hM0
    have HT0 := Lib.hid hT0; clear hT0
    go_wp2_with fail
    go_loopw [14] (fun i wr => ∃ k : Nat, k ≤ n ∧ i = .int .i64 k ∧ Hid ((l.take k).any (both m.nm ap nm) = false) ∧ Hid (Bk wr w.heap.size 37 m.arr) ∧ Hid (Bk wr (w.heap.size + 1) 28 #[.string nm, .string qu, .int .i64 pr, .int .i64 a, .int .i64 b, .int .i64 c, .slice A2 n2 cp2, .string ap, .string ga, .int .i64 sz]) ∧ Below w.heap.size w wr) (fun i wr => n - (intOf i).toNat)
    case atStart => exact ⟨0, Nat.zero_le _, rfl, (show _ = _ by simp), HM0, HT0, hB0⟩
    case round =>
      clear HM0 HT0 hB0
      obtain ⟨k, hk, rfl, HF, HM, HT, hb⟩ := hrel
      have lt1 : w.heap.size + 1 < wr.heap.size := HT.out.here
      by_cases hlt : k < n
      · have hlk : k < l.length := by have := hn.out; omega
        obtain ⟨g, o, rfl, hg, hj⟩ := (hA.out.later hb).at hlk
        obtain ⟨j, hjk⟩ : ∃ j, j = l[k] := ⟨_, rfl⟩
        rw [← hjk] at hj
        have HJ := Lib.hid hj; clear hj
        have k1 := fun W => isOn_any m j W
        cases he1 : sE j.nd m.nm
        · rw [he1] at k1
          have K1 := Lib.hid k1; clear k1
          have HQ : Hid ((l.take (k + 1)).any (both m.nm ap nm) = false) := by
            show _ = _
            rw [any_takeJ hlk, HF.out, ← hjk]; unfold both; rw [he1]; rfl
          have HJK := Lib.hid hjk; clear hjk he1
          go_wp2_with (first | (with_reducible refine load_rg rfl 45 _ rfl g (o + k * 13) rfl j.arr _ HJ.out.rg Try.underlying45 rfl (by kernel_rfl) ?_) | ((with_reducible refine store_bk rfl 45 (.tmp 8) (.tmp 17) rfl wr.heap.size 0 j.arr rfl rfl 45 _ j.arr (Bk.fresh _ _ _) (by kernel_rfl) (by simp) (by kernel_rfl) rfl ?_); intro w1 hB1 hg1 hs1; have HX := Lib.hid hB1; clear hB1; have HM1 := Lib.hid ((HM.out.later ((Below.refl _ _).alloc (Nat.le_refl _) _)).stays hg1 (by simp; omega)); have HT1 := Lib.hid ((HT.out.later ((Below.refl _ _).alloc (Nat.le_refl _) _)).stays hg1 (by simp; omega)); have hb1 : Below w.heap.size w w1 := grown_below (hb.alloc hb.size _) hg1 hb.size) | (with_reducible refine load_bk rfl 37 _ rfl w.heap.size 0 rfl 37 m.arr m.arr _ HM1.out (Part.whole _) Try.underlying37 rfl (by kernel_rfl) ?_) | (with_reducible refine load_bk rfl 45 _ rfl wr.heap.size 0 rfl 45 j.arr j.arr _ HX.out (Part.whole _) Try.underlying45 rfl (by kernel_rfl) ?_))
          refine (K1.out _).mono ?_; rintro t w2 ⟨rfl, hb2⟩
          go_wp2_with fail
          go_round
          case rel => exact ⟨k + 1, by omega, by go_num, HQ, HM1.out.later hb2, HT1.out.later hb2, hb1.trans (hb2.mono hb1.size)⟩
          case measure => simp [intOf]; omega
        · rw [he1] at k1
          cases he2 : sE j.ap ap
          · skip
            have K1 := Lib.hid k1; clear k1
            have HQ : Hid ((l.take (k + 1)).any (both m.nm ap nm) = false) := by
              show _ = _
              rw [any_takeJ hlk, HF.out, ← hjk]; unfold both; rw [he1, he2]; rfl
            have hx2 : (j.ap.toList == ap.toList) = false := he2
            have HJK := Lib.hid hjk; clear hjk he1 he2
            go_wp2_with (first | (with_reducible refine load_rg rfl 45 _ rfl g (o + k * 13) rfl j.arr _ HJ.out.rg Try.underlying45 rfl (by kernel_rfl) ?_) | ((with_reducible refine store_bk rfl 45 (.tmp 8) (.tmp 17) rfl wr.heap.size 0 j.arr rfl rfl 45 _ j.arr (Bk.fresh _ _ _) (by kernel_rfl) (by simp) (by kernel_rfl) rfl ?_); intro w1 hB1 hg1 hs1; have HX := Lib.hid hB1; clear hB1; have HM1 := Lib.hid ((HM.out.later ((Below.refl _ _).alloc (Nat.le_refl _) _)).stays hg1 (by simp; omega)); have HT1 := Lib.hid ((HT.out.later ((Below.refl _ _).alloc (Nat.le_refl _) _)).stays hg1 (by simp; omega)); have hb1 : Below w.heap.size w w1 := grown_below (hb.alloc hb.size _) hg1 hb.size) | (with_reducible refine load_bk rfl 37 _ rfl w.heap.size 0 rfl 37 m.arr m.arr _ HM1.out (Part.whole _) Try.underlying37 rfl (by kernel_rfl) ?_) | (with_reducible refine load_bk rfl 45 _ rfl wr.heap.size 0 rfl 45 j.arr j.arr _ HX.out (Part.whole _) Try.underlying45 rfl (by kernel_rfl) ?_))
            refine (K1.out _).mono ?_; rintro t w2 ⟨rfl, hb2⟩
            have cj7 : w2.cell? ⟨wr.heap.size, 7, none⟩ = some (.string j.ap) := (HX.out.later hb2).cellAt 7
            have ct7 : w2.cell? ⟨w.heap.size + 1, 7, none⟩ = some (.string ap) := (HT1.out.later hb2).cellAt 7
            have zj : wr.heap.size < w2.heap.size := (HX.out.later hb2).here
            have zt : w.heap.size + 1 < w2.heap.size := (HT1.out.later hb2).here
            go_wp2_with fail
            go_round
            case rel => exact ⟨k + 1, by omega, by go_num, HQ, HM1.out.later hb2, HT1.out.later hb2, hb1.trans (hb2.mono hb1.size)⟩
            case measure => simp [intOf]; omega
          · cases he3 : sE j.nm nm
            · skip
              have K1 := Lib.hid k1; clear k1
              have HQ : Hid (l.any (both m.nm ap nm) = true) := by
                show _ = _
                refine any_atJ hlk ?_
                rw [← hjk]; unfold both; rw [he1, he2, he3]; rfl
              have hx2 : (j.ap.toList == ap.toList) = true := he2
              have hx3 : (j.nm.toList == nm.toList) = false := he3
              have HJK := Lib.hid hjk; clear hjk he1 he2 he3
              go_wp2_with (first | (with_reducible refine load_rg rfl 45 _ rfl g (o + k * 13) rfl j.arr _ HJ.out.rg Try.underlying45 rfl (by kernel_rfl) ?_) | ((with_reducible refine store_bk rfl 45 (.tmp 8) (.tmp 17) rfl wr.heap.size 0 j.arr rfl rfl 45 _ j.arr (Bk.fresh _ _ _) (by kernel_rfl) (by simp) (by kernel_rfl) rfl ?_); intro w1 hB1 hg1 hs1; have HX := Lib.hid hB1; clear hB1; have HM1 := Lib.hid ((HM.out.later ((Below.refl _ _).alloc (Nat.le_refl _) _)).stays hg1 (by simp; omega)); have HT1 := Lib.hid ((HT.out.later ((Below.refl _ _).alloc (Nat.le_refl _) _)).stays hg1 (by simp; omega)); have hb1 : Below w.heap.size w w1 := grown_below (hb.alloc hb.size _) hg1 hb.size) | (with_reducible refine load_bk rfl 37 _ rfl w.heap.size 0 rfl 37 m.arr m.arr _ HM1.out (Part.whole _) Try.underlying37 rfl (by kernel_rfl) ?_) | (with_reducible refine load_bk rfl 45 _ rfl wr.heap.size 0 rfl 45 j.arr j.arr _ HX.out (Part.whole _) Try.underlying45 rfl (by kernel_rfl) ?_))
              refine (K1.out _).mono ?_; rintro t w2 ⟨rfl, hb2⟩
              have cj7 : w2.cell? ⟨wr.heap.size, 7, none⟩ = some (.string j.ap) := (HX.out.later hb2).cellAt 7
              have ct7 : w2.cell? ⟨w.heap.size + 1, 7, none⟩ = some (.string ap) := (HT1.out.later hb2).cellAt 7
              have zj : wr.heap.size < w2.heap.size := (HX.out.later hb2).here
              have zt : w.heap.size + 1 < w2.heap.size := (HT1.out.later hb2).here
              have cj0 : w2.cell? ⟨wr.heap.size, 0, none⟩ = some (.string j.nm) := (HX.out.later hb2).cellAt 0
              have ct0 : w2.cell? ⟨w.heap.size + 1, 0, none⟩ = some (.string nm) := (HT1.out.later hb2).cellAt 0
              go_wp2_with fail
              go_ret
              exact ⟨by rw [HR.out, HQ.out]; rfl, hb1.trans (hb2.mono hb1.size)⟩
            · skip
              have K1 := Lib.hid k1; clear k1
              have HQ : Hid ((l.take (k + 1)).any (both m.nm ap nm) = false) := by
                show _ = _
                rw [any_takeJ hlk, HF.out, ← hjk]; unfold both; rw [he1, he2, he3]; rfl
              have hx2 : (j.ap.toList == ap.toList) = true := he2
              have hx3 : (j.nm.toList == nm.toList) = true := he3
              have HJK := Lib.hid hjk; clear hjk he1 he2 he3
              go_wp2_with (first | (with_reducible refine load_rg rfl 45 _ rfl g (o + k * 13) rfl j.arr _ HJ.out.rg Try.underlying45 rfl (by kernel_rfl) ?_) | ((with_reducible refine store_bk rfl 45 (.tmp 8) (.tmp 17) rfl wr.heap.size 0 j.arr rfl rfl 45 _ j.arr (Bk.fresh _ _ _) (by kernel_rfl) (by simp) (by kernel_rfl) rfl ?_); intro w1 hB1 hg1 hs1; have HX := Lib.hid hB1; clear hB1; have HM1 := Lib.hid ((HM.out.later ((Below.refl _ _).alloc (Nat.le_refl _) _)).stays hg1 (by simp; omega)); have HT1 := Lib.hid ((HT.out.later ((Below.refl _ _).alloc (Nat.le_refl _) _)).stays hg1 (by simp; omega)); have hb1 : Below w.heap.size w w1 := grown_below (hb.alloc hb.size _) hg1 hb.size) | (with_reducible refine load_bk rfl 37 _ rfl w.heap.size 0 rfl 37 m.arr m.arr _ HM1.out (Part.whole _) Try.underlying37 rfl (by kernel_rfl) ?_) | (with_reducible refine load_bk rfl 45 _ rfl wr.heap.size 0 rfl 45 j.arr j.arr _ HX.out (Part.whole _) Try.underlying45 rfl (by kernel_rfl) ?_))
              refine (K1.out _).mono ?_; rintro t w2 ⟨rfl, hb2⟩
              have cj7 : w2.cell? ⟨wr.heap.size, 7, none⟩ = some (.string j.ap) := (HX.out.later hb2).cellAt 7
              have ct7 : w2.cell? ⟨w.heap.size + 1, 7, none⟩ = some (.string ap) := (HT1.out.later hb2).cellAt 7
              have zj : wr.heap.size < w2.heap.size := (HX.out.later hb2).here
              have zt : w.heap.size + 1 < w2.heap.size := (HT1.out.later hb2).here
              have cj0 : w2.cell? ⟨wr.heap.size, 0, none⟩ = some (.string j.nm) := (HX.out.later hb2).cellAt 0
              have ct0 : w2.cell? ⟨w.heap.size + 1, 0, none⟩ = some (.string nm) := (HT1.out.later hb2).cellAt 0
              go_wp2_with fail
              go_round
              case rel => exact ⟨k + 1, by omega, by go_num, HQ, HM1.out.later hb2, HT1.out.later hb2, hb1.trans (hb2.mono hb1.size)⟩
              case measure => simp [intOf]; omega
      · have hk' : k = n := by omega
        subst hk'
        have hlk : l.take k = l := by rw [hn.out]; exact List.take_length
        have HQ : Hid (l.any (both m.nm ap nm) = false) := by show _ = _; have h := HF.out; rw [hlk] at h; exact h
        clear hlk
        go_wp2_with fail
        go_ret
        exact ⟨by rw [HR.out, HQ.out]; rfl, hb⟩
end Go.Proofs.Ytpifleheammanaa
