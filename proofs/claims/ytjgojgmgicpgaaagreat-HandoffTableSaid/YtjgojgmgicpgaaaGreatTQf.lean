/- The contracts of quota.Waits, quota.Find and of the document's own Find. Condition: the slice reads as a list of jobs. -/
import Derived.Test.YtjgojgmgicpgaaaGreatTQ02
import Derived.Test.YtjgojgmgicpgaaaGreatTMod
import Derived.Test.YtjgojgmgicpgaaaGreatTQ05
namespace Go.Proofs.YtjgojgmgicpgaaaGreat
open Go.RowKit
set_option linter.unusedSimpArgs false
set_option linter.unusedVariables false

/-- Does a job of this machine wait? -/
def wB (s : ByteArray) : Bool := decide (s.size = 0)

set_option maxHeartbeats 1600000 in
theorem waits_any (j : Jb) (w : World) : Calls Tryz.prog 132 #[.agg j.arr] w fun e w' => e = .returned (.bool (wB j.nd)) ∧ Below w.heap.size w w' := by
  obtain ⟨nm, qu, pr, a, b, c, A, n, cp, ap, ga, sz, sq, nd, bo⟩ := j
  by_cases h : nd.size = 0
  · obtain rfl := empty_of h
    go_enter Tryz.func132, Tryz.ntmps132
    go_wp2
    go_ret
    exact ⟨rfl, (by (repeat' (first | (with_reducible exact Below.refl _ _) | (with_reducible refine bdrewN ?_ _) | (with_reducible refine Below.drew ?_) | (with_reducible refine Below.setCell ?_ ?_ _) | (with_reducible refine Below.alloc ?_ ?_ _) | (with_reducible exact Nat.le_refl _) | (with_reducible assumption) | omega | (simp only [World.size_alloc, World.size_setCell, World.size_drew, sz_drewN]; omega))))⟩
  · have h1 := full_of h
    have hres : wB nd = false := decide_eq_false h
    show Calls _ _ _ _ fun e w' => e = .returned (.bool (wB nd)) ∧ _
    rw [hres]
    clear hres h
    obtain ⟨h1, h2⟩ := h1
    go_enter Tryz.func132, Tryz.ntmps132
    go_wp2
    go_ret
    exact ⟨rfl, (by (repeat' (first | (with_reducible exact Below.refl _ _) | (with_reducible refine bdrewN ?_ _) | (with_reducible refine Below.drew ?_) | (with_reducible refine Below.setCell ?_ ?_ _) | (with_reducible refine Below.alloc ?_ ?_ _) | (with_reducible exact Nat.le_refl _) | (with_reducible assumption) | omega | (simp only [World.size_alloc, World.size_setCell, World.size_drew, sz_drewN]; omega))))⟩

/-- Where a job of this name stands first, from place k on, or -1. -/
def fnd (s : ByteArray) : Nat → List Jb → Int
  | _, [] => -1
  | k, j :: l => if sE j.nm s then k else fnd s (k + 1) l
theorem fnd_yes {s : ByteArray} {k : Nat} {l : List Jb} (h : k < l.length) (he : sE l[k].nm s = true) : fnd s k (l.drop k) = k := by
  rw [List.drop_eq_getElem_cons h, fnd, if_pos he]
theorem fnd_no {s : ByteArray} {k : Nat} {l : List Jb} (h : k < l.length) (he : sE l[k].nm s = false) : fnd s k (l.drop k) = fnd s (k + 1) (l.drop (k + 1)) := by
  rw [List.drop_eq_getElem_cons h, fnd, he]; rfl

set_option maxHeartbeats 1600000 in
theorem find_any (A : Option Addr) (n cap : Nat) (l : List Jb) (s : ByteArray) (w : World) (hn : Hid (n = l.length)) (hl : n ≤ 9223372036854775807) (hA : Hid (RdJ w A l)) (r : Int) (hs : Hid (fnd s 0 l = r)) :
    Calls Tryz.prog 128 #[.slice A n cap, .string s] w fun e w' => e = .returned (.int .i64 r) ∧ Below w.heap.size w w' := by
  go_enter Tryz.func128, Tryz.ntmps128
  go_wp2_with fail
  go_loopw [9] (fun i wr => ∃ k : Nat, k ≤ n ∧ i = .int .i64 k ∧ Hid (fnd s k (l.drop k) = r) ∧ Below w.heap.size w wr) (fun i wr => n - (intOf i).toNat)
  case atStart => exact ⟨0, Nat.zero_le _, rfl, (show fnd s 0 (l.drop 0) = r by simpa using hs.out), Below.refl _ _⟩
  case round =>
    obtain ⟨k, hk, rfl, HS, hb⟩ := hrel
    by_cases hlt : k < n
    · have hlk : k < l.length := by have := hn.out; omega
      obtain ⟨g, o, rfl, hg, hj⟩ := (hA.out.later hb).at hlk
      obtain ⟨j, hjk⟩ : ∃ j, j = l[k] := ⟨_, rfl⟩
      rw [← hjk] at hj
      have HJ := Lib.hid hj; clear hj
      cases he : sE j.nm s
      · have hfin := HS.out
        rw [fnd_no hlk (hjk ▸ he)] at hfin
        have HF := Lib.hid hfin; clear hfin
        have he' : (j.nm.toList == s.toList) = false := he
        have HJK := Lib.hid hjk; clear hjk he
        go_wp2_with (first | (with_reducible refine load_rg rfl 95 _ rfl g (o + k * 13) rfl j.arr _ HJ.out.rg Tryz.underlying95 rfl (by kernel_rfl) ?_) | ((with_reducible refine store_bk rfl 95 (.tmp 6) (.tmp 13) rfl wr.heap.size 0 j.arr rfl rfl 95 _ j.arr (Bk.fresh _ _ _) (by kernel_rfl) (by simp) (by kernel_rfl) rfl ?_); intro w1 hB1 hg1 hs1; have hn1 := hB1.cellAt 0; simp at hn1))
        go_round
        case rel => exact ⟨k + 1, by omega, by go_num, HF, grown_below (hb.alloc hb.size _) hg1 (by have := hb.size; omega)⟩
        case measure => simp [intOf]; omega
      · have hfin := HS.out
        rw [fnd_yes hlk (hjk ▸ he)] at hfin
        subst hfin
        have he' : (j.nm.toList == s.toList) = true := he
        have HJK := Lib.hid hjk; clear hjk he
        go_wp2_with (first | (with_reducible refine load_rg rfl 95 _ rfl g (o + k * 13) rfl j.arr _ HJ.out.rg Tryz.underlying95 rfl (by kernel_rfl) ?_) | ((with_reducible refine store_bk rfl 95 (.tmp 6) (.tmp 13) rfl wr.heap.size 0 j.arr rfl rfl 95 _ j.arr (Bk.fresh _ _ _) (by kernel_rfl) (by simp) (by kernel_rfl) rfl ?_); intro w1 hB1 hg1 hs1; have hn1 := hB1.cellAt 0; simp at hn1))
        go_ret
        exact ⟨rfl, grown_below (hb.alloc hb.size _) hg1 (by have := hb.size; omega)⟩
    · have hk' : k = n := by omega
      subst hk'
      have hfin := HS.out
      rw [hn.out, List.drop_length, fnd] at hfin
      subst hfin
      go_wp2_with fail
      go_ret
      exact ⟨rfl, hb⟩

set_option maxHeartbeats 1600000 in
theorem rfind_any (A : Option Addr) (n cap : Nat) (l : List Jb) (s : ByteArray) (w : World) (hn : Hid (n = l.length)) (hl : n ≤ 9223372036854775807) (hA : Hid (RdJ w A l)) (r : Int) (hs : Hid (fnd s 0 l = r)) :
    Calls Tryz.prog 111 #[.slice A n cap, .string s] w fun e w' => e = .returned (.int .i64 r) ∧ Below w.heap.size w w' := by
  go_enter Tryz.func111, Tryz.ntmps111
  go_wp2_with fail
  go_loopw [8] (fun i wr => ∃ k : Nat, k ≤ n ∧ i = .int .i64 k ∧ Hid (fnd s k (l.drop k) = r) ∧ Below w.heap.size w wr) (fun i wr => n - (intOf i).toNat)
  case atStart => exact ⟨0, Nat.zero_le _, rfl, (show fnd s 0 (l.drop 0) = r by simpa using hs.out), Below.refl _ _⟩
  case round =>
    obtain ⟨k, hk, rfl, HS, hb⟩ := hrel
    by_cases hlt : k < n
    · have hlk : k < l.length := by have := hn.out; omega
      obtain ⟨g, o, rfl, hg, hj⟩ := (hA.out.later hb).at hlk
      obtain ⟨j, hjk⟩ : ∃ j, j = l[k] := ⟨_, rfl⟩
      rw [← hjk] at hj
      have c0 := hj.nm
      clear hj
      cases he : sE j.nm s
      · have hfin := HS.out
        rw [fnd_no hlk (hjk ▸ he)] at hfin
        have HF := Lib.hid hfin; clear hfin
        have he' : (j.nm.toList == s.toList) = false := he
        have HJK := Lib.hid hjk; clear hjk he
        go_wp2_with fail
        go_round
        case rel => exact ⟨k + 1, by omega, by go_num, HF, hb⟩
        case measure => simp [intOf]; omega
      · have hfin := HS.out
        rw [fnd_yes hlk (hjk ▸ he)] at hfin
        subst hfin
        have he' : (j.nm.toList == s.toList) = true := he
        have HJK := Lib.hid hjk; clear hjk he
        go_wp2_with fail
        go_ret
        exact ⟨rfl, hb⟩
    · have hk' : k = n := by omega
      subst hk'
      have hfin := HS.out
      rw [hn.out, List.drop_length, fnd] at hfin
      subst hfin
      go_wp2_with fail
      go_ret
      exact ⟨rfl, hb⟩
end Go.Proofs.YtjgojgmgicpgaaaGreat
