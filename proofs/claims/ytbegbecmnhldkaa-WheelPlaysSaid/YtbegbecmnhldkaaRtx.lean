/- The contract of the document's own Texts: are lists of texts alike. Condition: the slices are ones that Go can have. -/
import Derived.Test.YtbegbecmnhldkaaSt
import Derived.Test.YtbegbecmnhldkaaLat
import Derived.Test.YtbegbecmnhldkaaLab
namespace Go.Proofs.Ytbegbecmnhldkaa
open Go.RowKit
set_option linter.unusedSimpArgs false
set_option linter.unusedVariables false

/-- Are lists of texts alike? -/
def sameS (l r : List ByteArray) : Bool := decide (l = r)
theorem take_eq {α : Type} {l r : List α} {k : Nat} (hl : k < l.length) (hr : k < r.length) (h : l.take k = r.take k) (he : l[k] = r[k]) : l.take (k + 1) = r.take (k + 1) := by
  rw [List.take_succ_eq_append_getElem hl, List.take_succ_eq_append_getElem hr, h, he]

set_option maxHeartbeats 3200000 in
theorem rtexts_any (A : Option Addr) (n c : Nat) (l : List ByteArray) (B : Option Addr) (m d : Nat) (r : List ByteArray) (w : World) (hn : Hid (n = l.length)) (hm : Hid (m = r.length)) (hl : n ≤ 9223372036854775807) (hl2 : m ≤ 9223372036854775807) (hA : Hid (RdS w A l)) (hB : Hid (RdS w B r)) :
    Calls Try.prog 16 #[.slice A n c, .slice B m d] w fun e w' => e = .returned (.bool (sameS l r)) ∧ Below w.heap.size w w' := by
  obtain ⟨R, hR⟩ : ∃ R, sameS l r = R := ⟨_, rfl⟩
  rw [hR]
  have HR := Lib.hid hR; clear hR
  by_cases h1 : n = m
  case neg =>
    have hq : R = false := by rw [← HR.out]; exact decide_eq_false fun hc => h1 (by rw [hn.out, hm.out, hc])
    subst hq
    have d1 : (((n : Int)) == (m : Int)) = false := by simp; omega
    go_enter Try.func16, Try.ntmps16
    go_wp2_with fail
    go_ret
    exact ⟨rfl, (by (repeat' (first | (with_reducible exact Below.refl _ _) | (with_reducible refine bdrewN ?_ _) | (with_reducible refine Below.drew ?_) | (with_reducible refine Below.setCell ?_ ?_ _) | (with_reducible refine Below.alloc ?_ ?_ _) | (with_reducible exact Nat.le_refl _) | (with_reducible assumption) | omega | (simp only [World.size_alloc, World.size_setCell, World.size_drew, sz_drewN]; omega))))⟩
  subst h1
  go_enter Try.func16, Try.ntmps16
  go_wp2_with fail
  go_loopw [13] (fun i wr => ∃ k : Nat, k ≤ n ∧ i = .int .i64 k ∧ Hid (l.take k = r.take k) ∧ Below w.heap.size w wr) (fun i wr => n - (intOf i).toNat)
  case atStart => exact ⟨0, Nat.zero_le _, rfl, (show _ = _ by simp), (by (repeat' (first | (with_reducible exact Below.refl _ _) | (with_reducible refine bdrewN ?_ _) | (with_reducible refine Below.drew ?_) | (with_reducible refine Below.setCell ?_ ?_ _) | (with_reducible refine Below.alloc ?_ ?_ _) | (with_reducible exact Nat.le_refl _) | (with_reducible assumption) | omega | (simp only [World.size_alloc, World.size_setCell, World.size_drew, sz_drewN]; omega))))⟩
  case round =>
    obtain ⟨k, hk, rfl, HF, hb⟩ := hrel
    by_cases hlt : k < n
    · have hlk : k < l.length := by have := hn.out; omega
      have hrk : k < r.length := by have := hm.out; omega
      obtain ⟨g, o, rfl, hg, c1⟩ := (hA.out.later hb).at hlk
      obtain ⟨g2, o2, rfl, hg2, c2⟩ := (hB.out.later hb).at hrk
      obtain ⟨x, hx⟩ : ∃ x, x = l[k] := ⟨_, rfl⟩
      obtain ⟨y, hy⟩ : ∃ y, y = r[k] := ⟨_, rfl⟩
      rw [← hx] at c1
      rw [← hy] at c2
      cases he : sE x y
      · have hq : R = false := by
          rw [← HR.out]
          refine decide_eq_false fun hc => ?_
          subst hc
          rw [hx, hy, sE_refl] at he; cases he
        subst hq
        have he' : (x.toList == y.toList) = false := he
        have HX := Lib.hid hx; have HY := Lib.hid hy; clear hx hy he
        go_wp2_with fail
        refine wp_region_later (by kernel_rfl) (by kernel_rfl) ?_; have hL : ∀ (w : World) (x : Later w) (b o : Nat), b < w.heap.size → x.to.cell? ⟨b, o, none⟩ = w.cell? ⟨b, o, none⟩ := fun w x b o hb => x.cell hb; have hN := Later.some; (repeat (go_big_quiet_step ((fail)))); refine wpQuiet_nil ?_; intro w2 hw2; have hb2 := Later.out hw2; clear hw2 hL hN
        go_wp2_with fail
        go_ret
        exact ⟨rfl, hb.trans (hb2.mono hb.size)⟩
      · have HF2 : Hid (l.take (k + 1) = r.take (k + 1)) := by show _ = _; exact take_eq hlk hrk HF.out (by rw [← hx, ← hy]; exact sE_iff.1 he)
        have he' : (x.toList == y.toList) = true := he
        have HX := Lib.hid hx; have HY := Lib.hid hy; clear hx hy he
        go_wp2_with fail
        refine wp_region_later (by kernel_rfl) (by kernel_rfl) ?_; have hL : ∀ (w : World) (x : Later w) (b o : Nat), b < w.heap.size → x.to.cell? ⟨b, o, none⟩ = w.cell? ⟨b, o, none⟩ := fun w x b o hb => x.cell hb; have hN := Later.some; (repeat (go_big_quiet_step ((fail)))); refine wpQuiet_nil ?_; intro w2 hw2; have hb2 := Later.out hw2; clear hw2 hL hN
        go_wp2_with fail
        go_round
        case rel => exact ⟨k + 1, by omega, by go_num, HF2, hb.trans (hb2.mono hb.size)⟩
        case measure => simp [intOf]; omega
    · have hk' : k = n := by omega
      subst hk'
      have hq : R = true := by
        rw [← HR.out]
        refine decide_eq_true ?_
        have h := HF.out
        rwa [show l.take k = l by rw [hn.out]; exact List.take_length, show r.take k = r by rw [hm.out]; exact List.take_length] at h
      subst hq
      go_wp2_with fail
      go_ret
      exact ⟨rfl, hb⟩
end Go.Proofs.Ytbegbecmnhldkaa
