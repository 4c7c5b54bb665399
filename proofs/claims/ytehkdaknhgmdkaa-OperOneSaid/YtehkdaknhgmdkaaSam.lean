/- The document's SameNode and SameTask: of what is alike they say so. Condition: the slices are ones that Go can have. -/
import Derived.Test.YtehkdaknhgmdkaaRrn
namespace Go.Proofs.Ytehkdaknhgmdkaa
open Go.RowKit
set_option linter.unusedSimpArgs false
set_option linter.unusedVariables false

theorem sameB_refl (l : List Lb) : sameB l l = true := decide_eq_true rfl
theorem eq3_refl (a b c : Int) : eq3 a b c a b c = true := by simp [eq3]

set_option maxHeartbeats 3200000 in
set_option maxRecDepth 100000 in
theorem sameNode_yes (nm : ByteArray) (a b c : Int) (A : Option Addr) (n cp : Nat) (B : Option Addr) (m dp : Nat) (l : List Lb) (w : World) (hn : Hid (n = l.length)) (hm : Hid (m = l.length)) (hr : Hid (RdL w A l)) (hq : Hid (RdL w B l)) (hc : n ≤ cp) (hc2 : cp ≤ 9223372036854775807) (hd : m ≤ dp) (hd2 : dp ≤ 9223372036854775807) :
    Calls Try.prog 45 #[.agg #[.string nm, .int .i64 a, .int .i64 b, .int .i64 c, .slice A n cp], .agg #[.string nm, .int .i64 a, .int .i64 b, .int .i64 c, .slice B m dp]] w fun e w' => e = .returned (.bool true) ∧ Below w.heap.size w w' := by
  have hs := fun W (h : RdL W A l) (g : RdL W B l) => same_any A B n cp m dp l l W hn hm (Lib.hid h) (Lib.hid g) hc hc2 hd hd2
  rw [sameB_refl] at hs
  have HS := Lib.hid hs
  clear hs
  have he := eq3_refl a b c
  go_enter Try.func45, Try.ntmps45
  go_wp2_with fail
  refine (HS.out _ (hr.out.later (by (repeat' (first | (with_reducible exact Below.refl _ _) | (with_reducible refine bdrewN ?_ _) | (with_reducible refine Below.drew ?_) | (with_reducible refine Below.setCell ?_ ?_ _) | (with_reducible refine Below.alloc ?_ ?_ _) | (with_reducible exact Nat.le_refl _) | (with_reducible assumption) | omega | (simp only [World.size_alloc, World.size_setCell, World.size_drew, sz_drewN]; omega))))) (hq.out.later (by (repeat' (first | (with_reducible exact Below.refl _ _) | (with_reducible refine bdrewN ?_ _) | (with_reducible refine Below.drew ?_) | (with_reducible refine Below.setCell ?_ ?_ _) | (with_reducible refine Below.alloc ?_ ?_ _) | (with_reducible exact Nat.le_refl _) | (with_reducible assumption) | omega | (simp only [World.size_alloc, World.size_setCell, World.size_drew, sz_drewN]; omega)))))).mono ?_
  rintro e w1 ⟨rfl, hb1⟩
  have hB1 : Below w.heap.size w w1 := (((Below.refl _ _).alloc (Nat.le_refl _) _).alloc (by simp) _).trans (hb1.mono (by simp; omega))
  go_wp2
  go_ret
  exact ⟨rfl, hB1⟩

set_option maxHeartbeats 3200000 in
set_option maxRecDepth 100000 in
theorem sameTask_yes (nm qu : ByteArray) (pr a b c : Int) (A : Option Addr) (n cp : Nat) (B : Option Addr) (m dp : Nat) (l : List Lb) (ap ga : ByteArray) (sz : Int) (w : World) (hn : Hid (n = l.length)) (hm : Hid (m = l.length)) (hr : Hid (RdL w A l)) (hq : Hid (RdL w B l)) (hc : n ≤ cp) (hc2 : cp ≤ 9223372036854775807) (hd : m ≤ dp) (hd2 : dp ≤ 9223372036854775807) :
    Calls Try.prog 46 #[.agg #[.string nm, .string qu, .int .i64 pr, .int .i64 a, .int .i64 b, .int .i64 c, .slice A n cp, .string ap, .string ga, .int .i64 sz], .agg #[.string nm, .string qu, .int .i64 pr, .int .i64 a, .int .i64 b, .int .i64 c, .slice B m dp, .string ap, .string ga, .int .i64 sz]] w fun e w' => e = .returned (.bool true) ∧ Below w.heap.size w w' := by
  have hs := fun W (h : RdL W A l) (g : RdL W B l) => same_any A B n cp m dp l l W hn hm (Lib.hid h) (Lib.hid g) hc hc2 hd hd2
  rw [sameB_refl] at hs
  have HS := Lib.hid hs
  clear hs
  have he := eq3_refl a b c
  go_enter Try.func46, Try.ntmps46
  go_wp2_with fail
  refine (HS.out _ (hr.out.later (by (repeat' (first | (with_reducible exact Below.refl _ _) | (with_reducible refine bdrewN ?_ _) | (with_reducible refine Below.drew ?_) | (with_reducible refine Below.setCell ?_ ?_ _) | (with_reducible refine Below.alloc ?_ ?_ _) | (with_reducible exact Nat.le_refl _) | (with_reducible assumption) | omega | (simp only [World.size_alloc, World.size_setCell, World.size_drew, sz_drewN]; omega))))) (hq.out.later (by (repeat' (first | (with_reducible exact Below.refl _ _) | (with_reducible refine bdrewN ?_ _) | (with_reducible refine Below.drew ?_) | (with_reducible refine Below.setCell ?_ ?_ _) | (with_reducible refine Below.alloc ?_ ?_ _) | (with_reducible exact Nat.le_refl _) | (with_reducible assumption) | omega | (simp only [World.size_alloc, World.size_setCell, World.size_drew, sz_drewN]; omega)))))).mono ?_
  rintro e w1 ⟨rfl, hb1⟩
  have hB1 : Below w.heap.size w w1 := (((Below.refl _ _).alloc (Nat.le_refl _) _).alloc (by simp) _).trans (hb1.mono (by simp; omega))
  have hz1 : w.heap.size + 1 < w1.heap.size := by have h := hb1.size; simp only [World.size_alloc] at h; omega
  obtain ⟨hc1, hf1⟩ := bcell hb1
  go_wp2
  go_ret
  exact ⟨rfl, hB1⟩
end Go.Proofs.Ytehkdaknhgmdkaa
