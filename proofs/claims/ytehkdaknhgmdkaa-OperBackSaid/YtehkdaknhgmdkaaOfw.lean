/- The statements' own few (sizes that are looked at): it returns one of the two. Conditions: texts and slices that Go can have. -/
import Derived.Test.YtehkdaknhgmdkaaWh
import Derived.Test.YtehkdaknhgmdkaaFew
import Derived.Test.YtehkdaknhgmdkaaOv
namespace Go.Proofs.Ytehkdaknhgmdkaa
open Go.RowKit
set_option linter.unusedSimpArgs false
set_option linter.unusedVariables false

/-- A call has returned a Bool, whichever. -/
def SomeB (e : Ending) : Prop := ∃ b : Bool, e = .returned (.bool b)

set_option maxHeartbeats 12800000 in
set_option maxRecDepth 100000 in
theorem few_op (k : Int) (nn : ByteArray) (a1 b1 c1 : Int) (A1 : Option Addr) (m1 p1 : Nat) (l1 : List Lb) (qn : ByteArray) (a2 b2 c2 : Int) (tn tq : ByteArray) (tp a3 b3 c3 : Int) (A3 : Option Addr) (m3 p3 : Nat) (l3 : List Lb) (ta tg : ByteArray) (ts : Int) (s : ByteArray) (w : World) (hn1 : Hid (m1 = l1.length)) (hp1 : m1 ≤ p1) (hq1 : p1 ≤ 9223372036854775807) (hn3 : Hid (m3 = l3.length)) (hp3 : m3 ≤ p3) (hq3 : p3 ≤ 9223372036854775807) (hr1 : Hid (RdL w A1 l1)) (hr3 : Hid (RdL w A3 l3)) (hz1 : Hid (Sz l1)) (hz3 : Hid (Sz l3)) (hnn : nn.size ≤ 140737488351232) (hqn : qn.size ≤ 140737488351232) (htn : tn.size ≤ 140737488351232) (htq : tq.size ≤ 140737488351232) (hta : ta.size ≤ 140737488351232) (htg : tg.size ≤ 140737488351232) (hs : s.size ≤ 140737488351232) : Calls Try.prog 9 #[.agg #[.int .i64 k, .string nn, .int .i64 a1, .int .i64 b1, .int .i64 c1, .slice A1 m1 p1, .string qn, .int .i64 a2, .int .i64 b2, .int .i64 c2, .string tn, .string tq, .int .i64 tp, .int .i64 a3, .int .i64 b3, .int .i64 c3, .slice A3 m3 p3, .string ta, .string tg, .int .i64 ts, .string s]] w fun e w' => SomeB e ∧ Below w.heap.size w w' := by
  go_enter Try.func9, Try.ntmps9
  go_wp2_with fail
  refine wp_region_held_drew (S := fun W => Below (w.alloc (.cells #[.int .i64 k, .string nn, .int .i64 a1, .int .i64 b1, .int .i64 c1, .slice A1 m1 p1, .string qn, .int .i64 a2, .int .i64 b2, .int .i64 c2, .string tn, .string tq, .int .i64 tp, .int .i64 a3, .int .i64 b3, .int .i64 c3, .slice A3 m3 p3, .string ta, .string tg, .int .i64 ts, .string s] 32)).heap.size (w.alloc (.cells #[.int .i64 k, .string nn, .int .i64 a1, .int .i64 b1, .int .i64 c1, .slice A1 m1 p1, .string qn, .int .i64 a2, .int .i64 b2, .int .i64 c2, .string tn, .string tq, .int .i64 tp, .int .i64 a3, .int .i64 b3, .int .i64 c3, .slice A3 m3 p3, .string ta, .string tg, .int .i64 ts, .string s] 32)) W) (by kernel_rfl) (Below.drew (Below.refl _ _)) (fun hS0 => ?_)
  refine wpAnyH_take (i := 0) (v := ?_) rfl (by kernel_rfl) (by kernel_rfl) (by kernel_rfl) (fun _ _ _ h => h) (Or.inl ⟨by rfl, ?_⟩) hS0 ?_
  rotate_left
  · intro W _; go_simp; try with_reducible rfl
  try simp only [Act.put, List.getElem_toArray, List.getElem_cons_zero, List.getElem_cons_succ, List.setIfInBounds_toArray, List.set_cons_zero, List.set_cons_succ]
  refine wpAnyH_take (i := 1) (v := .agg #[.string nn, .int .i64 a1, .int .i64 b1, .int .i64 c1, .slice A1 m1 p1]) rfl (by kernel_rfl) (by kernel_rfl) (by kernel_rfl) (fun _ _ _ h => h) (yields_bk rfl 26 _ rfl w.heap.size 1 rfl 32 #[.int .i64 k, .string nn, .int .i64 a1, .int .i64 b1, .int .i64 c1, .slice A1 m1 p1, .string qn, .int .i64 a2, .int .i64 b2, .int .i64 c2, .string tn, .string tq, .int .i64 tp, .int .i64 a3, .int .i64 b3, .int .i64 c3, .slice A3 m3 p3, .string ta, .string tg, .int .i64 ts, .string s] #[.string nn, .int .i64 a1, .int .i64 b1, .int .i64 c1, .slice A1 m1 p1] _ (fun W hW => (Bk.fresh _ _ _).later hW) (Part.of rfl) Try.underlying26 rfl (by kernel_rfl)) hS0 ?_
  try simp only [Act.put, List.getElem_toArray, List.getElem_cons_zero, List.getElem_cons_succ, List.setIfInBounds_toArray, List.set_cons_zero, List.set_cons_succ]
  refine wpAnyH_take (i := 2) (v := ?_) rfl (by kernel_rfl) (by kernel_rfl) (by kernel_rfl) (fun _ _ _ h => h) (Or.inl ⟨by rfl, ?_⟩) hS0 ?_
  rotate_left
  · intro W _; go_simp; try with_reducible rfl
  try simp only [Act.put, List.getElem_toArray, List.getElem_cons_zero, List.getElem_cons_succ, List.setIfInBounds_toArray, List.set_cons_zero, List.set_cons_succ]
  refine wpAnyH_take (i := 3) (v := .agg #[.string tn, .string tq, .int .i64 tp, .int .i64 a3, .int .i64 b3, .int .i64 c3, .slice A3 m3 p3, .string ta, .string tg, .int .i64 ts]) rfl (by kernel_rfl) (by kernel_rfl) (by kernel_rfl) (fun _ _ _ h => h) (yields_bk rfl 30 _ rfl w.heap.size 10 rfl 32 #[.int .i64 k, .string nn, .int .i64 a1, .int .i64 b1, .int .i64 c1, .slice A1 m1 p1, .string qn, .int .i64 a2, .int .i64 b2, .int .i64 c2, .string tn, .string tq, .int .i64 tp, .int .i64 a3, .int .i64 b3, .int .i64 c3, .slice A3 m3 p3, .string ta, .string tg, .int .i64 ts, .string s] #[.string tn, .string tq, .int .i64 tp, .int .i64 a3, .int .i64 b3, .int .i64 c3, .slice A3 m3 p3, .string ta, .string tg, .int .i64 ts] _ (fun W hW => (Bk.fresh _ _ _).later hW) (Part.of rfl) Try.underlying30 rfl (by kernel_rfl)) hS0 ?_
  try simp only [Act.put, List.getElem_toArray, List.getElem_cons_zero, List.getElem_cons_succ, List.setIfInBounds_toArray, List.set_cons_zero, List.set_cons_succ]
  refine wpAnyH_ready (rs := [4, 5]) (by kernel_rfl) (by simp) ?_
  refine (AllReadyH.cons rfl (fun K hK => ?_) (AllReadyH.cons rfl (fun K hK => ?_) AllReadyH.nil))
  · go_simp
    refine hK.out _ _ (by (repeat' (first | (with_reducible exact Below.refl _ _) | (with_reducible refine bdrewN ?_ _) | (with_reducible refine Below.drew ?_) | (with_reducible refine Below.setCell ?_ ?_ _) | (with_reducible refine Below.alloc ?_ ?_ _) | (with_reducible exact Nat.le_refl _) | (with_reducible assumption) | omega | (simp only [World.size_alloc, World.size_setCell, World.size_drew, sz_drewN]; omega)))) (fun hS1 => ?_)
    clear hK K
    try simp only [Act.put, List.getElem_toArray, List.getElem_cons_zero, List.getElem_cons_succ, List.setIfInBounds_toArray, List.set_cons_zero, List.set_cons_succ]
    refine wpAnyH_ready (rs := [5]) (by kernel_rfl) (by simp) ?_
    refine AllReadyH.cons rfl (fun K hK => ?_) AllReadyH.nil
    go_simp
    refine hK.out _ _ (by (repeat' (first | (with_reducible exact Below.refl _ _) | (with_reducible refine bdrewN ?_ _) | (with_reducible refine Below.drew ?_) | (with_reducible refine Below.setCell ?_ ?_ _) | (with_reducible refine Below.alloc ?_ ?_ _) | (with_reducible exact Nat.le_refl _) | (with_reducible assumption) | omega | (simp only [World.size_alloc, World.size_setCell, World.size_drew, sz_drewN]; omega)))) (fun hS2 => ?_)
    clear hK K
    try simp only [Act.put, List.getElem_toArray, List.getElem_cons_zero, List.getElem_cons_succ, List.setIfInBounds_toArray, List.set_cons_zero, List.set_cons_succ]
    have X0 : Below w.heap.size w (((w.alloc (.cells #[.int .i64 k, .string nn, .int .i64 a1, .int .i64 b1, .int .i64 c1, .slice A1 m1 p1, .string qn, .int .i64 a2, .int .i64 b2, .int .i64 c2, .string tn, .string tq, .int .i64 tp, .int .i64 a3, .int .i64 b3, .int .i64 c3, .slice A3 m3 p3, .string ta, .string tg, .int .i64 ts, .string s] 32)).drew.alloc (.cells #[.string ⟨#[]⟩, .int .i64 0, .int .i64 0, .int .i64 0, .slice none 0 0] 26)).alloc (.cells #[.string ⟨#[]⟩, .string ⟨#[]⟩, .int .i64 0, .int .i64 0, .int .i64 0, .int .i64 0, .slice none 0 0, .string ⟨#[]⟩, .string ⟨#[]⟩, .int .i64 0] 30)) := (by (repeat' (first | (with_reducible exact Below.refl _ _) | (with_reducible refine bdrewN ?_ _) | (with_reducible refine Below.drew ?_) | (with_reducible refine Below.setCell ?_ ?_ _) | (with_reducible refine Below.alloc ?_ ?_ _) | (with_reducible exact Nat.le_refl _) | (with_reducible assumption) | omega | (simp only [World.size_alloc, World.size_setCell, World.size_drew, sz_drewN]; omega))))
    have X1 : Bk (((w.alloc (.cells #[.int .i64 k, .string nn, .int .i64 a1, .int .i64 b1, .int .i64 c1, .slice A1 m1 p1, .string qn, .int .i64 a2, .int .i64 b2, .int .i64 c2, .string tn, .string tq, .int .i64 tp, .int .i64 a3, .int .i64 b3, .int .i64 c3, .slice A3 m3 p3, .string ta, .string tg, .int .i64 ts, .string s] 32)).drew.alloc (.cells #[.string ⟨#[]⟩, .int .i64 0, .int .i64 0, .int .i64 0, .slice none 0 0] 26)).alloc (.cells #[.string ⟨#[]⟩, .string ⟨#[]⟩, .int .i64 0, .int .i64 0, .int .i64 0, .int .i64 0, .slice none 0 0, .string ⟨#[]⟩, .string ⟨#[]⟩, .int .i64 0] 30)) w.heap.size 32 #[.int .i64 k, .string nn, .int .i64 a1, .int .i64 b1, .int .i64 c1, .slice A1 m1 p1, .string qn, .int .i64 a2, .int .i64 b2, .int .i64 c2, .string tn, .string tq, .int .i64 tp, .int .i64 a3, .int .i64 b3, .int .i64 c3, .slice A3 m3 p3, .string ta, .string tg, .int .i64 ts, .string s] := (((Bk.fresh _ _ _).drewB).later ((Below.refl _ _).alloc (Nat.le_refl _) _)).later ((Below.refl _ _).alloc (Nat.le_refl _) _)
    have X2 : Bk (((w.alloc (.cells #[.int .i64 k, .string nn, .int .i64 a1, .int .i64 b1, .int .i64 c1, .slice A1 m1 p1, .string qn, .int .i64 a2, .int .i64 b2, .int .i64 c2, .string tn, .string tq, .int .i64 tp, .int .i64 a3, .int .i64 b3, .int .i64 c3, .slice A3 m3 p3, .string ta, .string tg, .int .i64 ts, .string s] 32)).drew.alloc (.cells #[.string ⟨#[]⟩, .int .i64 0, .int .i64 0, .int .i64 0, .slice none 0 0] 26)).alloc (.cells #[.string ⟨#[]⟩, .string ⟨#[]⟩, .int .i64 0, .int .i64 0, .int .i64 0, .int .i64 0, .slice none 0 0, .string ⟨#[]⟩, .string ⟨#[]⟩, .int .i64 0] 30)) (w.heap.size + 1) 26 #[.string ⟨#[]⟩, .int .i64 0, .int .i64 0, .int .i64 0, .slice none 0 0] := ((show Bk ((w.alloc (.cells #[.int .i64 k, .string nn, .int .i64 a1, .int .i64 b1, .int .i64 c1, .slice A1 m1 p1, .string qn, .int .i64 a2, .int .i64 b2, .int .i64 c2, .string tn, .string tq, .int .i64 tp, .int .i64 a3, .int .i64 b3, .int .i64 c3, .slice A3 m3 p3, .string ta, .string tg, .int .i64 ts, .string s] 32)).drew.alloc (.cells #[.string ⟨#[]⟩, .int .i64 0, .int .i64 0, .int .i64 0, .slice none 0 0] 26)) (w.heap.size + 1) 26 #[.string ⟨#[]⟩, .int .i64 0, .int .i64 0, .int .i64 0, .slice none 0 0] from Bk.freshAt _ _ _ (by simp)).later ((Below.refl _ _).alloc (Nat.le_refl _) _))
    have X3 : Bk (((w.alloc (.cells #[.int .i64 k, .string nn, .int .i64 a1, .int .i64 b1, .int .i64 c1, .slice A1 m1 p1, .string qn, .int .i64 a2, .int .i64 b2, .int .i64 c2, .string tn, .string tq, .int .i64 tp, .int .i64 a3, .int .i64 b3, .int .i64 c3, .slice A3 m3 p3, .string ta, .string tg, .int .i64 ts, .string s] 32)).drew.alloc (.cells #[.string ⟨#[]⟩, .int .i64 0, .int .i64 0, .int .i64 0, .slice none 0 0] 26)).alloc (.cells #[.string ⟨#[]⟩, .string ⟨#[]⟩, .int .i64 0, .int .i64 0, .int .i64 0, .int .i64 0, .slice none 0 0, .string ⟨#[]⟩, .string ⟨#[]⟩, .int .i64 0] 30)) (w.heap.size + 2) 30 #[.string ⟨#[]⟩, .string ⟨#[]⟩, .int .i64 0, .int .i64 0, .int .i64 0, .int .i64 0, .slice none 0 0, .string ⟨#[]⟩, .string ⟨#[]⟩, .int .i64 0] := (Bk.freshAt _ _ _ (by simp))
    refine wpAnyH_ready (rs := [6]) (by kernel_rfl) (by simp) ?_
    refine AllReadyH.cons rfl (fun K hK => ?_) AllReadyH.nil
    rw [if_pos (by rfl)]
    refine store_bk_op 26 (.tmp 3) (.tmp 8) rfl (w.heap.size + 1) 0 #[.string nn, .int .i64 a1, .int .i64 b1, .int .i64 c1, .slice A1 m1 p1] rfl rfl 26 #[.string ⟨#[]⟩, .int .i64 0, .int .i64 0, .int .i64 0, .slice none 0 0] #[.string nn, .int .i64 a1, .int .i64 b1, .int .i64 c1, .slice A1 m1 p1] X2 (by kernel_rfl) (by simp) (by kernel_rfl) rfl ?_
    intro w3 hB3 hg3 hs3
    have Y0 := grown_below X0 hg3 (by omega)
    have Y1 := X1.stays hg3 (by simp)
    have Y3 := X3.stays hg3 (by simp)
    refine hK.out _ _ (Below.trans hS2 (grownBy_below hg3 hS2.size (by intro k e; cases e; simp))) (fun hS3 => ?_)
    clear hK K X0 X1 X2 X3
    try simp only [Act.put, List.getElem_toArray, List.getElem_cons_zero, List.getElem_cons_succ, List.setIfInBounds_toArray, List.set_cons_zero, List.set_cons_succ]
    refine wpAnyH_ready (rs := [7]) (by kernel_rfl) (by simp) ?_
    refine AllReadyH.cons rfl (fun K hK => ?_) AllReadyH.nil
    rw [if_pos (by rfl)]
    refine store_bk_op 30 (.tmp 4) (.tmp 10) rfl (w.heap.size + 2) 0 #[.string tn, .string tq, .int .i64 tp, .int .i64 a3, .int .i64 b3, .int .i64 c3, .slice A3 m3 p3, .string ta, .string tg, .int .i64 ts] rfl rfl 30 #[.string ⟨#[]⟩, .string ⟨#[]⟩, .int .i64 0, .int .i64 0, .int .i64 0, .int .i64 0, .slice none 0 0, .string ⟨#[]⟩, .string ⟨#[]⟩, .int .i64 0] #[.string tn, .string tq, .int .i64 tp, .int .i64 a3, .int .i64 b3, .int .i64 c3, .slice A3 m3 p3, .string ta, .string tg, .int .i64 ts] Y3 (by kernel_rfl) (by simp) (by kernel_rfl) rfl ?_
    intro w4 hB4 hg4 hs4
    have T4 : Hid (Below w.heap.size w w4 ∧ Bk w4 w.heap.size 32 #[.int .i64 k, .string nn, .int .i64 a1, .int .i64 b1, .int .i64 c1, .slice A1 m1 p1, .string qn, .int .i64 a2, .int .i64 b2, .int .i64 c2, .string tn, .string tq, .int .i64 tp, .int .i64 a3, .int .i64 b3, .int .i64 c3, .slice A3 m3 p3, .string ta, .string tg, .int .i64 ts, .string s] ∧ Bk w4 (w.heap.size + 1) 26 #[.string nn, .int .i64 a1, .int .i64 b1, .int .i64 c1, .slice A1 m1 p1] ∧ Bk w4 (w.heap.size + 2) 30 #[.string tn, .string tq, .int .i64 tp, .int .i64 a3, .int .i64 b3, .int .i64 c3, .slice A3 m3 p3, .string ta, .string tg, .int .i64 ts]) := ⟨grown_below Y0 hg4 (by omega), Y1.stays hg4 (by simp), hB3.stays hg4 (by simp), hB4⟩
    refine hK.out _ _ (Below.trans hS3 (grownBy_below hg4 hS3.size (by intro k e; cases e; simp))) (fun hS4 => ?_)
    clear hK K Y0 Y1 Y3 hS0 hS1 hS2 hS3 hS4 hB3 hg3 hs3 hB4 hg4 hs4
    try simp only [Act.put, List.getElem_toArray, List.getElem_cons_zero, List.getElem_cons_succ, List.setIfInBounds_toArray, List.set_cons_zero, List.set_cons_succ]
    refine wpAnyH_done (by kernel_rfl) ?_ _
    have q6_w4 : w4.cell? ⟨w.heap.size, 6, none⟩ = some (.string qn) := Bk.cellAt T4.out.2.1 6
    have q20_w4 : w4.cell? ⟨w.heap.size, 20, none⟩ = some (.string s) := Bk.cellAt T4.out.2.1 20
    have n0_w4 : w4.cell? ⟨(w.heap.size + 1), 0, none⟩ = some (.string nn) := Bk.cellAt T4.out.2.2.1 0
    have n4_w4 : w4.cell? ⟨(w.heap.size + 1), 4, none⟩ = some (.slice A1 m1 p1) := Bk.cellAt T4.out.2.2.1 4
    have t0_w4 : w4.cell? ⟨(w.heap.size + 2), 0, none⟩ = some (.string tn) := Bk.cellAt T4.out.2.2.2 0
    have t1_w4 : w4.cell? ⟨(w.heap.size + 2), 1, none⟩ = some (.string tq) := Bk.cellAt T4.out.2.2.2 1
    have t6_w4 : w4.cell? ⟨(w.heap.size + 2), 6, none⟩ = some (.slice A3 m3 p3) := Bk.cellAt T4.out.2.2.2 6
    have t7_w4 : w4.cell? ⟨(w.heap.size + 2), 7, none⟩ = some (.string ta) := Bk.cellAt T4.out.2.2.2 7
    have t8_w4 : w4.cell? ⟨(w.heap.size + 2), 8, none⟩ = some (.string tg) := Bk.cellAt T4.out.2.2.2 8
    have z_w4 : w.heap.size + 2 < w4.heap.size := by have h := Bk.here T4.out.2.2.2; exact h
    by_cases c1 : 100 < m1
    case pos =>
      go_wp2
      go_ret
      exact ⟨⟨_, rfl⟩, T4.out.1⟩
    case neg =>
    by_cases c2 : 100 < m3
    case pos =>
      go_wp2
      go_ret
      exact ⟨⟨_, rfl⟩, T4.out.1⟩
    case neg =>
    by_cases c3 : (5000 : Int) < ((nn.size : Int) + (qn.size : Int) + (tn.size : Int) + (tq.size : Int) + (ta.size : Int) + (tg.size : Int) + (s.size : Int))
    case pos =>
      go_wp2
      go_ret
      exact ⟨⟨_, rfl⟩, T4.out.1⟩
    case neg =>
    have c3x : ((nn.size : Int) + (qn.size : Int) + (tn.size : Int) + (tq.size : Int) + (ta.size : Int) + (tg.size : Int) + (s.size : Int)) ≤ 5000 := by omega
    go_wp2_with fail
    go_loopw [5, 55] (fun _ i wr => ∃ k : Nat, k ≤ m1 ∧ i = .int .i64 k ∧ Below w4.heap.size w4 wr) (fun _ i wr => m1 - (intOf i).toNat)
    case atStart => exact ⟨0, Nat.zero_le _, rfl, Below.refl _ _⟩
    case round =>
      obtain ⟨k, hk, rfl, hb⟩ := hrel
      by_cases hlt : k < m1
      case pos =>
        have q6_wr : wr.cell? ⟨w.heap.size, 6, none⟩ = some (.string qn) := Bk.cellAt (Bk.later T4.out.2.1 hb) 6
        have q20_wr : wr.cell? ⟨w.heap.size, 20, none⟩ = some (.string s) := Bk.cellAt (Bk.later T4.out.2.1 hb) 20
        have n0_wr : wr.cell? ⟨(w.heap.size + 1), 0, none⟩ = some (.string nn) := Bk.cellAt (Bk.later T4.out.2.2.1 hb) 0
        have n4_wr : wr.cell? ⟨(w.heap.size + 1), 4, none⟩ = some (.slice A1 m1 p1) := Bk.cellAt (Bk.later T4.out.2.2.1 hb) 4
        have t0_wr : wr.cell? ⟨(w.heap.size + 2), 0, none⟩ = some (.string tn) := Bk.cellAt (Bk.later T4.out.2.2.2 hb) 0
        have t1_wr : wr.cell? ⟨(w.heap.size + 2), 1, none⟩ = some (.string tq) := Bk.cellAt (Bk.later T4.out.2.2.2 hb) 1
        have t6_wr : wr.cell? ⟨(w.heap.size + 2), 6, none⟩ = some (.slice A3 m3 p3) := Bk.cellAt (Bk.later T4.out.2.2.2 hb) 6
        have t7_wr : wr.cell? ⟨(w.heap.size + 2), 7, none⟩ = some (.string ta) := Bk.cellAt (Bk.later T4.out.2.2.2 hb) 7
        have t8_wr : wr.cell? ⟨(w.heap.size + 2), 8, none⟩ = some (.string tg) := Bk.cellAt (Bk.later T4.out.2.2.2 hb) 8
        have z_wr : w.heap.size + 2 < wr.heap.size := by have h := Bk.here T4.out.2.2.2; have h2 := Below.size hb; omega
        have hlt2 : k < l1.length := by have := hn1.out; omega
        obtain ⟨g, o, hA, hg, h1, h2⟩ := (hr1.out.later (T4.out.1.trans (hb.mono T4.out.1.size))).at hlt2
        subst hA
        obtain ⟨z1, z2⟩ := hz1.out.at hlt2
        by_cases hok : (l1[k].1.size : Int) + (l1[k].2.size : Int) ≤ 1000
        case pos =>
          go_wp2_with fail
          go_quiet (fail)
          go_wp2
          go_round
          case rel => exact ⟨k + 1, by omega, by go_num, (by (repeat' (first | (with_reducible exact Below.refl _ _) | (with_reducible refine bdrewN ?_ _) | (with_reducible refine Below.drew ?_) | (with_reducible refine Below.setCell ?_ ?_ _) | (with_reducible refine Below.alloc ?_ ?_ _) | (with_reducible refine Below.trans ?_ (Below.mono hb ?_)) | (with_reducible exact Nat.le_refl _) | (with_reducible assumption) | omega | (simp only [World.size_alloc, World.size_setCell, World.size_drew, sz_drewN]; omega))))⟩
          case measure => simp [intOf]; omega
        case neg =>
          go_wp2_with fail
          go_quiet (fail)
          go_wp2
          go_ret
          exact ⟨⟨_, rfl⟩, T4.out.1.trans (Below.mono (by (repeat' (first | (with_reducible exact Below.refl _ _) | (with_reducible refine bdrewN ?_ _) | (with_reducible refine Below.drew ?_) | (with_reducible refine Below.setCell ?_ ?_ _) | (with_reducible refine Below.alloc ?_ ?_ _) | (with_reducible refine Below.trans ?_ (Below.mono hb ?_)) | (with_reducible exact Nat.le_refl _) | (with_reducible assumption) | omega | (simp only [World.size_alloc, World.size_setCell, World.size_drew, sz_drewN]; omega)))) T4.out.1.size)⟩
      case neg =>
        have hkn : k = m1 := by omega
        obtain ⟨wo, hwo⟩ : ∃ wo, wo = wr := ⟨_, rfl⟩
        subst hwo
        have hbo := hb
        clear hb
        have q6_wo : wo.cell? ⟨w.heap.size, 6, none⟩ = some (.string qn) := Bk.cellAt (Bk.later T4.out.2.1 hbo) 6
        have q20_wo : wo.cell? ⟨w.heap.size, 20, none⟩ = some (.string s) := Bk.cellAt (Bk.later T4.out.2.1 hbo) 20
        have n0_wo : wo.cell? ⟨(w.heap.size + 1), 0, none⟩ = some (.string nn) := Bk.cellAt (Bk.later T4.out.2.2.1 hbo) 0
        have n4_wo : wo.cell? ⟨(w.heap.size + 1), 4, none⟩ = some (.slice A1 m1 p1) := Bk.cellAt (Bk.later T4.out.2.2.1 hbo) 4
        have t0_wo : wo.cell? ⟨(w.heap.size + 2), 0, none⟩ = some (.string tn) := Bk.cellAt (Bk.later T4.out.2.2.2 hbo) 0
        have t1_wo : wo.cell? ⟨(w.heap.size + 2), 1, none⟩ = some (.string tq) := Bk.cellAt (Bk.later T4.out.2.2.2 hbo) 1
        have t6_wo : wo.cell? ⟨(w.heap.size + 2), 6, none⟩ = some (.slice A3 m3 p3) := Bk.cellAt (Bk.later T4.out.2.2.2 hbo) 6
        have t7_wo : wo.cell? ⟨(w.heap.size + 2), 7, none⟩ = some (.string ta) := Bk.cellAt (Bk.later T4.out.2.2.2 hbo) 7
        have t8_wo : wo.cell? ⟨(w.heap.size + 2), 8, none⟩ = some (.string tg) := Bk.cellAt (Bk.later T4.out.2.2.2 hbo) 8
        have z_wo : w.heap.size + 2 < wo.heap.size := by have h := Bk.here T4.out.2.2.2; have h2 := Below.size hbo; omega
        go_wp2_with fail
        go_loopw [6, 78] (fun _ i wr => ∃ k : Nat, k ≤ m3 ∧ i = .int .i64 k ∧ Below w4.heap.size w4 wr) (fun _ i wr => m3 - (intOf i).toNat)
        case atStart => exact ⟨0, Nat.zero_le _, rfl, hbo⟩
        case round =>
          obtain ⟨k, hk, rfl, hb⟩ := hrel
          by_cases hlt : k < m3
          case pos =>
            have q6_wr : wr.cell? ⟨w.heap.size, 6, none⟩ = some (.string qn) := Bk.cellAt (Bk.later T4.out.2.1 hb) 6
            have q20_wr : wr.cell? ⟨w.heap.size, 20, none⟩ = some (.string s) := Bk.cellAt (Bk.later T4.out.2.1 hb) 20
            have n0_wr : wr.cell? ⟨(w.heap.size + 1), 0, none⟩ = some (.string nn) := Bk.cellAt (Bk.later T4.out.2.2.1 hb) 0
            have n4_wr : wr.cell? ⟨(w.heap.size + 1), 4, none⟩ = some (.slice A1 m1 p1) := Bk.cellAt (Bk.later T4.out.2.2.1 hb) 4
            have t0_wr : wr.cell? ⟨(w.heap.size + 2), 0, none⟩ = some (.string tn) := Bk.cellAt (Bk.later T4.out.2.2.2 hb) 0
            have t1_wr : wr.cell? ⟨(w.heap.size + 2), 1, none⟩ = some (.string tq) := Bk.cellAt (Bk.later T4.out.2.2.2 hb) 1
            have t6_wr : wr.cell? ⟨(w.heap.size + 2), 6, none⟩ = some (.slice A3 m3 p3) := Bk.cellAt (Bk.later T4.out.2.2.2 hb) 6
            have t7_wr : wr.cell? ⟨(w.heap.size + 2), 7, none⟩ = some (.string ta) := Bk.cellAt (Bk.later T4.out.2.2.2 hb) 7
            have t8_wr : wr.cell? ⟨(w.heap.size + 2), 8, none⟩ = some (.string tg) := Bk.cellAt (Bk.later T4.out.2.2.2 hb) 8
            have z_wr : w.heap.size + 2 < wr.heap.size := by have h := Bk.here T4.out.2.2.2; have h2 := Below.size hb; omega
            have hlt2 : k < l3.length := by have := hn3.out; omega
            obtain ⟨g, o, hA, hg, h1, h2⟩ := (hr3.out.later (T4.out.1.trans (hb.mono T4.out.1.size))).at hlt2
            subst hA
            obtain ⟨z1, z2⟩ := hz3.out.at hlt2
            by_cases hok : (l3[k].1.size : Int) + (l3[k].2.size : Int) ≤ 1000
            case pos =>
              go_wp2_with fail
              go_quiet (fail)
              go_wp2
              go_round
              case rel => exact ⟨k + 1, by omega, by go_num, (by (repeat' (first | (with_reducible exact Below.refl _ _) | (with_reducible refine bdrewN ?_ _) | (with_reducible refine Below.drew ?_) | (with_reducible refine Below.setCell ?_ ?_ _) | (with_reducible refine Below.alloc ?_ ?_ _) | (with_reducible refine Below.trans ?_ (Below.mono hb ?_)) | (with_reducible exact Nat.le_refl _) | (with_reducible assumption) | omega | (simp only [World.size_alloc, World.size_setCell, World.size_drew, sz_drewN]; omega))))⟩
              case measure => simp [intOf]; omega
            case neg =>
              go_wp2_with fail
              go_quiet (fail)
              go_wp2
              go_ret
              exact ⟨⟨_, rfl⟩, T4.out.1.trans (Below.mono (by (repeat' (first | (with_reducible exact Below.refl _ _) | (with_reducible refine bdrewN ?_ _) | (with_reducible refine Below.drew ?_) | (with_reducible refine Below.setCell ?_ ?_ _) | (with_reducible refine Below.alloc ?_ ?_ _) | (with_reducible refine Below.trans ?_ (Below.mono hb ?_)) | (with_reducible exact Nat.le_refl _) | (with_reducible assumption) | omega | (simp only [World.size_alloc, World.size_setCell, World.size_drew, sz_drewN]; omega)))) T4.out.1.size)⟩
          case neg =>
            have hkn : k = m3 := by omega
            go_wp2
            go_ret
            exact ⟨⟨_, rfl⟩, T4.out.1.trans (hb.mono T4.out.1.size)⟩
  · go_simp
    refine hK.out _ _ (by (repeat' (first | (with_reducible exact Below.refl _ _) | (with_reducible refine bdrewN ?_ _) | (with_reducible refine Below.drew ?_) | (with_reducible refine Below.setCell ?_ ?_ _) | (with_reducible refine Below.alloc ?_ ?_ _) | (with_reducible exact Nat.le_refl _) | (with_reducible assumption) | omega | (simp only [World.size_alloc, World.size_setCell, World.size_drew, sz_drewN]; omega)))) (fun hS1 => ?_)
    clear hK K
    try simp only [Act.put, List.getElem_toArray, List.getElem_cons_zero, List.getElem_cons_succ, List.setIfInBounds_toArray, List.set_cons_zero, List.set_cons_succ]
    refine wpAnyH_ready (rs := [4]) (by kernel_rfl) (by simp) ?_
    refine AllReadyH.cons rfl (fun K hK => ?_) AllReadyH.nil
    go_simp
    refine hK.out _ _ (by (repeat' (first | (with_reducible exact Below.refl _ _) | (with_reducible refine bdrewN ?_ _) | (with_reducible refine Below.drew ?_) | (with_reducible refine Below.setCell ?_ ?_ _) | (with_reducible refine Below.alloc ?_ ?_ _) | (with_reducible exact Nat.le_refl _) | (with_reducible assumption) | omega | (simp only [World.size_alloc, World.size_setCell, World.size_drew, sz_drewN]; omega)))) (fun hS2 => ?_)
    clear hK K
    try simp only [Act.put, List.getElem_toArray, List.getElem_cons_zero, List.getElem_cons_succ, List.setIfInBounds_toArray, List.set_cons_zero, List.set_cons_succ]
    have X0 : Below w.heap.size w (((w.alloc (.cells #[.int .i64 k, .string nn, .int .i64 a1, .int .i64 b1, .int .i64 c1, .slice A1 m1 p1, .string qn, .int .i64 a2, .int .i64 b2, .int .i64 c2, .string tn, .string tq, .int .i64 tp, .int .i64 a3, .int .i64 b3, .int .i64 c3, .slice A3 m3 p3, .string ta, .string tg, .int .i64 ts, .string s] 32)).drew.alloc (.cells #[.string ⟨#[]⟩, .string ⟨#[]⟩, .int .i64 0, .int .i64 0, .int .i64 0, .int .i64 0, .slice none 0 0, .string ⟨#[]⟩, .string ⟨#[]⟩, .int .i64 0] 30)).alloc (.cells #[.string ⟨#[]⟩, .int .i64 0, .int .i64 0, .int .i64 0, .slice none 0 0] 26)) := (by (repeat' (first | (with_reducible exact Below.refl _ _) | (with_reducible refine bdrewN ?_ _) | (with_reducible refine Below.drew ?_) | (with_reducible refine Below.setCell ?_ ?_ _) | (with_reducible refine Below.alloc ?_ ?_ _) | (with_reducible exact Nat.le_refl _) | (with_reducible assumption) | omega | (simp only [World.size_alloc, World.size_setCell, World.size_drew, sz_drewN]; omega))))
    have X1 : Bk (((w.alloc (.cells #[.int .i64 k, .string nn, .int .i64 a1, .int .i64 b1, .int .i64 c1, .slice A1 m1 p1, .string qn, .int .i64 a2, .int .i64 b2, .int .i64 c2, .string tn, .string tq, .int .i64 tp, .int .i64 a3, .int .i64 b3, .int .i64 c3, .slice A3 m3 p3, .string ta, .string tg, .int .i64 ts, .string s] 32)).drew.alloc (.cells #[.string ⟨#[]⟩, .string ⟨#[]⟩, .int .i64 0, .int .i64 0, .int .i64 0, .int .i64 0, .slice none 0 0, .string ⟨#[]⟩, .string ⟨#[]⟩, .int .i64 0] 30)).alloc (.cells #[.string ⟨#[]⟩, .int .i64 0, .int .i64 0, .int .i64 0, .slice none 0 0] 26)) w.heap.size 32 #[.int .i64 k, .string nn, .int .i64 a1, .int .i64 b1, .int .i64 c1, .slice A1 m1 p1, .string qn, .int .i64 a2, .int .i64 b2, .int .i64 c2, .string tn, .string tq, .int .i64 tp, .int .i64 a3, .int .i64 b3, .int .i64 c3, .slice A3 m3 p3, .string ta, .string tg, .int .i64 ts, .string s] := (((Bk.fresh _ _ _).drewB).later ((Below.refl _ _).alloc (Nat.le_refl _) _)).later ((Below.refl _ _).alloc (Nat.le_refl _) _)
    have X2 : Bk (((w.alloc (.cells #[.int .i64 k, .string nn, .int .i64 a1, .int .i64 b1, .int .i64 c1, .slice A1 m1 p1, .string qn, .int .i64 a2, .int .i64 b2, .int .i64 c2, .string tn, .string tq, .int .i64 tp, .int .i64 a3, .int .i64 b3, .int .i64 c3, .slice A3 m3 p3, .string ta, .string tg, .int .i64 ts, .string s] 32)).drew.alloc (.cells #[.string ⟨#[]⟩, .string ⟨#[]⟩, .int .i64 0, .int .i64 0, .int .i64 0, .int .i64 0, .slice none 0 0, .string ⟨#[]⟩, .string ⟨#[]⟩, .int .i64 0] 30)).alloc (.cells #[.string ⟨#[]⟩, .int .i64 0, .int .i64 0, .int .i64 0, .slice none 0 0] 26)) (w.heap.size + 2) 26 #[.string ⟨#[]⟩, .int .i64 0, .int .i64 0, .int .i64 0, .slice none 0 0] := (Bk.freshAt _ _ _ (by simp))
    have X3 : Bk (((w.alloc (.cells #[.int .i64 k, .string nn, .int .i64 a1, .int .i64 b1, .int .i64 c1, .slice A1 m1 p1, .string qn, .int .i64 a2, .int .i64 b2, .int .i64 c2, .string tn, .string tq, .int .i64 tp, .int .i64 a3, .int .i64 b3, .int .i64 c3, .slice A3 m3 p3, .string ta, .string tg, .int .i64 ts, .string s] 32)).drew.alloc (.cells #[.string ⟨#[]⟩, .string ⟨#[]⟩, .int .i64 0, .int .i64 0, .int .i64 0, .int .i64 0, .slice none 0 0, .string ⟨#[]⟩, .string ⟨#[]⟩, .int .i64 0] 30)).alloc (.cells #[.string ⟨#[]⟩, .int .i64 0, .int .i64 0, .int .i64 0, .slice none 0 0] 26)) (w.heap.size + 1) 30 #[.string ⟨#[]⟩, .string ⟨#[]⟩, .int .i64 0, .int .i64 0, .int .i64 0, .int .i64 0, .slice none 0 0, .string ⟨#[]⟩, .string ⟨#[]⟩, .int .i64 0] := ((show Bk ((w.alloc (.cells #[.int .i64 k, .string nn, .int .i64 a1, .int .i64 b1, .int .i64 c1, .slice A1 m1 p1, .string qn, .int .i64 a2, .int .i64 b2, .int .i64 c2, .string tn, .string tq, .int .i64 tp, .int .i64 a3, .int .i64 b3, .int .i64 c3, .slice A3 m3 p3, .string ta, .string tg, .int .i64 ts, .string s] 32)).drew.alloc (.cells #[.string ⟨#[]⟩, .string ⟨#[]⟩, .int .i64 0, .int .i64 0, .int .i64 0, .int .i64 0, .slice none 0 0, .string ⟨#[]⟩, .string ⟨#[]⟩, .int .i64 0] 30)) (w.heap.size + 1) 30 #[.string ⟨#[]⟩, .string ⟨#[]⟩, .int .i64 0, .int .i64 0, .int .i64 0, .int .i64 0, .slice none 0 0, .string ⟨#[]⟩, .string ⟨#[]⟩, .int .i64 0] from Bk.freshAt _ _ _ (by simp)).later ((Below.refl _ _).alloc (Nat.le_refl _) _))
    refine wpAnyH_ready (rs := [6]) (by kernel_rfl) (by simp) ?_
    refine AllReadyH.cons rfl (fun K hK => ?_) AllReadyH.nil
    rw [if_pos (by rfl)]
    refine store_bk_op 26 (.tmp 3) (.tmp 8) rfl (w.heap.size + 2) 0 #[.string nn, .int .i64 a1, .int .i64 b1, .int .i64 c1, .slice A1 m1 p1] rfl rfl 26 #[.string ⟨#[]⟩, .int .i64 0, .int .i64 0, .int .i64 0, .slice none 0 0] #[.string nn, .int .i64 a1, .int .i64 b1, .int .i64 c1, .slice A1 m1 p1] X2 (by kernel_rfl) (by simp) (by kernel_rfl) rfl ?_
    intro w3 hB3 hg3 hs3
    have Y0 := grown_below X0 hg3 (by omega)
    have Y1 := X1.stays hg3 (by simp)
    have Y3 := X3.stays hg3 (by simp)
    refine hK.out _ _ (Below.trans hS2 (grownBy_below hg3 hS2.size (by intro k e; cases e; simp))) (fun hS3 => ?_)
    clear hK K X0 X1 X2 X3
    try simp only [Act.put, List.getElem_toArray, List.getElem_cons_zero, List.getElem_cons_succ, List.setIfInBounds_toArray, List.set_cons_zero, List.set_cons_succ]
    refine wpAnyH_ready (rs := [7]) (by kernel_rfl) (by simp) ?_
    refine AllReadyH.cons rfl (fun K hK => ?_) AllReadyH.nil
    rw [if_pos (by rfl)]
    refine store_bk_op 30 (.tmp 4) (.tmp 10) rfl (w.heap.size + 1) 0 #[.string tn, .string tq, .int .i64 tp, .int .i64 a3, .int .i64 b3, .int .i64 c3, .slice A3 m3 p3, .string ta, .string tg, .int .i64 ts] rfl rfl 30 #[.string ⟨#[]⟩, .string ⟨#[]⟩, .int .i64 0, .int .i64 0, .int .i64 0, .int .i64 0, .slice none 0 0, .string ⟨#[]⟩, .string ⟨#[]⟩, .int .i64 0] #[.string tn, .string tq, .int .i64 tp, .int .i64 a3, .int .i64 b3, .int .i64 c3, .slice A3 m3 p3, .string ta, .string tg, .int .i64 ts] Y3 (by kernel_rfl) (by simp) (by kernel_rfl) rfl ?_
    intro w4 hB4 hg4 hs4
    have T4 : Hid (Below w.heap.size w w4 ∧ Bk w4 w.heap.size 32 #[.int .i64 k, .string nn, .int .i64 a1, .int .i64 b1, .int .i64 c1, .slice A1 m1 p1, .string qn, .int .i64 a2, .int .i64 b2, .int .i64 c2, .string tn, .string tq, .int .i64 tp, .int .i64 a3, .int .i64 b3, .int .i64 c3, .slice A3 m3 p3, .string ta, .string tg, .int .i64 ts, .string s] ∧ Bk w4 (w.heap.size + 2) 26 #[.string nn, .int .i64 a1, .int .i64 b1, .int .i64 c1, .slice A1 m1 p1] ∧ Bk w4 (w.heap.size + 1) 30 #[.string tn, .string tq, .int .i64 tp, .int .i64 a3, .int .i64 b3, .int .i64 c3, .slice A3 m3 p3, .string ta, .string tg, .int .i64 ts]) := ⟨grown_below Y0 hg4 (by omega), Y1.stays hg4 (by simp), hB3.stays hg4 (by simp), hB4⟩
    refine hK.out _ _ (Below.trans hS3 (grownBy_below hg4 hS3.size (by intro k e; cases e; simp))) (fun hS4 => ?_)
    clear hK K Y0 Y1 Y3 hS0 hS1 hS2 hS3 hS4 hB3 hg3 hs3 hB4 hg4 hs4
    try simp only [Act.put, List.getElem_toArray, List.getElem_cons_zero, List.getElem_cons_succ, List.setIfInBounds_toArray, List.set_cons_zero, List.set_cons_succ]
    refine wpAnyH_done (by kernel_rfl) ?_ _
    have q6_w4 : w4.cell? ⟨w.heap.size, 6, none⟩ = some (.string qn) := Bk.cellAt T4.out.2.1 6
    have q20_w4 : w4.cell? ⟨w.heap.size, 20, none⟩ = some (.string s) := Bk.cellAt T4.out.2.1 20
    have n0_w4 : w4.cell? ⟨(w.heap.size + 2), 0, none⟩ = some (.string nn) := Bk.cellAt T4.out.2.2.1 0
    have n4_w4 : w4.cell? ⟨(w.heap.size + 2), 4, none⟩ = some (.slice A1 m1 p1) := Bk.cellAt T4.out.2.2.1 4
    have t0_w4 : w4.cell? ⟨(w.heap.size + 1), 0, none⟩ = some (.string tn) := Bk.cellAt T4.out.2.2.2 0
    have t1_w4 : w4.cell? ⟨(w.heap.size + 1), 1, none⟩ = some (.string tq) := Bk.cellAt T4.out.2.2.2 1
    have t6_w4 : w4.cell? ⟨(w.heap.size + 1), 6, none⟩ = some (.slice A3 m3 p3) := Bk.cellAt T4.out.2.2.2 6
    have t7_w4 : w4.cell? ⟨(w.heap.size + 1), 7, none⟩ = some (.string ta) := Bk.cellAt T4.out.2.2.2 7
    have t8_w4 : w4.cell? ⟨(w.heap.size + 1), 8, none⟩ = some (.string tg) := Bk.cellAt T4.out.2.2.2 8
    have z_w4 : w.heap.size + 2 < w4.heap.size := by have h := Bk.here T4.out.2.2.1; exact h
    by_cases c1 : 100 < m1
    case pos =>
      go_wp2
      go_ret
      exact ⟨⟨_, rfl⟩, T4.out.1⟩
    case neg =>
    by_cases c2 : 100 < m3
    case pos =>
      go_wp2
      go_ret
      exact ⟨⟨_, rfl⟩, T4.out.1⟩
    case neg =>
    by_cases c3 : (5000 : Int) < ((nn.size : Int) + (qn.size : Int) + (tn.size : Int) + (tq.size : Int) + (ta.size : Int) + (tg.size : Int) + (s.size : Int))
    case pos =>
      go_wp2
      go_ret
      exact ⟨⟨_, rfl⟩, T4.out.1⟩
    case neg =>
    have c3x : ((nn.size : Int) + (qn.size : Int) + (tn.size : Int) + (tq.size : Int) + (ta.size : Int) + (tg.size : Int) + (s.size : Int)) ≤ 5000 := by omega
    go_wp2_with fail
    go_loopw [5, 55] (fun _ i wr => ∃ k : Nat, k ≤ m1 ∧ i = .int .i64 k ∧ Below w4.heap.size w4 wr) (fun _ i wr => m1 - (intOf i).toNat)
    case atStart => exact ⟨0, Nat.zero_le _, rfl, Below.refl _ _⟩
    case round =>
      obtain ⟨k, hk, rfl, hb⟩ := hrel
      by_cases hlt : k < m1
      case pos =>
        have q6_wr : wr.cell? ⟨w.heap.size, 6, none⟩ = some (.string qn) := Bk.cellAt (Bk.later T4.out.2.1 hb) 6
        have q20_wr : wr.cell? ⟨w.heap.size, 20, none⟩ = some (.string s) := Bk.cellAt (Bk.later T4.out.2.1 hb) 20
        have n0_wr : wr.cell? ⟨(w.heap.size + 2), 0, none⟩ = some (.string nn) := Bk.cellAt (Bk.later T4.out.2.2.1 hb) 0
        have n4_wr : wr.cell? ⟨(w.heap.size + 2), 4, none⟩ = some (.slice A1 m1 p1) := Bk.cellAt (Bk.later T4.out.2.2.1 hb) 4
        have t0_wr : wr.cell? ⟨(w.heap.size + 1), 0, none⟩ = some (.string tn) := Bk.cellAt (Bk.later T4.out.2.2.2 hb) 0
        have t1_wr : wr.cell? ⟨(w.heap.size + 1), 1, none⟩ = some (.string tq) := Bk.cellAt (Bk.later T4.out.2.2.2 hb) 1
        have t6_wr : wr.cell? ⟨(w.heap.size + 1), 6, none⟩ = some (.slice A3 m3 p3) := Bk.cellAt (Bk.later T4.out.2.2.2 hb) 6
        have t7_wr : wr.cell? ⟨(w.heap.size + 1), 7, none⟩ = some (.string ta) := Bk.cellAt (Bk.later T4.out.2.2.2 hb) 7
        have t8_wr : wr.cell? ⟨(w.heap.size + 1), 8, none⟩ = some (.string tg) := Bk.cellAt (Bk.later T4.out.2.2.2 hb) 8
        have z_wr : w.heap.size + 2 < wr.heap.size := by have h := Bk.here T4.out.2.2.1; have h2 := Below.size hb; omega
        have hlt2 : k < l1.length := by have := hn1.out; omega
        obtain ⟨g, o, hA, hg, h1, h2⟩ := (hr1.out.later (T4.out.1.trans (hb.mono T4.out.1.size))).at hlt2
        subst hA
        obtain ⟨z1, z2⟩ := hz1.out.at hlt2
        by_cases hok : (l1[k].1.size : Int) + (l1[k].2.size : Int) ≤ 1000
        case pos =>
          go_wp2_with fail
          go_quiet (fail)
          go_wp2
          go_round
          case rel => exact ⟨k + 1, by omega, by go_num, (by (repeat' (first | (with_reducible exact Below.refl _ _) | (with_reducible refine bdrewN ?_ _) | (with_reducible refine Below.drew ?_) | (with_reducible refine Below.setCell ?_ ?_ _) | (with_reducible refine Below.alloc ?_ ?_ _) | (with_reducible refine Below.trans ?_ (Below.mono hb ?_)) | (with_reducible exact Nat.le_refl _) | (with_reducible assumption) | omega | (simp only [World.size_alloc, World.size_setCell, World.size_drew, sz_drewN]; omega))))⟩
          case measure => simp [intOf]; omega
        case neg =>
          go_wp2_with fail
          go_quiet (fail)
          go_wp2
          go_ret
          exact ⟨⟨_, rfl⟩, T4.out.1.trans (Below.mono (by (repeat' (first | (with_reducible exact Below.refl _ _) | (with_reducible refine bdrewN ?_ _) | (with_reducible refine Below.drew ?_) | (with_reducible refine Below.setCell ?_ ?_ _) | (with_reducible refine Below.alloc ?_ ?_ _) | (with_reducible refine Below.trans ?_ (Below.mono hb ?_)) | (with_reducible exact Nat.le_refl _) | (with_reducible assumption) | omega | (simp only [World.size_alloc, World.size_setCell, World.size_drew, sz_drewN]; omega)))) T4.out.1.size)⟩
      case neg =>
        have hkn : k = m1 := by omega
        obtain ⟨wo, hwo⟩ : ∃ wo, wo = wr := ⟨_, rfl⟩
        subst hwo
        have hbo := hb
        clear hb
        have q6_wo : wo.cell? ⟨w.heap.size, 6, none⟩ = some (.string qn) := Bk.cellAt (Bk.later T4.out.2.1 hbo) 6
        have q20_wo : wo.cell? ⟨w.heap.size, 20, none⟩ = some (.string s) := Bk.cellAt (Bk.later T4.out.2.1 hbo) 20
        have n0_wo : wo.cell? ⟨(w.heap.size + 2), 0, none⟩ = some (.string nn) := Bk.cellAt (Bk.later T4.out.2.2.1 hbo) 0
        have n4_wo : wo.cell? ⟨(w.heap.size + 2), 4, none⟩ = some (.slice A1 m1 p1) := Bk.cellAt (Bk.later T4.out.2.2.1 hbo) 4
        have t0_wo : wo.cell? ⟨(w.heap.size + 1), 0, none⟩ = some (.string tn) := Bk.cellAt (Bk.later T4.out.2.2.2 hbo) 0
        have t1_wo : wo.cell? ⟨(w.heap.size + 1), 1, none⟩ = some (.string tq) := Bk.cellAt (Bk.later T4.out.2.2.2 hbo) 1
        have t6_wo : wo.cell? ⟨(w.heap.size + 1), 6, none⟩ = some (.slice A3 m3 p3) := Bk.cellAt (Bk.later T4.out.2.2.2 hbo) 6
        have t7_wo : wo.cell? ⟨(w.heap.size + 1), 7, none⟩ = some (.string ta) := Bk.cellAt (Bk.later T4.out.2.2.2 hbo) 7
        have t8_wo : wo.cell? ⟨(w.heap.size + 1), 8, none⟩ = some (.string tg) := Bk.cellAt (Bk.later T4.out.2.2.2 hbo) 8
        have z_wo : w.heap.size + 2 < wo.heap.size := by have h := Bk.here T4.out.2.2.1; have h2 := Below.size hbo; omega
        go_wp2_with fail
        go_loopw [6, 78] (fun _ i wr => ∃ k : Nat, k ≤ m3 ∧ i = .int .i64 k ∧ Below w4.heap.size w4 wr) (fun _ i wr => m3 - (intOf i).toNat)
        case atStart => exact ⟨0, Nat.zero_le _, rfl, hbo⟩
        case round =>
          obtain ⟨k, hk, rfl, hb⟩ := hrel
          by_cases hlt : k < m3
          case pos =>
            have q6_wr : wr.cell? ⟨w.heap.size, 6, none⟩ = some (.string qn) := Bk.cellAt (Bk.later T4.out.2.1 hb) 6
            have q20_wr : wr.cell? ⟨w.heap.size, 20, none⟩ = some (.string s) := Bk.cellAt (Bk.later T4.out.2.1 hb) 20
            have n0_wr : wr.cell? ⟨(w.heap.size + 2), 0, none⟩ = some (.string nn) := Bk.cellAt (Bk.later T4.out.2.2.1 hb) 0
            have n4_wr : wr.cell? ⟨(w.heap.size + 2), 4, none⟩ = some (.slice A1 m1 p1) := Bk.cellAt (Bk.later T4.out.2.2.1 hb) 4
            have t0_wr : wr.cell? ⟨(w.heap.size + 1), 0, none⟩ = some (.string tn) := Bk.cellAt (Bk.later T4.out.2.2.2 hb) 0
            have t1_wr : wr.cell? ⟨(w.heap.size + 1), 1, none⟩ = some (.string tq) := Bk.cellAt (Bk.later T4.out.2.2.2 hb) 1
            have t6_wr : wr.cell? ⟨(w.heap.size + 1), 6, none⟩ = some (.slice A3 m3 p3) := Bk.cellAt (Bk.later T4.out.2.2.2 hb) 6
            have t7_wr : wr.cell? ⟨(w.heap.size + 1), 7, none⟩ = some (.string ta) := Bk.cellAt (Bk.later T4.out.2.2.2 hb) 7
            have t8_wr : wr.cell? ⟨(w.heap.size + 1), 8, none⟩ = some (.string tg) := Bk.cellAt (Bk.later T4.out.2.2.2 hb) 8
            have z_wr : w.heap.size + 2 < wr.heap.size := by have h := Bk.here T4.out.2.2.1; have h2 := Below.size hb; omega
            have hlt2 : k < l3.length := by have := hn3.out; omega
            obtain ⟨g, o, hA, hg, h1, h2⟩ := (hr3.out.later (T4.out.1.trans (hb.mono T4.out.1.size))).at hlt2
            subst hA
            obtain ⟨z1, z2⟩ := hz3.out.at hlt2
            by_cases hok : (l3[k].1.size : Int) + (l3[k].2.size : Int) ≤ 1000
            case pos =>
              go_wp2_with fail
              go_quiet (fail)
              go_wp2
              go_round
              case rel => exact ⟨k + 1, by omega, by go_num, (by (repeat' (first | (with_reducible exact Below.refl _ _) | (with_reducible refine bdrewN ?_ _) | (with_reducible refine Below.drew ?_) | (with_reducible refine Below.setCell ?_ ?_ _) | (with_reducible refine Below.alloc ?_ ?_ _) | (with_reducible refine Below.trans ?_ (Below.mono hb ?_)) | (with_reducible exact Nat.le_refl _) | (with_reducible assumption) | omega | (simp only [World.size_alloc, World.size_setCell, World.size_drew, sz_drewN]; omega))))⟩
              case measure => simp [intOf]; omega
            case neg =>
              go_wp2_with fail
              go_quiet (fail)
              go_wp2
              go_ret
              exact ⟨⟨_, rfl⟩, T4.out.1.trans (Below.mono (by (repeat' (first | (with_reducible exact Below.refl _ _) | (with_reducible refine bdrewN ?_ _) | (with_reducible refine Below.drew ?_) | (with_reducible refine Below.setCell ?_ ?_ _) | (with_reducible refine Below.alloc ?_ ?_ _) | (with_reducible refine Below.trans ?_ (Below.mono hb ?_)) | (with_reducible exact Nat.le_refl _) | (with_reducible assumption) | omega | (simp only [World.size_alloc, World.size_setCell, World.size_drew, sz_drewN]; omega)))) T4.out.1.size)⟩
          case neg =>
            have hkn : k = m3 := by omega
            go_wp2
            go_ret
            exact ⟨⟨_, rfl⟩, T4.out.1.trans (hb.mono T4.out.1.size)⟩
end Go.Proofs.Ytehkdaknhgmdkaa
