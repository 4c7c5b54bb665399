/- The contract of oper.Right: is an operation valid. Condition: texts and slices are ones that Go can have. -/
import Derived.Test.YtjgojgmgicpgaaaGreatTBlk
import Derived.Test.YtjgojgmgicpgaaaGreatTQ00
import Derived.Test.YtjgojgmgicpgaaaGreatTRts
namespace Go.Proofs.YtjgojgmgicpgaaaGreat
open Go.RowKit
set_option linter.unusedSimpArgs false
set_option linter.unusedVariables false

theorem blankN_none : blankN ⟨#[]⟩ 0 0 0 [] = true := by unfold blankN sameNodeB; rw [sE_none]; rfl
theorem blankQ_none : blankQ ⟨#[]⟩ 0 0 0 = true := by unfold blankQ; rw [sE_none]; rfl
theorem blankT_none : blankT ⟨#[]⟩ ⟨#[]⟩ 0 0 0 0 [] ⟨#[]⟩ ⟨#[]⟩ 0 = true := by unfold blankT sameTaskB; rw [sE_none]; rfl
theorem hid_nil : Hid ((0 : Nat) = ([] : List Lb).length) := rfl

set_option maxHeartbeats 6400000 in
set_option maxRecDepth 100000 in
theorem opRight_any (k : Int) (nn : ByteArray) (a1 b1 c1 : Int) (A1 : Option Addr) (m1 p1 : Nat) (l1 : List Lb) (qn : ByteArray) (a2 b2 c2 : Int) (tn tq : ByteArray) (tp a3 b3 c3 : Int) (A3 : Option Addr) (m3 p3 : Nat) (l3 : List Lb) (ta tg : ByteArray) (ts : Int) (s : ByteArray) (w : World) (hn1 : Hid (m1 = l1.length)) (hp1 : m1 ≤ p1) (hq1 : p1 ≤ 9223372036854775807) (hn3 : Hid (m3 = l3.length)) (hp3 : m3 ≤ p3) (hq3 : p3 ≤ 9223372036854775807) (hr1 : Hid (RdL w A1 l1)) (hr3 : Hid (RdL w A3 l3)) (hz1 : Hid (Sz l1)) (hz3 : Hid (Sz l3)) (hnn : nn.size ≤ 140737488351232) (hqn : qn.size ≤ 140737488351232) (htn : tn.size ≤ 140737488351232) (htq : tq.size ≤ 140737488351232) (hta : ta.size ≤ 140737488351232) (htg : tg.size ≤ 140737488351232) (hs : s.size ≤ 140737488351232) : Calls Tryz.prog 62 #[.agg #[.int .i64 k, .string nn, .int .i64 a1, .int .i64 b1, .int .i64 c1, .slice A1 m1 p1, .string qn, .int .i64 a2, .int .i64 b2, .int .i64 c2, .string tn, .string tq, .int .i64 tp, .int .i64 a3, .int .i64 b3, .int .i64 c3, .slice A3 m3 p3, .string ta, .string tg, .int .i64 ts, .string s]] w fun e w' => e = .returned (.bool (opB ⟨k, nn, a1, b1, c1, l1, qn, a2, b2, c2, tn, tq, tp, a3, b3, c3, l3, ta, tg, ts, s⟩)) ∧ Below w.heap.size w w' := by
  obtain ⟨ans, hans⟩ : ∃ r, r = opB ⟨k, nn, a1, b1, c1, l1, qn, a2, b2, c2, tn, tq, tp, a3, b3, c3, l3, ta, tg, ts, s⟩ := ⟨_, rfl⟩
  rw [← hans]
  have HA := Lib.hid hans
  clear hans
  have kn := fun W (h : RdL W A1 l1) => node_any nn a1 b1 c1 A1 m1 p1 l1 W (by omega) hn1 (Lib.hid h) hz1 hp1 hq1
  have kq := fun W => queue_any qn a2 b2 c2 W (by omega)
  have kt := fun W (h : RdL W A3 l3) => task_any tn tq tp a3 b3 c3 A3 m3 p3 l3 ta tg ts W (by omega) (by omega) hn3 (Lib.hid h) hz3 hp3 hq3 (by omega) (by omega)
  have ks := fun W => name_any s W (by omega)
  have KN := Lib.hid kn
  have KQ := Lib.hid kq
  have KT := Lib.hid kt
  have KS := Lib.hid ks
  clear kn kq kt ks hnn hqn htn htq hta htg hs
  go_enter Tryz.func62, Tryz.ntmps62
  go_wp2_with fail
  refine wp_region_held_drew (S := fun W => Below (w.alloc (.cells #[.int .i64 k, .string nn, .int .i64 a1, .int .i64 b1, .int .i64 c1, .slice A1 m1 p1, .string qn, .int .i64 a2, .int .i64 b2, .int .i64 c2, .string tn, .string tq, .int .i64 tp, .int .i64 a3, .int .i64 b3, .int .i64 c3, .slice A3 m3 p3, .string ta, .string tg, .int .i64 ts, .string s] 59)).heap.size (w.alloc (.cells #[.int .i64 k, .string nn, .int .i64 a1, .int .i64 b1, .int .i64 c1, .slice A1 m1 p1, .string qn, .int .i64 a2, .int .i64 b2, .int .i64 c2, .string tn, .string tq, .int .i64 tp, .int .i64 a3, .int .i64 b3, .int .i64 c3, .slice A3 m3 p3, .string ta, .string tg, .int .i64 ts, .string s] 59)) W) (by kernel_rfl) (Below.drew (Below.refl _ _)) (fun hS0 => ?_)
  refine wpAnyH_take (i := 0) (v := .agg #[.int .i64 k, .string nn, .int .i64 a1, .int .i64 b1, .int .i64 c1, .slice A1 m1 p1, .string qn, .int .i64 a2, .int .i64 b2, .int .i64 c2, .string tn, .string tq, .int .i64 tp, .int .i64 a3, .int .i64 b3, .int .i64 c3, .slice A3 m3 p3, .string ta, .string tg, .int .i64 ts, .string s]) rfl (by kernel_rfl) (by kernel_rfl) (by kernel_rfl) (fun _ _ _ h => h) (yields_bk rfl 59 _ rfl w.heap.size 0 rfl 59 #[.int .i64 k, .string nn, .int .i64 a1, .int .i64 b1, .int .i64 c1, .slice A1 m1 p1, .string qn, .int .i64 a2, .int .i64 b2, .int .i64 c2, .string tn, .string tq, .int .i64 tp, .int .i64 a3, .int .i64 b3, .int .i64 c3, .slice A3 m3 p3, .string ta, .string tg, .int .i64 ts, .string s] #[.int .i64 k, .string nn, .int .i64 a1, .int .i64 b1, .int .i64 c1, .slice A1 m1 p1, .string qn, .int .i64 a2, .int .i64 b2, .int .i64 c2, .string tn, .string tq, .int .i64 tp, .int .i64 a3, .int .i64 b3, .int .i64 c3, .slice A3 m3 p3, .string ta, .string tg, .int .i64 ts, .string s] _ (fun W hW => (Bk.fresh _ _ _).later hW) (Part.whole _) Tryz.underlying59 rfl (by kernel_rfl)) hS0 ?_
  try simp only [Act.put, List.getElem_toArray, List.getElem_cons_zero, List.getElem_cons_succ, List.setIfInBounds_toArray, List.set_cons_zero, List.set_cons_succ]
  refine wpAnyH_ready (rs := [1]) (by kernel_rfl) (by simp) ?_
  refine AllReadyH.cons rfl (fun K hK => ?_) AllReadyH.nil
  go_simp
  refine hK.out _ _ (by (repeat' (first | (with_reducible exact Below.refl _ _) | (with_reducible refine bdrewN ?_ _) | (with_reducible refine Below.drew ?_) | (with_reducible refine Below.setCell ?_ ?_ _) | (with_reducible refine Below.alloc ?_ ?_ _) | (with_reducible exact Nat.le_refl _) | (with_reducible assumption) | omega | (simp only [World.size_alloc, World.size_setCell, World.size_drew, sz_drewN]; omega)))) (fun hS1 => ?_)
  clear hK K
  try simp only [Act.put, List.getElem_toArray, List.getElem_cons_zero, List.getElem_cons_succ, List.setIfInBounds_toArray, List.set_cons_zero, List.set_cons_succ]
  refine wpAnyH_take (i := 2) (v := ?_) rfl (by kernel_rfl) (by kernel_rfl) (by kernel_rfl) (fun _ _ _ h => h) (Or.inl ⟨by rfl, ?_⟩) hS1 ?_
  rotate_left
  · intro W _; go_simp; try with_reducible rfl
  try simp only [Act.put, List.getElem_toArray, List.getElem_cons_zero, List.getElem_cons_succ, List.setIfInBounds_toArray, List.set_cons_zero, List.set_cons_succ]
  refine wpAnyH_ready (rs := [3]) (by kernel_rfl) (by simp) ?_
  refine AllReadyH.cons rfl (fun K hK => ?_) AllReadyH.nil
  rw [if_pos (by rfl)]
  refine store_bk_op 59 (.tmp 4) (.tmp 5) rfl (w.heap.size + 1) 0 #[.int .i64 k, .string nn, .int .i64 a1, .int .i64 b1, .int .i64 c1, .slice A1 m1 p1, .string qn, .int .i64 a2, .int .i64 b2, .int .i64 c2, .string tn, .string tq, .int .i64 tp, .int .i64 a3, .int .i64 b3, .int .i64 c3, .slice A3 m3 p3, .string ta, .string tg, .int .i64 ts, .string s] rfl rfl 59 #[.int .i64 0, .string ⟨#[]⟩, .int .i64 0, .int .i64 0, .int .i64 0, .slice none 0 0, .string ⟨#[]⟩, .int .i64 0, .int .i64 0, .int .i64 0, .string ⟨#[]⟩, .string ⟨#[]⟩, .int .i64 0, .int .i64 0, .int .i64 0, .int .i64 0, .slice none 0 0, .string ⟨#[]⟩, .string ⟨#[]⟩, .int .i64 0, .string ⟨#[]⟩] #[.int .i64 k, .string nn, .int .i64 a1, .int .i64 b1, .int .i64 c1, .slice A1 m1 p1, .string qn, .int .i64 a2, .int .i64 b2, .int .i64 c2, .string tn, .string tq, .int .i64 tp, .int .i64 a3, .int .i64 b3, .int .i64 c3, .slice A3 m3 p3, .string ta, .string tg, .int .i64 ts, .string s] (Bk.freshAt _ _ _ (by simp)) (by kernel_rfl) (by simp) (by kernel_rfl) rfl ?_
  intro w1 hB1 hg1 hs1
  have T0 : Hid (Below w.heap.size w w1 ∧ Bk w1 w.heap.size 59 #[.int .i64 k, .string nn, .int .i64 a1, .int .i64 b1, .int .i64 c1, .slice A1 m1 p1, .string qn, .int .i64 a2, .int .i64 b2, .int .i64 c2, .string tn, .string tq, .int .i64 tp, .int .i64 a3, .int .i64 b3, .int .i64 c3, .slice A3 m3 p3, .string ta, .string tg, .int .i64 ts, .string s] ∧ Bk w1 (w.heap.size + 1) 59 #[.int .i64 k, .string nn, .int .i64 a1, .int .i64 b1, .int .i64 c1, .slice A1 m1 p1, .string qn, .int .i64 a2, .int .i64 b2, .int .i64 c2, .string tn, .string tq, .int .i64 tp, .int .i64 a3, .int .i64 b3, .int .i64 c3, .slice A3 m3 p3, .string ta, .string tg, .int .i64 ts, .string s]) := ⟨grown_below (by (repeat' (first | (with_reducible exact Below.refl _ _) | (with_reducible refine bdrewN ?_ _) | (with_reducible refine Below.drew ?_) | (with_reducible refine Below.setCell ?_ ?_ _) | (with_reducible refine Below.alloc ?_ ?_ _) | (with_reducible exact Nat.le_refl _) | (with_reducible assumption) | omega | (simp only [World.size_alloc, World.size_setCell, World.size_drew, sz_drewN]; omega)))) hg1 (by omega), (((Bk.fresh _ _ _).drewB).later ((Below.refl _ _).alloc (Nat.le_refl _) _)).stays hg1 (by simp), hB1⟩
  refine hK.out _ _ (Below.trans hS1 (grown_base hg1 hS1.size (by intro k e; cases e; simp))) (fun hS2 => ?_)
  clear hK K hS0 hS1 hS2 hB1 hg1 hs1
  try simp only [Act.put, List.getElem_toArray, List.getElem_cons_zero, List.getElem_cons_succ, List.setIfInBounds_toArray, List.set_cons_zero, List.set_cons_succ]
  refine wpAnyH_done (by kernel_rfl) ?_ _
  have f0 : w1.cell? ⟨w.heap.size, 0, none⟩ = some (.int .i64 k) := T0.out.2.1.cellAt 0
  have z0 : w.heap.size < w1.heap.size := T0.out.2.1.here
  by_cases h1 : k = 1
  case pos =>
    subst h1
    have kb := fun W => isBlank_any 1 ⟨#[]⟩ 0 0 0 none 0 0 [] qn a2 b2 c2 tn tq tp a3 b3 c3 A3 m3 p3 l3 ta tg ts s W hid_nil (Nat.le_refl 0) (by decide) hn3 hp3 hq3
    obtain ⟨rb, hrb⟩ : ∃ r, r = Ov.blank ⟨1, ⟨#[]⟩, 0, 0, 0, [], qn, a2, b2, c2, tn, tq, tp, a3, b3, c3, l3, ta, tg, ts, s⟩ := ⟨_, rfl⟩
    rw [← hrb] at kb
    obtain ⟨r, hr⟩ : ∃ r, r = nodeB nn a1 b1 c1 l1 := ⟨_, rfl⟩
    rw [← hr] at KN
    have hres : opB ⟨1, nn, a1, b1, c1, l1, qn, a2, b2, c2, tn, tq, tp, a3, b3, c3, l3, ta, tg, ts, s⟩ = (r && rb) := by
      rw [opB_1 rfl, hr, hrb]
      unfold Ov.blank Ov.zN Ov.zQ Ov.zT Ov.zS Ov.vN
      simp only [blankN_none, Bool.true_and, Bool.and_true, Bool.and_assoc]
    have HR := Lib.hid hres
    have KB := Lib.hid kb
    clear kb hres hrb hr
    go_wp2_with (with_reducible refine load_bk rfl 53 _ rfl w.heap.size 1 rfl 59 #[.int .i64 1, .string nn, .int .i64 a1, .int .i64 b1, .int .i64 c1, .slice A1 m1 p1, .string qn, .int .i64 a2, .int .i64 b2, .int .i64 c2, .string tn, .string tq, .int .i64 tp, .int .i64 a3, .int .i64 b3, .int .i64 c3, .slice A3 m3 p3, .string ta, .string tg, .int .i64 ts, .string s] #[.string nn, .int .i64 a1, .int .i64 b1, .int .i64 c1, .slice A1 m1 p1] _ T0.out.2.1 (Part.of rfl) Tryz.underlying53 rfl (by kernel_rfl) ?_)
    refine (KN.out _ (hr1.out.later T0.out.1)).mono ?_
    rintro e w2 ⟨rfl, hb2⟩
    have T2 : Hid (Below w.heap.size w w2 ∧ Bk w2 w.heap.size 59 #[.int .i64 1, .string nn, .int .i64 a1, .int .i64 b1, .int .i64 c1, .slice A1 m1 p1, .string qn, .int .i64 a2, .int .i64 b2, .int .i64 c2, .string tn, .string tq, .int .i64 tp, .int .i64 a3, .int .i64 b3, .int .i64 c3, .slice A3 m3 p3, .string ta, .string tg, .int .i64 ts, .string s] ∧ Bk w2 (w.heap.size + 1) 59 #[.int .i64 1, .string nn, .int .i64 a1, .int .i64 b1, .int .i64 c1, .slice A1 m1 p1, .string qn, .int .i64 a2, .int .i64 b2, .int .i64 c2, .string tn, .string tq, .int .i64 tp, .int .i64 a3, .int .i64 b3, .int .i64 c3, .slice A3 m3 p3, .string ta, .string tg, .int .i64 ts, .string s]) := ⟨T0.out.1.trans (hb2.mono T0.out.1.size), T0.out.2.1.later hb2, T0.out.2.2.later hb2⟩
    clear hb2 f0 z0
    cases r
    case false =>
      go_wp2_with (first | (with_reducible refine store_bk rfl 53 (.tmp 14) (.tmp 13) rfl (w.heap.size + 1) 1 #[.string ⟨#[]⟩, .int .i64 0, .int .i64 0, .int .i64 0, .slice none 0 0] rfl rfl 59 #[.int .i64 1, .string nn, .int .i64 a1, .int .i64 b1, .int .i64 c1, .slice A1 m1 p1, .string qn, .int .i64 a2, .int .i64 b2, .int .i64 c2, .string tn, .string tq, .int .i64 tp, .int .i64 a3, .int .i64 b3, .int .i64 c3, .slice A3 m3 p3, .string ta, .string tg, .int .i64 ts, .string s] #[.int .i64 1, .string ⟨#[]⟩, .int .i64 0, .int .i64 0, .int .i64 0, .slice none 0 0, .string qn, .int .i64 a2, .int .i64 b2, .int .i64 c2, .string tn, .string tq, .int .i64 tp, .int .i64 a3, .int .i64 b3, .int .i64 c3, .slice A3 m3 p3, .string ta, .string tg, .int .i64 ts, .string s] T2.out.2.2 (by kernel_rfl) (by simp) (by kernel_rfl) rfl ?_; intro w3 hB3 hg3 hs3) | (with_reducible refine load_bk rfl 59 _ rfl (w.heap.size + 1) 0 rfl 59 #[.int .i64 1, .string ⟨#[]⟩, .int .i64 0, .int .i64 0, .int .i64 0, .slice none 0 0, .string qn, .int .i64 a2, .int .i64 b2, .int .i64 c2, .string tn, .string tq, .int .i64 tp, .int .i64 a3, .int .i64 b3, .int .i64 c3, .slice A3 m3 p3, .string ta, .string tg, .int .i64 ts, .string s] #[.int .i64 1, .string ⟨#[]⟩, .int .i64 0, .int .i64 0, .int .i64 0, .slice none 0 0, .string qn, .int .i64 a2, .int .i64 b2, .int .i64 c2, .string tn, .string tq, .int .i64 tp, .int .i64 a3, .int .i64 b3, .int .i64 c3, .slice A3 m3 p3, .string ta, .string tg, .int .i64 ts, .string s] _ hB3 (Part.whole _) Tryz.underlying59 rfl (by kernel_rfl) ?_))
      go_ret
      exact ⟨ret_bool' (by rw [HA.out, HR.out]; rfl), (grown_below T2.out.1 hg3 (by omega))⟩
    case true =>
      go_wp2_with (first | (with_reducible refine store_bk rfl 53 (.tmp 14) (.tmp 13) rfl (w.heap.size + 1) 1 #[.string ⟨#[]⟩, .int .i64 0, .int .i64 0, .int .i64 0, .slice none 0 0] rfl rfl 59 #[.int .i64 1, .string nn, .int .i64 a1, .int .i64 b1, .int .i64 c1, .slice A1 m1 p1, .string qn, .int .i64 a2, .int .i64 b2, .int .i64 c2, .string tn, .string tq, .int .i64 tp, .int .i64 a3, .int .i64 b3, .int .i64 c3, .slice A3 m3 p3, .string ta, .string tg, .int .i64 ts, .string s] #[.int .i64 1, .string ⟨#[]⟩, .int .i64 0, .int .i64 0, .int .i64 0, .slice none 0 0, .string qn, .int .i64 a2, .int .i64 b2, .int .i64 c2, .string tn, .string tq, .int .i64 tp, .int .i64 a3, .int .i64 b3, .int .i64 c3, .slice A3 m3 p3, .string ta, .string tg, .int .i64 ts, .string s] T2.out.2.2 (by kernel_rfl) (by simp) (by kernel_rfl) rfl ?_; intro w3 hB3 hg3 hs3) | (with_reducible refine load_bk rfl 59 _ rfl (w.heap.size + 1) 0 rfl 59 #[.int .i64 1, .string ⟨#[]⟩, .int .i64 0, .int .i64 0, .int .i64 0, .slice none 0 0, .string qn, .int .i64 a2, .int .i64 b2, .int .i64 c2, .string tn, .string tq, .int .i64 tp, .int .i64 a3, .int .i64 b3, .int .i64 c3, .slice A3 m3 p3, .string ta, .string tg, .int .i64 ts, .string s] #[.int .i64 1, .string ⟨#[]⟩, .int .i64 0, .int .i64 0, .int .i64 0, .slice none 0 0, .string qn, .int .i64 a2, .int .i64 b2, .int .i64 c2, .string tn, .string tq, .int .i64 tp, .int .i64 a3, .int .i64 b3, .int .i64 c3, .slice A3 m3 p3, .string ta, .string tg, .int .i64 ts, .string s] _ hB3 (Part.whole _) Tryz.underlying59 rfl (by kernel_rfl) ?_))
      refine (KB.out _).mono ?_
      rintro e w4 ⟨rfl, hb4⟩
      have hB4 := (grown_below T2.out.1 hg3 (by omega)).trans (hb4.mono (grown_below T2.out.1 hg3 (by omega)).size)
      go_wp2
      go_ret
      exact ⟨ret_bool' (by rw [HA.out, HR.out]; rfl), hB4⟩
  case neg =>
    by_cases h3 : k = 3
    case pos =>
      subst h3
      have kb := fun W => isBlank_any 3 nn a1 b1 c1 A1 m1 p1 l1 ⟨#[]⟩ 0 0 0 tn tq tp a3 b3 c3 A3 m3 p3 l3 ta tg ts s W hn1 hp1 hq1 hn3 hp3 hq3
      obtain ⟨rb, hrb⟩ : ∃ r, r = Ov.blank ⟨3, nn, a1, b1, c1, l1, ⟨#[]⟩, 0, 0, 0, tn, tq, tp, a3, b3, c3, l3, ta, tg, ts, s⟩ := ⟨_, rfl⟩
      rw [← hrb] at kb
      obtain ⟨r, hr⟩ : ∃ r, r = queueB qn a2 b2 c2 := ⟨_, rfl⟩
      rw [← hr] at KQ
      have hres : opB ⟨3, nn, a1, b1, c1, l1, qn, a2, b2, c2, tn, tq, tp, a3, b3, c3, l3, ta, tg, ts, s⟩ = (r && rb) := by
        rw [opB_3 rfl, hr, hrb]
        unfold Ov.blank Ov.zN Ov.zQ Ov.zT Ov.zS Ov.vQ
        simp only [blankQ_none, Bool.true_and, Bool.and_true, Bool.and_assoc]
      have HR := Lib.hid hres
      have KB := Lib.hid kb
      clear kb hres hrb hr
      go_wp2_with (with_reducible refine load_bk rfl 55 _ rfl w.heap.size 6 rfl 59 #[.int .i64 3, .string nn, .int .i64 a1, .int .i64 b1, .int .i64 c1, .slice A1 m1 p1, .string qn, .int .i64 a2, .int .i64 b2, .int .i64 c2, .string tn, .string tq, .int .i64 tp, .int .i64 a3, .int .i64 b3, .int .i64 c3, .slice A3 m3 p3, .string ta, .string tg, .int .i64 ts, .string s] #[.string qn, .int .i64 a2, .int .i64 b2, .int .i64 c2] _ T0.out.2.1 (Part.of rfl) Tryz.underlying55 rfl (by kernel_rfl) ?_)
      refine (KQ.out _).mono ?_
      rintro e w2 ⟨rfl, hb2⟩
      have T2 : Hid (Below w.heap.size w w2 ∧ Bk w2 w.heap.size 59 #[.int .i64 3, .string nn, .int .i64 a1, .int .i64 b1, .int .i64 c1, .slice A1 m1 p1, .string qn, .int .i64 a2, .int .i64 b2, .int .i64 c2, .string tn, .string tq, .int .i64 tp, .int .i64 a3, .int .i64 b3, .int .i64 c3, .slice A3 m3 p3, .string ta, .string tg, .int .i64 ts, .string s] ∧ Bk w2 (w.heap.size + 1) 59 #[.int .i64 3, .string nn, .int .i64 a1, .int .i64 b1, .int .i64 c1, .slice A1 m1 p1, .string qn, .int .i64 a2, .int .i64 b2, .int .i64 c2, .string tn, .string tq, .int .i64 tp, .int .i64 a3, .int .i64 b3, .int .i64 c3, .slice A3 m3 p3, .string ta, .string tg, .int .i64 ts, .string s]) := ⟨T0.out.1.trans (hb2.mono T0.out.1.size), T0.out.2.1.later hb2, T0.out.2.2.later hb2⟩
      clear hb2 f0 z0
      cases r
      case false =>
        go_wp2_with (first | (with_reducible refine store_bk rfl 55 (.tmp 21) (.tmp 20) rfl (w.heap.size + 1) 6 #[.string ⟨#[]⟩, .int .i64 0, .int .i64 0, .int .i64 0] rfl rfl 59 #[.int .i64 3, .string nn, .int .i64 a1, .int .i64 b1, .int .i64 c1, .slice A1 m1 p1, .string qn, .int .i64 a2, .int .i64 b2, .int .i64 c2, .string tn, .string tq, .int .i64 tp, .int .i64 a3, .int .i64 b3, .int .i64 c3, .slice A3 m3 p3, .string ta, .string tg, .int .i64 ts, .string s] #[.int .i64 3, .string nn, .int .i64 a1, .int .i64 b1, .int .i64 c1, .slice A1 m1 p1, .string ⟨#[]⟩, .int .i64 0, .int .i64 0, .int .i64 0, .string tn, .string tq, .int .i64 tp, .int .i64 a3, .int .i64 b3, .int .i64 c3, .slice A3 m3 p3, .string ta, .string tg, .int .i64 ts, .string s] T2.out.2.2 (by kernel_rfl) (by simp) (by kernel_rfl) rfl ?_; intro w3 hB3 hg3 hs3) | (with_reducible refine load_bk rfl 59 _ rfl (w.heap.size + 1) 0 rfl 59 #[.int .i64 3, .string nn, .int .i64 a1, .int .i64 b1, .int .i64 c1, .slice A1 m1 p1, .string ⟨#[]⟩, .int .i64 0, .int .i64 0, .int .i64 0, .string tn, .string tq, .int .i64 tp, .int .i64 a3, .int .i64 b3, .int .i64 c3, .slice A3 m3 p3, .string ta, .string tg, .int .i64 ts, .string s] #[.int .i64 3, .string nn, .int .i64 a1, .int .i64 b1, .int .i64 c1, .slice A1 m1 p1, .string ⟨#[]⟩, .int .i64 0, .int .i64 0, .int .i64 0, .string tn, .string tq, .int .i64 tp, .int .i64 a3, .int .i64 b3, .int .i64 c3, .slice A3 m3 p3, .string ta, .string tg, .int .i64 ts, .string s] _ hB3 (Part.whole _) Tryz.underlying59 rfl (by kernel_rfl) ?_))
        go_ret
        exact ⟨ret_bool' (by rw [HA.out, HR.out]; rfl), (grown_below T2.out.1 hg3 (by omega))⟩
      case true =>
        go_wp2_with (first | (with_reducible refine store_bk rfl 55 (.tmp 21) (.tmp 20) rfl (w.heap.size + 1) 6 #[.string ⟨#[]⟩, .int .i64 0, .int .i64 0, .int .i64 0] rfl rfl 59 #[.int .i64 3, .string nn, .int .i64 a1, .int .i64 b1, .int .i64 c1, .slice A1 m1 p1, .string qn, .int .i64 a2, .int .i64 b2, .int .i64 c2, .string tn, .string tq, .int .i64 tp, .int .i64 a3, .int .i64 b3, .int .i64 c3, .slice A3 m3 p3, .string ta, .string tg, .int .i64 ts, .string s] #[.int .i64 3, .string nn, .int .i64 a1, .int .i64 b1, .int .i64 c1, .slice A1 m1 p1, .string ⟨#[]⟩, .int .i64 0, .int .i64 0, .int .i64 0, .string tn, .string tq, .int .i64 tp, .int .i64 a3, .int .i64 b3, .int .i64 c3, .slice A3 m3 p3, .string ta, .string tg, .int .i64 ts, .string s] T2.out.2.2 (by kernel_rfl) (by simp) (by kernel_rfl) rfl ?_; intro w3 hB3 hg3 hs3) | (with_reducible refine load_bk rfl 59 _ rfl (w.heap.size + 1) 0 rfl 59 #[.int .i64 3, .string nn, .int .i64 a1, .int .i64 b1, .int .i64 c1, .slice A1 m1 p1, .string ⟨#[]⟩, .int .i64 0, .int .i64 0, .int .i64 0, .string tn, .string tq, .int .i64 tp, .int .i64 a3, .int .i64 b3, .int .i64 c3, .slice A3 m3 p3, .string ta, .string tg, .int .i64 ts, .string s] #[.int .i64 3, .string nn, .int .i64 a1, .int .i64 b1, .int .i64 c1, .slice A1 m1 p1, .string ⟨#[]⟩, .int .i64 0, .int .i64 0, .int .i64 0, .string tn, .string tq, .int .i64 tp, .int .i64 a3, .int .i64 b3, .int .i64 c3, .slice A3 m3 p3, .string ta, .string tg, .int .i64 ts, .string s] _ hB3 (Part.whole _) Tryz.underlying59 rfl (by kernel_rfl) ?_))
        refine (KB.out _).mono ?_
        rintro e w4 ⟨rfl, hb4⟩
        have hB4 := (grown_below T2.out.1 hg3 (by omega)).trans (hb4.mono (grown_below T2.out.1 hg3 (by omega)).size)
        go_wp2
        go_ret
        exact ⟨ret_bool' (by rw [HA.out, HR.out]; rfl), hB4⟩
    case neg =>
      by_cases h5 : k = 5
      case pos =>
        subst h5
        have kb := fun W => isBlank_any 5 nn a1 b1 c1 A1 m1 p1 l1 qn a2 b2 c2 ⟨#[]⟩ ⟨#[]⟩ 0 0 0 0 none 0 0 [] ⟨#[]⟩ ⟨#[]⟩ 0 s W hn1 hp1 hq1 hid_nil (Nat.le_refl 0) (by decide)
        obtain ⟨rb, hrb⟩ : ∃ r, r = Ov.blank ⟨5, nn, a1, b1, c1, l1, qn, a2, b2, c2, ⟨#[]⟩, ⟨#[]⟩, 0, 0, 0, 0, [], ⟨#[]⟩, ⟨#[]⟩, 0, s⟩ := ⟨_, rfl⟩
        rw [← hrb] at kb
        obtain ⟨r, hr⟩ : ∃ r, r = taskB tn tq tp a3 b3 c3 l3 ta tg ts := ⟨_, rfl⟩
        rw [← hr] at KT
        have hres : opB ⟨5, nn, a1, b1, c1, l1, qn, a2, b2, c2, tn, tq, tp, a3, b3, c3, l3, ta, tg, ts, s⟩ = (r && rb) := by
          rw [opB_5 rfl, hr, hrb]
          unfold Ov.blank Ov.zN Ov.zQ Ov.zT Ov.zS Ov.vT
          simp only [blankT_none, Bool.true_and, Bool.and_true, Bool.and_assoc]
        have HR := Lib.hid hres
        have KB := Lib.hid kb
        clear kb hres hrb hr
        go_wp2_with (with_reducible refine load_bk rfl 57 _ rfl w.heap.size 10 rfl 59 #[.int .i64 5, .string nn, .int .i64 a1, .int .i64 b1, .int .i64 c1, .slice A1 m1 p1, .string qn, .int .i64 a2, .int .i64 b2, .int .i64 c2, .string tn, .string tq, .int .i64 tp, .int .i64 a3, .int .i64 b3, .int .i64 c3, .slice A3 m3 p3, .string ta, .string tg, .int .i64 ts, .string s] #[.string tn, .string tq, .int .i64 tp, .int .i64 a3, .int .i64 b3, .int .i64 c3, .slice A3 m3 p3, .string ta, .string tg, .int .i64 ts] _ T0.out.2.1 (Part.of rfl) Tryz.underlying57 rfl (by kernel_rfl) ?_)
        refine (KT.out _ (hr3.out.later T0.out.1)).mono ?_
        rintro e w2 ⟨rfl, hb2⟩
        have T2 : Hid (Below w.heap.size w w2 ∧ Bk w2 w.heap.size 59 #[.int .i64 5, .string nn, .int .i64 a1, .int .i64 b1, .int .i64 c1, .slice A1 m1 p1, .string qn, .int .i64 a2, .int .i64 b2, .int .i64 c2, .string tn, .string tq, .int .i64 tp, .int .i64 a3, .int .i64 b3, .int .i64 c3, .slice A3 m3 p3, .string ta, .string tg, .int .i64 ts, .string s] ∧ Bk w2 (w.heap.size + 1) 59 #[.int .i64 5, .string nn, .int .i64 a1, .int .i64 b1, .int .i64 c1, .slice A1 m1 p1, .string qn, .int .i64 a2, .int .i64 b2, .int .i64 c2, .string tn, .string tq, .int .i64 tp, .int .i64 a3, .int .i64 b3, .int .i64 c3, .slice A3 m3 p3, .string ta, .string tg, .int .i64 ts, .string s]) := ⟨T0.out.1.trans (hb2.mono T0.out.1.size), T0.out.2.1.later hb2, T0.out.2.2.later hb2⟩
        clear hb2 f0 z0
        cases r
        case false =>
          go_wp2_with (first | (with_reducible refine store_bk rfl 57 (.tmp 28) (.tmp 27) rfl (w.heap.size + 1) 10 #[.string ⟨#[]⟩, .string ⟨#[]⟩, .int .i64 0, .int .i64 0, .int .i64 0, .int .i64 0, .slice none 0 0, .string ⟨#[]⟩, .string ⟨#[]⟩, .int .i64 0] rfl rfl 59 #[.int .i64 5, .string nn, .int .i64 a1, .int .i64 b1, .int .i64 c1, .slice A1 m1 p1, .string qn, .int .i64 a2, .int .i64 b2, .int .i64 c2, .string tn, .string tq, .int .i64 tp, .int .i64 a3, .int .i64 b3, .int .i64 c3, .slice A3 m3 p3, .string ta, .string tg, .int .i64 ts, .string s] #[.int .i64 5, .string nn, .int .i64 a1, .int .i64 b1, .int .i64 c1, .slice A1 m1 p1, .string qn, .int .i64 a2, .int .i64 b2, .int .i64 c2, .string ⟨#[]⟩, .string ⟨#[]⟩, .int .i64 0, .int .i64 0, .int .i64 0, .int .i64 0, .slice none 0 0, .string ⟨#[]⟩, .string ⟨#[]⟩, .int .i64 0, .string s] T2.out.2.2 (by kernel_rfl) (by simp) (by kernel_rfl) rfl ?_; intro w3 hB3 hg3 hs3) | (with_reducible refine load_bk rfl 59 _ rfl (w.heap.size + 1) 0 rfl 59 #[.int .i64 5, .string nn, .int .i64 a1, .int .i64 b1, .int .i64 c1, .slice A1 m1 p1, .string qn, .int .i64 a2, .int .i64 b2, .int .i64 c2, .string ⟨#[]⟩, .string ⟨#[]⟩, .int .i64 0, .int .i64 0, .int .i64 0, .int .i64 0, .slice none 0 0, .string ⟨#[]⟩, .string ⟨#[]⟩, .int .i64 0, .string s] #[.int .i64 5, .string nn, .int .i64 a1, .int .i64 b1, .int .i64 c1, .slice A1 m1 p1, .string qn, .int .i64 a2, .int .i64 b2, .int .i64 c2, .string ⟨#[]⟩, .string ⟨#[]⟩, .int .i64 0, .int .i64 0, .int .i64 0, .int .i64 0, .slice none 0 0, .string ⟨#[]⟩, .string ⟨#[]⟩, .int .i64 0, .string s] _ hB3 (Part.whole _) Tryz.underlying59 rfl (by kernel_rfl) ?_))
          go_ret
          exact ⟨ret_bool' (by rw [HA.out, HR.out]; rfl), (grown_below T2.out.1 hg3 (by omega))⟩
        case true =>
          go_wp2_with (first | (with_reducible refine store_bk rfl 57 (.tmp 28) (.tmp 27) rfl (w.heap.size + 1) 10 #[.string ⟨#[]⟩, .string ⟨#[]⟩, .int .i64 0, .int .i64 0, .int .i64 0, .int .i64 0, .slice none 0 0, .string ⟨#[]⟩, .string ⟨#[]⟩, .int .i64 0] rfl rfl 59 #[.int .i64 5, .string nn, .int .i64 a1, .int .i64 b1, .int .i64 c1, .slice A1 m1 p1, .string qn, .int .i64 a2, .int .i64 b2, .int .i64 c2, .string tn, .string tq, .int .i64 tp, .int .i64 a3, .int .i64 b3, .int .i64 c3, .slice A3 m3 p3, .string ta, .string tg, .int .i64 ts, .string s] #[.int .i64 5, .string nn, .int .i64 a1, .int .i64 b1, .int .i64 c1, .slice A1 m1 p1, .string qn, .int .i64 a2, .int .i64 b2, .int .i64 c2, .string ⟨#[]⟩, .string ⟨#[]⟩, .int .i64 0, .int .i64 0, .int .i64 0, .int .i64 0, .slice none 0 0, .string ⟨#[]⟩, .string ⟨#[]⟩, .int .i64 0, .string s] T2.out.2.2 (by kernel_rfl) (by simp) (by kernel_rfl) rfl ?_; intro w3 hB3 hg3 hs3) | (with_reducible refine load_bk rfl 59 _ rfl (w.heap.size + 1) 0 rfl 59 #[.int .i64 5, .string nn, .int .i64 a1, .int .i64 b1, .int .i64 c1, .slice A1 m1 p1, .string qn, .int .i64 a2, .int .i64 b2, .int .i64 c2, .string ⟨#[]⟩, .string ⟨#[]⟩, .int .i64 0, .int .i64 0, .int .i64 0, .int .i64 0, .slice none 0 0, .string ⟨#[]⟩, .string ⟨#[]⟩, .int .i64 0, .string s] #[.int .i64 5, .string nn, .int .i64 a1, .int .i64 b1, .int .i64 c1, .slice A1 m1 p1, .string qn, .int .i64 a2, .int .i64 b2, .int .i64 c2, .string ⟨#[]⟩, .string ⟨#[]⟩, .int .i64 0, .int .i64 0, .int .i64 0, .int .i64 0, .slice none 0 0, .string ⟨#[]⟩, .string ⟨#[]⟩, .int .i64 0, .string s] _ hB3 (Part.whole _) Tryz.underlying59 rfl (by kernel_rfl) ?_))
          refine (KB.out _).mono ?_
          rintro e w4 ⟨rfl, hb4⟩
          have hB4 := (grown_below T2.out.1 hg3 (by omega)).trans (hb4.mono (grown_below T2.out.1 hg3 (by omega)).size)
          go_wp2
          go_ret
          exact ⟨ret_bool' (by rw [HA.out, HR.out]; rfl), hB4⟩
      case neg =>
        by_cases h2 : k = 2
        case pos =>
          subst h2
          have kb := fun W => isBlank_any 2 nn a1 b1 c1 A1 m1 p1 l1 qn a2 b2 c2 tn tq tp a3 b3 c3 A3 m3 p3 l3 ta tg ts ⟨#[]⟩ W hn1 hp1 hq1 hn3 hp3 hq3
          obtain ⟨rb, hrb⟩ : ∃ r, r = Ov.blank ⟨2, nn, a1, b1, c1, l1, qn, a2, b2, c2, tn, tq, tp, a3, b3, c3, l3, ta, tg, ts, ⟨#[]⟩⟩ := ⟨_, rfl⟩
          rw [← hrb] at kb
          obtain ⟨r, hr⟩ : ∃ r, r = nameB s := ⟨_, rfl⟩
          rw [← hr] at KS
          have hres : opB ⟨2, nn, a1, b1, c1, l1, qn, a2, b2, c2, tn, tq, tp, a3, b3, c3, l3, ta, tg, ts, s⟩ = (r && rb) := by
            rw [opB_nm (by simp), hr, hrb]
            unfold Ov.blank Ov.zN Ov.zQ Ov.zT Ov.zS
            simp only [sE_none, Bool.true_and, Bool.and_true, Bool.and_assoc]
          have HR := Lib.hid hres
          have KB := Lib.hid kb
          clear kb hres hrb hr
          have f20 : w1.cell? ⟨w.heap.size, 20, none⟩ = some (.string s) := T0.out.2.1.cellAt 20
          go_wp2_with fail
          refine (KS.out _).mono ?_
          rintro e w2 ⟨rfl, rfl⟩
          cases r
          case false =>
            have g20 : w1.cell? ⟨w.heap.size + 1, 20, none⟩ = some (.string s) := T0.out.2.2.cellAt 20
            have fr20 : w1.frozen? ⟨w.heap.size + 1, 20, none⟩ = false := T0.out.2.2.free 20
            have hB3 : Bk (w1.setCell ⟨w.heap.size + 1, 20, none⟩ (.string ⟨#[]⟩)) (w.heap.size + 1) 59 #[.int .i64 2, .string nn, .int .i64 a1, .int .i64 b1, .int .i64 c1, .slice A1 m1 p1, .string qn, .int .i64 a2, .int .i64 b2, .int .i64 c2, .string tn, .string tq, .int .i64 tp, .int .i64 a3, .int .i64 b3, .int .i64 c3, .slice A3 m3 p3, .string ta, .string tg, .int .i64 ts, .string ⟨#[]⟩] := T0.out.2.2.put 20 (.string ⟨#[]⟩)
            go_wp2_with (with_reducible refine load_bk rfl 59 _ rfl (w.heap.size + 1) 0 rfl 59 #[.int .i64 2, .string nn, .int .i64 a1, .int .i64 b1, .int .i64 c1, .slice A1 m1 p1, .string qn, .int .i64 a2, .int .i64 b2, .int .i64 c2, .string tn, .string tq, .int .i64 tp, .int .i64 a3, .int .i64 b3, .int .i64 c3, .slice A3 m3 p3, .string ta, .string tg, .int .i64 ts, .string ⟨#[]⟩] #[.int .i64 2, .string nn, .int .i64 a1, .int .i64 b1, .int .i64 c1, .slice A1 m1 p1, .string qn, .int .i64 a2, .int .i64 b2, .int .i64 c2, .string tn, .string tq, .int .i64 tp, .int .i64 a3, .int .i64 b3, .int .i64 c3, .slice A3 m3 p3, .string ta, .string tg, .int .i64 ts, .string ⟨#[]⟩] _ hB3 (Part.whole _) Tryz.underlying59 rfl (by kernel_rfl) ?_)
            go_ret
            exact ⟨ret_bool' (by rw [HA.out, HR.out]; rfl), (T0.out.1.setCell (p := ⟨w.heap.size + 1, 20, none⟩) (by simp) _)⟩
          case true =>
            have g20 : w1.cell? ⟨w.heap.size + 1, 20, none⟩ = some (.string s) := T0.out.2.2.cellAt 20
            have fr20 : w1.frozen? ⟨w.heap.size + 1, 20, none⟩ = false := T0.out.2.2.free 20
            have hB3 : Bk (w1.setCell ⟨w.heap.size + 1, 20, none⟩ (.string ⟨#[]⟩)) (w.heap.size + 1) 59 #[.int .i64 2, .string nn, .int .i64 a1, .int .i64 b1, .int .i64 c1, .slice A1 m1 p1, .string qn, .int .i64 a2, .int .i64 b2, .int .i64 c2, .string tn, .string tq, .int .i64 tp, .int .i64 a3, .int .i64 b3, .int .i64 c3, .slice A3 m3 p3, .string ta, .string tg, .int .i64 ts, .string ⟨#[]⟩] := T0.out.2.2.put 20 (.string ⟨#[]⟩)
            go_wp2_with (with_reducible refine load_bk rfl 59 _ rfl (w.heap.size + 1) 0 rfl 59 #[.int .i64 2, .string nn, .int .i64 a1, .int .i64 b1, .int .i64 c1, .slice A1 m1 p1, .string qn, .int .i64 a2, .int .i64 b2, .int .i64 c2, .string tn, .string tq, .int .i64 tp, .int .i64 a3, .int .i64 b3, .int .i64 c3, .slice A3 m3 p3, .string ta, .string tg, .int .i64 ts, .string ⟨#[]⟩] #[.int .i64 2, .string nn, .int .i64 a1, .int .i64 b1, .int .i64 c1, .slice A1 m1 p1, .string qn, .int .i64 a2, .int .i64 b2, .int .i64 c2, .string tn, .string tq, .int .i64 tp, .int .i64 a3, .int .i64 b3, .int .i64 c3, .slice A3 m3 p3, .string ta, .string tg, .int .i64 ts, .string ⟨#[]⟩] _ hB3 (Part.whole _) Tryz.underlying59 rfl (by kernel_rfl) ?_)
            refine (KB.out _).mono ?_
            rintro e w4 ⟨rfl, hb4⟩
            have hB4 := (T0.out.1.setCell (p := ⟨w.heap.size + 1, 20, none⟩) (by simp) _).trans (hb4.mono (T0.out.1.setCell (p := ⟨w.heap.size + 1, 20, none⟩) (by simp) _).size)
            go_wp2
            go_ret
            exact ⟨ret_bool' (by rw [HA.out, HR.out]; rfl), hB4⟩
        case neg =>
          by_cases h4 : k = 4
          case pos =>
            subst h4
            have kb := fun W => isBlank_any 4 nn a1 b1 c1 A1 m1 p1 l1 qn a2 b2 c2 tn tq tp a3 b3 c3 A3 m3 p3 l3 ta tg ts ⟨#[]⟩ W hn1 hp1 hq1 hn3 hp3 hq3
            obtain ⟨rb, hrb⟩ : ∃ r, r = Ov.blank ⟨4, nn, a1, b1, c1, l1, qn, a2, b2, c2, tn, tq, tp, a3, b3, c3, l3, ta, tg, ts, ⟨#[]⟩⟩ := ⟨_, rfl⟩
            rw [← hrb] at kb
            obtain ⟨r, hr⟩ : ∃ r, r = nameB s := ⟨_, rfl⟩
            rw [← hr] at KS
            have hres : opB ⟨4, nn, a1, b1, c1, l1, qn, a2, b2, c2, tn, tq, tp, a3, b3, c3, l3, ta, tg, ts, s⟩ = (r && rb) := by
              rw [opB_nm (by simp), hr, hrb]
              unfold Ov.blank Ov.zN Ov.zQ Ov.zT Ov.zS
              simp only [sE_none, Bool.true_and, Bool.and_true, Bool.and_assoc]
            have HR := Lib.hid hres
            have KB := Lib.hid kb
            clear kb hres hrb hr
            have f20 : w1.cell? ⟨w.heap.size, 20, none⟩ = some (.string s) := T0.out.2.1.cellAt 20
            go_wp2_with fail
            refine (KS.out _).mono ?_
            rintro e w2 ⟨rfl, rfl⟩
            cases r
            case false =>
              have g20 : w1.cell? ⟨w.heap.size + 1, 20, none⟩ = some (.string s) := T0.out.2.2.cellAt 20
              have fr20 : w1.frozen? ⟨w.heap.size + 1, 20, none⟩ = false := T0.out.2.2.free 20
              have hB3 : Bk (w1.setCell ⟨w.heap.size + 1, 20, none⟩ (.string ⟨#[]⟩)) (w.heap.size + 1) 59 #[.int .i64 4, .string nn, .int .i64 a1, .int .i64 b1, .int .i64 c1, .slice A1 m1 p1, .string qn, .int .i64 a2, .int .i64 b2, .int .i64 c2, .string tn, .string tq, .int .i64 tp, .int .i64 a3, .int .i64 b3, .int .i64 c3, .slice A3 m3 p3, .string ta, .string tg, .int .i64 ts, .string ⟨#[]⟩] := T0.out.2.2.put 20 (.string ⟨#[]⟩)
              go_wp2_with (with_reducible refine load_bk rfl 59 _ rfl (w.heap.size + 1) 0 rfl 59 #[.int .i64 4, .string nn, .int .i64 a1, .int .i64 b1, .int .i64 c1, .slice A1 m1 p1, .string qn, .int .i64 a2, .int .i64 b2, .int .i64 c2, .string tn, .string tq, .int .i64 tp, .int .i64 a3, .int .i64 b3, .int .i64 c3, .slice A3 m3 p3, .string ta, .string tg, .int .i64 ts, .string ⟨#[]⟩] #[.int .i64 4, .string nn, .int .i64 a1, .int .i64 b1, .int .i64 c1, .slice A1 m1 p1, .string qn, .int .i64 a2, .int .i64 b2, .int .i64 c2, .string tn, .string tq, .int .i64 tp, .int .i64 a3, .int .i64 b3, .int .i64 c3, .slice A3 m3 p3, .string ta, .string tg, .int .i64 ts, .string ⟨#[]⟩] _ hB3 (Part.whole _) Tryz.underlying59 rfl (by kernel_rfl) ?_)
              go_ret
              exact ⟨ret_bool' (by rw [HA.out, HR.out]; rfl), (T0.out.1.setCell (p := ⟨w.heap.size + 1, 20, none⟩) (by simp) _)⟩
            case true =>
              have g20 : w1.cell? ⟨w.heap.size + 1, 20, none⟩ = some (.string s) := T0.out.2.2.cellAt 20
              have fr20 : w1.frozen? ⟨w.heap.size + 1, 20, none⟩ = false := T0.out.2.2.free 20
              have hB3 : Bk (w1.setCell ⟨w.heap.size + 1, 20, none⟩ (.string ⟨#[]⟩)) (w.heap.size + 1) 59 #[.int .i64 4, .string nn, .int .i64 a1, .int .i64 b1, .int .i64 c1, .slice A1 m1 p1, .string qn, .int .i64 a2, .int .i64 b2, .int .i64 c2, .string tn, .string tq, .int .i64 tp, .int .i64 a3, .int .i64 b3, .int .i64 c3, .slice A3 m3 p3, .string ta, .string tg, .int .i64 ts, .string ⟨#[]⟩] := T0.out.2.2.put 20 (.string ⟨#[]⟩)
              go_wp2_with (with_reducible refine load_bk rfl 59 _ rfl (w.heap.size + 1) 0 rfl 59 #[.int .i64 4, .string nn, .int .i64 a1, .int .i64 b1, .int .i64 c1, .slice A1 m1 p1, .string qn, .int .i64 a2, .int .i64 b2, .int .i64 c2, .string tn, .string tq, .int .i64 tp, .int .i64 a3, .int .i64 b3, .int .i64 c3, .slice A3 m3 p3, .string ta, .string tg, .int .i64 ts, .string ⟨#[]⟩] #[.int .i64 4, .string nn, .int .i64 a1, .int .i64 b1, .int .i64 c1, .slice A1 m1 p1, .string qn, .int .i64 a2, .int .i64 b2, .int .i64 c2, .string tn, .string tq, .int .i64 tp, .int .i64 a3, .int .i64 b3, .int .i64 c3, .slice A3 m3 p3, .string ta, .string tg, .int .i64 ts, .string ⟨#[]⟩] _ hB3 (Part.whole _) Tryz.underlying59 rfl (by kernel_rfl) ?_)
              refine (KB.out _).mono ?_
              rintro e w4 ⟨rfl, hb4⟩
              have hB4 := (T0.out.1.setCell (p := ⟨w.heap.size + 1, 20, none⟩) (by simp) _).trans (hb4.mono (T0.out.1.setCell (p := ⟨w.heap.size + 1, 20, none⟩) (by simp) _).size)
              go_wp2
              go_ret
              exact ⟨ret_bool' (by rw [HA.out, HR.out]; rfl), hB4⟩
          case neg =>
            by_cases h6 : k = 6
            case pos =>
              subst h6
              have kb := fun W => isBlank_any 6 nn a1 b1 c1 A1 m1 p1 l1 qn a2 b2 c2 tn tq tp a3 b3 c3 A3 m3 p3 l3 ta tg ts ⟨#[]⟩ W hn1 hp1 hq1 hn3 hp3 hq3
              obtain ⟨rb, hrb⟩ : ∃ r, r = Ov.blank ⟨6, nn, a1, b1, c1, l1, qn, a2, b2, c2, tn, tq, tp, a3, b3, c3, l3, ta, tg, ts, ⟨#[]⟩⟩ := ⟨_, rfl⟩
              rw [← hrb] at kb
              obtain ⟨r, hr⟩ : ∃ r, r = nameB s := ⟨_, rfl⟩
              rw [← hr] at KS
              have hres : opB ⟨6, nn, a1, b1, c1, l1, qn, a2, b2, c2, tn, tq, tp, a3, b3, c3, l3, ta, tg, ts, s⟩ = (r && rb) := by
                rw [opB_nm (by simp), hr, hrb]
                unfold Ov.blank Ov.zN Ov.zQ Ov.zT Ov.zS
                simp only [sE_none, Bool.true_and, Bool.and_true, Bool.and_assoc]
              have HR := Lib.hid hres
              have KB := Lib.hid kb
              clear kb hres hrb hr
              have f20 : w1.cell? ⟨w.heap.size, 20, none⟩ = some (.string s) := T0.out.2.1.cellAt 20
              go_wp2_with fail
              refine (KS.out _).mono ?_
              rintro e w2 ⟨rfl, rfl⟩
              cases r
              case false =>
                have g20 : w1.cell? ⟨w.heap.size + 1, 20, none⟩ = some (.string s) := T0.out.2.2.cellAt 20
                have fr20 : w1.frozen? ⟨w.heap.size + 1, 20, none⟩ = false := T0.out.2.2.free 20
                have hB3 : Bk (w1.setCell ⟨w.heap.size + 1, 20, none⟩ (.string ⟨#[]⟩)) (w.heap.size + 1) 59 #[.int .i64 6, .string nn, .int .i64 a1, .int .i64 b1, .int .i64 c1, .slice A1 m1 p1, .string qn, .int .i64 a2, .int .i64 b2, .int .i64 c2, .string tn, .string tq, .int .i64 tp, .int .i64 a3, .int .i64 b3, .int .i64 c3, .slice A3 m3 p3, .string ta, .string tg, .int .i64 ts, .string ⟨#[]⟩] := T0.out.2.2.put 20 (.string ⟨#[]⟩)
                go_wp2_with (with_reducible refine load_bk rfl 59 _ rfl (w.heap.size + 1) 0 rfl 59 #[.int .i64 6, .string nn, .int .i64 a1, .int .i64 b1, .int .i64 c1, .slice A1 m1 p1, .string qn, .int .i64 a2, .int .i64 b2, .int .i64 c2, .string tn, .string tq, .int .i64 tp, .int .i64 a3, .int .i64 b3, .int .i64 c3, .slice A3 m3 p3, .string ta, .string tg, .int .i64 ts, .string ⟨#[]⟩] #[.int .i64 6, .string nn, .int .i64 a1, .int .i64 b1, .int .i64 c1, .slice A1 m1 p1, .string qn, .int .i64 a2, .int .i64 b2, .int .i64 c2, .string tn, .string tq, .int .i64 tp, .int .i64 a3, .int .i64 b3, .int .i64 c3, .slice A3 m3 p3, .string ta, .string tg, .int .i64 ts, .string ⟨#[]⟩] _ hB3 (Part.whole _) Tryz.underlying59 rfl (by kernel_rfl) ?_)
                go_ret
                exact ⟨ret_bool' (by rw [HA.out, HR.out]; rfl), (T0.out.1.setCell (p := ⟨w.heap.size + 1, 20, none⟩) (by simp) _)⟩
              case true =>
                have g20 : w1.cell? ⟨w.heap.size + 1, 20, none⟩ = some (.string s) := T0.out.2.2.cellAt 20
                have fr20 : w1.frozen? ⟨w.heap.size + 1, 20, none⟩ = false := T0.out.2.2.free 20
                have hB3 : Bk (w1.setCell ⟨w.heap.size + 1, 20, none⟩ (.string ⟨#[]⟩)) (w.heap.size + 1) 59 #[.int .i64 6, .string nn, .int .i64 a1, .int .i64 b1, .int .i64 c1, .slice A1 m1 p1, .string qn, .int .i64 a2, .int .i64 b2, .int .i64 c2, .string tn, .string tq, .int .i64 tp, .int .i64 a3, .int .i64 b3, .int .i64 c3, .slice A3 m3 p3, .string ta, .string tg, .int .i64 ts, .string ⟨#[]⟩] := T0.out.2.2.put 20 (.string ⟨#[]⟩)
                go_wp2_with (with_reducible refine load_bk rfl 59 _ rfl (w.heap.size + 1) 0 rfl 59 #[.int .i64 6, .string nn, .int .i64 a1, .int .i64 b1, .int .i64 c1, .slice A1 m1 p1, .string qn, .int .i64 a2, .int .i64 b2, .int .i64 c2, .string tn, .string tq, .int .i64 tp, .int .i64 a3, .int .i64 b3, .int .i64 c3, .slice A3 m3 p3, .string ta, .string tg, .int .i64 ts, .string ⟨#[]⟩] #[.int .i64 6, .string nn, .int .i64 a1, .int .i64 b1, .int .i64 c1, .slice A1 m1 p1, .string qn, .int .i64 a2, .int .i64 b2, .int .i64 c2, .string tn, .string tq, .int .i64 tp, .int .i64 a3, .int .i64 b3, .int .i64 c3, .slice A3 m3 p3, .string ta, .string tg, .int .i64 ts, .string ⟨#[]⟩] _ hB3 (Part.whole _) Tryz.underlying59 rfl (by kernel_rfl) ?_)
                refine (KB.out _).mono ?_
                rintro e w4 ⟨rfl, hb4⟩
                have hB4 := (T0.out.1.setCell (p := ⟨w.heap.size + 1, 20, none⟩) (by simp) _).trans (hb4.mono (T0.out.1.setCell (p := ⟨w.heap.size + 1, 20, none⟩) (by simp) _).size)
                go_wp2
                go_ret
                exact ⟨ret_bool' (by rw [HA.out, HR.out]; rfl), hB4⟩
            case neg =>
              by_cases h7 : k = 7
              case pos =>
                subst h7
                have kb := fun W => isBlank_any 7 nn a1 b1 c1 A1 m1 p1 l1 qn a2 b2 c2 tn tq tp a3 b3 c3 A3 m3 p3 l3 ta tg ts ⟨#[]⟩ W hn1 hp1 hq1 hn3 hp3 hq3
                obtain ⟨rb, hrb⟩ : ∃ r, r = Ov.blank ⟨7, nn, a1, b1, c1, l1, qn, a2, b2, c2, tn, tq, tp, a3, b3, c3, l3, ta, tg, ts, ⟨#[]⟩⟩ := ⟨_, rfl⟩
                rw [← hrb] at kb
                obtain ⟨r, hr⟩ : ∃ r, r = nameB s := ⟨_, rfl⟩
                rw [← hr] at KS
                have hres : opB ⟨7, nn, a1, b1, c1, l1, qn, a2, b2, c2, tn, tq, tp, a3, b3, c3, l3, ta, tg, ts, s⟩ = (r && rb) := by
                  rw [opB_nm (by simp), hr, hrb]
                  unfold Ov.blank Ov.zN Ov.zQ Ov.zT Ov.zS
                  simp only [sE_none, Bool.true_and, Bool.and_true, Bool.and_assoc]
                have HR := Lib.hid hres
                have KB := Lib.hid kb
                clear kb hres hrb hr
                have f20 : w1.cell? ⟨w.heap.size, 20, none⟩ = some (.string s) := T0.out.2.1.cellAt 20
                go_wp2_with fail
                refine (KS.out _).mono ?_
                rintro e w2 ⟨rfl, rfl⟩
                cases r
                case false =>
                  have g20 : w1.cell? ⟨w.heap.size + 1, 20, none⟩ = some (.string s) := T0.out.2.2.cellAt 20
                  have fr20 : w1.frozen? ⟨w.heap.size + 1, 20, none⟩ = false := T0.out.2.2.free 20
                  have hB3 : Bk (w1.setCell ⟨w.heap.size + 1, 20, none⟩ (.string ⟨#[]⟩)) (w.heap.size + 1) 59 #[.int .i64 7, .string nn, .int .i64 a1, .int .i64 b1, .int .i64 c1, .slice A1 m1 p1, .string qn, .int .i64 a2, .int .i64 b2, .int .i64 c2, .string tn, .string tq, .int .i64 tp, .int .i64 a3, .int .i64 b3, .int .i64 c3, .slice A3 m3 p3, .string ta, .string tg, .int .i64 ts, .string ⟨#[]⟩] := T0.out.2.2.put 20 (.string ⟨#[]⟩)
                  go_wp2_with (with_reducible refine load_bk rfl 59 _ rfl (w.heap.size + 1) 0 rfl 59 #[.int .i64 7, .string nn, .int .i64 a1, .int .i64 b1, .int .i64 c1, .slice A1 m1 p1, .string qn, .int .i64 a2, .int .i64 b2, .int .i64 c2, .string tn, .string tq, .int .i64 tp, .int .i64 a3, .int .i64 b3, .int .i64 c3, .slice A3 m3 p3, .string ta, .string tg, .int .i64 ts, .string ⟨#[]⟩] #[.int .i64 7, .string nn, .int .i64 a1, .int .i64 b1, .int .i64 c1, .slice A1 m1 p1, .string qn, .int .i64 a2, .int .i64 b2, .int .i64 c2, .string tn, .string tq, .int .i64 tp, .int .i64 a3, .int .i64 b3, .int .i64 c3, .slice A3 m3 p3, .string ta, .string tg, .int .i64 ts, .string ⟨#[]⟩] _ hB3 (Part.whole _) Tryz.underlying59 rfl (by kernel_rfl) ?_)
                  go_ret
                  exact ⟨ret_bool' (by rw [HA.out, HR.out]; rfl), (T0.out.1.setCell (p := ⟨w.heap.size + 1, 20, none⟩) (by simp) _)⟩
                case true =>
                  have g20 : w1.cell? ⟨w.heap.size + 1, 20, none⟩ = some (.string s) := T0.out.2.2.cellAt 20
                  have fr20 : w1.frozen? ⟨w.heap.size + 1, 20, none⟩ = false := T0.out.2.2.free 20
                  have hB3 : Bk (w1.setCell ⟨w.heap.size + 1, 20, none⟩ (.string ⟨#[]⟩)) (w.heap.size + 1) 59 #[.int .i64 7, .string nn, .int .i64 a1, .int .i64 b1, .int .i64 c1, .slice A1 m1 p1, .string qn, .int .i64 a2, .int .i64 b2, .int .i64 c2, .string tn, .string tq, .int .i64 tp, .int .i64 a3, .int .i64 b3, .int .i64 c3, .slice A3 m3 p3, .string ta, .string tg, .int .i64 ts, .string ⟨#[]⟩] := T0.out.2.2.put 20 (.string ⟨#[]⟩)
                  go_wp2_with (with_reducible refine load_bk rfl 59 _ rfl (w.heap.size + 1) 0 rfl 59 #[.int .i64 7, .string nn, .int .i64 a1, .int .i64 b1, .int .i64 c1, .slice A1 m1 p1, .string qn, .int .i64 a2, .int .i64 b2, .int .i64 c2, .string tn, .string tq, .int .i64 tp, .int .i64 a3, .int .i64 b3, .int .i64 c3, .slice A3 m3 p3, .string ta, .string tg, .int .i64 ts, .string ⟨#[]⟩] #[.int .i64 7, .string nn, .int .i64 a1, .int .i64 b1, .int .i64 c1, .slice A1 m1 p1, .string qn, .int .i64 a2, .int .i64 b2, .int .i64 c2, .string tn, .string tq, .int .i64 tp, .int .i64 a3, .int .i64 b3, .int .i64 c3, .slice A3 m3 p3, .string ta, .string tg, .int .i64 ts, .string ⟨#[]⟩] _ hB3 (Part.whole _) Tryz.underlying59 rfl (by kernel_rfl) ?_)
                  refine (KB.out _).mono ?_
                  rintro e w4 ⟨rfl, hb4⟩
                  have hB4 := (T0.out.1.setCell (p := ⟨w.heap.size + 1, 20, none⟩) (by simp) _).trans (hb4.mono (T0.out.1.setCell (p := ⟨w.heap.size + 1, 20, none⟩) (by simp) _).size)
                  go_wp2
                  go_ret
                  exact ⟨ret_bool' (by rw [HA.out, HR.out]; rfl), hB4⟩
              case neg =>
                by_cases h8 : k = 8
                case pos =>
                  subst h8
                  have kb := fun W => isBlank_any 8 nn a1 b1 c1 A1 m1 p1 l1 qn a2 b2 c2 tn tq tp a3 b3 c3 A3 m3 p3 l3 ta tg ts ⟨#[]⟩ W hn1 hp1 hq1 hn3 hp3 hq3
                  obtain ⟨rb, hrb⟩ : ∃ r, r = Ov.blank ⟨8, nn, a1, b1, c1, l1, qn, a2, b2, c2, tn, tq, tp, a3, b3, c3, l3, ta, tg, ts, ⟨#[]⟩⟩ := ⟨_, rfl⟩
                  rw [← hrb] at kb
                  obtain ⟨r, hr⟩ : ∃ r, r = nameB s := ⟨_, rfl⟩
                  rw [← hr] at KS
                  have hres : opB ⟨8, nn, a1, b1, c1, l1, qn, a2, b2, c2, tn, tq, tp, a3, b3, c3, l3, ta, tg, ts, s⟩ = (r && rb) := by
                    rw [opB_nm (by simp), hr, hrb]
                    unfold Ov.blank Ov.zN Ov.zQ Ov.zT Ov.zS
                    simp only [sE_none, Bool.true_and, Bool.and_true, Bool.and_assoc]
                  have HR := Lib.hid hres
                  have KB := Lib.hid kb
                  clear kb hres hrb hr
                  have f20 : w1.cell? ⟨w.heap.size, 20, none⟩ = some (.string s) := T0.out.2.1.cellAt 20
                  go_wp2_with fail
                  refine (KS.out _).mono ?_
                  rintro e w2 ⟨rfl, rfl⟩
                  cases r
                  case false =>
                    have g20 : w1.cell? ⟨w.heap.size + 1, 20, none⟩ = some (.string s) := T0.out.2.2.cellAt 20
                    have fr20 : w1.frozen? ⟨w.heap.size + 1, 20, none⟩ = false := T0.out.2.2.free 20
                    have hB3 : Bk (w1.setCell ⟨w.heap.size + 1, 20, none⟩ (.string ⟨#[]⟩)) (w.heap.size + 1) 59 #[.int .i64 8, .string nn, .int .i64 a1, .int .i64 b1, .int .i64 c1, .slice A1 m1 p1, .string qn, .int .i64 a2, .int .i64 b2, .int .i64 c2, .string tn, .string tq, .int .i64 tp, .int .i64 a3, .int .i64 b3, .int .i64 c3, .slice A3 m3 p3, .string ta, .string tg, .int .i64 ts, .string ⟨#[]⟩] := T0.out.2.2.put 20 (.string ⟨#[]⟩)
                    go_wp2_with (with_reducible refine load_bk rfl 59 _ rfl (w.heap.size + 1) 0 rfl 59 #[.int .i64 8, .string nn, .int .i64 a1, .int .i64 b1, .int .i64 c1, .slice A1 m1 p1, .string qn, .int .i64 a2, .int .i64 b2, .int .i64 c2, .string tn, .string tq, .int .i64 tp, .int .i64 a3, .int .i64 b3, .int .i64 c3, .slice A3 m3 p3, .string ta, .string tg, .int .i64 ts, .string ⟨#[]⟩] #[.int .i64 8, .string nn, .int .i64 a1, .int .i64 b1, .int .i64 c1, .slice A1 m1 p1, .string qn, .int .i64 a2, .int .i64 b2, .int .i64 c2, .string tn, .string tq, .int .i64 tp, .int .i64 a3, .int .i64 b3, .int .i64 c3, .slice A3 m3 p3, .string ta, .string tg, .int .i64 ts, .string ⟨#[]⟩] _ hB3 (Part.whole _) Tryz.underlying59 rfl (by kernel_rfl) ?_)
                    go_ret
                    exact ⟨ret_bool' (by rw [HA.out, HR.out]; rfl), (T0.out.1.setCell (p := ⟨w.heap.size + 1, 20, none⟩) (by simp) _)⟩
                  case true =>
                    have g20 : w1.cell? ⟨w.heap.size + 1, 20, none⟩ = some (.string s) := T0.out.2.2.cellAt 20
                    have fr20 : w1.frozen? ⟨w.heap.size + 1, 20, none⟩ = false := T0.out.2.2.free 20
                    have hB3 : Bk (w1.setCell ⟨w.heap.size + 1, 20, none⟩ (.string ⟨#[]⟩)) (w.heap.size + 1) 59 #[.int .i64 8, .string nn, .int .i64 a1, .int .i64 b1, .int .i64 c1, .slice A1 m1 p1, .string qn, .int .i64 a2, .int .i64 b2, .int .i64 c2, .string tn, .string tq, .int .i64 tp, .int .i64 a3, .int .i64 b3, .int .i64 c3, .slice A3 m3 p3, .string ta, .string tg, .int .i64 ts, .string ⟨#[]⟩] := T0.out.2.2.put 20 (.string ⟨#[]⟩)
                    go_wp2_with (with_reducible refine load_bk rfl 59 _ rfl (w.heap.size + 1) 0 rfl 59 #[.int .i64 8, .string nn, .int .i64 a1, .int .i64 b1, .int .i64 c1, .slice A1 m1 p1, .string qn, .int .i64 a2, .int .i64 b2, .int .i64 c2, .string tn, .string tq, .int .i64 tp, .int .i64 a3, .int .i64 b3, .int .i64 c3, .slice A3 m3 p3, .string ta, .string tg, .int .i64 ts, .string ⟨#[]⟩] #[.int .i64 8, .string nn, .int .i64 a1, .int .i64 b1, .int .i64 c1, .slice A1 m1 p1, .string qn, .int .i64 a2, .int .i64 b2, .int .i64 c2, .string tn, .string tq, .int .i64 tp, .int .i64 a3, .int .i64 b3, .int .i64 c3, .slice A3 m3 p3, .string ta, .string tg, .int .i64 ts, .string ⟨#[]⟩] _ hB3 (Part.whole _) Tryz.underlying59 rfl (by kernel_rfl) ?_)
                    refine (KB.out _).mono ?_
                    rintro e w4 ⟨rfl, hb4⟩
                    have hB4 := (T0.out.1.setCell (p := ⟨w.heap.size + 1, 20, none⟩) (by simp) _).trans (hb4.mono (T0.out.1.setCell (p := ⟨w.heap.size + 1, 20, none⟩) (by simp) _).size)
                    go_wp2
                    go_ret
                    exact ⟨ret_bool' (by rw [HA.out, HR.out]; rfl), hB4⟩
                case neg =>
                  by_cases h9 : k = 9
                  case pos =>
                    subst h9
                    have kb := fun W => isBlank_any 9 nn a1 b1 c1 A1 m1 p1 l1 qn a2 b2 c2 tn tq tp a3 b3 c3 A3 m3 p3 l3 ta tg ts s W hn1 hp1 hq1 hn3 hp3 hq3
                    obtain ⟨rb, hrb⟩ : ∃ r, r = Ov.blank ⟨9, nn, a1, b1, c1, l1, qn, a2, b2, c2, tn, tq, tp, a3, b3, c3, l3, ta, tg, ts, s⟩ := ⟨_, rfl⟩
                    rw [← hrb] at kb
                    have hres : opB ⟨9, nn, a1, b1, c1, l1, qn, a2, b2, c2, tn, tq, tp, a3, b3, c3, l3, ta, tg, ts, s⟩ = rb := by rw [opB_9 rfl, hrb]; rfl
                    have HR := Lib.hid hres
                    have KB := Lib.hid kb
                    clear kb hres hrb
                    go_wp2_with (with_reducible refine load_bk rfl 59 _ rfl (w.heap.size + 1) 0 rfl 59 #[.int .i64 9, .string nn, .int .i64 a1, .int .i64 b1, .int .i64 c1, .slice A1 m1 p1, .string qn, .int .i64 a2, .int .i64 b2, .int .i64 c2, .string tn, .string tq, .int .i64 tp, .int .i64 a3, .int .i64 b3, .int .i64 c3, .slice A3 m3 p3, .string ta, .string tg, .int .i64 ts, .string s] #[.int .i64 9, .string nn, .int .i64 a1, .int .i64 b1, .int .i64 c1, .slice A1 m1 p1, .string qn, .int .i64 a2, .int .i64 b2, .int .i64 c2, .string tn, .string tq, .int .i64 tp, .int .i64 a3, .int .i64 b3, .int .i64 c3, .slice A3 m3 p3, .string ta, .string tg, .int .i64 ts, .string s] _ T0.out.2.2 (Part.whole _) Tryz.underlying59 rfl (by kernel_rfl) ?_)
                    refine (KB.out _).mono ?_
                    rintro e w4 ⟨rfl, hb4⟩
                    go_wp2
                    go_ret
                    exact ⟨ret_bool' (by rw [HA.out, HR.out]), T0.out.1.trans (hb4.mono T0.out.1.size)⟩
                  case neg =>
                    have hres : opB ⟨k, nn, a1, b1, c1, l1, qn, a2, b2, c2, tn, tq, tp, a3, b3, c3, l3, ta, tg, ts, s⟩ = false := opB_no (x := ⟨k, nn, a1, b1, c1, l1, qn, a2, b2, c2, tn, tq, tp, a3, b3, c3, l3, ta, tg, ts, s⟩) (by simp only []; omega)
                    have HR := Lib.hid hres
                    have e1 : (k == 1) = false := by simpa using h1
                    have e3 : (k == 3) = false := by simpa using h3
                    have e5 : (k == 5) = false := by simpa using h5
                    have e2 : (k == 2) = false := by simpa using h2
                    have e4 : (k == 4) = false := by simpa using h4
                    have e6 : (k == 6) = false := by simpa using h6
                    have e7 : (k == 7) = false := by simpa using h7
                    have e8 : (k == 8) = false := by simpa using h8
                    have e9 : (k == 9) = false := by simpa using h9
                    clear hres h1 h3 h5 h2 h4 h6 h7 h8 h9
                    go_wp2
                    go_ret
                    exact ⟨ret_bool' (by rw [HA.out, HR.out]), T0.out.1⟩
end Go.Proofs.YtjgojgmgicpgaaaGreat
