/- The walk of WheelParts. No condition beyond the form's own. -/
import Derived.Test.YtbegbecmnhldkaaTwa
import Derived.Test.YtbegbecmnhldkaaTwo
import Derived.Test.YtbegbecmnhldkaaTw5
import Derived.Test.YtbegbecmnhldkaaRge
import Derived.Deep.RegionHeld3
import Derived.Lib.MinMax
import Derived.Laws.Cover1
namespace Go.Proofs.Ytbegbecmnhldkaa
open Go.RowKit
set_option linter.unusedSimpArgs false
set_option linter.unusedVariables false
/-- Two wheels that the call has made. -/
structure T2 (w wr : World) (g : Nat) (M : Nat → Value) (E : List NT) (h : Nat) (K : Nat → Value) (F : List NT) : Prop where
  x : Wxe w wr g M E
  y : Wxe w wr h K F
  ap : ∀ k, WxB g M k → ¬ WxB h K k
section
variable {w wr w' : World} {g h : Nat} {M M' K K' : Nat → Value} {E E' F F' : List NT}
theorem T2.below (H : T2 w wr g M E h K F) (hb : Below wr.heap.size wr w') : T2 w w' g M E h K F := ⟨H.x.below hb, H.y.below hb, H.ap⟩
theorem T2.left (H : T2 w wr g M E h K F) (hx : Wxe w w' g M' E') (hn : ∀ k, WxB g M' k → WxB g M k ∨ wr.heap.size ≤ k) (hg : GrP (WxB g M) wr w') : T2 w w' g M' E' h K F :=
  ⟨hx, ⟨H.y.ix.grp hg fun k hk e => H.ap k e hk, hx.be⟩, fun k h1 h2 => by
    rcases hn k h1 with h3 | h3
    · exact H.ap k h3 h2
    · have := (H.y.ix.blk h2).2; omega⟩
theorem T2.right (H : T2 w wr g M E h K F) (hx : Wxe w w' h K' F') (hn : ∀ k, WxB h K' k → WxB h K k ∨ wr.heap.size ≤ k) (hg : GrP (WxB h K) wr w') : T2 w w' g M E h K' F' :=
  ⟨⟨H.x.ix.grp hg fun k hk e => H.ap k hk e, hx.be⟩, hx, fun k h1 h2 => by
    rcases hn k h2 with h3 | h3
    · exact H.ap k h1 h3
    · have := (H.x.ix.blk h1).2; omega⟩
end
/-- How often x stands there. -/
def cntB (l : List ByteArray) (x : ByteArray) : Nat := (l.filter fun y => sE y x).length
theorem cntB_take (l : List ByteArray) (x : ByteArray) {j : Nat} (hj : j < l.length) : cntB (l.take (j + 1)) x = cntB (l.take j) x + if sE l[j] x then 1 else 0 := by
  unfold cntB
  rw [List.take_succ_eq_append_getElem hj, List.filter_append, List.length_append, List.filter_cons]
  split <;> simp
theorem cntB_le (l : List ByteArray) (x : ByteArray) : cntB l x ≤ l.length := List.length_filter_le _ _
theorem cntB_one {l : List ByteArray} (hn : l.Nodup) {x : ByteArray} (hx : x ∈ l) : cntB l x = 1 := by
  unfold cntB
  induction l with
  | nil => cases hx
  | cons y l ih =>
    rw [List.nodup_cons] at hn
    by_cases e : y = x
    · rw [List.filter_cons, if_pos (sE_iff.2 e), List.length_cons, List.filter_eq_nil_iff.2 fun z hz h => hn.1 (by rw [e, ← sE_iff.1 h]; exact hz)]; rfl
    · rw [List.filter_cons, if_neg (fun h => e (sE_iff.1 h))]
      exact ih hn.2 ((List.mem_cons.1 hx).resolve_left fun h => e h.symm)
theorem due_parts (E : List NT) {lo hi : Int} (h : lo ≤ hi) : (E.filter (dueB lo) ++ (restT E lo).filter (dueB hi)).Perm (E.filter (dueB hi)) := by
  unfold restT
  induction E with
  | nil => exact List.Perm.refl _
  | cons p E ih =>
    simp only [List.filter_cons]
    by_cases h1 : p.2 < lo
    · have e1 : dueB lo p = true := decide_eq_true h1
      have e2 : dueB hi p = true := decide_eq_true (by omega)
      rw [e1, e2]
      exact ih.cons p
    · have e1 : dueB lo p = false := decide_eq_false h1
      rw [e1]
      simp only [Bool.not_false, if_true, Bool.false_eq_true, if_false, List.filter_cons]
      split
      · exact List.perm_middle.trans (ih.cons p)
      · exact ih
theorem told_parts {E : List NT} {lo hi : Int} (h : lo ≤ hi) {l1 l2 l3 : List ByteArray} (h1 : ToldT E lo l1) (h2 : ToldT (restT E lo) hi l2) (h3 : ToldT E hi l3) : (l1 ++ l2).Perm l3 := by
  refine (h1.1.append h2.1).trans (List.Perm.trans ?_ h3.1.symm)
  rw [← List.map_append]
  exact (due_parts E h).map _
theorem rest_rest (E : List NT) {lo hi : Int} (h : lo ≤ hi) : restT (restT (restT E lo) hi) hi = restT E hi := by
  unfold restT
  rw [List.filter_filter, List.filter_filter]
  refine List.filter_congr fun p _ => ?_
  by_cases h1 : p.2 < lo
  · simp [dueB, h1, show p.2 < hi by omega]
  · simp [dueB, h1]
theorem told_again (E : List NT) (hi : Int) {l : List ByteArray} (h : ToldT (restT E hi) hi l) : l = [] := by
  have h1 := h.1
  have : (restT E hi).filter (dueB hi) = [] := by
    unfold restT
    rw [List.filter_filter, List.filter_eq_nil_iff]
    intro p _
    simp
  rw [this] at h1
  exact List.Perm.eq_nil h1
namespace wheelParts
set_option maxHeartbeats 51200000 in
set_option maxRecDepth 100000 in
theorem walk (B0 : Option Addr) (N cap : Nat) (z : List Oe) (a b : Int) (w : World) (hn0 : N = z.length) (hr0 : RdK w 3 B0 (z.map eE)) (hc1 : N ≤ cap) (hc2 : cap ≤ 9223372036854775807) (_hw1 : (Lit.int .i64 a).wf = true) (_hw2 : (Lit.int .i64 b).wf = true) :
    Calls Try.prog 4 #[.slice B0 N cap, .int .i64 a, .int .i64 b] w fun r w' => r = .returned (.bool true) ∧ Below w.heap.size w w' := by
  have K1 := Lib.hid (fun W => awake19_any W)
  have K7 := Lib.hid (fun (A : Option Addr) (n c : Nat) (l : List Oe) (W : World) (hn : n = l.length) (hm : n ≤ 9223372036854775807) (hr : RdK W 3 A (l.map eE)) => few19_any A n c l W (Lib.hid hn) hm (Lib.hid hr))
  have HN := Lib.hid hn0
  have HRD : Hid (RdK w 3 B0 (z.map eE)) := hr0
  have HNM : Hid (N ≤ 9223372036854775807) := by show _ ≤ _; omega
  clear hn0 hr0 hc1 hc2
  have KN := Lib.hid (fun (W : World) (h : Below w.heap.size w W) => wx_new (w := w) W h)
  have KP := Lib.hid (fun (W : World) (g : Nat) (M : Nat → Value) (D : List NT) (s : ByteArray) (t : Int) (H : Wxe w W g M D) => wx_set s t H)
  have KA := Lib.hid (fun (W : World) (g : Nat) (M : Nat → Value) (D : List NT) (t : Int) (hl : D.length ≤ 1000) (H : Wxe w W g M D) => wx_due t hl H)
  have KL := Lib.hid (fun (W : World) (g : Nat) (M : Nat → Value) (D : List NT) (hl : D.length ≤ 1000) (H : Wxe w W g M D) => lenT_any w.heap.size g M D W (by omega) (Lib.hid H.ix))
  obtain ⟨lo, hlo⟩ : ∃ m, m = min a b := ⟨_, rfl⟩
  obtain ⟨hi, hhi⟩ : ∃ m, m = max a b := ⟨_, rfl⟩
  have hmn : (min a b : Int) = lo := hlo.symm
  have hmx : (max a b : Int) = hi := hhi.symm
  have HLH : Hid (lo ≤ hi) := by show _ ≤ _; rw [hlo, hhi]; omega
  clear hlo hhi _hw1 _hw2
  go_enter Try.func4, Try.ntmps4
  go_wp2_with fail
  refine (K1.out _).mono ?_; rintro e w1 ⟨rfl, hb1⟩
  have HB1 := Lib.hid hb1
  clear hb1
  go_wp2_with fail
  refine (K7.out B0 N cap z _ HN.out HNM.out (HRD.out.later HB1.out)).mono ?_; rintro e w2 ⟨⟨b2, rfl, hfew⟩, hb2⟩
  have HB2 := Lib.hid (HB1.out.trans (hb2.mono HB1.out.size))
  clear hb2 HB1 HNM
  cases b2 with
  | false =>
    go_wp2_with fail
    refine (K1.out _).mono ?_; rintro e w3 ⟨rfl, hb3⟩
    go_wp2_with fail
    go_ret
    exact ⟨rfl, HB2.out.trans (hb3.mono HB2.out.size)⟩
  | true =>
    have HN300 : Hid (N ≤ 300) := hfew rfl
    clear hfew
    go_wp2_with fail
    refine (KN.out _ HB2.out).mono ?_; rintro e w3 ⟨⟨rfl, hX3⟩, -⟩
    obtain ⟨g, hg⟩ : ∃ g, g = w2.heap.size := ⟨_, rfl⟩
    rw [← hg] at hX3 ⊢
    have HX3 := Lib.hid hX3
    clear hX3 hg HB2
    go_wp2_with fail
    refine (KN.out _ HX3.out.be).mono ?_; rintro e w4 ⟨⟨rfl, hY4⟩, hb4⟩
    obtain ⟨h, hh⟩ : ∃ h, h = w3.heap.size := ⟨_, rfl⟩
    rw [← hh] at hY4 ⊢
    have HX4 : Hid (T2 w w4 g (fun _ => .map none) [] h (fun _ => .map none) []) := ⟨HX3.out.below hb4, hY4, fun k h1 h2 => by
      have h3 := (HX3.out.ix.blk h1).2
      rcases h2 with rfl | ⟨i, _, h4⟩
      · omega
      · cases h4⟩
    clear hY4 hh hb4 HX3
    go_wp2_with fail
    go_loopw [37] (fun s37 wr => ∃ (i : Nat) (M Ky : Nat → Value) (E : List NT), i ≤ N ∧ s37 = .int .i64 i ∧ Hid (E.length ≤ i) ∧ Hid (T2 w wr g M E h Ky E)) (fun s37 wr => N - (intOf s37).toNat)
    case atStart => exact ⟨0, _, _, _, Nat.zero_le _, rfl, Nat.le_refl _, HX4⟩
    case round =>
      clear HX4
      obtain ⟨i, M, Ky, E, hi_, rfl, HLL, HB⟩ := hrel
      by_cases hin : i < N
      · skip
        obtain ⟨q, o, hA, hx⟩ := HRD.out.at (i := i) (by rw [List.length_map, ← HN.out]; exact hin)
        rw [List.getElem_map] at hx
        obtain ⟨⟨kd, t, s⟩, ex⟩ : ∃ x, x = z[i]'(by rw [← HN.out]; exact hin) := ⟨_, rfl⟩
        rw [← ex] at hx
        subst hA
        have hc2 : w.cell? ⟨q, o + i * 3 + 2, none⟩ = some (.string s) := by simpa using hx 2 _ rfl
        have hc1 : w.cell? ⟨q, o + i * 3 + 1, none⟩ = some (.int .i64 t) := by simpa using hx 1 _ rfl
        have hqb : q < w.heap.size := World.block_lt_of_cell? w _ hc2
        have HC2 : Hid (∀ W, Below w.heap.size w W → W.cell? ⟨q, o + i * 3 + 2, none⟩ = some (.string s)) := fun W hb => (hb.cell (p := ⟨q, o + i * 3 + 2, none⟩) hqb).trans hc2
        have HC1 : Hid (∀ W, Below w.heap.size w W → W.cell? ⟨q, o + i * 3 + 1, none⟩ = some (.int .i64 t)) := fun W hb => (hb.cell (p := ⟨q, o + i * 3 + 1, none⟩) hqb).trans hc1
        have hw1 : wrap64 ((i : Int) + 1) = ((i + 1 : Nat) : Int) := by have := HN300.out; unfold wrap64; omega
        clear hx ex hc1 hc2 hqb
        go_wp2_with fail
        refine wp_region_held_drew (S := fun W => Below w.heap.size w W) (by kernel_rfl) ((HB.out.x.be).trans (Below.drew (Below.refl _ _))) (fun hS0 => ?_)
        refine wpAnyH_take (i := 0) (v := ?_) rfl (by kernel_rfl) (by kernel_rfl) (by kernel_rfl) (fun _ _ _ h => h) (Or.inl ⟨by rfl, ?_⟩) hS0 ?_
        rotate_left
        · intro W _; go_simp; try with_reducible rfl
        try simp only [Act.put, List.getElem_toArray, List.getElem_cons_zero, List.setIfInBounds_toArray, List.set_cons_zero, List.set_cons_succ]
        refine wpAnyH_take (i := 1) (v := ?_) rfl (by kernel_rfl) (by kernel_rfl) (by kernel_rfl) (fun _ _ _ h => h) (Or.inl ⟨by rfl, ?_⟩) hS0 ?_
        rotate_left
        · intro W _; go_simp; try with_reducible rfl
        try simp only [Act.put, List.getElem_toArray, List.getElem_cons_zero, List.getElem_cons_succ, List.setIfInBounds_toArray, List.set_cons_zero, List.set_cons_succ]
        refine wpAnyH_take (i := 2) (v := ?_) rfl (by kernel_rfl) (by kernel_rfl) (by kernel_rfl) (fun _ _ _ h => h) (Or.inl ⟨by rfl, ?_⟩) hS0 ?_
        rotate_left
        · intro W _; go_simp; try with_reducible rfl
        try simp only [Act.put, List.getElem_toArray, List.getElem_cons_zero, List.getElem_cons_succ, List.setIfInBounds_toArray, List.set_cons_zero, List.set_cons_succ]
        refine wpAnyH_take (i := 3) (v := ?_) rfl (by kernel_rfl) (by kernel_rfl) (by kernel_rfl) (fun _ _ _ h => h) (Or.inl ⟨by rfl, ?_⟩) hS0 ?_
        rotate_left
        · intro W _; go_simp; try with_reducible rfl
        try simp only [Act.put, List.getElem_toArray, List.getElem_cons_zero, List.getElem_cons_succ, List.setIfInBounds_toArray, List.set_cons_zero, List.set_cons_succ]
        refine wpAnyH_take (i := 4) (v := ?_) rfl (by kernel_rfl) (by kernel_rfl) (by kernel_rfl) (fun _ _ _ h => h) (Or.inl ⟨by rfl, ?_⟩) hS0 ?_
        rotate_left
        · intro W _; go_simp; try with_reducible rfl
        try simp only [Act.put, List.getElem_toArray, List.getElem_cons_zero, List.getElem_cons_succ, List.setIfInBounds_toArray, List.set_cons_zero, List.set_cons_succ]
        refine wpAnyH_take (i := 5) (v := ?_) rfl (by kernel_rfl) (by kernel_rfl) (by kernel_rfl) (fun _ _ _ h => h) (Or.inl ⟨by rfl, ?_⟩) hS0 ?_
        rotate_left
        · intro W hSW; have hx := HC2.out W hSW; go_simp; try with_reducible rfl
        try simp only [Act.put, List.getElem_toArray, List.getElem_cons_zero, List.getElem_cons_succ, List.setIfInBounds_toArray, List.set_cons_zero, List.set_cons_succ]
        refine wpAnyH_take (i := 6) (v := ?_) rfl (by kernel_rfl) (by kernel_rfl) (by kernel_rfl) (fun _ _ _ h => h) (Or.inl ⟨by rfl, ?_⟩) hS0 ?_
        rotate_left
        · intro W _; go_simp; try with_reducible rfl
        try simp only [Act.put, List.getElem_toArray, List.getElem_cons_zero, List.getElem_cons_succ, List.setIfInBounds_toArray, List.set_cons_zero, List.set_cons_succ]
        refine wpAnyH_take (i := 7) (v := ?_) rfl (by kernel_rfl) (by kernel_rfl) (by kernel_rfl) (fun _ _ _ h => h) (Or.inl ⟨by rfl, ?_⟩) hS0 ?_
        rotate_left
        · intro W _; go_simp; try with_reducible rfl
        try simp only [Act.put, List.getElem_toArray, List.getElem_cons_zero, List.getElem_cons_succ, List.setIfInBounds_toArray, List.set_cons_zero, List.set_cons_succ]
        refine wpAnyH_take (i := 8) (v := ?_) rfl (by kernel_rfl) (by kernel_rfl) (by kernel_rfl) (fun _ _ _ h => h) (Or.inl ⟨by rfl, ?_⟩) hS0 ?_
        rotate_left
        · intro W _; go_simp; try with_reducible rfl
        try simp only [Act.put, List.getElem_toArray, List.getElem_cons_zero, List.getElem_cons_succ, List.setIfInBounds_toArray, List.set_cons_zero, List.set_cons_succ]
        refine wpAnyH_take (i := 9) (v := ?_) rfl (by kernel_rfl) (by kernel_rfl) (by kernel_rfl) (fun _ _ _ h => h) (Or.inl ⟨by rfl, ?_⟩) hS0 ?_
        rotate_left
        · intro W _; go_simp; try with_reducible rfl
        try simp only [Act.put, List.getElem_toArray, List.getElem_cons_zero, List.getElem_cons_succ, List.setIfInBounds_toArray, List.set_cons_zero, List.set_cons_succ]
        refine wpAnyH_take (i := 10) (v := ?_) rfl (by kernel_rfl) (by kernel_rfl) (by kernel_rfl) (fun _ _ _ h => h) (Or.inl ⟨by rfl, ?_⟩) hS0 ?_
        rotate_left
        · intro W hSW; have hx := HC1.out W hSW; go_simp; try with_reducible rfl
        try simp only [Act.put, List.getElem_toArray, List.getElem_cons_zero, List.getElem_cons_succ, List.setIfInBounds_toArray, List.set_cons_zero, List.set_cons_succ]
        refine wpAnyH_ready (rs := [11]) (by kernel_rfl) (by simp) ?_
        refine AllReadyH.cons rfl (fun K hK => ?_) AllReadyH.nil
        go_simp
        refine (KP.out _ g M E s t (HB.out.below (Below.drew (Below.refl _ _))).x).mono ?_
        rintro e w4 ⟨rfl, ⟨M', hO, hM'⟩, hg⟩
        have HB4 : Hid (T2 w w4 g M' (delT E s ++ [(s, t)]) h Ky E) := (HB.out.below (Below.drew (Below.refl _ _))).left hO hM' hg
        clear hO hM' hg
        go_simp
        refine hK.out _ _ (HB4.out.x.be) (fun hS1 => ?_)
        clear hK K
        try simp only [Act.put, List.getElem_toArray, List.getElem_cons_zero, List.getElem_cons_succ, List.setIfInBounds_toArray, List.set_cons_zero, List.set_cons_succ]
        refine wpAnyH_done (by kernel_rfl) ?_ _
        clear hS0 hS1 HB
        go_wp2_with fail
        refine wp_region_held_drew (S := fun W => Below w.heap.size w W) (by kernel_rfl) ((HB4.out.x.be).trans (Below.drew (Below.refl _ _))) (fun hS0 => ?_)
        refine wpAnyH_take (i := 0) (v := ?_) rfl (by kernel_rfl) (by kernel_rfl) (by kernel_rfl) (fun _ _ _ h => h) (Or.inl ⟨by rfl, ?_⟩) hS0 ?_
        rotate_left
        · intro W _; go_simp; try with_reducible rfl
        try simp only [Act.put, List.getElem_toArray, List.getElem_cons_zero, List.setIfInBounds_toArray, List.set_cons_zero, List.set_cons_succ]
        refine wpAnyH_take (i := 1) (v := ?_) rfl (by kernel_rfl) (by kernel_rfl) (by kernel_rfl) (fun _ _ _ h => h) (Or.inl ⟨by rfl, ?_⟩) hS0 ?_
        rotate_left
        · intro W _; go_simp; try with_reducible rfl
        try simp only [Act.put, List.getElem_toArray, List.getElem_cons_zero, List.getElem_cons_succ, List.setIfInBounds_toArray, List.set_cons_zero, List.set_cons_succ]
        refine wpAnyH_take (i := 2) (v := ?_) rfl (by kernel_rfl) (by kernel_rfl) (by kernel_rfl) (fun _ _ _ h => h) (Or.inl ⟨by rfl, ?_⟩) hS0 ?_
        rotate_left
        · intro W _; go_simp; try with_reducible rfl
        try simp only [Act.put, List.getElem_toArray, List.getElem_cons_zero, List.getElem_cons_succ, List.setIfInBounds_toArray, List.set_cons_zero, List.set_cons_succ]
        refine wpAnyH_take (i := 3) (v := ?_) rfl (by kernel_rfl) (by kernel_rfl) (by kernel_rfl) (fun _ _ _ h => h) (Or.inl ⟨by rfl, ?_⟩) hS0 ?_
        rotate_left
        · intro W _; go_simp; try with_reducible rfl
        try simp only [Act.put, List.getElem_toArray, List.getElem_cons_zero, List.getElem_cons_succ, List.setIfInBounds_toArray, List.set_cons_zero, List.set_cons_succ]
        refine wpAnyH_take (i := 4) (v := ?_) rfl (by kernel_rfl) (by kernel_rfl) (by kernel_rfl) (fun _ _ _ h => h) (Or.inl ⟨by rfl, ?_⟩) hS0 ?_
        rotate_left
        · intro W _; go_simp; try with_reducible rfl
        try simp only [Act.put, List.getElem_toArray, List.getElem_cons_zero, List.getElem_cons_succ, List.setIfInBounds_toArray, List.set_cons_zero, List.set_cons_succ]
        refine wpAnyH_take (i := 5) (v := ?_) rfl (by kernel_rfl) (by kernel_rfl) (by kernel_rfl) (fun _ _ _ h => h) (Or.inl ⟨by rfl, ?_⟩) hS0 ?_
        rotate_left
        · intro W hSW; have hx := HC2.out W hSW; go_simp; try with_reducible rfl
        try simp only [Act.put, List.getElem_toArray, List.getElem_cons_zero, List.getElem_cons_succ, List.setIfInBounds_toArray, List.set_cons_zero, List.set_cons_succ]
        refine wpAnyH_take (i := 6) (v := ?_) rfl (by kernel_rfl) (by kernel_rfl) (by kernel_rfl) (fun _ _ _ h => h) (Or.inl ⟨by rfl, ?_⟩) hS0 ?_
        rotate_left
        · intro W _; go_simp; try with_reducible rfl
        try simp only [Act.put, List.getElem_toArray, List.getElem_cons_zero, List.getElem_cons_succ, List.setIfInBounds_toArray, List.set_cons_zero, List.set_cons_succ]
        refine wpAnyH_take (i := 7) (v := ?_) rfl (by kernel_rfl) (by kernel_rfl) (by kernel_rfl) (fun _ _ _ h => h) (Or.inl ⟨by rfl, ?_⟩) hS0 ?_
        rotate_left
        · intro W _; go_simp; try with_reducible rfl
        try simp only [Act.put, List.getElem_toArray, List.getElem_cons_zero, List.getElem_cons_succ, List.setIfInBounds_toArray, List.set_cons_zero, List.set_cons_succ]
        refine wpAnyH_take (i := 8) (v := ?_) rfl (by kernel_rfl) (by kernel_rfl) (by kernel_rfl) (fun _ _ _ h => h) (Or.inl ⟨by rfl, ?_⟩) hS0 ?_
        rotate_left
        · intro W _; go_simp; try with_reducible rfl
        try simp only [Act.put, List.getElem_toArray, List.getElem_cons_zero, List.getElem_cons_succ, List.setIfInBounds_toArray, List.set_cons_zero, List.set_cons_succ]
        refine wpAnyH_take (i := 9) (v := ?_) rfl (by kernel_rfl) (by kernel_rfl) (by kernel_rfl) (fun _ _ _ h => h) (Or.inl ⟨by rfl, ?_⟩) hS0 ?_
        rotate_left
        · intro W _; go_simp; try with_reducible rfl
        try simp only [Act.put, List.getElem_toArray, List.getElem_cons_zero, List.getElem_cons_succ, List.setIfInBounds_toArray, List.set_cons_zero, List.set_cons_succ]
        refine wpAnyH_take (i := 10) (v := ?_) rfl (by kernel_rfl) (by kernel_rfl) (by kernel_rfl) (fun _ _ _ h => h) (Or.inl ⟨by rfl, ?_⟩) hS0 ?_
        rotate_left
        · intro W hSW; have hx := HC1.out W hSW; go_simp; try with_reducible rfl
        try simp only [Act.put, List.getElem_toArray, List.getElem_cons_zero, List.getElem_cons_succ, List.setIfInBounds_toArray, List.set_cons_zero, List.set_cons_succ]
        refine wpAnyH_ready (rs := [11]) (by kernel_rfl) (by simp) ?_
        refine AllReadyH.cons rfl (fun K hK => ?_) AllReadyH.nil
        go_simp
        refine (KP.out _ h Ky E s t (HB4.out.below (Below.drew (Below.refl _ _))).y).mono ?_
        rintro e w5 ⟨rfl, ⟨K', hO, hK'⟩, hg⟩
        have HB5 : Hid (T2 w w5 g M' (delT E s ++ [(s, t)]) h K' (delT E s ++ [(s, t)])) := (HB4.out.below (Below.drew (Below.refl _ _))).right hO hK' hg
        clear hO hK' hg
        go_simp
        refine hK.out _ _ (HB5.out.x.be) (fun hS1 => ?_)
        clear hK K
        try simp only [Act.put, List.getElem_toArray, List.getElem_cons_zero, List.getElem_cons_succ, List.setIfInBounds_toArray, List.set_cons_zero, List.set_cons_succ]
        refine wpAnyH_done (by kernel_rfl) ?_ _
        have HLI : Hid ((delT E s ++ [(s, t)]).length ≤ i + 1) := by show _ ≤ _; have h2 := delT_len E s; have h3 := HLL.out; rw [List.length_append]; simp only [List.length_cons, List.length_nil]; omega
        clear hS0 hS1 HB4 HC1 HC2
        go_wp2_with fail
        go_round
        case rel => exact ⟨i + 1, _, _, _, by omega, by go_num, HLI, HB5⟩
        case measure =>
          first
          | (rw [hw1]; show N - ((i + 1 : Nat) : Int).toNat < N - ((i : Nat) : Int).toNat; rw [Int.toNat_natCast, Int.toNat_natCast]; omega)
          | (show N - ((i : Int) + 1).toNat < N - ((i : Nat) : Int).toNat; omega)
      · have hie : i = N := by omega
        subst hie
        have HEL : Hid (E.length ≤ 300) := Nat.le_trans HLL.out HN300.out
        clear hi_ hin HLL
        obtain ⟨w5, hw5⟩ : ∃ W, W = wr := ⟨_, rfl⟩
        rw [← hw5] at HB ⊢
        clear hw5 wr
        have HL1 : Hid (E.length ≤ 1000) := by show _ ≤ _; have := HEL.out; omega
        have HLTX : Hid (∀ k, WxB g M k → k < w5.heap.size) := fun k hk => (HB.out.x.ix.blk hk).2
        have HLTY : Hid (∀ k, WxB h Ky k → k < w5.heap.size) := fun k hk => (HB.out.y.ix.blk hk).2
        have HND : Hid ((E.map Prod.fst).Nodup) := HB.out.x.ix.nodup
        go_wp2_with fail
        refine (KA.out w5 g M E lo HL1.out HB.out.x).mono ?_
        rintro e w6 ⟨⟨l1, n1, A1, c1, rfl, hn, hn1, ho, ht⟩, hO, hg⟩
        have HB6 := Lib.hid (HB.out.left hO (fun k hk => .inl hk) hg)
        have HN1 := Lib.hid hn
        have HM1 := Lib.hid hn1
        have HT1 := Lib.hid ht
        have HOW1 := Lib.hid ho
        have HSZ6 : Hid (w5.heap.size ≤ w6.heap.size) := hg.size
        have HL2 : Hid ((restT E lo).length ≤ 1000) := Nat.le_trans (List.length_filter_le _ _) HL1.out
        clear hO hg hn hn1 ht ho HB
        go_wp2_with fail
        refine (KA.out w6 g M (restT E lo) hi HL2.out HB6.out.x).mono ?_
        rintro e w7 ⟨⟨l2, n2, A2, c2, rfl, hn, hn1, ho, ht⟩, hO, hg⟩
        have HB7 := Lib.hid (HB6.out.left hO (fun k hk => .inl hk) hg)
        have HN2 := Lib.hid hn
        have HM2 := Lib.hid hn1
        have HT2 := Lib.hid ht
        have HOW2 := Lib.hid ho
        have HSZ7 : Hid (w5.heap.size ≤ w7.heap.size) := Nat.le_trans HSZ6.out hg.size
        have HO1b : Hid (OwnK w7 w5.heap.size 9 1 (.slice A1 n1 c1) (cellsS l1)) := HOW1.out.grp hg fun k hk e => by have h1 := HOW1.out.block k hk; have h2 := HLTX.out k e; omega
        have HL3 := HL1
        clear hO hg hn hn1 ht ho HB6 HOW1
        go_wp2_with fail
        refine (KA.out w7 h Ky E hi HL3.out HB7.out.y).mono ?_
        rintro e w8 ⟨⟨l3, n3, A3, c3, rfl, hn, hn1, ho, ht⟩, hO, hg⟩
        have HB8 := Lib.hid (HB7.out.right hO (fun k hk => .inl hk) hg)
        have HN3 := Lib.hid hn
        have HM3 := Lib.hid hn1
        have HT3 := Lib.hid ht
        have HOW3 := Lib.hid ho
        have HO1c : Hid (OwnK w8 w5.heap.size 9 1 (.slice A1 n1 c1) (cellsS l1)) := HO1b.out.grp hg fun k hk e => by have h1 := HO1b.out.block k hk; have h2 := HLTY.out k e; omega
        have HO2c : Hid (OwnK w8 w6.heap.size 9 1 (.slice A2 n2 c2) (cellsS l2)) := HOW2.out.grp hg fun k hk e => by have h1 := HOW2.out.block k hk; have h2 := HLTY.out k e; have h3 := HSZ6.out; omega
        clear hO hg hn hn1 ht ho HB7 HO1b HOW2
        have HPM : Hid ((l1 ++ l2).Perm l3) := told_parts HLH.out HT1.out HT2.out HT3.out
        have hsum : n1 + n2 = n3 := by have h1 := HPM.out.length_eq; rw [List.length_append] at h1; have h2 := HN1.out; have h3 := HN2.out; have h4 := HN3.out; omega
        have hws : wrap64 ((n1 : Int) + (n2 : Int)) = (n3 : Int) := by have := HM1.out; have := HM2.out; unfold wrap64; omega
        clear hsum
        have HL4 : Hid ((restT (restT E lo) hi).length ≤ 1000) := Nat.le_trans (List.length_filter_le _ _) HL2.out
        go_wp2_with fail
        refine (KA.out w8 g M (restT (restT E lo) hi) hi HL4.out HB8.out.x).mono ?_
        rintro e w9 ⟨⟨l4, n4, A4, c4, rfl, hn, -, -, ht⟩, hO, hg⟩
        have hl4 : l4 = [] := told_again (restT E lo) hi ht
        have hn4 : n4 = 0 := by rw [hn, hl4]; rfl
        subst hn4
        have HB9 := Lib.hid (HB8.out.left hO (fun k hk => .inl hk) hg)
        have HS1 : Hid (RdS w9 A1 l1) := by
          have ho := HO1c.out.grp hg fun k hk e => by have h1 := HO1c.out.block k hk; have h2 := HLTX.out k e; omega
          obtain ⟨A', c', hv, hr, -, -⟩ := ho.rds
          injection hv with e1
          subst e1
          exact hr
        have HS2 : Hid (RdS w9 A2 l2) := by
          have ho := HO2c.out.grp hg fun k hk e => by have h1 := HO2c.out.block k hk; have h2 := HLTX.out k e; have h3 := HSZ6.out; omega
          obtain ⟨A', c', hv, hr, -, -⟩ := ho.rds
          injection hv with e1
          subst e1
          exact hr
        have HS3 : Hid (RdS w9 A3 l3) := by
          have ho := HOW3.out.grp hg fun k hk e => by have h1 := HOW3.out.block k hk; have h2 := HLTX.out k e; have h3 := HSZ7.out; omega
          obtain ⟨A', c', hv, hr, -, -⟩ := ho.rds
          injection hv with e1
          subst e1
          exact hr
        clear hn ht hO hg hl4 HO1c HO2c HOW3 HB8
        go_wp2_with fail
        have HR5 : Hid (restT (restT (restT E lo) hi) hi = restT E hi) := rest_rest E HLH.out
        have HB9 : Hid (T2 w w9 g M (restT E hi) h Ky (restT E hi)) := by have h1 := HB9.out; rw [HR5.out] at h1; exact h1
        have HL5 : Hid ((restT E hi).length ≤ 1000) := Nat.le_trans (List.length_filter_le _ _) HL1.out
        refine (KL.out w9 g M (restT E hi) HL5.out HB9.out.x).mono ?_
        rintro e wa ⟨rfl, hba⟩
        have HBA := Lib.hid (HB9.out.below hba)
        have HBW0 := Lib.hid hba
        clear hba
        obtain ⟨n5, hn5⟩ : ∃ n, n = (restT E hi).length := ⟨_, rfl⟩
        rw [← hn5]
        have HN5 := Lib.hid hn5
        clear hn5
        go_wp2_with fail
        refine (KL.out wa h Ky (restT E hi) HL5.out HBA.out.y).mono ?_
        rintro e wb ⟨rfl, hbb⟩
        rw [← HN5.out]
        have HBW : Hid (Below w9.heap.size w9 wb) := HBW0.out.trans (hbb.mono HBW0.out.size)
        have HW9 := Lib.hid HB9.out.x.be
        have HNL3 : Hid (l3.Nodup) := HT3.out.1.nodup_iff.2 ((List.filter_sublist.map _).nodup HND.out)
        have HT3 : Hid (l3.Pairwise fun x y => sL x y = true) := HT3.out.2
        clear hbb HBA HBW0 HN5 HL5 HB9 HR5 HL4 HL3 HL2 HL1 HT1 HT2 hws HND HLTX HLTY HSZ6 HSZ7 hmn hmx HLH HEL
        go_wp2_with fail
        go_loopw [104] (fun s104 wr => ∃ i : Nat, i ≤ n3 ∧ s104 = .int .i64 i ∧ Hid (Below w9.heap.size w9 wr)) (fun s104 wr => n3 - (intOf s104).toNat)
        case atStart => exact ⟨0, Nat.zero_le _, rfl, HBW⟩
        case round =>
          clear HBW
          obtain ⟨i, hi1, rfl, HBW⟩ := hrel
          by_cases hin : i < n3
          · have hil : Hid (i < l3.length) := by show _ < _; rw [← HN3.out]; exact hin
            obtain ⟨x, hx⟩ : ∃ x, x = l3[i]'hil.out := ⟨_, rfl⟩
            obtain ⟨ga, oa, hA, hgl, hcl⟩ := HS3.out.at hil.out
            rw [← hx] at hcl
            subst hA
            have HX := Lib.hid hx
            have HXC : Hid (∀ W, Below w9.heap.size w9 W → W.cell? ⟨ga, oa + i, none⟩ = some (.string x)) := fun W hb => (hb.cell (p := ⟨ga, oa + i, none⟩) hgl).trans hcl
            have HCN : Hid (cntB l1 x + cntB l2 x = 1) := by
              have h1 : cntB (l1 ++ l2) x = cntB l1 x + cntB l2 x := by unfold cntB; rw [List.filter_append, List.length_append]
              have h2 : cntB (l1 ++ l2) x = cntB l3 x := (HPM.out.filter _).length_eq
              show _ = _
              rw [← h1, h2]
              exact cntB_one HNL3.out (by rw [hx]; exact List.getElem_mem _)
            clear hx hgl hcl
            go_wp2_with fail
            go_loopw [109, 16] (fun s109 s16 wr => ∃ (j f : Nat), j ≤ n1 ∧ s109 = .int .i64 j ∧ s16 = .int .i64 (f : Nat) ∧ Hid (f = cntB (l1.take j) x) ∧ Hid (Below w9.heap.size w9 wr)) (fun s109 s16 wr => n1 - (intOf s109).toNat)
            case atStart => exact ⟨0, 0, Nat.zero_le _, rfl, rfl, rfl, HBW⟩
            case round =>
              clear HBW
              obtain ⟨j, f, hj, rfl, rfl, HF, HBW⟩ := hrel
              by_cases hjn : j < n1
              · have hjl : Hid (j < l1.length) := by show _ < _; rw [← HN1.out]; exact hjn
                obtain ⟨y, hy⟩ : ∃ y, y = l1[j]'hjl.out := ⟨_, rfl⟩
                obtain ⟨gl, ol, hA, hgl, hcl⟩ := HS1.out.at hjl.out
                rw [← hy] at hcl
                have hyc : wr.cell? ⟨gl, ol + j, none⟩ = some (.string y) := (HBW.out.cell (p := ⟨gl, ol + j, none⟩) hgl).trans hcl
                have hxc : wr.cell? ⟨ga, oa + i, none⟩ = some (.string x) := HXC.out wr HBW.out
                have hb1 : gl < wr.heap.size := World.block_lt_of_cell? wr _ hyc
                have hb2 : ga < wr.heap.size := World.block_lt_of_cell? wr _ hxc
                have HCT : Hid (cntB (l1.take (j + 1)) x = cntB (l1.take j) x + if sE y x then 1 else 0) := by show _ = _; rw [cntB_take l1 x hjl.out, hy]
                have HCL : Hid (cntB (l1.take j) x ≤ 1000) := Nat.le_trans (cntB_le _ _) (by rw [List.length_take]; have := HM1.out; omega)
                have HC1 : Hid (cntB l1 x ≤ 1000) := Nat.le_trans (cntB_le _ _) (by have := HN1.out; have := HM1.out; omega)
                subst hA
                have hwj : wrap64 ((j : Int) + 1) = ((j + 1 : Nat) : Int) := by have := HM1.out; unfold wrap64; omega
                have hwf : wrap64 ((f : Int) + 1) = ((f + 1 : Nat) : Int) := by have h1 := HF.out; have h2 := HCL.out; have h3 := HC1.out; unfold wrap64; omega
                have hji : (j : Int) < (n1 : Int) := by omega
                have hii : (i : Int) < (n3 : Int) := by omega
                clear hy hgl hcl
                by_cases he : y = x
                · have HF2 : Hid (f + 1 = cntB (l1.take (j + 1)) x) := by
                    show _ = _
                    have h1 := HF.out; have h2 := HCT.out
                    rw [if_pos (sE_iff.2 he)] at h2
                    omega
                  subst he
                  clear HF HCT HCL HC1
                  go_wp2_with fail
                  go_quiet (fail)
                  have HB2 : Hid (Below w9.heap.size w9 (wr.drewN nq)) := bdrewN HBW.out _
                  clear hyc hxc hb1 hb2
                  go_wp2_with fail
                  go_round
                  case rel => exact ⟨j + 1, f + 1, by omega, by go_num, by go_num, HF2, HB2⟩
                  case measure =>
                    first
                    | (rw [hwj]; show n1 - ((j + 1 : Nat) : Int).toNat < n1 - ((j : Nat) : Int).toNat; rw [Int.toNat_natCast, Int.toNat_natCast]; omega)
                    | (show n1 - ((j : Int) + 1).toNat < n1 - ((j : Nat) : Int).toNat; omega)
                · have he' : (y.toList == x.toList) = false := by cases h : sE y x with
                    | false => exact h
                    | true => exact absurd (sE_iff.1 h) he
                  have HF2 : Hid (f = cntB (l1.take (j + 1)) x) := by
                    show _ = _
                    have h1 := HF.out; have h2 := HCT.out
                    rw [if_neg (fun h => he (sE_iff.1 h))] at h2
                    omega
                  clear HF HCT HCL HC1 he
                  go_wp2_with fail
                  go_quiet (fail)
                  have HB2 : Hid (Below w9.heap.size w9 (wr.drewN nq)) := bdrewN HBW.out _
                  clear hyc hxc hb1 hb2
                  go_wp2_with fail
                  go_round
                  case rel => exact ⟨j + 1, f, by omega, by go_num, rfl, HF2, HB2⟩
                  case measure =>
                    first
                    | (rw [hwj]; show n1 - ((j + 1 : Nat) : Int).toNat < n1 - ((j : Nat) : Int).toNat; rw [Int.toNat_natCast, Int.toNat_natCast]; omega)
                    | (show n1 - ((j : Int) + 1).toNat < n1 - ((j : Nat) : Int).toNat; omega)
              · have hje : j = n1 := by omega
                have HF1 : Hid (f = cntB l1 x) := by have h1 := HF.out; rw [hje, HN1.out, List.take_length] at h1; exact h1
                subst hje
                clear hj hjn HF
                go_wp2_with fail
                go_loopw [126, 16] (fun s126 s16 wr => ∃ (j f : Nat), j ≤ n2 ∧ s126 = .int .i64 j ∧ s16 = .int .i64 (f : Nat) ∧ Hid (f = cntB l1 x + cntB (l2.take j) x) ∧ Hid (Below w9.heap.size w9 wr)) (fun s126 s16 wr => n2 - (intOf s126).toNat)
                case atStart => exact ⟨0, f, Nat.zero_le _, rfl, rfl, HF1, HBW⟩
                case round =>
                  clear HBW HF1
                  obtain ⟨j, f, hj, rfl, rfl, HF, HBW⟩ := hrel
                  by_cases hjn : j < n2
                  · have hjl : Hid (j < l2.length) := by show _ < _; rw [← HN2.out]; exact hjn
                    obtain ⟨y, hy⟩ : ∃ y, y = l2[j]'hjl.out := ⟨_, rfl⟩
                    obtain ⟨gl, ol, hA, hgl, hcl⟩ := HS2.out.at hjl.out
                    rw [← hy] at hcl
                    have hyc : wr.cell? ⟨gl, ol + j, none⟩ = some (.string y) := (HBW.out.cell (p := ⟨gl, ol + j, none⟩) hgl).trans hcl
                    have hxc : wr.cell? ⟨ga, oa + i, none⟩ = some (.string x) := HXC.out wr HBW.out
                    have hb1 : gl < wr.heap.size := World.block_lt_of_cell? wr _ hyc
                    have hb2 : ga < wr.heap.size := World.block_lt_of_cell? wr _ hxc
                    have HCT : Hid (cntB (l2.take (j + 1)) x = cntB (l2.take j) x + if sE y x then 1 else 0) := by show _ = _; rw [cntB_take l2 x hjl.out, hy]
                    have HCL : Hid (cntB (l2.take j) x ≤ 1000) := Nat.le_trans (cntB_le _ _) (by rw [List.length_take]; have := HM2.out; omega)
                    have HC1 : Hid (cntB l1 x ≤ 1000) := Nat.le_trans (cntB_le _ _) (by have := HN1.out; have := HM1.out; omega)
                    subst hA
                    have hwj : wrap64 ((j : Int) + 1) = ((j + 1 : Nat) : Int) := by have := HM2.out; unfold wrap64; omega
                    have hwf : wrap64 ((f : Int) + 1) = ((f + 1 : Nat) : Int) := by have h1 := HF.out; have h2 := HCL.out; have h3 := HC1.out; unfold wrap64; omega
                    have hji : (j : Int) < (n2 : Int) := by omega
                    have hii : (i : Int) < (n3 : Int) := by omega
                    clear hy hgl hcl
                    by_cases he : y = x
                    · have HF2 : Hid (f + 1 = cntB l1 x + cntB (l2.take (j + 1)) x) := by
                        show _ = _
                        have h1 := HF.out; have h2 := HCT.out
                        rw [if_pos (sE_iff.2 he)] at h2
                        omega
                      subst he
                      clear HF HCT HCL HC1
                      go_wp2_with fail
                      go_quiet (fail)
                      have HB2 : Hid (Below w9.heap.size w9 (wr.drewN nq)) := bdrewN HBW.out _
                      clear hyc hxc hb1 hb2
                      go_wp2_with fail
                      go_round
                      case rel => exact ⟨j + 1, f + 1, by omega, by go_num, by go_num, HF2, HB2⟩
                      case measure =>
                        first
                        | (rw [hwj]; show n2 - ((j + 1 : Nat) : Int).toNat < n2 - ((j : Nat) : Int).toNat; rw [Int.toNat_natCast, Int.toNat_natCast]; omega)
                        | (show n2 - ((j : Int) + 1).toNat < n2 - ((j : Nat) : Int).toNat; omega)
                    · have he' : (y.toList == x.toList) = false := by cases h : sE y x with
                        | false => exact h
                        | true => exact absurd (sE_iff.1 h) he
                      have HF2 : Hid (f = cntB l1 x + cntB (l2.take (j + 1)) x) := by
                        show _ = _
                        have h1 := HF.out; have h2 := HCT.out
                        rw [if_neg (fun h => he (sE_iff.1 h))] at h2
                        omega
                      clear HF HCT HCL HC1 he
                      go_wp2_with fail
                      go_quiet (fail)
                      have HB2 : Hid (Below w9.heap.size w9 (wr.drewN nq)) := bdrewN HBW.out _
                      clear hyc hxc hb1 hb2
                      go_wp2_with fail
                      go_round
                      case rel => exact ⟨j + 1, f, by omega, by go_num, rfl, HF2, HB2⟩
                      case measure =>
                        first
                        | (rw [hwj]; show n2 - ((j + 1 : Nat) : Int).toNat < n2 - ((j : Nat) : Int).toNat; rw [Int.toNat_natCast, Int.toNat_natCast]; omega)
                        | (show n2 - ((j : Int) + 1).toNat < n2 - ((j : Nat) : Int).toNat; omega)
                  · have hje : j = n2 := by omega
                    have HF1 : Hid (f = cntB l1 x + cntB l2 x) := by have h1 := HF.out; rw [hje, HN2.out, List.take_length] at h1; exact h1
                    subst hje
                    clear hj hjn HF
                    have hf1 : f = 1 := by
                      have h1 := HF1.out
                      have h2 := HCN.out
                      omega
                    subst hf1
                    obtain ⟨wo, hwo⟩ : ∃ wo, wo = wr := ⟨_, rfl⟩
                    subst hwo
                    have hxi : wo.cell? ⟨ga, oa + i, none⟩ = some (.string x) := HXC.out wo HBW.out
                    have hb3 : ga < wo.heap.size := World.block_lt_of_cell? wo _ hxi
                    have hii : (i : Int) < (n3 : Int) := by omega
                    clear HF1
                    by_cases hz : 0 < i
                    · obtain ⟨p, hp⟩ : ∃ p, i = p + 1 := ⟨i - 1, by omega⟩
                      have hpl : Hid (p < l3.length) := by show _ < _; have := hil.out; omega
                      obtain ⟨x0, hx0⟩ : ∃ x, x = l3[p]'hpl.out := ⟨_, rfl⟩
                      have hxj : wo.cell? ⟨ga, oa + p, none⟩ = some (.string x0) := by
                        obtain ⟨gl2, ol2, hA2, hgl2, hcl2⟩ := HS3.out.at hpl.out
                        injection hA2 with hA2
                        injection hA2 with e1 e2
                        subst e1 e2
                        rw [← hx0] at hcl2
                        exact (HBW.out.cell (p := ⟨ga, oa + p, none⟩) hgl2).trans hcl2
                      have hlss : Op.bytesLess x0.toList x.toList = true := by
                        have := (List.pairwise_iff_getElem.1 HT3.out) p i hpl.out hil.out (by omega)
                        rw [← hx0, ← HX.out] at this
                        exact this
                      have hw2 : wrap64 ((i : Int) - 1) = (p : Int) := by have := HM3.out; unfold wrap64; omega
                      have hw3 : IntKind.i64.wrap ((i : Int) - 1) = (p : Int) := by have := HM3.out; rw [IntKind.wrap_i64]; omega
                      have hjn : p < n3 := by omega
                      have hz1 : decide ((0 : Int) < (i : Int)) = true := decide_eq_true (by omega)
                      have hz2 : decide (0 < i) = true := decide_eq_true hz
                      clear hx0 hp
                      go_wp2_with fail
                      refine wp_region_later (by kernel_rfl) (by kernel_rfl) ?_; have hL : ∀ (w : World) (x : Later w) (b o : Nat), b < w.heap.size → x.to.cell? ⟨b, o, none⟩ = w.cell? ⟨b, o, none⟩ := fun w x b o hb => x.cell hb; have hN := Later.some; (repeat (go_big_quiet_step ((fail)))); refine wpQuiet_nil ?_; intro w33 hw33; have hb33 := Later.out hw33; clear hw33 hL hN
                      have HBN : Hid (Below w9.heap.size w9 w33) := HBW.out.trans (hb33.mono HBW.out.size)
                      have hwi : wrap64 ((i : Int) + 1) = ((i + 1 : Nat) : Int) := by have := HM3.out; unfold wrap64; omega
                      clear hxi hxj hw2 hw3 hjn hb33 hb3
                      go_wp2_with fail
                      go_round
                      case rel => exact ⟨i + 1, by omega, by go_num, HBN⟩
                      case measure =>
                        first
                        | (rw [hwi]; show n3 - ((i + 1 : Nat) : Int).toNat < n3 - ((i : Nat) : Int).toNat; rw [Int.toNat_natCast, Int.toNat_natCast]; omega)
                        | (show n3 - ((i : Int) + 1).toNat < n3 - ((i : Nat) : Int).toNat; omega)
                    · have hz0 : i = 0 := by omega
                      subst hz0
                      clear hz hii
                      go_wp2_with fail
                      refine wp_region_later (by kernel_rfl) (by kernel_rfl) ?_; have hL : ∀ (w : World) (x : Later w) (b o : Nat), b < w.heap.size → x.to.cell? ⟨b, o, none⟩ = w.cell? ⟨b, o, none⟩ := fun w x b o hb => x.cell hb; have hN := Later.some; (repeat (go_big_quiet_step ((fail)))); refine wpQuiet_nil ?_; intro w33 hw33; have hb33 := Later.out hw33; clear hw33 hL hN
                      have HBN : Hid (Below w9.heap.size w9 w33) := HBW.out.trans (hb33.mono HBW.out.size)
                      clear hxi hb33 hb3
                      go_wp2_with fail
                      go_round
                      case rel => exact ⟨1, by omega, by go_num, HBN⟩
                      case measure => show n3 - (1 : Int).toNat < n3 - (0 : Int).toNat; simp; omega
          · have hie : i = n3 := by omega
            subst hie
            clear hi1 hin
            go_wp2_with fail
            go_ret
            exact ⟨rfl, HW9.out.trans (HBW.out.mono HW9.out.size)⟩
end wheelParts
end Go.Proofs.Ytbegbecmnhldkaa
