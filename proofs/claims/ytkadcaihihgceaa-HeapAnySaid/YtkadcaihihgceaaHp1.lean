/- Heap.ahead: does one entry come before another one? No condition. -/
import Derived.Test.YtkadcaihihgceaaHp0
namespace Go.Proofs.Ytkadcaihihgceaa
open Go.RowKit
set_option linter.unusedSimpArgs false
set_option linter.unusedVariables false

/-- Are there elements at both places, and does the one come before the other? -/
def ahAt {α : Type} (lt : α → α → Bool) (l : List (α × Int)) (i k : Nat) : Bool := match l[i]?, l[k]? with | some a, some b => ahd lt a b | _, _ => false
theorem ahAt_some {α : Type} {lt : α → α → Bool} {l : List (α × Int)} {i k : Nat} (hi : i < l.length) (hk : k < l.length) : ahAt lt l i k = ahd lt l[i] l[k] := by
  unfold ahAt
  rw [List.getElem?_eq_getElem hi, List.getElem?_eq_getElem hk]
section
variable {w : World} {b h n c : Nat} {F : Value} {A : Option Addr} {m : Int} {l : List (Px × Int)}
theorem HpP.len (H : HpP w b h F (.slice A n c) m l) : n = l.length := by
  obtain ⟨A', c', hv, _⟩ := H.sl
  injection hv
theorem HpP.caps (H : HpP w b h F (.slice A n c) m l) : n ≤ c ∧ c ≤ 9223372036854775807 := by
  obtain ⟨A', c', hv, h1, h2, _⟩ := H.sl
  injection hv with e1 e2 e3
  subst e3
  exact ⟨by omega, h2⟩
theorem HpP.at (H : HpP w b h F (.slice A n c) m l) {i : Nat} (hi : i < l.length) : ∃ g, A = some ⟨g, 0, none⟩ ∧ g ≠ h ∧ g < w.heap.size ∧ w.rangeAt g (i * 3) (eP l[i]) := by
  obtain ⟨A', c', hv, h1, h2, h3⟩ := H.sl
  injection hv with e1 e2 e3
  subst e1
  obtain ⟨g, ha, hne, hr⟩ := h3 i hi
  exact ⟨g, ha, hne, range_lt hr (by simp), hr⟩
end
set_option maxHeartbeats 3200000 in
set_option maxRecDepth 100000 in
theorem aheadP_any (b h : Nat) (F : Value) (A : Option Addr) (n c : Nat) (m : Int) (l : List (Px × Int)) (lt : Px → Px → Bool) (i k : Nat) (w : World) (hO : Hid (IsOP F lt)) (hH : Hid (HpP w b h F (.slice A n c) m l)) :
    Calls Try.prog 43 #[.pointer (some ⟨h, 0, none⟩), .int .i64 i, .int .i64 k] w fun e w' => e = .returned (.bool (ahAt lt l i k)) ∧ Below w.heap.size w w' := by
  have hB : Hid (Bk w h 60 #[F, .slice A n c, .int .i64 m]) := hH.out.bk
  have hn : n = l.length := hH.out.len
  have HC := Lib.hid (fun (b : Bool) (hb : (decide (i < n) && decide (k < n)) = b) => (hb ▸ hasP_any i k n c h F A m w hB : Calls Try.prog 49 #[.pointer (some ⟨h, 0, none⟩), .int .i64 i, .int .i64 k] w fun e w' => e = .returned (.bool b) ∧ w' = w))
  by_cases hik : i < n ∧ k < n
  · obtain ⟨hi, hk⟩ := hik
    obtain ⟨g, hA, hgh, hglt, hx⟩ := hH.out.at (i := i) (by omega)
    obtain ⟨g', hA', _, _, hy⟩ := hH.out.at (i := k) (by omega)
    subst hA
    injection hA' with hA'
    injection hA' with hA'
    subst hA'
    obtain ⟨x, ex⟩ : ∃ x, x = l[i] := ⟨_, rfl⟩
    obtain ⟨y, ey⟩ : ∃ y, y = l[k] := ⟨_, rfl⟩
    have HR : ahAt lt l i k = ahd lt x y := by rw [ex, ey]; exact ahAt_some (by omega) (by omega)
    rw [HR]
    rw [← ex] at hx
    rw [← ey] at hy
    have HX := Lib.hid hx; have HY := Lib.hid hy
    have HBool := HC.out true (by simp [hi, hk])
    have KS := Lib.hid (fun (W : World) (u v : Px) (hb : Below w.heap.size w W) => isLessP_any h F _ m lt u v W hO (Lib.hid (hB.out.later hb)))
    have hcc : n ≤ c ∧ c ≤ 9223372036854775807 := hH.out.caps
    obtain ⟨hc1, hc2⟩ := hcc
    clear ex ey hx hy HR HC hn
    by_cases hs : x.2 < y.2
    · have HR : Hid (Ending.returned (.bool (!lt y.1 x.1)) = .returned (.bool (ahd lt x y))) := by show _ = _; unfold ahd; rw [if_pos hs]
      go_enter Try.func43, Try.ntmps43
      go_wp2_with fail
      refine HBool.mono ?_; rintro e w1 ⟨rfl, hw1⟩; rw [hw1]; clear hw1 w1
      clear HBool
      go_wp2_with fail
      obtain ⟨W5, hW5⟩ : ∃ W, W = ((w.alloc (.cells #[.int .i64 0, .int .i64 0, .int .i64 0] 62)).alloc (.cells #[.int .i64 0, .int .i64 0, .int .i64 0] 62)).drew := ⟨_, rfl⟩
      have HZ0 : Hid (Bk W5 w.heap.size 62 #[.int .i64 0, .int .i64 0, .int .i64 0]) := by rw [hW5]; exact ((Bk.fresh w _ _).later ((Below.refl _ _).alloc (Nat.le_refl _) _)).drewB
      have HZ1 : Hid (Bk W5 (w.heap.size + 1) 62 #[.int .i64 0, .int .i64 0, .int .i64 0]) := by rw [hW5]; exact (Bk.freshAt _ _ _ (by simp)).drewB
      have HB5 : Hid (Below w.heap.size w W5) := by rw [hW5]; exact Below.drew (((Below.refl _ _).alloc (Nat.le_refl _) _).alloc (by simp) _)
      have HW5 := Lib.hid hW5; clear hW5
      refine wp_region_held_drew (S := fun W => Below w.heap.size w W) (by kernel_rfl) (Below.drew (Below.refl _ _)) (fun hS0 => ?_)
      refine wpAnyH_take (i := 0) (v := ?_) rfl (by kernel_rfl) (by kernel_rfl) (by kernel_rfl) (fun _ _ _ h => h) (Or.inl ⟨by rfl, ?_⟩) hS0 ?_
      rotate_left
      · intro W _; go_simp; try with_reducible rfl
      try simp only [Act.put, List.getElem_toArray, List.getElem_cons_zero, List.setIfInBounds_toArray, List.set_cons_zero, List.set_cons_succ]
      refine wpAnyH_take (i := 1) (v := ?_) rfl (by kernel_rfl) (by kernel_rfl) (by kernel_rfl) (fun _ _ _ h => h) (Or.inl ⟨by rfl, ?_⟩) hS0 ?_
      rotate_left
      · intro W _; go_simp; try with_reducible rfl
      try simp only [Act.put, List.getElem_toArray, List.getElem_cons_zero, List.getElem_cons_succ, List.setIfInBounds_toArray, List.set_cons_zero, List.set_cons_succ]
      refine wpAnyH_take (i := 2) (v := ?_) rfl (by kernel_rfl) (by kernel_rfl) (by kernel_rfl) (fun _ _ _ h => h) (Or.inl ⟨by rfl, ?_⟩) hS0 ?_
      rotate_left
      · intro W _; go_simp; try with_reducible rfl
      try simp only [Act.put, List.getElem_toArray, List.getElem_cons_zero, List.getElem_cons_succ, List.setIfInBounds_toArray, List.set_cons_zero, List.set_cons_succ]
      refine wpAnyH_take (i := 3) (v := ?_) rfl (by kernel_rfl) (by kernel_rfl) (by kernel_rfl) (fun _ _ _ h => h) (Or.inl ⟨by rfl, ?_⟩) hS0 ?_
      rotate_left
      · intro W hSW; have hx := (hB.out.later hSW).cellAt 1; try simp only [List.getElem?_toArray, List.getElem?_cons_succ, List.getElem?_cons_zero] at hx; go_simp; try with_reducible rfl
      try simp only [Act.put, List.getElem_toArray, List.getElem_cons_zero, List.getElem_cons_succ, List.setIfInBounds_toArray, List.set_cons_zero, List.set_cons_succ]
      refine wpAnyH_take (i := 4) (v := ?_) rfl (by kernel_rfl) (by kernel_rfl) (by kernel_rfl) (fun _ _ _ h => h) (Or.inl ⟨by rfl, ?_⟩) hS0 ?_
      rotate_left
      · intro W _; go_simp; try with_reducible rfl
      try simp only [Act.put, List.getElem_toArray, List.getElem_cons_zero, List.getElem_cons_succ, List.setIfInBounds_toArray, List.set_cons_zero, List.set_cons_succ]
      refine wpAnyH_take (i := 5) (v := ?_) rfl (by kernel_rfl) (by kernel_rfl) (by kernel_rfl) (fun _ _ _ h => h) (Or.inl ⟨by rfl, ?_⟩) hS0 ?_
      rotate_left
      · intro W _; go_simp; try with_reducible rfl
      try simp only [Act.put, List.getElem_toArray, List.getElem_cons_zero, List.getElem_cons_succ, List.setIfInBounds_toArray, List.set_cons_zero, List.set_cons_succ]
      refine wpAnyH_take (i := 6) (v := .agg #[.int .i64 x.1.1, .int .i64 x.1.2, .int .i64 x.2]) rfl (by kernel_rfl) (by kernel_rfl) (by kernel_rfl) (fun _ _ _ h => h) (yields_rg (by rfl) 62 _ rfl g (i * 3) rfl #[.int .i64 x.1.1, .int .i64 x.1.2, .int .i64 x.2] _ (fun W hW => range_keep HX.out hW) Try.underlying62 rfl (by kernel_rfl)) hS0 ?_
      try simp only [Act.put, List.getElem_toArray, List.getElem_cons_zero, List.getElem_cons_succ, List.setIfInBounds_toArray, List.set_cons_zero, List.set_cons_succ]
      refine wpAnyH_take (i := 7) (v := ?_) rfl (by kernel_rfl) (by kernel_rfl) (by kernel_rfl) (fun _ _ _ h => h) (Or.inl ⟨by rfl, ?_⟩) hS0 ?_
      rotate_left
      · intro W _; go_simp; try with_reducible rfl
      try simp only [Act.put, List.getElem_toArray, List.getElem_cons_zero, List.getElem_cons_succ, List.setIfInBounds_toArray, List.set_cons_zero, List.set_cons_succ]
      refine wpAnyH_take (i := 8) (v := ?_) rfl (by kernel_rfl) (by kernel_rfl) (by kernel_rfl) (fun _ _ _ h => h) (Or.inl ⟨by rfl, ?_⟩) hS0 ?_
      rotate_left
      · intro W _; go_simp; try with_reducible rfl
      try simp only [Act.put, List.getElem_toArray, List.getElem_cons_zero, List.getElem_cons_succ, List.setIfInBounds_toArray, List.set_cons_zero, List.set_cons_succ]
      refine wpAnyH_take (i := 9) (v := ?_) rfl (by kernel_rfl) (by kernel_rfl) (by kernel_rfl) (fun _ _ _ h => h) (Or.inl ⟨by rfl, ?_⟩) hS0 ?_
      rotate_left
      · intro W _; go_simp; try with_reducible rfl
      try simp only [Act.put, List.getElem_toArray, List.getElem_cons_zero, List.getElem_cons_succ, List.setIfInBounds_toArray, List.set_cons_zero, List.set_cons_succ]
      refine wpAnyH_take (i := 10) (v := ?_) rfl (by kernel_rfl) (by kernel_rfl) (by kernel_rfl) (fun _ _ _ h => h) (Or.inl ⟨by rfl, ?_⟩) hS0 ?_
      rotate_left
      · intro W hSW; have hx := (hB.out.later hSW).cellAt 1; try simp only [List.getElem?_toArray, List.getElem?_cons_succ, List.getElem?_cons_zero] at hx; go_simp; try with_reducible rfl
      try simp only [Act.put, List.getElem_toArray, List.getElem_cons_zero, List.getElem_cons_succ, List.setIfInBounds_toArray, List.set_cons_zero, List.set_cons_succ]
      refine wpAnyH_take (i := 11) (v := ?_) rfl (by kernel_rfl) (by kernel_rfl) (by kernel_rfl) (fun _ _ _ h => h) (Or.inl ⟨by rfl, ?_⟩) hS0 ?_
      rotate_left
      · intro W _; go_simp; try with_reducible rfl
      try simp only [Act.put, List.getElem_toArray, List.getElem_cons_zero, List.getElem_cons_succ, List.setIfInBounds_toArray, List.set_cons_zero, List.set_cons_succ]
      refine wpAnyH_take (i := 12) (v := ?_) rfl (by kernel_rfl) (by kernel_rfl) (by kernel_rfl) (fun _ _ _ h => h) (Or.inl ⟨by rfl, ?_⟩) hS0 ?_
      rotate_left
      · intro W _; go_simp; try with_reducible rfl
      try simp only [Act.put, List.getElem_toArray, List.getElem_cons_zero, List.getElem_cons_succ, List.setIfInBounds_toArray, List.set_cons_zero, List.set_cons_succ]
      refine wpAnyH_take (i := 13) (v := .agg #[.int .i64 y.1.1, .int .i64 y.1.2, .int .i64 y.2]) rfl (by kernel_rfl) (by kernel_rfl) (by kernel_rfl) (fun _ _ _ h => h) (yields_rg (by rfl) 62 _ rfl g (k * 3) rfl #[.int .i64 y.1.1, .int .i64 y.1.2, .int .i64 y.2] _ (fun W hW => range_keep HY.out hW) Try.underlying62 rfl (by kernel_rfl)) hS0 ?_
      try simp only [Act.put, List.getElem_toArray, List.getElem_cons_zero, List.getElem_cons_succ, List.setIfInBounds_toArray, List.set_cons_zero, List.set_cons_succ]
      refine wpAnyH_ready (rs := [14, 15]) (by kernel_rfl) (by simp) ?_
      refine (AllReadyH.cons rfl (fun K hK => ?_) (AllReadyH.cons rfl (fun K hK => ?_) AllReadyH.nil))
      · go_simp
        refine hK.out _ _ (Below.drew ((Below.refl _ _).alloc (Nat.le_refl _) _)) (fun hS1 => ?_)
        clear hK K
        try simp only [Act.put, List.getElem_toArray, List.getElem_cons_zero, List.getElem_cons_succ, List.setIfInBounds_toArray, List.set_cons_zero, List.set_cons_succ]
        refine wpAnyH_ready (rs := [15]) (by kernel_rfl) (by simp) ?_
        refine AllReadyH.cons rfl (fun K hK => ?_) AllReadyH.nil
        go_simp
        rw [← HW5.out]
        refine hK.out _ _ (HB5.out) (fun hS2 => ?_)
        clear hK K
        try simp only [Act.put, List.getElem_toArray, List.getElem_cons_zero, List.getElem_cons_succ, List.setIfInBounds_toArray, List.set_cons_zero, List.set_cons_succ]
        refine wpAnyH_ready (rs := [16]) (by kernel_rfl) (by simp) ?_
        refine AllReadyH.cons rfl (fun K hK => ?_) AllReadyH.nil
        rw [if_pos (by rfl)]
        refine store_bk_op 62 (.tmp 7) (.tmp 20) rfl w.heap.size 0 #[.int .i64 x.1.1, .int .i64 x.1.2, .int .i64 x.2] rfl rfl 62 #[.int .i64 0, .int .i64 0, .int .i64 0] #[.int .i64 x.1.1, .int .i64 x.1.2, .int .i64 x.2] HZ0.out (by kernel_rfl) (by simp) (by kernel_rfl) rfl ?_
        intro w6 hB6 hg6 hs6
        have HA6 := Lib.hid hB6; have HZ6 := Lib.hid (HZ1.out.stays hg6 (by simp))
        have hb6 : Below w.heap.size w w6 := HB5.out.grown hg6 HB5.out.size (fun q e => by injection e with e; omega)
        clear hB6 hg6 hs6
        refine hK.out _ _ (hb6) (fun hS3 => ?_)
        clear hK K
        try simp only [Act.put, List.getElem_toArray, List.getElem_cons_zero, List.getElem_cons_succ, List.setIfInBounds_toArray, List.set_cons_zero, List.set_cons_succ]
        refine wpAnyH_ready (rs := [17]) (by kernel_rfl) (by simp) ?_
        refine AllReadyH.cons rfl (fun K hK => ?_) AllReadyH.nil
        rw [if_pos (by rfl)]
        refine store_bk_op 62 (.tmp 8) (.tmp 27) rfl (w.heap.size + 1) 0 #[.int .i64 y.1.1, .int .i64 y.1.2, .int .i64 y.2] rfl rfl 62 #[.int .i64 0, .int .i64 0, .int .i64 0] #[.int .i64 y.1.1, .int .i64 y.1.2, .int .i64 y.2] HZ6.out (by kernel_rfl) (by simp) (by kernel_rfl) rfl ?_
        intro w7 hB7 hg7 hs7
        have HY7 := Lib.hid hB7; have HX7 := Lib.hid (HA6.out.stays hg7 (by simp))
        have hb7 : Below w.heap.size w w7 := hb6.grown hg7 hb6.size (fun q e => by injection e with e; omega)
        clear hB7 hg7 hs7 HA6 HZ6
        refine hK.out _ _ (hb7) (fun hS4 => ?_)
        clear hK K
        try simp only [Act.put, List.getElem_toArray, List.getElem_cons_zero, List.getElem_cons_succ, List.setIfInBounds_toArray, List.set_cons_zero, List.set_cons_succ]
        refine wpAnyH_done (by kernel_rfl) ?_ _
        clear hS0 HZ0 HZ1 HB5 HW5
        have c1 : w7.cell? ⟨w.heap.size, 2, none⟩ = some (.int .i64 x.2) := HX7.out.cellAt 2
        have c2 : w7.cell? ⟨(w.heap.size + 1), 2, none⟩ = some (.int .i64 y.2) := HY7.out.cellAt 2
        go_wp2_with (first | (with_reducible refine load_bk rfl 27 _ rfl w.heap.size 0 rfl 62 #[.int .i64 x.1.1, .int .i64 x.1.2, .int .i64 x.2] #[.int .i64 x.1.1, .int .i64 x.1.2] _ HX7.out (Part.of rfl) Try.underlying27 rfl (by kernel_rfl) ?_) | (with_reducible refine load_bk rfl 27 _ rfl (w.heap.size + 1) 0 rfl 62 #[.int .i64 y.1.1, .int .i64 y.1.2, .int .i64 y.2] #[.int .i64 y.1.1, .int .i64 y.1.2] _ HY7.out (Part.of rfl) Try.underlying27 rfl (by kernel_rfl) ?_))
        refine (KS.out w7 _ _ hb7).mono ?_; rintro e w8 ⟨rfl, hb8⟩
        go_wp2_with fail
        go_ret
        exact ⟨HR.out, hb7.trans (hb8.mono hb7.size)⟩
      · go_simp
        refine hK.out _ _ (Below.drew ((Below.refl _ _).alloc (Nat.le_refl _) _)) (fun hS1 => ?_)
        clear hK K
        try simp only [Act.put, List.getElem_toArray, List.getElem_cons_zero, List.getElem_cons_succ, List.setIfInBounds_toArray, List.set_cons_zero, List.set_cons_succ]
        refine wpAnyH_ready (rs := [14]) (by kernel_rfl) (by simp) ?_
        refine AllReadyH.cons rfl (fun K hK => ?_) AllReadyH.nil
        go_simp
        rw [← HW5.out]
        refine hK.out _ _ (HB5.out) (fun hS2 => ?_)
        clear hK K
        try simp only [Act.put, List.getElem_toArray, List.getElem_cons_zero, List.getElem_cons_succ, List.setIfInBounds_toArray, List.set_cons_zero, List.set_cons_succ]
        refine wpAnyH_ready (rs := [16]) (by kernel_rfl) (by simp) ?_
        refine AllReadyH.cons rfl (fun K hK => ?_) AllReadyH.nil
        rw [if_pos (by rfl)]
        refine store_bk_op 62 (.tmp 7) (.tmp 20) rfl (w.heap.size + 1) 0 #[.int .i64 x.1.1, .int .i64 x.1.2, .int .i64 x.2] rfl rfl 62 #[.int .i64 0, .int .i64 0, .int .i64 0] #[.int .i64 x.1.1, .int .i64 x.1.2, .int .i64 x.2] HZ1.out (by kernel_rfl) (by simp) (by kernel_rfl) rfl ?_
        intro w6 hB6 hg6 hs6
        have HA6 := Lib.hid hB6; have HZ6 := Lib.hid (HZ0.out.stays hg6 (by simp))
        have hb6 : Below w.heap.size w w6 := HB5.out.grown hg6 HB5.out.size (fun q e => by injection e with e; omega)
        clear hB6 hg6 hs6
        refine hK.out _ _ (hb6) (fun hS3 => ?_)
        clear hK K
        try simp only [Act.put, List.getElem_toArray, List.getElem_cons_zero, List.getElem_cons_succ, List.setIfInBounds_toArray, List.set_cons_zero, List.set_cons_succ]
        refine wpAnyH_ready (rs := [17]) (by kernel_rfl) (by simp) ?_
        refine AllReadyH.cons rfl (fun K hK => ?_) AllReadyH.nil
        rw [if_pos (by rfl)]
        refine store_bk_op 62 (.tmp 8) (.tmp 27) rfl w.heap.size 0 #[.int .i64 y.1.1, .int .i64 y.1.2, .int .i64 y.2] rfl rfl 62 #[.int .i64 0, .int .i64 0, .int .i64 0] #[.int .i64 y.1.1, .int .i64 y.1.2, .int .i64 y.2] HZ6.out (by kernel_rfl) (by simp) (by kernel_rfl) rfl ?_
        intro w7 hB7 hg7 hs7
        have HY7 := Lib.hid hB7; have HX7 := Lib.hid (HA6.out.stays hg7 (by simp))
        have hb7 : Below w.heap.size w w7 := hb6.grown hg7 hb6.size (fun q e => by injection e with e; omega)
        clear hB7 hg7 hs7 HA6 HZ6
        refine hK.out _ _ (hb7) (fun hS4 => ?_)
        clear hK K
        try simp only [Act.put, List.getElem_toArray, List.getElem_cons_zero, List.getElem_cons_succ, List.setIfInBounds_toArray, List.set_cons_zero, List.set_cons_succ]
        refine wpAnyH_done (by kernel_rfl) ?_ _
        clear hS0 HZ0 HZ1 HB5 HW5
        have c1 : w7.cell? ⟨(w.heap.size + 1), 2, none⟩ = some (.int .i64 x.2) := HX7.out.cellAt 2
        have c2 : w7.cell? ⟨w.heap.size, 2, none⟩ = some (.int .i64 y.2) := HY7.out.cellAt 2
        go_wp2_with (first | (with_reducible refine load_bk rfl 27 _ rfl (w.heap.size + 1) 0 rfl 62 #[.int .i64 x.1.1, .int .i64 x.1.2, .int .i64 x.2] #[.int .i64 x.1.1, .int .i64 x.1.2] _ HX7.out (Part.of rfl) Try.underlying27 rfl (by kernel_rfl) ?_) | (with_reducible refine load_bk rfl 27 _ rfl w.heap.size 0 rfl 62 #[.int .i64 y.1.1, .int .i64 y.1.2, .int .i64 y.2] #[.int .i64 y.1.1, .int .i64 y.1.2] _ HY7.out (Part.of rfl) Try.underlying27 rfl (by kernel_rfl) ?_))
        refine (KS.out w7 _ _ hb7).mono ?_; rintro e w8 ⟨rfl, hb8⟩
        go_wp2_with fail
        go_ret
        exact ⟨HR.out, hb7.trans (hb8.mono hb7.size)⟩
    · have HR : Hid (Ending.returned (.bool (lt x.1 y.1)) = .returned (.bool (ahd lt x y))) := by show _ = _; unfold ahd; rw [if_neg hs]
      go_enter Try.func43, Try.ntmps43
      go_wp2_with fail
      refine HBool.mono ?_; rintro e w1 ⟨rfl, hw1⟩; rw [hw1]; clear hw1 w1
      clear HBool
      go_wp2_with fail
      obtain ⟨W5, hW5⟩ : ∃ W, W = ((w.alloc (.cells #[.int .i64 0, .int .i64 0, .int .i64 0] 62)).alloc (.cells #[.int .i64 0, .int .i64 0, .int .i64 0] 62)).drew := ⟨_, rfl⟩
      have HZ0 : Hid (Bk W5 w.heap.size 62 #[.int .i64 0, .int .i64 0, .int .i64 0]) := by rw [hW5]; exact ((Bk.fresh w _ _).later ((Below.refl _ _).alloc (Nat.le_refl _) _)).drewB
      have HZ1 : Hid (Bk W5 (w.heap.size + 1) 62 #[.int .i64 0, .int .i64 0, .int .i64 0]) := by rw [hW5]; exact (Bk.freshAt _ _ _ (by simp)).drewB
      have HB5 : Hid (Below w.heap.size w W5) := by rw [hW5]; exact Below.drew (((Below.refl _ _).alloc (Nat.le_refl _) _).alloc (by simp) _)
      have HW5 := Lib.hid hW5; clear hW5
      refine wp_region_held_drew (S := fun W => Below w.heap.size w W) (by kernel_rfl) (Below.drew (Below.refl _ _)) (fun hS0 => ?_)
      refine wpAnyH_take (i := 0) (v := ?_) rfl (by kernel_rfl) (by kernel_rfl) (by kernel_rfl) (fun _ _ _ h => h) (Or.inl ⟨by rfl, ?_⟩) hS0 ?_
      rotate_left
      · intro W _; go_simp; try with_reducible rfl
      try simp only [Act.put, List.getElem_toArray, List.getElem_cons_zero, List.setIfInBounds_toArray, List.set_cons_zero, List.set_cons_succ]
      refine wpAnyH_take (i := 1) (v := ?_) rfl (by kernel_rfl) (by kernel_rfl) (by kernel_rfl) (fun _ _ _ h => h) (Or.inl ⟨by rfl, ?_⟩) hS0 ?_
      rotate_left
      · intro W _; go_simp; try with_reducible rfl
      try simp only [Act.put, List.getElem_toArray, List.getElem_cons_zero, List.getElem_cons_succ, List.setIfInBounds_toArray, List.set_cons_zero, List.set_cons_succ]
      refine wpAnyH_take (i := 2) (v := ?_) rfl (by kernel_rfl) (by kernel_rfl) (by kernel_rfl) (fun _ _ _ h => h) (Or.inl ⟨by rfl, ?_⟩) hS0 ?_
      rotate_left
      · intro W _; go_simp; try with_reducible rfl
      try simp only [Act.put, List.getElem_toArray, List.getElem_cons_zero, List.getElem_cons_succ, List.setIfInBounds_toArray, List.set_cons_zero, List.set_cons_succ]
      refine wpAnyH_take (i := 3) (v := ?_) rfl (by kernel_rfl) (by kernel_rfl) (by kernel_rfl) (fun _ _ _ h => h) (Or.inl ⟨by rfl, ?_⟩) hS0 ?_
      rotate_left
      · intro W hSW; have hx := (hB.out.later hSW).cellAt 1; try simp only [List.getElem?_toArray, List.getElem?_cons_succ, List.getElem?_cons_zero] at hx; go_simp; try with_reducible rfl
      try simp only [Act.put, List.getElem_toArray, List.getElem_cons_zero, List.getElem_cons_succ, List.setIfInBounds_toArray, List.set_cons_zero, List.set_cons_succ]
      refine wpAnyH_take (i := 4) (v := ?_) rfl (by kernel_rfl) (by kernel_rfl) (by kernel_rfl) (fun _ _ _ h => h) (Or.inl ⟨by rfl, ?_⟩) hS0 ?_
      rotate_left
      · intro W _; go_simp; try with_reducible rfl
      try simp only [Act.put, List.getElem_toArray, List.getElem_cons_zero, List.getElem_cons_succ, List.setIfInBounds_toArray, List.set_cons_zero, List.set_cons_succ]
      refine wpAnyH_take (i := 5) (v := ?_) rfl (by kernel_rfl) (by kernel_rfl) (by kernel_rfl) (fun _ _ _ h => h) (Or.inl ⟨by rfl, ?_⟩) hS0 ?_
      rotate_left
      · intro W _; go_simp; try with_reducible rfl
      try simp only [Act.put, List.getElem_toArray, List.getElem_cons_zero, List.getElem_cons_succ, List.setIfInBounds_toArray, List.set_cons_zero, List.set_cons_succ]
      refine wpAnyH_take (i := 6) (v := .agg #[.int .i64 x.1.1, .int .i64 x.1.2, .int .i64 x.2]) rfl (by kernel_rfl) (by kernel_rfl) (by kernel_rfl) (fun _ _ _ h => h) (yields_rg (by rfl) 62 _ rfl g (i * 3) rfl #[.int .i64 x.1.1, .int .i64 x.1.2, .int .i64 x.2] _ (fun W hW => range_keep HX.out hW) Try.underlying62 rfl (by kernel_rfl)) hS0 ?_
      try simp only [Act.put, List.getElem_toArray, List.getElem_cons_zero, List.getElem_cons_succ, List.setIfInBounds_toArray, List.set_cons_zero, List.set_cons_succ]
      refine wpAnyH_take (i := 7) (v := ?_) rfl (by kernel_rfl) (by kernel_rfl) (by kernel_rfl) (fun _ _ _ h => h) (Or.inl ⟨by rfl, ?_⟩) hS0 ?_
      rotate_left
      · intro W _; go_simp; try with_reducible rfl
      try simp only [Act.put, List.getElem_toArray, List.getElem_cons_zero, List.getElem_cons_succ, List.setIfInBounds_toArray, List.set_cons_zero, List.set_cons_succ]
      refine wpAnyH_take (i := 8) (v := ?_) rfl (by kernel_rfl) (by kernel_rfl) (by kernel_rfl) (fun _ _ _ h => h) (Or.inl ⟨by rfl, ?_⟩) hS0 ?_
      rotate_left
      · intro W _; go_simp; try with_reducible rfl
      try simp only [Act.put, List.getElem_toArray, List.getElem_cons_zero, List.getElem_cons_succ, List.setIfInBounds_toArray, List.set_cons_zero, List.set_cons_succ]
      refine wpAnyH_take (i := 9) (v := ?_) rfl (by kernel_rfl) (by kernel_rfl) (by kernel_rfl) (fun _ _ _ h => h) (Or.inl ⟨by rfl, ?_⟩) hS0 ?_
      rotate_left
      · intro W _; go_simp; try with_reducible rfl
      try simp only [Act.put, List.getElem_toArray, List.getElem_cons_zero, List.getElem_cons_succ, List.setIfInBounds_toArray, List.set_cons_zero, List.set_cons_succ]
      refine wpAnyH_take (i := 10) (v := ?_) rfl (by kernel_rfl) (by kernel_rfl) (by kernel_rfl) (fun _ _ _ h => h) (Or.inl ⟨by rfl, ?_⟩) hS0 ?_
      rotate_left
      · intro W hSW; have hx := (hB.out.later hSW).cellAt 1; try simp only [List.getElem?_toArray, List.getElem?_cons_succ, List.getElem?_cons_zero] at hx; go_simp; try with_reducible rfl
      try simp only [Act.put, List.getElem_toArray, List.getElem_cons_zero, List.getElem_cons_succ, List.setIfInBounds_toArray, List.set_cons_zero, List.set_cons_succ]
      refine wpAnyH_take (i := 11) (v := ?_) rfl (by kernel_rfl) (by kernel_rfl) (by kernel_rfl) (fun _ _ _ h => h) (Or.inl ⟨by rfl, ?_⟩) hS0 ?_
      rotate_left
      · intro W _; go_simp; try with_reducible rfl
      try simp only [Act.put, List.getElem_toArray, List.getElem_cons_zero, List.getElem_cons_succ, List.setIfInBounds_toArray, List.set_cons_zero, List.set_cons_succ]
      refine wpAnyH_take (i := 12) (v := ?_) rfl (by kernel_rfl) (by kernel_rfl) (by kernel_rfl) (fun _ _ _ h => h) (Or.inl ⟨by rfl, ?_⟩) hS0 ?_
      rotate_left
      · intro W _; go_simp; try with_reducible rfl
      try simp only [Act.put, List.getElem_toArray, List.getElem_cons_zero, List.getElem_cons_succ, List.setIfInBounds_toArray, List.set_cons_zero, List.set_cons_succ]
      refine wpAnyH_take (i := 13) (v := .agg #[.int .i64 y.1.1, .int .i64 y.1.2, .int .i64 y.2]) rfl (by kernel_rfl) (by kernel_rfl) (by kernel_rfl) (fun _ _ _ h => h) (yields_rg (by rfl) 62 _ rfl g (k * 3) rfl #[.int .i64 y.1.1, .int .i64 y.1.2, .int .i64 y.2] _ (fun W hW => range_keep HY.out hW) Try.underlying62 rfl (by kernel_rfl)) hS0 ?_
      try simp only [Act.put, List.getElem_toArray, List.getElem_cons_zero, List.getElem_cons_succ, List.setIfInBounds_toArray, List.set_cons_zero, List.set_cons_succ]
      refine wpAnyH_ready (rs := [14, 15]) (by kernel_rfl) (by simp) ?_
      refine (AllReadyH.cons rfl (fun K hK => ?_) (AllReadyH.cons rfl (fun K hK => ?_) AllReadyH.nil))
      · go_simp
        refine hK.out _ _ (Below.drew ((Below.refl _ _).alloc (Nat.le_refl _) _)) (fun hS1 => ?_)
        clear hK K
        try simp only [Act.put, List.getElem_toArray, List.getElem_cons_zero, List.getElem_cons_succ, List.setIfInBounds_toArray, List.set_cons_zero, List.set_cons_succ]
        refine wpAnyH_ready (rs := [15]) (by kernel_rfl) (by simp) ?_
        refine AllReadyH.cons rfl (fun K hK => ?_) AllReadyH.nil
        go_simp
        rw [← HW5.out]
        refine hK.out _ _ (HB5.out) (fun hS2 => ?_)
        clear hK K
        try simp only [Act.put, List.getElem_toArray, List.getElem_cons_zero, List.getElem_cons_succ, List.setIfInBounds_toArray, List.set_cons_zero, List.set_cons_succ]
        refine wpAnyH_ready (rs := [16]) (by kernel_rfl) (by simp) ?_
        refine AllReadyH.cons rfl (fun K hK => ?_) AllReadyH.nil
        rw [if_pos (by rfl)]
        refine store_bk_op 62 (.tmp 7) (.tmp 20) rfl w.heap.size 0 #[.int .i64 x.1.1, .int .i64 x.1.2, .int .i64 x.2] rfl rfl 62 #[.int .i64 0, .int .i64 0, .int .i64 0] #[.int .i64 x.1.1, .int .i64 x.1.2, .int .i64 x.2] HZ0.out (by kernel_rfl) (by simp) (by kernel_rfl) rfl ?_
        intro w6 hB6 hg6 hs6
        have HA6 := Lib.hid hB6; have HZ6 := Lib.hid (HZ1.out.stays hg6 (by simp))
        have hb6 : Below w.heap.size w w6 := HB5.out.grown hg6 HB5.out.size (fun q e => by injection e with e; omega)
        clear hB6 hg6 hs6
        refine hK.out _ _ (hb6) (fun hS3 => ?_)
        clear hK K
        try simp only [Act.put, List.getElem_toArray, List.getElem_cons_zero, List.getElem_cons_succ, List.setIfInBounds_toArray, List.set_cons_zero, List.set_cons_succ]
        refine wpAnyH_ready (rs := [17]) (by kernel_rfl) (by simp) ?_
        refine AllReadyH.cons rfl (fun K hK => ?_) AllReadyH.nil
        rw [if_pos (by rfl)]
        refine store_bk_op 62 (.tmp 8) (.tmp 27) rfl (w.heap.size + 1) 0 #[.int .i64 y.1.1, .int .i64 y.1.2, .int .i64 y.2] rfl rfl 62 #[.int .i64 0, .int .i64 0, .int .i64 0] #[.int .i64 y.1.1, .int .i64 y.1.2, .int .i64 y.2] HZ6.out (by kernel_rfl) (by simp) (by kernel_rfl) rfl ?_
        intro w7 hB7 hg7 hs7
        have HY7 := Lib.hid hB7; have HX7 := Lib.hid (HA6.out.stays hg7 (by simp))
        have hb7 : Below w.heap.size w w7 := hb6.grown hg7 hb6.size (fun q e => by injection e with e; omega)
        clear hB7 hg7 hs7 HA6 HZ6
        refine hK.out _ _ (hb7) (fun hS4 => ?_)
        clear hK K
        try simp only [Act.put, List.getElem_toArray, List.getElem_cons_zero, List.getElem_cons_succ, List.setIfInBounds_toArray, List.set_cons_zero, List.set_cons_succ]
        refine wpAnyH_done (by kernel_rfl) ?_ _
        clear hS0 HZ0 HZ1 HB5 HW5
        have c1 : w7.cell? ⟨w.heap.size, 2, none⟩ = some (.int .i64 x.2) := HX7.out.cellAt 2
        have c2 : w7.cell? ⟨(w.heap.size + 1), 2, none⟩ = some (.int .i64 y.2) := HY7.out.cellAt 2
        go_wp2_with (first | (with_reducible refine load_bk rfl 27 _ rfl w.heap.size 0 rfl 62 #[.int .i64 x.1.1, .int .i64 x.1.2, .int .i64 x.2] #[.int .i64 x.1.1, .int .i64 x.1.2] _ HX7.out (Part.of rfl) Try.underlying27 rfl (by kernel_rfl) ?_) | (with_reducible refine load_bk rfl 27 _ rfl (w.heap.size + 1) 0 rfl 62 #[.int .i64 y.1.1, .int .i64 y.1.2, .int .i64 y.2] #[.int .i64 y.1.1, .int .i64 y.1.2] _ HY7.out (Part.of rfl) Try.underlying27 rfl (by kernel_rfl) ?_))
        refine (KS.out w7 _ _ hb7).mono ?_; rintro e w8 ⟨rfl, hb8⟩
        go_wp2_with fail
        go_ret
        exact ⟨HR.out, hb7.trans (hb8.mono hb7.size)⟩
      · go_simp
        refine hK.out _ _ (Below.drew ((Below.refl _ _).alloc (Nat.le_refl _) _)) (fun hS1 => ?_)
        clear hK K
        try simp only [Act.put, List.getElem_toArray, List.getElem_cons_zero, List.getElem_cons_succ, List.setIfInBounds_toArray, List.set_cons_zero, List.set_cons_succ]
        refine wpAnyH_ready (rs := [14]) (by kernel_rfl) (by simp) ?_
        refine AllReadyH.cons rfl (fun K hK => ?_) AllReadyH.nil
        go_simp
        rw [← HW5.out]
        refine hK.out _ _ (HB5.out) (fun hS2 => ?_)
        clear hK K
        try simp only [Act.put, List.getElem_toArray, List.getElem_cons_zero, List.getElem_cons_succ, List.setIfInBounds_toArray, List.set_cons_zero, List.set_cons_succ]
        refine wpAnyH_ready (rs := [16]) (by kernel_rfl) (by simp) ?_
        refine AllReadyH.cons rfl (fun K hK => ?_) AllReadyH.nil
        rw [if_pos (by rfl)]
        refine store_bk_op 62 (.tmp 7) (.tmp 20) rfl (w.heap.size + 1) 0 #[.int .i64 x.1.1, .int .i64 x.1.2, .int .i64 x.2] rfl rfl 62 #[.int .i64 0, .int .i64 0, .int .i64 0] #[.int .i64 x.1.1, .int .i64 x.1.2, .int .i64 x.2] HZ1.out (by kernel_rfl) (by simp) (by kernel_rfl) rfl ?_
        intro w6 hB6 hg6 hs6
        have HA6 := Lib.hid hB6; have HZ6 := Lib.hid (HZ0.out.stays hg6 (by simp))
        have hb6 : Below w.heap.size w w6 := HB5.out.grown hg6 HB5.out.size (fun q e => by injection e with e; omega)
        clear hB6 hg6 hs6
        refine hK.out _ _ (hb6) (fun hS3 => ?_)
        clear hK K
        try simp only [Act.put, List.getElem_toArray, List.getElem_cons_zero, List.getElem_cons_succ, List.setIfInBounds_toArray, List.set_cons_zero, List.set_cons_succ]
        refine wpAnyH_ready (rs := [17]) (by kernel_rfl) (by simp) ?_
        refine AllReadyH.cons rfl (fun K hK => ?_) AllReadyH.nil
        rw [if_pos (by rfl)]
        refine store_bk_op 62 (.tmp 8) (.tmp 27) rfl w.heap.size 0 #[.int .i64 y.1.1, .int .i64 y.1.2, .int .i64 y.2] rfl rfl 62 #[.int .i64 0, .int .i64 0, .int .i64 0] #[.int .i64 y.1.1, .int .i64 y.1.2, .int .i64 y.2] HZ6.out (by kernel_rfl) (by simp) (by kernel_rfl) rfl ?_
        intro w7 hB7 hg7 hs7
        have HY7 := Lib.hid hB7; have HX7 := Lib.hid (HA6.out.stays hg7 (by simp))
        have hb7 : Below w.heap.size w w7 := hb6.grown hg7 hb6.size (fun q e => by injection e with e; omega)
        clear hB7 hg7 hs7 HA6 HZ6
        refine hK.out _ _ (hb7) (fun hS4 => ?_)
        clear hK K
        try simp only [Act.put, List.getElem_toArray, List.getElem_cons_zero, List.getElem_cons_succ, List.setIfInBounds_toArray, List.set_cons_zero, List.set_cons_succ]
        refine wpAnyH_done (by kernel_rfl) ?_ _
        clear hS0 HZ0 HZ1 HB5 HW5
        have c1 : w7.cell? ⟨(w.heap.size + 1), 2, none⟩ = some (.int .i64 x.2) := HX7.out.cellAt 2
        have c2 : w7.cell? ⟨w.heap.size, 2, none⟩ = some (.int .i64 y.2) := HY7.out.cellAt 2
        go_wp2_with (first | (with_reducible refine load_bk rfl 27 _ rfl (w.heap.size + 1) 0 rfl 62 #[.int .i64 x.1.1, .int .i64 x.1.2, .int .i64 x.2] #[.int .i64 x.1.1, .int .i64 x.1.2] _ HX7.out (Part.of rfl) Try.underlying27 rfl (by kernel_rfl) ?_) | (with_reducible refine load_bk rfl 27 _ rfl w.heap.size 0 rfl 62 #[.int .i64 y.1.1, .int .i64 y.1.2, .int .i64 y.2] #[.int .i64 y.1.1, .int .i64 y.1.2] _ HY7.out (Part.of rfl) Try.underlying27 rfl (by kernel_rfl) ?_))
        refine (KS.out w7 _ _ hb7).mono ?_; rintro e w8 ⟨rfl, hb8⟩
        go_wp2_with fail
        go_ret
        exact ⟨HR.out, hb7.trans (hb8.mono hb7.size)⟩
  · have HR : ahAt lt l i k = false := by
      unfold ahAt
      by_cases h1 : i < n
      · have h2 : l[k]? = none := List.getElem?_eq_none (by omega)
        rw [h2]; cases l[i]? <;> rfl
      · have h2 : l[i]? = none := List.getElem?_eq_none (by omega)
        rw [h2]
    rw [HR]
    have HBool := HC.out false (by rw [← Bool.decide_and]; exact decide_eq_false hik)
    clear HC hn
    go_enter Try.func43, Try.ntmps43
    go_wp2_with fail
    refine HBool.mono ?_; rintro e w1 ⟨rfl, hw1⟩; rw [hw1]; clear hw1 w1
    go_wp2_with fail
    go_ret
    exact ⟨rfl, Below.refl _ _⟩

section
variable {w : World} {b h n c : Nat} {F : Value} {A : Option Addr} {m : Int} {l : List (ByteArray × Int)}
theorem HpS.len (H : HpS w b h F (.slice A n c) m l) : n = l.length := by
  obtain ⟨A', c', hv, _⟩ := H.sl
  injection hv
theorem HpS.caps (H : HpS w b h F (.slice A n c) m l) : n ≤ c ∧ c ≤ 9223372036854775807 := by
  obtain ⟨A', c', hv, h1, h2, _⟩ := H.sl
  injection hv with e1 e2 e3
  subst e3
  exact ⟨by omega, h2⟩
theorem HpS.at (H : HpS w b h F (.slice A n c) m l) {i : Nat} (hi : i < l.length) : ∃ g, A = some ⟨g, 0, none⟩ ∧ g ≠ h ∧ g < w.heap.size ∧ w.rangeAt g (i * 2) (eS l[i]) := by
  obtain ⟨A', c', hv, h1, h2, h3⟩ := H.sl
  injection hv with e1 e2 e3
  subst e1
  obtain ⟨g, ha, hne, hr⟩ := h3 i hi
  exact ⟨g, ha, hne, range_lt hr (by simp), hr⟩
end
set_option maxHeartbeats 3200000 in
set_option maxRecDepth 100000 in
theorem aheadS_any (b h : Nat) (F : Value) (A : Option Addr) (n c : Nat) (m : Int) (l : List (ByteArray × Int)) (lt : ByteArray → ByteArray → Bool) (i k : Nat) (w : World) (hO : Hid (IsOS F lt)) (hH : Hid (HpS w b h F (.slice A n c) m l)) :
    Calls Try.prog 47 #[.pointer (some ⟨h, 0, none⟩), .int .i64 i, .int .i64 k] w fun e w' => e = .returned (.bool (ahAt lt l i k)) ∧ Below w.heap.size w w' := by
  have hB : Hid (Bk w h 52 #[F, .slice A n c, .int .i64 m]) := hH.out.bk
  have hn : n = l.length := hH.out.len
  have HC := Lib.hid (fun (b : Bool) (hb : (decide (i < n) && decide (k < n)) = b) => (hb ▸ hasS_any i k n c h F A m w hB : Calls Try.prog 51 #[.pointer (some ⟨h, 0, none⟩), .int .i64 i, .int .i64 k] w fun e w' => e = .returned (.bool b) ∧ w' = w))
  by_cases hik : i < n ∧ k < n
  · obtain ⟨hi, hk⟩ := hik
    obtain ⟨g, hA, hgh, hglt, hx⟩ := hH.out.at (i := i) (by omega)
    obtain ⟨g', hA', _, _, hy⟩ := hH.out.at (i := k) (by omega)
    subst hA
    injection hA' with hA'
    injection hA' with hA'
    subst hA'
    obtain ⟨x, ex⟩ : ∃ x, x = l[i] := ⟨_, rfl⟩
    obtain ⟨y, ey⟩ : ∃ y, y = l[k] := ⟨_, rfl⟩
    have HR : ahAt lt l i k = ahd lt x y := by rw [ex, ey]; exact ahAt_some (by omega) (by omega)
    rw [HR]
    rw [← ex] at hx
    rw [← ey] at hy
    have HX := Lib.hid hx; have HY := Lib.hid hy
    have HBool := HC.out true (by simp [hi, hk])
    have KS := Lib.hid (fun (W : World) (u v : ByteArray) (hb : Below w.heap.size w W) => isLessS_any h F _ m lt u v W hO (Lib.hid (hB.out.later hb)))
    have hcc : n ≤ c ∧ c ≤ 9223372036854775807 := hH.out.caps
    obtain ⟨hc1, hc2⟩ := hcc
    clear ex ey hx hy HR HC hn
    by_cases hs : x.2 < y.2
    · have HR : Hid (Ending.returned (.bool (!lt y.1 x.1)) = .returned (.bool (ahd lt x y))) := by show _ = _; unfold ahd; rw [if_pos hs]
      go_enter Try.func47, Try.ntmps47
      go_wp2_with fail
      refine HBool.mono ?_; rintro e w1 ⟨rfl, hw1⟩; rw [hw1]; clear hw1 w1
      clear HBool
      go_wp2_with fail
      obtain ⟨W5, hW5⟩ : ∃ W, W = ((w.alloc (.cells #[.string ⟨#[]⟩, .int .i64 0] 73)).alloc (.cells #[.string ⟨#[]⟩, .int .i64 0] 73)).drew := ⟨_, rfl⟩
      have HZ0 : Hid (Bk W5 w.heap.size 73 #[.string ⟨#[]⟩, .int .i64 0]) := by rw [hW5]; exact ((Bk.fresh w _ _).later ((Below.refl _ _).alloc (Nat.le_refl _) _)).drewB
      have HZ1 : Hid (Bk W5 (w.heap.size + 1) 73 #[.string ⟨#[]⟩, .int .i64 0]) := by rw [hW5]; exact (Bk.freshAt _ _ _ (by simp)).drewB
      have HB5 : Hid (Below w.heap.size w W5) := by rw [hW5]; exact Below.drew (((Below.refl _ _).alloc (Nat.le_refl _) _).alloc (by simp) _)
      have HW5 := Lib.hid hW5; clear hW5
      refine wp_region_held_drew (S := fun W => Below w.heap.size w W) (by kernel_rfl) (Below.drew (Below.refl _ _)) (fun hS0 => ?_)
      refine wpAnyH_take (i := 0) (v := ?_) rfl (by kernel_rfl) (by kernel_rfl) (by kernel_rfl) (fun _ _ _ h => h) (Or.inl ⟨by rfl, ?_⟩) hS0 ?_
      rotate_left
      · intro W _; go_simp; try with_reducible rfl
      try simp only [Act.put, List.getElem_toArray, List.getElem_cons_zero, List.setIfInBounds_toArray, List.set_cons_zero, List.set_cons_succ]
      refine wpAnyH_take (i := 1) (v := ?_) rfl (by kernel_rfl) (by kernel_rfl) (by kernel_rfl) (fun _ _ _ h => h) (Or.inl ⟨by rfl, ?_⟩) hS0 ?_
      rotate_left
      · intro W _; go_simp; try with_reducible rfl
      try simp only [Act.put, List.getElem_toArray, List.getElem_cons_zero, List.getElem_cons_succ, List.setIfInBounds_toArray, List.set_cons_zero, List.set_cons_succ]
      refine wpAnyH_take (i := 2) (v := ?_) rfl (by kernel_rfl) (by kernel_rfl) (by kernel_rfl) (fun _ _ _ h => h) (Or.inl ⟨by rfl, ?_⟩) hS0 ?_
      rotate_left
      · intro W _; go_simp; try with_reducible rfl
      try simp only [Act.put, List.getElem_toArray, List.getElem_cons_zero, List.getElem_cons_succ, List.setIfInBounds_toArray, List.set_cons_zero, List.set_cons_succ]
      refine wpAnyH_take (i := 3) (v := ?_) rfl (by kernel_rfl) (by kernel_rfl) (by kernel_rfl) (fun _ _ _ h => h) (Or.inl ⟨by rfl, ?_⟩) hS0 ?_
      rotate_left
      · intro W hSW; have hx := (hB.out.later hSW).cellAt 1; try simp only [List.getElem?_toArray, List.getElem?_cons_succ, List.getElem?_cons_zero] at hx; go_simp; try with_reducible rfl
      try simp only [Act.put, List.getElem_toArray, List.getElem_cons_zero, List.getElem_cons_succ, List.setIfInBounds_toArray, List.set_cons_zero, List.set_cons_succ]
      refine wpAnyH_take (i := 4) (v := ?_) rfl (by kernel_rfl) (by kernel_rfl) (by kernel_rfl) (fun _ _ _ h => h) (Or.inl ⟨by rfl, ?_⟩) hS0 ?_
      rotate_left
      · intro W _; go_simp; try with_reducible rfl
      try simp only [Act.put, List.getElem_toArray, List.getElem_cons_zero, List.getElem_cons_succ, List.setIfInBounds_toArray, List.set_cons_zero, List.set_cons_succ]
      refine wpAnyH_take (i := 5) (v := ?_) rfl (by kernel_rfl) (by kernel_rfl) (by kernel_rfl) (fun _ _ _ h => h) (Or.inl ⟨by rfl, ?_⟩) hS0 ?_
      rotate_left
      · intro W _; go_simp; try with_reducible rfl
      try simp only [Act.put, List.getElem_toArray, List.getElem_cons_zero, List.getElem_cons_succ, List.setIfInBounds_toArray, List.set_cons_zero, List.set_cons_succ]
      refine wpAnyH_take (i := 6) (v := .agg #[.string x.1, .int .i64 x.2]) rfl (by kernel_rfl) (by kernel_rfl) (by kernel_rfl) (fun _ _ _ h => h) (yields_rg (by rfl) 73 _ rfl g (i * 2) rfl #[.string x.1, .int .i64 x.2] _ (fun W hW => range_keep HX.out hW) Try.underlying73 rfl (by kernel_rfl)) hS0 ?_
      try simp only [Act.put, List.getElem_toArray, List.getElem_cons_zero, List.getElem_cons_succ, List.setIfInBounds_toArray, List.set_cons_zero, List.set_cons_succ]
      refine wpAnyH_take (i := 7) (v := ?_) rfl (by kernel_rfl) (by kernel_rfl) (by kernel_rfl) (fun _ _ _ h => h) (Or.inl ⟨by rfl, ?_⟩) hS0 ?_
      rotate_left
      · intro W _; go_simp; try with_reducible rfl
      try simp only [Act.put, List.getElem_toArray, List.getElem_cons_zero, List.getElem_cons_succ, List.setIfInBounds_toArray, List.set_cons_zero, List.set_cons_succ]
      refine wpAnyH_take (i := 8) (v := ?_) rfl (by kernel_rfl) (by kernel_rfl) (by kernel_rfl) (fun _ _ _ h => h) (Or.inl ⟨by rfl, ?_⟩) hS0 ?_
      rotate_left
      · intro W _; go_simp; try with_reducible rfl
      try simp only [Act.put, List.getElem_toArray, List.getElem_cons_zero, List.getElem_cons_succ, List.setIfInBounds_toArray, List.set_cons_zero, List.set_cons_succ]
      refine wpAnyH_take (i := 9) (v := ?_) rfl (by kernel_rfl) (by kernel_rfl) (by kernel_rfl) (fun _ _ _ h => h) (Or.inl ⟨by rfl, ?_⟩) hS0 ?_
      rotate_left
      · intro W _; go_simp; try with_reducible rfl
      try simp only [Act.put, List.getElem_toArray, List.getElem_cons_zero, List.getElem_cons_succ, List.setIfInBounds_toArray, List.set_cons_zero, List.set_cons_succ]
      refine wpAnyH_take (i := 10) (v := ?_) rfl (by kernel_rfl) (by kernel_rfl) (by kernel_rfl) (fun _ _ _ h => h) (Or.inl ⟨by rfl, ?_⟩) hS0 ?_
      rotate_left
      · intro W hSW; have hx := (hB.out.later hSW).cellAt 1; try simp only [List.getElem?_toArray, List.getElem?_cons_succ, List.getElem?_cons_zero] at hx; go_simp; try with_reducible rfl
      try simp only [Act.put, List.getElem_toArray, List.getElem_cons_zero, List.getElem_cons_succ, List.setIfInBounds_toArray, List.set_cons_zero, List.set_cons_succ]
      refine wpAnyH_take (i := 11) (v := ?_) rfl (by kernel_rfl) (by kernel_rfl) (by kernel_rfl) (fun _ _ _ h => h) (Or.inl ⟨by rfl, ?_⟩) hS0 ?_
      rotate_left
      · intro W _; go_simp; try with_reducible rfl
      try simp only [Act.put, List.getElem_toArray, List.getElem_cons_zero, List.getElem_cons_succ, List.setIfInBounds_toArray, List.set_cons_zero, List.set_cons_succ]
      refine wpAnyH_take (i := 12) (v := ?_) rfl (by kernel_rfl) (by kernel_rfl) (by kernel_rfl) (fun _ _ _ h => h) (Or.inl ⟨by rfl, ?_⟩) hS0 ?_
      rotate_left
      · intro W _; go_simp; try with_reducible rfl
      try simp only [Act.put, List.getElem_toArray, List.getElem_cons_zero, List.getElem_cons_succ, List.setIfInBounds_toArray, List.set_cons_zero, List.set_cons_succ]
      refine wpAnyH_take (i := 13) (v := .agg #[.string y.1, .int .i64 y.2]) rfl (by kernel_rfl) (by kernel_rfl) (by kernel_rfl) (fun _ _ _ h => h) (yields_rg (by rfl) 73 _ rfl g (k * 2) rfl #[.string y.1, .int .i64 y.2] _ (fun W hW => range_keep HY.out hW) Try.underlying73 rfl (by kernel_rfl)) hS0 ?_
      try simp only [Act.put, List.getElem_toArray, List.getElem_cons_zero, List.getElem_cons_succ, List.setIfInBounds_toArray, List.set_cons_zero, List.set_cons_succ]
      refine wpAnyH_ready (rs := [14, 15]) (by kernel_rfl) (by simp) ?_
      refine (AllReadyH.cons rfl (fun K hK => ?_) (AllReadyH.cons rfl (fun K hK => ?_) AllReadyH.nil))
      · go_simp
        refine hK.out _ _ (Below.drew ((Below.refl _ _).alloc (Nat.le_refl _) _)) (fun hS1 => ?_)
        clear hK K
        try simp only [Act.put, List.getElem_toArray, List.getElem_cons_zero, List.getElem_cons_succ, List.setIfInBounds_toArray, List.set_cons_zero, List.set_cons_succ]
        refine wpAnyH_ready (rs := [15]) (by kernel_rfl) (by simp) ?_
        refine AllReadyH.cons rfl (fun K hK => ?_) AllReadyH.nil
        go_simp
        rw [← HW5.out]
        refine hK.out _ _ (HB5.out) (fun hS2 => ?_)
        clear hK K
        try simp only [Act.put, List.getElem_toArray, List.getElem_cons_zero, List.getElem_cons_succ, List.setIfInBounds_toArray, List.set_cons_zero, List.set_cons_succ]
        refine wpAnyH_ready (rs := [16]) (by kernel_rfl) (by simp) ?_
        refine AllReadyH.cons rfl (fun K hK => ?_) AllReadyH.nil
        rw [if_pos (by rfl)]
        refine store_bk_op 73 (.tmp 7) (.tmp 20) rfl w.heap.size 0 #[.string x.1, .int .i64 x.2] rfl rfl 73 #[.string ⟨#[]⟩, .int .i64 0] #[.string x.1, .int .i64 x.2] HZ0.out (by kernel_rfl) (by simp) (by kernel_rfl) rfl ?_
        intro w6 hB6 hg6 hs6
        have HA6 := Lib.hid hB6; have HZ6 := Lib.hid (HZ1.out.stays hg6 (by simp))
        have hb6 : Below w.heap.size w w6 := HB5.out.grown hg6 HB5.out.size (fun q e => by injection e with e; omega)
        clear hB6 hg6 hs6
        refine hK.out _ _ (hb6) (fun hS3 => ?_)
        clear hK K
        try simp only [Act.put, List.getElem_toArray, List.getElem_cons_zero, List.getElem_cons_succ, List.setIfInBounds_toArray, List.set_cons_zero, List.set_cons_succ]
        refine wpAnyH_ready (rs := [17]) (by kernel_rfl) (by simp) ?_
        refine AllReadyH.cons rfl (fun K hK => ?_) AllReadyH.nil
        rw [if_pos (by rfl)]
        refine store_bk_op 73 (.tmp 8) (.tmp 27) rfl (w.heap.size + 1) 0 #[.string y.1, .int .i64 y.2] rfl rfl 73 #[.string ⟨#[]⟩, .int .i64 0] #[.string y.1, .int .i64 y.2] HZ6.out (by kernel_rfl) (by simp) (by kernel_rfl) rfl ?_
        intro w7 hB7 hg7 hs7
        have HY7 := Lib.hid hB7; have HX7 := Lib.hid (HA6.out.stays hg7 (by simp))
        have hb7 : Below w.heap.size w w7 := hb6.grown hg7 hb6.size (fun q e => by injection e with e; omega)
        clear hB7 hg7 hs7 HA6 HZ6
        refine hK.out _ _ (hb7) (fun hS4 => ?_)
        clear hK K
        try simp only [Act.put, List.getElem_toArray, List.getElem_cons_zero, List.getElem_cons_succ, List.setIfInBounds_toArray, List.set_cons_zero, List.set_cons_succ]
        refine wpAnyH_done (by kernel_rfl) ?_ _
        clear hS0 HZ0 HZ1 HB5 HW5
        have c1 : w7.cell? ⟨w.heap.size, 1, none⟩ = some (.int .i64 x.2) := HX7.out.cellAt 1
        have c2 : w7.cell? ⟨(w.heap.size + 1), 1, none⟩ = some (.int .i64 y.2) := HY7.out.cellAt 1
        have c3 : w7.cell? ⟨w.heap.size, 0, none⟩ = some (.string x.1) := HX7.out.cellAt 0
        have c4 : w7.cell? ⟨(w.heap.size + 1), 0, none⟩ = some (.string y.1) := HY7.out.cellAt 0
        go_wp2_with fail
        refine (KS.out w7 _ _ hb7).mono ?_; rintro e w8 ⟨rfl, hb8⟩
        go_wp2_with fail
        go_ret
        exact ⟨HR.out, hb7.trans (hb8.mono hb7.size)⟩
      · go_simp
        refine hK.out _ _ (Below.drew ((Below.refl _ _).alloc (Nat.le_refl _) _)) (fun hS1 => ?_)
        clear hK K
        try simp only [Act.put, List.getElem_toArray, List.getElem_cons_zero, List.getElem_cons_succ, List.setIfInBounds_toArray, List.set_cons_zero, List.set_cons_succ]
        refine wpAnyH_ready (rs := [14]) (by kernel_rfl) (by simp) ?_
        refine AllReadyH.cons rfl (fun K hK => ?_) AllReadyH.nil
        go_simp
        rw [← HW5.out]
        refine hK.out _ _ (HB5.out) (fun hS2 => ?_)
        clear hK K
        try simp only [Act.put, List.getElem_toArray, List.getElem_cons_zero, List.getElem_cons_succ, List.setIfInBounds_toArray, List.set_cons_zero, List.set_cons_succ]
        refine wpAnyH_ready (rs := [16]) (by kernel_rfl) (by simp) ?_
        refine AllReadyH.cons rfl (fun K hK => ?_) AllReadyH.nil
        rw [if_pos (by rfl)]
        refine store_bk_op 73 (.tmp 7) (.tmp 20) rfl (w.heap.size + 1) 0 #[.string x.1, .int .i64 x.2] rfl rfl 73 #[.string ⟨#[]⟩, .int .i64 0] #[.string x.1, .int .i64 x.2] HZ1.out (by kernel_rfl) (by simp) (by kernel_rfl) rfl ?_
        intro w6 hB6 hg6 hs6
        have HA6 := Lib.hid hB6; have HZ6 := Lib.hid (HZ0.out.stays hg6 (by simp))
        have hb6 : Below w.heap.size w w6 := HB5.out.grown hg6 HB5.out.size (fun q e => by injection e with e; omega)
        clear hB6 hg6 hs6
        refine hK.out _ _ (hb6) (fun hS3 => ?_)
        clear hK K
        try simp only [Act.put, List.getElem_toArray, List.getElem_cons_zero, List.getElem_cons_succ, List.setIfInBounds_toArray, List.set_cons_zero, List.set_cons_succ]
        refine wpAnyH_ready (rs := [17]) (by kernel_rfl) (by simp) ?_
        refine AllReadyH.cons rfl (fun K hK => ?_) AllReadyH.nil
        rw [if_pos (by rfl)]
        refine store_bk_op 73 (.tmp 8) (.tmp 27) rfl w.heap.size 0 #[.string y.1, .int .i64 y.2] rfl rfl 73 #[.string ⟨#[]⟩, .int .i64 0] #[.string y.1, .int .i64 y.2] HZ6.out (by kernel_rfl) (by simp) (by kernel_rfl) rfl ?_
        intro w7 hB7 hg7 hs7
        have HY7 := Lib.hid hB7; have HX7 := Lib.hid (HA6.out.stays hg7 (by simp))
        have hb7 : Below w.heap.size w w7 := hb6.grown hg7 hb6.size (fun q e => by injection e with e; omega)
        clear hB7 hg7 hs7 HA6 HZ6
        refine hK.out _ _ (hb7) (fun hS4 => ?_)
        clear hK K
        try simp only [Act.put, List.getElem_toArray, List.getElem_cons_zero, List.getElem_cons_succ, List.setIfInBounds_toArray, List.set_cons_zero, List.set_cons_succ]
        refine wpAnyH_done (by kernel_rfl) ?_ _
        clear hS0 HZ0 HZ1 HB5 HW5
        have c1 : w7.cell? ⟨(w.heap.size + 1), 1, none⟩ = some (.int .i64 x.2) := HX7.out.cellAt 1
        have c2 : w7.cell? ⟨w.heap.size, 1, none⟩ = some (.int .i64 y.2) := HY7.out.cellAt 1
        have c3 : w7.cell? ⟨(w.heap.size + 1), 0, none⟩ = some (.string x.1) := HX7.out.cellAt 0
        have c4 : w7.cell? ⟨w.heap.size, 0, none⟩ = some (.string y.1) := HY7.out.cellAt 0
        go_wp2_with fail
        refine (KS.out w7 _ _ hb7).mono ?_; rintro e w8 ⟨rfl, hb8⟩
        go_wp2_with fail
        go_ret
        exact ⟨HR.out, hb7.trans (hb8.mono hb7.size)⟩
    · have HR : Hid (Ending.returned (.bool (lt x.1 y.1)) = .returned (.bool (ahd lt x y))) := by show _ = _; unfold ahd; rw [if_neg hs]
      go_enter Try.func47, Try.ntmps47
      go_wp2_with fail
      refine HBool.mono ?_; rintro e w1 ⟨rfl, hw1⟩; rw [hw1]; clear hw1 w1
      clear HBool
      go_wp2_with fail
      obtain ⟨W5, hW5⟩ : ∃ W, W = ((w.alloc (.cells #[.string ⟨#[]⟩, .int .i64 0] 73)).alloc (.cells #[.string ⟨#[]⟩, .int .i64 0] 73)).drew := ⟨_, rfl⟩
      have HZ0 : Hid (Bk W5 w.heap.size 73 #[.string ⟨#[]⟩, .int .i64 0]) := by rw [hW5]; exact ((Bk.fresh w _ _).later ((Below.refl _ _).alloc (Nat.le_refl _) _)).drewB
      have HZ1 : Hid (Bk W5 (w.heap.size + 1) 73 #[.string ⟨#[]⟩, .int .i64 0]) := by rw [hW5]; exact (Bk.freshAt _ _ _ (by simp)).drewB
      have HB5 : Hid (Below w.heap.size w W5) := by rw [hW5]; exact Below.drew (((Below.refl _ _).alloc (Nat.le_refl _) _).alloc (by simp) _)
      have HW5 := Lib.hid hW5; clear hW5
      refine wp_region_held_drew (S := fun W => Below w.heap.size w W) (by kernel_rfl) (Below.drew (Below.refl _ _)) (fun hS0 => ?_)
      refine wpAnyH_take (i := 0) (v := ?_) rfl (by kernel_rfl) (by kernel_rfl) (by kernel_rfl) (fun _ _ _ h => h) (Or.inl ⟨by rfl, ?_⟩) hS0 ?_
      rotate_left
      · intro W _; go_simp; try with_reducible rfl
      try simp only [Act.put, List.getElem_toArray, List.getElem_cons_zero, List.setIfInBounds_toArray, List.set_cons_zero, List.set_cons_succ]
      refine wpAnyH_take (i := 1) (v := ?_) rfl (by kernel_rfl) (by kernel_rfl) (by kernel_rfl) (fun _ _ _ h => h) (Or.inl ⟨by rfl, ?_⟩) hS0 ?_
      rotate_left
      · intro W _; go_simp; try with_reducible rfl
      try simp only [Act.put, List.getElem_toArray, List.getElem_cons_zero, List.getElem_cons_succ, List.setIfInBounds_toArray, List.set_cons_zero, List.set_cons_succ]
      refine wpAnyH_take (i := 2) (v := ?_) rfl (by kernel_rfl) (by kernel_rfl) (by kernel_rfl) (fun _ _ _ h => h) (Or.inl ⟨by rfl, ?_⟩) hS0 ?_
      rotate_left
      · intro W _; go_simp; try with_reducible rfl
      try simp only [Act.put, List.getElem_toArray, List.getElem_cons_zero, List.getElem_cons_succ, List.setIfInBounds_toArray, List.set_cons_zero, List.set_cons_succ]
      refine wpAnyH_take (i := 3) (v := ?_) rfl (by kernel_rfl) (by kernel_rfl) (by kernel_rfl) (fun _ _ _ h => h) (Or.inl ⟨by rfl, ?_⟩) hS0 ?_
      rotate_left
      · intro W hSW; have hx := (hB.out.later hSW).cellAt 1; try simp only [List.getElem?_toArray, List.getElem?_cons_succ, List.getElem?_cons_zero] at hx; go_simp; try with_reducible rfl
      try simp only [Act.put, List.getElem_toArray, List.getElem_cons_zero, List.getElem_cons_succ, List.setIfInBounds_toArray, List.set_cons_zero, List.set_cons_succ]
      refine wpAnyH_take (i := 4) (v := ?_) rfl (by kernel_rfl) (by kernel_rfl) (by kernel_rfl) (fun _ _ _ h => h) (Or.inl ⟨by rfl, ?_⟩) hS0 ?_
      rotate_left
      · intro W _; go_simp; try with_reducible rfl
      try simp only [Act.put, List.getElem_toArray, List.getElem_cons_zero, List.getElem_cons_succ, List.setIfInBounds_toArray, List.set_cons_zero, List.set_cons_succ]
      refine wpAnyH_take (i := 5) (v := ?_) rfl (by kernel_rfl) (by kernel_rfl) (by kernel_rfl) (fun _ _ _ h => h) (Or.inl ⟨by rfl, ?_⟩) hS0 ?_
      rotate_left
      · intro W _; go_simp; try with_reducible rfl
      try simp only [Act.put, List.getElem_toArray, List.getElem_cons_zero, List.getElem_cons_succ, List.setIfInBounds_toArray, List.set_cons_zero, List.set_cons_succ]
      refine wpAnyH_take (i := 6) (v := .agg #[.string x.1, .int .i64 x.2]) rfl (by kernel_rfl) (by kernel_rfl) (by kernel_rfl) (fun _ _ _ h => h) (yields_rg (by rfl) 73 _ rfl g (i * 2) rfl #[.string x.1, .int .i64 x.2] _ (fun W hW => range_keep HX.out hW) Try.underlying73 rfl (by kernel_rfl)) hS0 ?_
      try simp only [Act.put, List.getElem_toArray, List.getElem_cons_zero, List.getElem_cons_succ, List.setIfInBounds_toArray, List.set_cons_zero, List.set_cons_succ]
      refine wpAnyH_take (i := 7) (v := ?_) rfl (by kernel_rfl) (by kernel_rfl) (by kernel_rfl) (fun _ _ _ h => h) (Or.inl ⟨by rfl, ?_⟩) hS0 ?_
      rotate_left
      · intro W _; go_simp; try with_reducible rfl
      try simp only [Act.put, List.getElem_toArray, List.getElem_cons_zero, List.getElem_cons_succ, List.setIfInBounds_toArray, List.set_cons_zero, List.set_cons_succ]
      refine wpAnyH_take (i := 8) (v := ?_) rfl (by kernel_rfl) (by kernel_rfl) (by kernel_rfl) (fun _ _ _ h => h) (Or.inl ⟨by rfl, ?_⟩) hS0 ?_
      rotate_left
      · intro W _; go_simp; try with_reducible rfl
      try simp only [Act.put, List.getElem_toArray, List.getElem_cons_zero, List.getElem_cons_succ, List.setIfInBounds_toArray, List.set_cons_zero, List.set_cons_succ]
      refine wpAnyH_take (i := 9) (v := ?_) rfl (by kernel_rfl) (by kernel_rfl) (by kernel_rfl) (fun _ _ _ h => h) (Or.inl ⟨by rfl, ?_⟩) hS0 ?_
      rotate_left
      · intro W _; go_simp; try with_reducible rfl
      try simp only [Act.put, List.getElem_toArray, List.getElem_cons_zero, List.getElem_cons_succ, List.setIfInBounds_toArray, List.set_cons_zero, List.set_cons_succ]
      refine wpAnyH_take (i := 10) (v := ?_) rfl (by kernel_rfl) (by kernel_rfl) (by kernel_rfl) (fun _ _ _ h => h) (Or.inl ⟨by rfl, ?_⟩) hS0 ?_
      rotate_left
      · intro W hSW; have hx := (hB.out.later hSW).cellAt 1; try simp only [List.getElem?_toArray, List.getElem?_cons_succ, List.getElem?_cons_zero] at hx; go_simp; try with_reducible rfl
      try simp only [Act.put, List.getElem_toArray, List.getElem_cons_zero, List.getElem_cons_succ, List.setIfInBounds_toArray, List.set_cons_zero, List.set_cons_succ]
      refine wpAnyH_take (i := 11) (v := ?_) rfl (by kernel_rfl) (by kernel_rfl) (by kernel_rfl) (fun _ _ _ h => h) (Or.inl ⟨by rfl, ?_⟩) hS0 ?_
      rotate_left
      · intro W _; go_simp; try with_reducible rfl
      try simp only [Act.put, List.getElem_toArray, List.getElem_cons_zero, List.getElem_cons_succ, List.setIfInBounds_toArray, List.set_cons_zero, List.set_cons_succ]
      refine wpAnyH_take (i := 12) (v := ?_) rfl (by kernel_rfl) (by kernel_rfl) (by kernel_rfl) (fun _ _ _ h => h) (Or.inl ⟨by rfl, ?_⟩) hS0 ?_
      rotate_left
      · intro W _; go_simp; try with_reducible rfl
      try simp only [Act.put, List.getElem_toArray, List.getElem_cons_zero, List.getElem_cons_succ, List.setIfInBounds_toArray, List.set_cons_zero, List.set_cons_succ]
      refine wpAnyH_take (i := 13) (v := .agg #[.string y.1, .int .i64 y.2]) rfl (by kernel_rfl) (by kernel_rfl) (by kernel_rfl) (fun _ _ _ h => h) (yields_rg (by rfl) 73 _ rfl g (k * 2) rfl #[.string y.1, .int .i64 y.2] _ (fun W hW => range_keep HY.out hW) Try.underlying73 rfl (by kernel_rfl)) hS0 ?_
      try simp only [Act.put, List.getElem_toArray, List.getElem_cons_zero, List.getElem_cons_succ, List.setIfInBounds_toArray, List.set_cons_zero, List.set_cons_succ]
      refine wpAnyH_ready (rs := [14, 15]) (by kernel_rfl) (by simp) ?_
      refine (AllReadyH.cons rfl (fun K hK => ?_) (AllReadyH.cons rfl (fun K hK => ?_) AllReadyH.nil))
      · go_simp
        refine hK.out _ _ (Below.drew ((Below.refl _ _).alloc (Nat.le_refl _) _)) (fun hS1 => ?_)
        clear hK K
        try simp only [Act.put, List.getElem_toArray, List.getElem_cons_zero, List.getElem_cons_succ, List.setIfInBounds_toArray, List.set_cons_zero, List.set_cons_succ]
        refine wpAnyH_ready (rs := [15]) (by kernel_rfl) (by simp) ?_
        refine AllReadyH.cons rfl (fun K hK => ?_) AllReadyH.nil
        go_simp
        rw [← HW5.out]
        refine hK.out _ _ (HB5.out) (fun hS2 => ?_)
        clear hK K
        try simp only [Act.put, List.getElem_toArray, List.getElem_cons_zero, List.getElem_cons_succ, List.setIfInBounds_toArray, List.set_cons_zero, List.set_cons_succ]
        refine wpAnyH_ready (rs := [16]) (by kernel_rfl) (by simp) ?_
        refine AllReadyH.cons rfl (fun K hK => ?_) AllReadyH.nil
        rw [if_pos (by rfl)]
        refine store_bk_op 73 (.tmp 7) (.tmp 20) rfl w.heap.size 0 #[.string x.1, .int .i64 x.2] rfl rfl 73 #[.string ⟨#[]⟩, .int .i64 0] #[.string x.1, .int .i64 x.2] HZ0.out (by kernel_rfl) (by simp) (by kernel_rfl) rfl ?_
        intro w6 hB6 hg6 hs6
        have HA6 := Lib.hid hB6; have HZ6 := Lib.hid (HZ1.out.stays hg6 (by simp))
        have hb6 : Below w.heap.size w w6 := HB5.out.grown hg6 HB5.out.size (fun q e => by injection e with e; omega)
        clear hB6 hg6 hs6
        refine hK.out _ _ (hb6) (fun hS3 => ?_)
        clear hK K
        try simp only [Act.put, List.getElem_toArray, List.getElem_cons_zero, List.getElem_cons_succ, List.setIfInBounds_toArray, List.set_cons_zero, List.set_cons_succ]
        refine wpAnyH_ready (rs := [17]) (by kernel_rfl) (by simp) ?_
        refine AllReadyH.cons rfl (fun K hK => ?_) AllReadyH.nil
        rw [if_pos (by rfl)]
        refine store_bk_op 73 (.tmp 8) (.tmp 27) rfl (w.heap.size + 1) 0 #[.string y.1, .int .i64 y.2] rfl rfl 73 #[.string ⟨#[]⟩, .int .i64 0] #[.string y.1, .int .i64 y.2] HZ6.out (by kernel_rfl) (by simp) (by kernel_rfl) rfl ?_
        intro w7 hB7 hg7 hs7
        have HY7 := Lib.hid hB7; have HX7 := Lib.hid (HA6.out.stays hg7 (by simp))
        have hb7 : Below w.heap.size w w7 := hb6.grown hg7 hb6.size (fun q e => by injection e with e; omega)
        clear hB7 hg7 hs7 HA6 HZ6
        refine hK.out _ _ (hb7) (fun hS4 => ?_)
        clear hK K
        try simp only [Act.put, List.getElem_toArray, List.getElem_cons_zero, List.getElem_cons_succ, List.setIfInBounds_toArray, List.set_cons_zero, List.set_cons_succ]
        refine wpAnyH_done (by kernel_rfl) ?_ _
        clear hS0 HZ0 HZ1 HB5 HW5
        have c1 : w7.cell? ⟨w.heap.size, 1, none⟩ = some (.int .i64 x.2) := HX7.out.cellAt 1
        have c2 : w7.cell? ⟨(w.heap.size + 1), 1, none⟩ = some (.int .i64 y.2) := HY7.out.cellAt 1
        have c3 : w7.cell? ⟨w.heap.size, 0, none⟩ = some (.string x.1) := HX7.out.cellAt 0
        have c4 : w7.cell? ⟨(w.heap.size + 1), 0, none⟩ = some (.string y.1) := HY7.out.cellAt 0
        go_wp2_with fail
        refine (KS.out w7 _ _ hb7).mono ?_; rintro e w8 ⟨rfl, hb8⟩
        go_wp2_with fail
        go_ret
        exact ⟨HR.out, hb7.trans (hb8.mono hb7.size)⟩
      · go_simp
        refine hK.out _ _ (Below.drew ((Below.refl _ _).alloc (Nat.le_refl _) _)) (fun hS1 => ?_)
        clear hK K
        try simp only [Act.put, List.getElem_toArray, List.getElem_cons_zero, List.getElem_cons_succ, List.setIfInBounds_toArray, List.set_cons_zero, List.set_cons_succ]
        refine wpAnyH_ready (rs := [14]) (by kernel_rfl) (by simp) ?_
        refine AllReadyH.cons rfl (fun K hK => ?_) AllReadyH.nil
        go_simp
        rw [← HW5.out]
        refine hK.out _ _ (HB5.out) (fun hS2 => ?_)
        clear hK K
        try simp only [Act.put, List.getElem_toArray, List.getElem_cons_zero, List.getElem_cons_succ, List.setIfInBounds_toArray, List.set_cons_zero, List.set_cons_succ]
        refine wpAnyH_ready (rs := [16]) (by kernel_rfl) (by simp) ?_
        refine AllReadyH.cons rfl (fun K hK => ?_) AllReadyH.nil
        rw [if_pos (by rfl)]
        refine store_bk_op 73 (.tmp 7) (.tmp 20) rfl (w.heap.size + 1) 0 #[.string x.1, .int .i64 x.2] rfl rfl 73 #[.string ⟨#[]⟩, .int .i64 0] #[.string x.1, .int .i64 x.2] HZ1.out (by kernel_rfl) (by simp) (by kernel_rfl) rfl ?_
        intro w6 hB6 hg6 hs6
        have HA6 := Lib.hid hB6; have HZ6 := Lib.hid (HZ0.out.stays hg6 (by simp))
        have hb6 : Below w.heap.size w w6 := HB5.out.grown hg6 HB5.out.size (fun q e => by injection e with e; omega)
        clear hB6 hg6 hs6
        refine hK.out _ _ (hb6) (fun hS3 => ?_)
        clear hK K
        try simp only [Act.put, List.getElem_toArray, List.getElem_cons_zero, List.getElem_cons_succ, List.setIfInBounds_toArray, List.set_cons_zero, List.set_cons_succ]
        refine wpAnyH_ready (rs := [17]) (by kernel_rfl) (by simp) ?_
        refine AllReadyH.cons rfl (fun K hK => ?_) AllReadyH.nil
        rw [if_pos (by rfl)]
        refine store_bk_op 73 (.tmp 8) (.tmp 27) rfl w.heap.size 0 #[.string y.1, .int .i64 y.2] rfl rfl 73 #[.string ⟨#[]⟩, .int .i64 0] #[.string y.1, .int .i64 y.2] HZ6.out (by kernel_rfl) (by simp) (by kernel_rfl) rfl ?_
        intro w7 hB7 hg7 hs7
        have HY7 := Lib.hid hB7; have HX7 := Lib.hid (HA6.out.stays hg7 (by simp))
        have hb7 : Below w.heap.size w w7 := hb6.grown hg7 hb6.size (fun q e => by injection e with e; omega)
        clear hB7 hg7 hs7 HA6 HZ6
        refine hK.out _ _ (hb7) (fun hS4 => ?_)
        clear hK K
        try simp only [Act.put, List.getElem_toArray, List.getElem_cons_zero, List.getElem_cons_succ, List.setIfInBounds_toArray, List.set_cons_zero, List.set_cons_succ]
        refine wpAnyH_done (by kernel_rfl) ?_ _
        clear hS0 HZ0 HZ1 HB5 HW5
        have c1 : w7.cell? ⟨(w.heap.size + 1), 1, none⟩ = some (.int .i64 x.2) := HX7.out.cellAt 1
        have c2 : w7.cell? ⟨w.heap.size, 1, none⟩ = some (.int .i64 y.2) := HY7.out.cellAt 1
        have c3 : w7.cell? ⟨(w.heap.size + 1), 0, none⟩ = some (.string x.1) := HX7.out.cellAt 0
        have c4 : w7.cell? ⟨w.heap.size, 0, none⟩ = some (.string y.1) := HY7.out.cellAt 0
        go_wp2_with fail
        refine (KS.out w7 _ _ hb7).mono ?_; rintro e w8 ⟨rfl, hb8⟩
        go_wp2_with fail
        go_ret
        exact ⟨HR.out, hb7.trans (hb8.mono hb7.size)⟩
  · have HR : ahAt lt l i k = false := by
      unfold ahAt
      by_cases h1 : i < n
      · have h2 : l[k]? = none := List.getElem?_eq_none (by omega)
        rw [h2]; cases l[i]? <;> rfl
      · have h2 : l[i]? = none := List.getElem?_eq_none (by omega)
        rw [h2]
    rw [HR]
    have HBool := HC.out false (by rw [← Bool.decide_and]; exact decide_eq_false hik)
    clear HC hn
    go_enter Try.func47, Try.ntmps47
    go_wp2_with fail
    refine HBool.mono ?_; rintro e w1 ⟨rfl, hw1⟩; rw [hw1]; clear hw1 w1
    go_wp2_with fail
    go_ret
    exact ⟨rfl, Below.refl _ _⟩

end Go.Proofs.Ytkadcaihihgceaa
