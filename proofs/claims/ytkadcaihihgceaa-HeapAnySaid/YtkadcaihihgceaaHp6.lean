/- Pop. Condition: at most 1000 entries. -/
import Derived.Test.YtkadcaihihgceaaHp5
namespace Go.Proofs.Ytkadcaihihgceaa
open Go.RowKit
set_option linter.unusedSimpArgs false
set_option linter.unusedVariables false
theorem last_perm {α : Type} {l : List α} {i : Nat} (hi : l.length = i + 1) : ((l[0]'(by omega)) :: (l.set 0 (l[i]'(by omega))).take i).Perm l := by
  match l, hi with
  | x :: t, hi =>
    cases t with
    | nil => simp at hi; subst hi; exact List.Perm.refl _
    | cons y t =>
      have hi' : i = t.length + 1 := by simp at hi; omega
      subst hi'
      have e : (x :: y :: t)[t.length + 1] = (y :: t).getLast (by simp) := by rw [List.getLast_eq_getElem]; simp
      rw [e]
      show (x :: (((y :: t).getLast (by simp)) :: (y :: t)).take (t.length + 1)).Perm (x :: y :: t)
      refine List.Perm.cons x ?_
      rw [List.take_succ_cons]
      have h2 : (y :: t).take t.length = (y :: t).dropLast := by rw [List.dropLast_eq_take]; simp
      rw [h2]
      have h3 := List.dropLast_concat_getLast (l := y :: t) (by simp)
      refine (List.perm_append_comm (l₁ := [(y :: t).getLast (by simp)]) (l₂ := (y :: t).dropLast)).trans ?_
      rw [h3]
set_option maxHeartbeats 6400000 in
set_option maxRecDepth 100000 in
/-- The first one is taken out. -/
theorem popP_some (b h : Nat) (F v : Value) (m M : Int) (l B : List (Px × Int)) (lt : Px → Px → Bool) (x : Px × Int) (w : World) (hbig : l.length ≤ 1000) (hO : Hid (IsOP F lt)) (hW : Hid (WkO lt)) (hH : Hid (HpP w b h F v m l)) (hA : Hid (Hol lt M l (x :: B))) :
    Calls Try.prog 13 #[.pointer (some ⟨h, 0, none⟩)] w fun e w' => e = .returned (.tuple #[vP x.1, .bool true]) ∧ ∃ l', UpP w w' b h F v m l' ∧ Hol lt M l' B := by
  obtain ⟨h0, hx0⟩ := hA.out.head hW.out
  obtain ⟨i, hi⟩ : ∃ i, l.length = i + 1 := ⟨l.length - 1, by omega⟩
  obtain ⟨A, c, hv, hc1, hc2, har⟩ := hH.out.sl
  obtain ⟨g, hAg, hgh, hr⟩ := har i (by omega)
  subst hv hAg
  obtain ⟨y, hy⟩ : ∃ y, y = l[i] := ⟨_, rfl⟩
  rw [← hy] at hr
  have HY := Lib.hid hr
  have hglt : g < w.heap.size := range_lt hr (by simp)
  have HL : Hid (∀ l', l'.Perm ((l.set 0 y).take i) → HpF (leO lt) 0 l' → Hol lt M l' B) := fun l' h1 h2 => hA.out.pop hW.out ((h1.cons x).trans (by rw [← hx0, hy]; exact last_perm hi)) h2
  have HI : Hid (SkI (leO lt) 0 0 ((l.set 0 y).take i)) := ((hA.out.hp.root y).front i).sink
  have K1 := Lib.hid (fun (W : World) (hb : Below w.heap.size w W) => topP_some b h F _ m l x W (Lib.hid (by rw [List.getElem?_eq_getElem h0, hx0])) (Lib.hid (hH.out.below hb)))
  obtain ⟨⟨x1, x2⟩, xt⟩ := x
  simp only [hi] at *
  have hw1 : wrap64 ((i : Int) + 1) = (i : Int) + 1 := by unfold wrap64; omega
  have hw2 : wrap64 ((i : Int) + 1 - 1) = (i : Int) := by unfold wrap64; omega
  have HHG := Lib.hid hgh
  have hi1 : (i : Int) < (i : Int) + 1 := by omega
  have hi2 : (0 : Int) < (i : Int) + 1 := by omega
  clear hr har hx0 hy hgh
  obtain ⟨W0, hW0⟩ : ∃ W0, W0 = w.alloc (.cells #[.int .i64 0, .int .i64 0] 27) := ⟨_, rfl⟩
  have hb0 : Below w.heap.size w W0 := by rw [hW0]; exact (Below.refl _ _).alloc (Nat.le_refl _) _
  have HT0 : Hid (Bk W0 w.heap.size 27 #[.int .i64 0, .int .i64 0]) := by rw [hW0]; exact Bk.fresh _ _ _
  go_enter Try.func13, Try.ntmps13
  go_wp2_with fail
  rw [← hW0]
  clear hW0
  refine (K1.out _ hb0).mono ?_; rintro e w1 ⟨rfl, hb1⟩
  obtain ⟨W2, hW2⟩ : ∃ W2, W2 = w1.alloc (.cells #[.int .i64 x1, .int .i64 x2] 27) := ⟨_, rfl⟩
  obtain ⟨t4, ht4⟩ : ∃ t4, t4 = w1.heap.size := ⟨_, rfl⟩
  have hb2 : Below w1.heap.size w1 W2 := by rw [hW2]; exact (Below.refl _ _).alloc (Nat.le_refl _) _
  have hB2 : Below w.heap.size w W2 := (hb0.trans (hb1.mono hb0.size)).trans (hb2.mono (hb0.trans (hb1.mono hb0.size)).size)
  have HT2 : Hid (Bk W2 w.heap.size 27 #[.int .i64 0, .int .i64 0]) := (HT0.out.later hb1).later hb2
  have HX2 : Hid (Bk W2 t4 27 #[.int .i64 x1, .int .i64 x2]) := by rw [hW2, ht4]; exact Bk.fresh _ _ _
  have htt : w.heap.size < t4 := by rw [ht4]; exact (HT0.out.later hb1).here
  have HTT := Lib.hid htt
  have H2 : Hid (HpP W2 b h F (.slice (some ⟨g, 0, none⟩) (i + 1) c) m l) := hH.out.below hB2
  have HB2 : Hid (Bk W2 h 60 #[F, .slice (some ⟨g, 0, none⟩) (i + 1) c, .int .i64 m]) := H2.out.bk
  have HO2 : Hid (OwnK W2.drew b 62 3 (.slice (some ⟨g, 0, none⟩) (i + 1) c) (l.map eP)) := H2.out.ow
  have HY2 : Hid (W2.rangeAt g (i * 3) (eP y)) := range_keep HY.out hB2
  have c2 : w1.cell? ⟨h, 1, none⟩ = some (.slice (some ⟨g, 0, none⟩) (i + 1) c) := (hH.out.bk.later (hb0.trans (hb1.mono hb0.size))).cellAt 1
  have hlt2 : h < w1.heap.size := (hH.out.bk.later (hb0.trans (hb1.mono hb0.size))).here
  clear K1 HY
  go_wp2_with fail
  rw [← hW2, ← ht4]
  clear HT0 htt hW2 ht4 hlt2 hb0
  refine wp_region_E (S := fun W => W = W2.drew) 12 (by kernel_rfl) (rfl) (fun hS0 => ?_)
  refine wpAnyE_take (i := 0) (v := ?_) rfl (by kernel_rfl) (by kernel_rfl) (by kernel_rfl) (by kernel_rfl) (by kernel_rfl) (fun _ _ _ h => h) (Or.inl ⟨by rfl, ?_⟩) hS0 ?_
  rotate_left
  · intro W _; go_simp; try with_reducible rfl
  try simp only [Act.put, List.getElem_toArray, List.getElem_cons_zero, List.setIfInBounds_toArray, List.set_cons_zero, List.set_cons_succ]
  refine wpAnyE_take (i := 1) (v := ?_) rfl (by kernel_rfl) (by kernel_rfl) (by kernel_rfl) (by kernel_rfl) (by kernel_rfl) (fun _ _ _ h => h) (Or.inl ⟨by rfl, ?_⟩) hS0 ?_
  rotate_left
  · intro W _; go_simp; try with_reducible rfl
  try simp only [Act.put, List.getElem_toArray, List.getElem_cons_zero, List.getElem_cons_succ, List.setIfInBounds_toArray, List.set_cons_zero, List.set_cons_succ]
  refine wpAnyE_take (i := 2) (v := ?_) rfl (by kernel_rfl) (by kernel_rfl) (by kernel_rfl) (by kernel_rfl) (by kernel_rfl) (fun _ _ _ h => h) (Or.inl ⟨by rfl, ?_⟩) hS0 ?_
  rotate_left
  · intro W _; go_simp; try with_reducible rfl
  try simp only [Act.put, List.getElem_toArray, List.getElem_cons_zero, List.getElem_cons_succ, List.setIfInBounds_toArray, List.set_cons_zero, List.set_cons_succ]
  refine wpAnyE_take (i := 3) (v := ?_) rfl (by kernel_rfl) (by kernel_rfl) (by kernel_rfl) (by kernel_rfl) (by kernel_rfl) (fun _ _ _ h => h) (Or.inl ⟨by rfl, ?_⟩) hS0 ?_
  rotate_left
  · intro W hSW; subst hSW; have hx := HB2.out.drewB.cellAt 1; try simp only [List.getElem?_toArray, List.getElem?_cons_succ, List.getElem?_cons_zero] at hx; go_simp; try with_reducible rfl
  try simp only [Act.put, List.getElem_toArray, List.getElem_cons_zero, List.getElem_cons_succ, List.setIfInBounds_toArray, List.set_cons_zero, List.set_cons_succ]
  refine wpAnyE_take (i := 4) (v := ?_) rfl (by kernel_rfl) (by kernel_rfl) (by kernel_rfl) (by kernel_rfl) (by kernel_rfl) (fun _ _ _ h => h) (Or.inl ⟨by rfl, ?_⟩) hS0 ?_
  rotate_left
  · intro W _; go_simp; try with_reducible rfl
  try simp only [Act.put, List.getElem_toArray, List.getElem_cons_zero, List.getElem_cons_succ, List.setIfInBounds_toArray, List.set_cons_zero, List.set_cons_succ]
  refine wpAnyE_take (i := 5) (v := ?_) rfl (by kernel_rfl) (by kernel_rfl) (by kernel_rfl) (by kernel_rfl) (by kernel_rfl) (fun _ _ _ h => h) (Or.inl ⟨by rfl, ?_⟩) hS0 ?_
  rotate_left
  · intro W _; go_simp; try with_reducible rfl
  try simp only [Act.put, List.getElem_toArray, List.getElem_cons_zero, List.getElem_cons_succ, List.setIfInBounds_toArray, List.set_cons_zero, List.set_cons_succ]
  refine wpAnyE_take (i := 6) (v := ?_) rfl (by kernel_rfl) (by kernel_rfl) (by kernel_rfl) (by kernel_rfl) (by kernel_rfl) (fun _ _ _ h => h) (Or.inl ⟨by rfl, ?_⟩) hS0 ?_
  rotate_left
  · intro W _; go_simp; try with_reducible rfl
  try simp only [Act.put, List.getElem_toArray, List.getElem_cons_zero, List.getElem_cons_succ, List.setIfInBounds_toArray, List.set_cons_zero, List.set_cons_succ]
  refine wpAnyE_take (i := 7) (v := ?_) rfl (by kernel_rfl) (by kernel_rfl) (by kernel_rfl) (by kernel_rfl) (by kernel_rfl) (fun _ _ _ h => h) (Or.inl ⟨by rfl, ?_⟩) hS0 ?_
  rotate_left
  · intro W hSW; subst hSW; have hx := HB2.out.drewB.cellAt 1; try simp only [List.getElem?_toArray, List.getElem?_cons_succ, List.getElem?_cons_zero] at hx; go_simp; try with_reducible rfl
  try simp only [Act.put, List.getElem_toArray, List.getElem_cons_zero, List.getElem_cons_succ, List.setIfInBounds_toArray, List.set_cons_zero, List.set_cons_succ]
  refine wpAnyE_take (i := 8) (v := ?_) rfl (by kernel_rfl) (by kernel_rfl) (by kernel_rfl) (by kernel_rfl) (by kernel_rfl) (fun _ _ _ h => h) (Or.inl ⟨by rfl, ?_⟩) hS0 ?_
  rotate_left
  · intro W _; go_simp; try with_reducible rfl
  try simp only [Act.put, List.getElem_toArray, List.getElem_cons_zero, List.getElem_cons_succ, List.setIfInBounds_toArray, List.set_cons_zero, List.set_cons_succ]
  refine wpAnyE_take (i := 9) (v := ?_) rfl (by kernel_rfl) (by kernel_rfl) (by kernel_rfl) (by kernel_rfl) (by kernel_rfl) (fun _ _ _ h => h) (Or.inl ⟨by rfl, ?_⟩) hS0 ?_
  rotate_left
  · intro W _; go_simp; try with_reducible rfl
  try simp only [Act.put, List.getElem_toArray, List.getElem_cons_zero, List.getElem_cons_succ, List.setIfInBounds_toArray, List.set_cons_zero, List.set_cons_succ]
  refine wpAnyE_take (i := 10) (v := .agg #[.int .i64 y.1.1, .int .i64 y.1.2, .int .i64 y.2]) rfl (by kernel_rfl) (by kernel_rfl) (by kernel_rfl) (by kernel_rfl) (by kernel_rfl) (fun _ _ _ h => h) (yields_rg (by rfl) 62 _ rfl g (i * 3) rfl #[.int .i64 y.1.1, .int .i64 y.1.2, .int .i64 y.2] _ (fun W hW => by rw [hW]; exact range_keep HY2.out (Below.drew (Below.refl _ _))) Try.underlying62 rfl (by kernel_rfl)) hS0 ?_
  try simp only [Act.put, List.getElem_toArray, List.getElem_cons_zero, List.getElem_cons_succ, List.setIfInBounds_toArray, List.set_cons_zero, List.set_cons_succ]
  refine wpAnyE_take (i := 11) (v := ?_) rfl (by kernel_rfl) (by kernel_rfl) (by kernel_rfl) (by kernel_rfl) (by kernel_rfl) (fun _ _ _ h => h) (Or.inl ⟨by rfl, ?_⟩) hS0 ?_
  rotate_left
  · intro W _; go_simp; try with_reducible rfl
  try simp only [Act.put, List.getElem_toArray, List.getElem_cons_zero, List.getElem_cons_succ, List.setIfInBounds_toArray, List.set_cons_zero, List.set_cons_succ]
  refine wpAnyE_ready (rs := [12]) (by kernel_rfl) (by simp) ?_
  refine AllReadyE.last rfl (by kernel_rfl) (fun K hK => ?_) AllReadyE.nil
  rw [if_pos (by rfl)]
  refine store_elem_op (k := 3) 62 (.tmp 30) (.tmp 29) rfl 0 #[.int .i64 y.1.1, .int .i64 y.1.2, .int .i64 y.2] rfl rfl HO2.out 0 (by omega) (by rw [List.length_map]; omega) rfl (by kernel_rfl) (by kernel_rfl) ?_
  intro w3 hO3 hg3 hs3
  have HO3 := Lib.hid hO3; have HG3 := Lib.hid (drew_grown hg3); have HS3 : Hid (w3.heap.size = W2.heap.size) := hs3
  clear hO3 hg3 hs3
  refine hK.out _ _ ?_
  clear hK K
  try simp only [Act.put, List.getElem_toArray, List.getElem_cons_zero, List.getElem_cons_succ, List.setIfInBounds_toArray, List.set_cons_zero, List.set_cons_succ]
  refine wpAny_of_held (S := fun _ => True) _ _ _ _ ?_
  refine wpAnyH_done (by kernel_rfl) ?_ _
  have HB3 : Hid (Bk w3 h 60 #[F, .slice (some ⟨g, 0, none⟩) (i + 1) c, .int .i64 m]) := HB2.out.stays HG3.out (fun e => HHG.out (by injection e with e; exact e.symm))
  have c3 : w3.cell? ⟨h, 1, none⟩ = some (.slice (some ⟨g, 0, none⟩) (i + 1) c) := HB3.out.cellAt 1
  have HO3' : Hid (OwnK w3 b 62 3 (.slice (some ⟨g, 0, none⟩) (i + 1) c) ((l.set 0 y).map eP)) := by rw [List.map_set]; exact HO3.out
  clear c2 HO3 HO2 HY2
  go_wp2_with fail
  refine (delP_any b g (i + 1) c (l.set 0 y) i w3 (by rw [List.length_set]; omega) (by rw [List.length_set]; exact hi) HO3').mono ?_
  rintro e w4 ⟨rfl, hO4, hg4, hs4⟩
  have hg24 : GrP (fun q => (Value.slice (some ⟨g, 0, none⟩) (i + 1) c).ownBlock = some q) W2 w4 := (GrP.of HG3.out).trans (GrP.of hg4)
  have HB4 : Hid (Bk w4 h 60 #[F, .slice (some ⟨g, 0, none⟩) (i + 1) c, .int .i64 m]) := HB3.out.stays hg4 (fun e => HHG.out (by injection e with e; exact e.symm))
  have c4 : w4.cell? ⟨h, 1, none⟩ = some (.slice (some ⟨g, 0, none⟩) (i + 1) c) := HB4.out.cellAt 1
  have f4 : w4.frozen? ⟨h, 1, none⟩ = false := HB4.out.free 1
  have HU5 := Lib.hid (H2.out.turn hg24 hO4 fun k hk => .inl hk)
  clear c3 hO4 hg4 hs4 hg24 HO3' HB3 HG3
  go_wp2_with fail
  obtain ⟨W5, hW5⟩ : ∃ W, W = w4.setCell ⟨h, 1, none⟩ (.slice (some ⟨g, 0, none⟩) i c) := ⟨_, rfl⟩
  rw [← hW5] at HU5 ⊢
  clear hW5 c4 f4
  refine (sinkP_any b h F (some ⟨g, 0, none⟩) i c m _ lt 0 0 W5 (by omega) (by omega) (by omega) hO hW (Lib.hid HU5.out.2.1) HI).mono ?_
  rintro e w6 ⟨rfl, l', ⟨hp6, hperm, hg6⟩, hh6⟩
  have HT6 : Hid (Bk w6 w.heap.size 27 #[.int .i64 0, .int .i64 0]) := (HT2.out.grp HU5.out.1.2 (fun e => by have := hH.out.blk (HU5.out.1.1.elim fun v' hv' => e); omega)).grp hg6 (fun e => by have e' : g = w.heap.size := Option.some.inj e; omega)
  have HX6 : Hid (Bk w6 t4 27 #[.int .i64 x1, .int .i64 x2]) := (HX2.out.grp HU5.out.1.2 (fun e => by have h1 := hH.out.blk e; have h2 := HTT.out; omega)).grp hg6 (fun e => by have e' : g = t4 := Option.some.inj e; have h2 := HTT.out; omega)
  have H6 := Lib.hid hp6
  have HG6 : Hid (GrP (HpB h (.slice (some ⟨g, 0, none⟩) (i + 1) c)) w w6) := ((GrP.ofBelow hB2).trans (HU5.out.1.2)).andThen hg6 fun q _ e => .inr e
  clear hp6 hg6 HT2 HX2
  go_wp2_with (first | (with_reducible refine load_bk rfl 27 _ rfl t4 0 rfl 27 #[.int .i64 x1, .int .i64 x2] #[.int .i64 x1, .int .i64 x2] _ HX6.out (Part.whole _) Try.underlying27 rfl (by kernel_rfl) ?_) | (with_reducible refine store_bk rfl 27 _ _ rfl w.heap.size 0 #[.int .i64 x1, .int .i64 x2] rfl rfl 27 #[.int .i64 0, .int .i64 0] _ HT6.out (by kernel_rfl) (by simp) (by kernel_rfl) rfl ?_; intro w7 hB7 hg7 hs7))
  have hne7 : ∀ k, HpB h (.slice (some ⟨g, 0, none⟩) i c) k → ¬ (some w.heap.size = some k) := fun k hk e => by
    injection e with e
    have := hH.out.blk (k := k) (hk.imp id id)
    omega
  exact bodyPost_ret (v := .tuple #[vP (x1, x2), .bool true]) (results_bk2 rfl _ _ w.heap.size 27 #[.int .i64 x1, .int .i64 x2] _ (.bool true) rfl rfl hB7 Try.underlying27 rfl (by kernel_rfl)) rfl
    ⟨rfl, l', ⟨⟨_, H6.out.grp (GrP.of hg7) hne7, fun k hk => .inl hk⟩, HG6.out.andThen (GrP.of hg7) fun q hq e => by injection e with e; omega⟩, HL.out l' hperm hh6⟩
set_option maxHeartbeats 1600000 in
set_option maxRecDepth 100000 in
theorem popP_none (r : Value) (w : World) (hr : Hid (∀ W, Below w.heap.size w W → Calls Try.prog 15 #[r] W fun e w' => e = .returned (.tuple #[zP, .bool false]) ∧ Below W.heap.size W w')) :
    Calls Try.prog 13 #[r] w fun e w' => e = .returned (.tuple #[zP, .bool false]) ∧ Below w.heap.size w w' := by
  obtain ⟨W0, hW0⟩ : ∃ W0, W0 = w.alloc (.cells #[.int .i64 0, .int .i64 0] 27) := ⟨_, rfl⟩
  have hb0 : Below w.heap.size w W0 := by rw [hW0]; exact (Below.refl _ _).alloc (Nat.le_refl _) _
  have HT0 : Hid (Bk W0 w.heap.size 27 #[.int .i64 0, .int .i64 0]) := by rw [hW0]; exact Bk.fresh _ _ _
  go_enter Try.func13, Try.ntmps13
  go_wp2_with fail
  rw [← hW0]
  clear hW0
  refine (hr.out _ hb0).mono ?_; rintro e w1 ⟨rfl, hb1⟩
  obtain ⟨W2, hW2⟩ : ∃ W2, W2 = w1.alloc (.cells #[.int .i64 0, .int .i64 0] 27) := ⟨_, rfl⟩
  have hb2 : Below w1.heap.size w1 W2 := by rw [hW2]; exact (Below.refl _ _).alloc (Nat.le_refl _) _
  have hB2 : Below w.heap.size w W2 := (hb0.trans (hb1.mono hb0.size)).trans (hb2.mono (hb0.trans (hb1.mono hb0.size)).size)
  have HT2 : Hid (Bk W2 w.heap.size 27 #[.int .i64 0, .int .i64 0]) := (HT0.out.later hb1).later hb2
  have HX2 : Hid (Bk (w1.alloc (.cells #[.int .i64 0, .int .i64 0] 27)) w1.heap.size 27 #[.int .i64 0, .int .i64 0]) := Bk.fresh _ _ _
  have HT2' : Hid (Bk (w1.alloc (.cells #[.int .i64 0, .int .i64 0] 27)) w.heap.size 27 #[.int .i64 0, .int .i64 0]) := hW2 ▸ HT2
  have HBB : Hid (Below w.heap.size w (w1.alloc (.cells #[.int .i64 0, .int .i64 0] 27))) := hW2 ▸ hB2
  clear hW2 HT2 hB2 hb2
  go_wp2_with (first | (with_reducible refine load_bk rfl 27 _ rfl w1.heap.size 0 rfl 27 #[.int .i64 0, .int .i64 0] #[.int .i64 0, .int .i64 0] _ HX2.out (Part.whole _) Try.underlying27 rfl (by kernel_rfl) ?_) | (with_reducible refine store_bk rfl 27 _ _ rfl w.heap.size 0 #[.int .i64 0, .int .i64 0] rfl rfl 27 #[.int .i64 0, .int .i64 0] _ HT2'.out (by kernel_rfl) (by simp) (by kernel_rfl) rfl ?_; intro w7 hB7 hg7 hs7))
  exact bodyPost_ret (v := .tuple #[zP, .bool false]) (results_bk2 rfl _ _ w.heap.size 27 #[.int .i64 0, .int .i64 0] _ (.bool false) rfl rfl hB7 Try.underlying27 rfl (by kernel_rfl)) rfl ⟨rfl, grown_below HBB.out hg7 (Nat.le_refl _)⟩
theorem popP_nil (w : World) : Calls Try.prog 13 #[.pointer none] w fun e w' => e = .returned (.tuple #[zP, .bool false]) ∧ Below w.heap.size w w' := popP_none _ w fun W _ => topP_nil W
theorem popP_empty (b h : Nat) (F v : Value) (m : Int) (w : World) (hH : Hid (HpP w b h F v m [])) : Calls Try.prog 13 #[.pointer (some ⟨h, 0, none⟩)] w fun e w' => e = .returned (.tuple #[zP, .bool false]) ∧ Below w.heap.size w w' :=
  popP_none _ w fun W hb => topP_empty b h F v m W (Lib.hid (hH.out.below hb))

/-- The first one, or none. -/
def curP (C : List (Px × Int)) : Px := match C with | [] => (0, 0) | x :: _ => x.1
theorem UpP.same {w w' : World} {b h : Nat} {F v : Value} {m : Int} {l : List (Px × Int)} (H : HpP w b h F v m l) (hb : Below w.heap.size w w') : UpP w w' b h F v m l := ⟨⟨v, H.below hb, fun _ hk => .inl hk⟩, GrP.ofBelow hb⟩
theorem popP_any (b h : Nat) (F v : Value) (m M : Int) (l C : List (Px × Int)) (lt : Px → Px → Bool) (w : World) (hbig : l.length ≤ 1000) (hO : Hid (IsOP F lt)) (hW : Hid (WkO lt)) (hH : Hid (HpP w b h F v m l)) (hA : Hid (Hol lt M l C)) :
    Calls Try.prog 13 #[.pointer (some ⟨h, 0, none⟩)] w fun e w' => e = .returned (.tuple #[vP (curP C), .bool (decide (0 < C.length))]) ∧ ∃ l', UpP w w' b h F v m l' ∧ Hol lt M l' C.tail := by
  cases C with
  | nil =>
    have hl : l = [] := List.length_eq_zero_iff.1 hA.out.len
    subst hl
    refine (popP_empty b h F v m w hH).mono ?_
    rintro e w' ⟨rfl, hb⟩
    exact ⟨rfl, [], UpP.same hH.out hb, hA.out⟩
  | cons x B =>
    refine (popP_some b h F v m M l B lt x w hbig hO hW hH hA).mono ?_
    rintro e w' ⟨rfl, l', h1, h2⟩
    exact ⟨by simp [curP], l', h1, h2⟩
set_option maxHeartbeats 6400000 in
set_option maxRecDepth 100000 in
/-- The first one is taken out. -/
theorem popS_some (b h : Nat) (F v : Value) (m M : Int) (l B : List (ByteArray × Int)) (lt : ByteArray → ByteArray → Bool) (x : ByteArray × Int) (w : World) (hbig : l.length ≤ 1000) (hO : Hid (IsOS F lt)) (hW : Hid (WkO lt)) (hH : Hid (HpS w b h F v m l)) (hA : Hid (Hol lt M l (x :: B))) :
    Calls Try.prog 27 #[.pointer (some ⟨h, 0, none⟩)] w fun e w' => e = .returned (.tuple #[vS x.1, .bool true]) ∧ ∃ l', UpS w w' b h F v m l' ∧ Hol lt M l' B := by
  obtain ⟨h0, hx0⟩ := hA.out.head hW.out
  obtain ⟨i, hi⟩ : ∃ i, l.length = i + 1 := ⟨l.length - 1, by omega⟩
  obtain ⟨A, c, hv, hc1, hc2, har⟩ := hH.out.sl
  obtain ⟨g, hAg, hgh, hr⟩ := har i (by omega)
  subst hv hAg
  obtain ⟨y, hy⟩ : ∃ y, y = l[i] := ⟨_, rfl⟩
  rw [← hy] at hr
  have HY := Lib.hid hr
  have hglt : g < w.heap.size := range_lt hr (by simp)
  have HL : Hid (∀ l', l'.Perm ((l.set 0 y).take i) → HpF (leO lt) 0 l' → Hol lt M l' B) := fun l' h1 h2 => hA.out.pop hW.out ((h1.cons x).trans (by rw [← hx0, hy]; exact last_perm hi)) h2
  have HI : Hid (SkI (leO lt) 0 0 ((l.set 0 y).take i)) := ((hA.out.hp.root y).front i).sink
  have K1 := Lib.hid (fun (W : World) (hb : Below w.heap.size w W) => topS_some b h F _ m l x W (Lib.hid (by rw [List.getElem?_eq_getElem h0, hx0])) (Lib.hid (hH.out.below hb)))
  obtain ⟨x1, xt⟩ := x
  simp only [hi] at *
  have hw1 : wrap64 ((i : Int) + 1) = (i : Int) + 1 := by unfold wrap64; omega
  have hw2 : wrap64 ((i : Int) + 1 - 1) = (i : Int) := by unfold wrap64; omega
  have HHG := Lib.hid hgh
  have hi1 : (i : Int) < (i : Int) + 1 := by omega
  have hi2 : (0 : Int) < (i : Int) + 1 := by omega
  clear hr har hx0 hy hgh
  have hb0 : Below w.heap.size w w := Below.refl _ _
  go_enter Try.func27, Try.ntmps27
  go_wp2_with fail
  refine (K1.out _ hb0).mono ?_; rintro e w1 ⟨rfl, hb1⟩
  obtain ⟨W2, hW2⟩ : ∃ W2, W2 = w1 := ⟨_, rfl⟩
  have hB2 : Below w.heap.size w W2 := by rw [hW2]; exact hb1
  have H2 : Hid (HpS W2 b h F (.slice (some ⟨g, 0, none⟩) (i + 1) c) m l) := hH.out.below hB2
  have HB2 : Hid (Bk W2 h 52 #[F, .slice (some ⟨g, 0, none⟩) (i + 1) c, .int .i64 m]) := H2.out.bk
  have HO2 : Hid (OwnK W2.drew b 73 2 (.slice (some ⟨g, 0, none⟩) (i + 1) c) (l.map eS)) := H2.out.ow
  have HY2 : Hid (W2.rangeAt g (i * 2) (eS y)) := range_keep HY.out hB2
  have c2 : w1.cell? ⟨h, 1, none⟩ = some (.slice (some ⟨g, 0, none⟩) (i + 1) c) := (hH.out.bk.later (hb0.trans (hb1.mono hb0.size))).cellAt 1
  have hlt2 : h < w1.heap.size := (hH.out.bk.later (hb0.trans (hb1.mono hb0.size))).here
  clear K1 HY
  go_wp2_with fail
  rw [← hW2]
  clear hW2 hlt2 hb0
  refine wp_region_E (S := fun W => W = W2.drew) 12 (by kernel_rfl) (rfl) (fun hS0 => ?_)
  refine wpAnyE_take (i := 0) (v := ?_) rfl (by kernel_rfl) (by kernel_rfl) (by kernel_rfl) (by kernel_rfl) (by kernel_rfl) (fun _ _ _ h => h) (Or.inl ⟨by rfl, ?_⟩) hS0 ?_
  rotate_left
  · intro W _; go_simp; try with_reducible rfl
  try simp only [Act.put, List.getElem_toArray, List.getElem_cons_zero, List.setIfInBounds_toArray, List.set_cons_zero, List.set_cons_succ]
  refine wpAnyE_take (i := 1) (v := ?_) rfl (by kernel_rfl) (by kernel_rfl) (by kernel_rfl) (by kernel_rfl) (by kernel_rfl) (fun _ _ _ h => h) (Or.inl ⟨by rfl, ?_⟩) hS0 ?_
  rotate_left
  · intro W _; go_simp; try with_reducible rfl
  try simp only [Act.put, List.getElem_toArray, List.getElem_cons_zero, List.getElem_cons_succ, List.setIfInBounds_toArray, List.set_cons_zero, List.set_cons_succ]
  refine wpAnyE_take (i := 2) (v := ?_) rfl (by kernel_rfl) (by kernel_rfl) (by kernel_rfl) (by kernel_rfl) (by kernel_rfl) (fun _ _ _ h => h) (Or.inl ⟨by rfl, ?_⟩) hS0 ?_
  rotate_left
  · intro W _; go_simp; try with_reducible rfl
  try simp only [Act.put, List.getElem_toArray, List.getElem_cons_zero, List.getElem_cons_succ, List.setIfInBounds_toArray, List.set_cons_zero, List.set_cons_succ]
  refine wpAnyE_take (i := 3) (v := ?_) rfl (by kernel_rfl) (by kernel_rfl) (by kernel_rfl) (by kernel_rfl) (by kernel_rfl) (fun _ _ _ h => h) (Or.inl ⟨by rfl, ?_⟩) hS0 ?_
  rotate_left
  · intro W hSW; subst hSW; have hx := HB2.out.drewB.cellAt 1; try simp only [List.getElem?_toArray, List.getElem?_cons_succ, List.getElem?_cons_zero] at hx; go_simp; try with_reducible rfl
  try simp only [Act.put, List.getElem_toArray, List.getElem_cons_zero, List.getElem_cons_succ, List.setIfInBounds_toArray, List.set_cons_zero, List.set_cons_succ]
  refine wpAnyE_take (i := 4) (v := ?_) rfl (by kernel_rfl) (by kernel_rfl) (by kernel_rfl) (by kernel_rfl) (by kernel_rfl) (fun _ _ _ h => h) (Or.inl ⟨by rfl, ?_⟩) hS0 ?_
  rotate_left
  · intro W _; go_simp; try with_reducible rfl
  try simp only [Act.put, List.getElem_toArray, List.getElem_cons_zero, List.getElem_cons_succ, List.setIfInBounds_toArray, List.set_cons_zero, List.set_cons_succ]
  refine wpAnyE_take (i := 5) (v := ?_) rfl (by kernel_rfl) (by kernel_rfl) (by kernel_rfl) (by kernel_rfl) (by kernel_rfl) (fun _ _ _ h => h) (Or.inl ⟨by rfl, ?_⟩) hS0 ?_
  rotate_left
  · intro W _; go_simp; try with_reducible rfl
  try simp only [Act.put, List.getElem_toArray, List.getElem_cons_zero, List.getElem_cons_succ, List.setIfInBounds_toArray, List.set_cons_zero, List.set_cons_succ]
  refine wpAnyE_take (i := 6) (v := ?_) rfl (by kernel_rfl) (by kernel_rfl) (by kernel_rfl) (by kernel_rfl) (by kernel_rfl) (fun _ _ _ h => h) (Or.inl ⟨by rfl, ?_⟩) hS0 ?_
  rotate_left
  · intro W _; go_simp; try with_reducible rfl
  try simp only [Act.put, List.getElem_toArray, List.getElem_cons_zero, List.getElem_cons_succ, List.setIfInBounds_toArray, List.set_cons_zero, List.set_cons_succ]
  refine wpAnyE_take (i := 7) (v := ?_) rfl (by kernel_rfl) (by kernel_rfl) (by kernel_rfl) (by kernel_rfl) (by kernel_rfl) (fun _ _ _ h => h) (Or.inl ⟨by rfl, ?_⟩) hS0 ?_
  rotate_left
  · intro W hSW; subst hSW; have hx := HB2.out.drewB.cellAt 1; try simp only [List.getElem?_toArray, List.getElem?_cons_succ, List.getElem?_cons_zero] at hx; go_simp; try with_reducible rfl
  try simp only [Act.put, List.getElem_toArray, List.getElem_cons_zero, List.getElem_cons_succ, List.setIfInBounds_toArray, List.set_cons_zero, List.set_cons_succ]
  refine wpAnyE_take (i := 8) (v := ?_) rfl (by kernel_rfl) (by kernel_rfl) (by kernel_rfl) (by kernel_rfl) (by kernel_rfl) (fun _ _ _ h => h) (Or.inl ⟨by rfl, ?_⟩) hS0 ?_
  rotate_left
  · intro W _; go_simp; try with_reducible rfl
  try simp only [Act.put, List.getElem_toArray, List.getElem_cons_zero, List.getElem_cons_succ, List.setIfInBounds_toArray, List.set_cons_zero, List.set_cons_succ]
  refine wpAnyE_take (i := 9) (v := ?_) rfl (by kernel_rfl) (by kernel_rfl) (by kernel_rfl) (by kernel_rfl) (by kernel_rfl) (fun _ _ _ h => h) (Or.inl ⟨by rfl, ?_⟩) hS0 ?_
  rotate_left
  · intro W _; go_simp; try with_reducible rfl
  try simp only [Act.put, List.getElem_toArray, List.getElem_cons_zero, List.getElem_cons_succ, List.setIfInBounds_toArray, List.set_cons_zero, List.set_cons_succ]
  refine wpAnyE_take (i := 10) (v := .agg #[.string y.1, .int .i64 y.2]) rfl (by kernel_rfl) (by kernel_rfl) (by kernel_rfl) (by kernel_rfl) (by kernel_rfl) (fun _ _ _ h => h) (yields_rg (by rfl) 73 _ rfl g (i * 2) rfl #[.string y.1, .int .i64 y.2] _ (fun W hW => by rw [hW]; exact range_keep HY2.out (Below.drew (Below.refl _ _))) Try.underlying73 rfl (by kernel_rfl)) hS0 ?_
  try simp only [Act.put, List.getElem_toArray, List.getElem_cons_zero, List.getElem_cons_succ, List.setIfInBounds_toArray, List.set_cons_zero, List.set_cons_succ]
  refine wpAnyE_take (i := 11) (v := ?_) rfl (by kernel_rfl) (by kernel_rfl) (by kernel_rfl) (by kernel_rfl) (by kernel_rfl) (fun _ _ _ h => h) (Or.inl ⟨by rfl, ?_⟩) hS0 ?_
  rotate_left
  · intro W _; go_simp; try with_reducible rfl
  try simp only [Act.put, List.getElem_toArray, List.getElem_cons_zero, List.getElem_cons_succ, List.setIfInBounds_toArray, List.set_cons_zero, List.set_cons_succ]
  refine wpAnyE_ready (rs := [12]) (by kernel_rfl) (by simp) ?_
  refine AllReadyE.last rfl (by kernel_rfl) (fun K hK => ?_) AllReadyE.nil
  rw [if_pos (by rfl)]
  refine store_elem_op (k := 2) 73 (.tmp 30) (.tmp 29) rfl 0 #[.string y.1, .int .i64 y.2] rfl rfl HO2.out 0 (by omega) (by rw [List.length_map]; omega) rfl (by kernel_rfl) (by kernel_rfl) ?_
  intro w3 hO3 hg3 hs3
  have HO3 := Lib.hid hO3; have HG3 := Lib.hid (drew_grown hg3); have HS3 : Hid (w3.heap.size = W2.heap.size) := hs3
  clear hO3 hg3 hs3
  refine hK.out _ _ ?_
  clear hK K
  try simp only [Act.put, List.getElem_toArray, List.getElem_cons_zero, List.getElem_cons_succ, List.setIfInBounds_toArray, List.set_cons_zero, List.set_cons_succ]
  refine wpAny_of_held (S := fun _ => True) _ _ _ _ ?_
  refine wpAnyH_done (by kernel_rfl) ?_ _
  have HB3 : Hid (Bk w3 h 52 #[F, .slice (some ⟨g, 0, none⟩) (i + 1) c, .int .i64 m]) := HB2.out.stays HG3.out (fun e => HHG.out (by injection e with e; exact e.symm))
  have c3 : w3.cell? ⟨h, 1, none⟩ = some (.slice (some ⟨g, 0, none⟩) (i + 1) c) := HB3.out.cellAt 1
  have HO3' : Hid (OwnK w3 b 73 2 (.slice (some ⟨g, 0, none⟩) (i + 1) c) ((l.set 0 y).map eS)) := by rw [List.map_set]; exact HO3.out
  clear c2 HO3 HO2 HY2
  go_wp2_with fail
  refine (delS_any b g (i + 1) c (l.set 0 y) i w3 (by rw [List.length_set]; omega) (by rw [List.length_set]; exact hi) HO3').mono ?_
  rintro e w4 ⟨rfl, hO4, hg4, hs4⟩
  have hg24 : GrP (fun q => (Value.slice (some ⟨g, 0, none⟩) (i + 1) c).ownBlock = some q) W2 w4 := (GrP.of HG3.out).trans (GrP.of hg4)
  have HB4 : Hid (Bk w4 h 52 #[F, .slice (some ⟨g, 0, none⟩) (i + 1) c, .int .i64 m]) := HB3.out.stays hg4 (fun e => HHG.out (by injection e with e; exact e.symm))
  have c4 : w4.cell? ⟨h, 1, none⟩ = some (.slice (some ⟨g, 0, none⟩) (i + 1) c) := HB4.out.cellAt 1
  have f4 : w4.frozen? ⟨h, 1, none⟩ = false := HB4.out.free 1
  have HU5 := Lib.hid (H2.out.turn hg24 hO4 fun k hk => .inl hk)
  clear c3 hO4 hg4 hs4 hg24 HO3' HB3 HG3
  go_wp2_with fail
  obtain ⟨W5, hW5⟩ : ∃ W, W = w4.setCell ⟨h, 1, none⟩ (.slice (some ⟨g, 0, none⟩) i c) := ⟨_, rfl⟩
  rw [← hW5] at HU5 ⊢
  clear hW5 c4 f4
  refine (sinkS_any b h F (some ⟨g, 0, none⟩) i c m _ lt 0 0 W5 (by omega) (by omega) (by omega) hO hW (Lib.hid HU5.out.2.1) HI).mono ?_
  rintro e w6 ⟨rfl, l', ⟨hp6, hperm, hg6⟩, hh6⟩
  go_wp2_with fail
  exact bodyPost_ret (v := .tuple #[vS x1, .bool true]) (by simp [results, Try.results27, go_sem]) rfl
    ⟨rfl, l', ⟨⟨_, hp6, fun k hk => .inl hk⟩, ((GrP.ofBelow hB2).trans (HU5.out.1.2)).andThen hg6 fun q _ e => .inr e⟩, HL.out l' hperm hh6⟩
set_option maxHeartbeats 1600000 in
set_option maxRecDepth 100000 in
theorem popS_none (r : Value) (w : World) (hr : Hid (∀ W, Below w.heap.size w W → Calls Try.prog 40 #[r] W fun e w' => e = .returned (.tuple #[zS, .bool false]) ∧ Below W.heap.size W w')) :
    Calls Try.prog 27 #[r] w fun e w' => e = .returned (.tuple #[zS, .bool false]) ∧ Below w.heap.size w w' := by
  go_enter Try.func27, Try.ntmps27
  go_wp2_with fail
  refine (hr.out _ (Below.refl _ _)).mono ?_; rintro e w1 ⟨rfl, hb1⟩
  go_wp2_with fail
  exact bodyPost_ret (v := .tuple #[zS, .bool false]) (by simp [results, Try.results27, go_sem]) rfl ⟨rfl, hb1⟩
theorem popS_nil (w : World) : Calls Try.prog 27 #[.pointer none] w fun e w' => e = .returned (.tuple #[zS, .bool false]) ∧ Below w.heap.size w w' := popS_none _ w fun W _ => topS_nil W
theorem popS_empty (b h : Nat) (F v : Value) (m : Int) (w : World) (hH : Hid (HpS w b h F v m [])) : Calls Try.prog 27 #[.pointer (some ⟨h, 0, none⟩)] w fun e w' => e = .returned (.tuple #[zS, .bool false]) ∧ Below w.heap.size w w' :=
  popS_none _ w fun W hb => topS_empty b h F v m W (Lib.hid (hH.out.below hb))

/-- The first one, or none. -/
def curS (C : List (ByteArray × Int)) : ByteArray := match C with | [] => ⟨#[]⟩ | x :: _ => x.1
theorem UpS.same {w w' : World} {b h : Nat} {F v : Value} {m : Int} {l : List (ByteArray × Int)} (H : HpS w b h F v m l) (hb : Below w.heap.size w w') : UpS w w' b h F v m l := ⟨⟨v, H.below hb, fun _ hk => .inl hk⟩, GrP.ofBelow hb⟩
theorem popS_any (b h : Nat) (F v : Value) (m M : Int) (l C : List (ByteArray × Int)) (lt : ByteArray → ByteArray → Bool) (w : World) (hbig : l.length ≤ 1000) (hO : Hid (IsOS F lt)) (hW : Hid (WkO lt)) (hH : Hid (HpS w b h F v m l)) (hA : Hid (Hol lt M l C)) :
    Calls Try.prog 27 #[.pointer (some ⟨h, 0, none⟩)] w fun e w' => e = .returned (.tuple #[vS (curS C), .bool (decide (0 < C.length))]) ∧ ∃ l', UpS w w' b h F v m l' ∧ Hol lt M l' C.tail := by
  cases C with
  | nil =>
    have hl : l = [] := List.length_eq_zero_iff.1 hA.out.len
    subst hl
    refine (popS_empty b h F v m w hH).mono ?_
    rintro e w' ⟨rfl, hb⟩
    exact ⟨rfl, [], UpS.same hH.out hb, hA.out⟩
  | cons x B =>
    refine (popS_some b h F v m M l B lt x w hbig hO hW hH hA).mono ?_
    rintro e w' ⟨rfl, l', h1, h2⟩
    exact ⟨by simp [curS], l', h1, h2⟩
end Go.Proofs.Ytkadcaihihgceaa
