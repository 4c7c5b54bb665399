/- New, Len, Push. Condition: at most 900 entries ahead of a Push. -/
import Derived.Test.YtkadcaihihgceaaHp3
namespace Go.Proofs.Ytkadcaihihgceaa
open Go.RowKit
set_option linter.unusedSimpArgs false
set_option linter.unusedVariables false

theorem GrP.andThen {p q : Nat → Prop} {a b c : World} (h : GrP p a b) (k : GrP q b c) (hs : ∀ i, i < a.heap.size → q i → p i) : GrP p a c :=
  ⟨k.os.trans h.os, k.tape.trans h.tape, k.output.trans h.output, Nat.le_trans h.size k.size, fun i hi hn => (k.block i (Nat.lt_of_lt_of_le hi h.size) (fun e => hn (hs i hi e))).trans (h.block i hi hn)⟩
section
variable {P : Program}
theorem append_ka_op (w : World) {o : Oper} {a : Act} {K : Act → World → Prop} {Q : Exit → Act → World → Prop}
    (s x : Operand) (t : TypeId) (hop : o.op = Op.call { callee := Callee.builtin Builtin.append, args := #[s, x], argTypes := #[t, t] })
    (base : Nat) (e : TypeId) (z : Value) (k b : Nat) (h1 : P.underlying t = some (.slice e)) (h2 : (P.info? e).map (fun i => (i.zero, i.size, i.bytes)) = some (some z, k, b)) (hz : z.cells.size = k) (hk : 0 < k)
    (v : Value) (l : List (List Value)) (hs : a.eval s = v) (hown : OwnK w base e k v l) (ad : Addr) (c m : Nat) (news : List (List Value))
    (hx : a.eval x = .slice (some ad) m c) (hr : RdK w k (some ad) news) (hn : ∀ y ∈ news, y.length = k) (hone : ∀ y ∈ news, ∀ u ∈ y, u.oneCell' = true) (hm : m = news.length)
    (b0 : l.length + news.length ≤ maxLen) (b1 : (l.length + news.length) * b ≤ 140737488355328) (hbase : base ≤ w.heap.size)
    (hK : ∀ v' w', OwnK w' base e k v' (l ++ news) → w.grownBy w' v.ownBlock → (v'.ownBlock = v.ownBlock ∨ v'.ownBlock = some w.heap.size) → K (a.put o.dst v') w') : o.wp P a w K Q := by
  subst hm
  obtain ⟨i, hi, hiz, his, hib⟩ := info_partsK h2
  obtain ⟨v', w', hrun, r1, r2, r3, r4⟩ := run_append_own_at (P := P) w base t o.type e i z k b h1 hi hiz his hib hz hk v l.length l.flatten hown.2 ad news.length c news.flatten (flat_length hn) (hr.cells hn)
    (fun u hu => by obtain ⟨y, hy, hu'⟩ := List.mem_flatten.1 hu; exact hone y hy u hu') b0 b1 hbase
  unfold Oper.wp
  simp [execOp, hop, resolve, invoke, builtin, hs, hx, hrun, Result.andThen]
  exact hK v' w' ⟨fun y hy => (List.mem_append.1 hy).elim (hown.1 y) (hn y), by rw [List.length_append, List.flatten_append]; exact r1⟩ r2 r4
end
theorem infoEP : (Try.prog.info? 62).map (fun i => (i.zero, i.size, i.bytes)) = some (some (.agg #[.int .i64 0, .int .i64 0, .int .i64 0]), 3, 24) := by kernel_rfl
theorem infoES : (Try.prog.info? 73).map (fun i => (i.zero, i.size, i.bytes)) = some (some (.agg #[.string ⟨#[]⟩, .int .i64 0]), 2, 24) := by kernel_rfl
section
variable {o : Oper} {a : Act} {w : World} {K : Act → World → Prop} {Q : Exit → Act → World → Prop}
theorem oneP_op (t : Tmp) (a1 a2 a3 : Int) (ho : o.op = .buildSlice 58 1 #[(0, .tmp t)]) (hx : a.tmps[t]?.getD undef = .agg #[.int .i64 a1, .int .i64 a2, .int .i64 a3]) (h : ∀ g w', g = w.heap.size → w'.heap.size = w.heap.size + 1 → Bk w' g 62 #[.int .i64 a1, .int .i64 a2, .int .i64 a3] → Below w.heap.size w w' → K (a.put o.dst (.slice (some ⟨g, 0, none⟩) 1 1)) w') : o.wp Try.prog a w K Q := by
  unfold Oper.wp execOp
  simp only [ho]
  go_simp
  exact h _ _ rfl (by simp) (Bk.fresh w _ _) ((Below.refl _ _).alloc (Nat.le_refl _) _)
end
/-- A heap at h has become one of these entries: nothing but its own blocks has turned; its blocks are its own, or new ones. -/
def UpP (w w' : World) (b h : Nat) (F v : Value) (m : Int) (l : List (Px × Int)) : Prop :=
  (∃ v', HpP w' b h F v' m l ∧ ∀ k, HpB h v' k → HpB h v k ∨ w.heap.size ≤ k) ∧ GrP (HpB h v) w w'
section
variable {w w3 : World} {b h : Nat} {F v v' : Value} {m m' : Int} {l l' : List (Px × Int)}
theorem HpP.setN (H : HpP w b h F v m l) (m' : Int) : HpP (w.setCell ⟨h, 2, none⟩ (.int .i64 m')) b h F v m' l :=
  ⟨H.bk.put 2 _, H.ow.grp ((GrP.refl (fun k => k = h) w).set rfl _) fun k hk e => by subst e; exact H.off hk, H.le⟩
/-- Another row is laid in a heap. -/
theorem HpP.turn (H : HpP w b h F v m l) (hg : GrP (fun q => v.ownBlock = some q) w w3) (hO : OwnK w3 b 62 3 v' (l'.map eP)) (hat : ∀ k, v'.ownBlock = some k → v.ownBlock = some k ∨ w.heap.size ≤ k) :
    UpP w (w3.setCell ⟨h, 1, none⟩ v') b h F v m l' ∧ HpP (w3.setCell ⟨h, 1, none⟩ v') b h F v' m l' ∧ ∀ k, HpB h v' k → HpB h v k ∨ w.heap.size ≤ k := by
  have hb3 : Bk w3 h 60 #[F, v, .int .i64 m] := H.bk.grp hg fun e => H.off e
  have hh := H.bk.here
  have h1 : HpP (w3.setCell ⟨h, 1, none⟩ v') b h F v' m l' := ⟨hb3.put 1 _, hO.grp ((GrP.refl (fun k => k = h) w3).set rfl _) (fun k hk e => by
    subst e
    rcases hat _ hk with e | e
    · exact H.off e
    · omega), H.le⟩
  have h2 : ∀ k, HpB h v' k → HpB h v k ∨ w.heap.size ≤ k := fun k hk => by
    rcases hk with e | e
    · exact .inl (.inl e)
    · exact (hat k e).imp .inr id
  exact ⟨⟨⟨v', h1, h2⟩, (hg.wide fun k _ e => .inr e).set (.inl rfl) _⟩, h1, h2⟩
end
set_option maxHeartbeats 1600000 in
set_option maxRecDepth 100000 in
theorem newP_any (F : Value) (lt : Px → Px → Bool) (w : World) (hF : Hid (IsOP F lt)) : Calls Try.prog 9 #[F] w fun e w' => e = .returned (.pointer (some ⟨w.heap.size, 0, none⟩)) ∧ HpP w' w.heap.size w.heap.size F (.slice none 0 0) 0 [] ∧ Below w.heap.size w w' := by
  obtain ⟨rfl, _⟩ := hF.out
  go_enter Try.func9, Try.ntmps9
  go_wp2_with fail
  all_goals go_ret
  all_goals exact ⟨rfl, ⟨Bk.fresh _ _ _, OwnK.nil _ _ _ _, Nat.le_refl _⟩, (Below.refl _ _).alloc (Nat.le_refl _) _⟩
set_option maxHeartbeats 1600000 in
set_option maxRecDepth 100000 in
theorem lenP_any (b h : Nat) (F v : Value) (m : Int) (l : List (Px × Int)) (w : World) (hH : Hid (HpP w b h F v m l)) : Calls Try.prog 22 #[.pointer (some ⟨h, 0, none⟩)] w fun e w' => e = .returned (.int .i64 l.length) ∧ w' = w := by
  obtain ⟨A, c, hv, _, _, _⟩ := hH.out.sl
  subst hv
  have hc : w.cell? ⟨h, 1, none⟩ = some (.slice A l.length c) := hH.out.bk.cellAt 1
  go_enter Try.func22, Try.ntmps22
  go_wp2_with fail
  all_goals go_ret
  all_goals exact ⟨rfl, rfl⟩
set_option maxHeartbeats 1600000 in
set_option maxRecDepth 100000 in
theorem lenP_nil (w : World) : Calls Try.prog 22 #[.pointer none] w fun e w' => e = .returned (.int .i64 0) ∧ w' = w := by
  go_enter Try.func22, Try.ntmps22
  go_wp2_with fail
  all_goals go_ret
  all_goals exact ⟨rfl, rfl⟩
set_option maxHeartbeats 6400000 in
set_option maxRecDepth 100000 in
/-- An element is inserted. -/
theorem pushP_any (b h : Nat) (F v : Value) (m : Int) (l B : List (Px × Int)) (lt : Px → Px → Bool) (x : Px) (w : World) (hbig : l.length ≤ 900) (hm0 : 0 ≤ m) (hm1 : m ≤ 1000000) (hO : Hid (IsOP F lt)) (hW : Hid (WkO lt)) (hH : Hid (HpP w b h F v m l)) (hA : Hid (Hol lt m l B)) :
    Calls Try.prog 11 #[.pointer (some ⟨h, 0, none⟩), vP x] w fun e w' => e = .returned (.tuple #[]) ∧ ∃ l', UpP w w' b h F v (m + 1) l' ∧ Hol lt (m + 1) l' (insL lt (x, m) B) := by
  obtain ⟨A, c, hv, _, _, _⟩ := hH.out.sl
  obtain ⟨n, hn⟩ : ∃ n, n = l.length := ⟨_, rfl⟩
  rw [← hn] at hv hbig
  subst hv
  have HN := Lib.hid hn
  clear hn
  have HOFF : Hid (some h ≠ (Value.slice A n c).ownBlock) := fun e => hH.out.off e.symm
  have HOFX : Hid (some w.heap.size ≠ (Value.slice A n c).ownBlock) := fun e => by have := hH.out.ow.lt e.symm; omega
  obtain ⟨W0, hW0⟩ : ∃ W0, W0 = w.alloc (.cells #[.int .i64 x.1, .int .i64 x.2] 27) := ⟨_, rfl⟩
  have hbW : Below w.heap.size w W0 := by rw [hW0]; exact (Below.refl _ _).alloc (Nat.le_refl _) _
  have HB0 : Hid (Bk W0 h 60 #[F, .slice A n c, .int .i64 m]) := hH.out.bk.later hbW
  have HX0 : Hid (Bk W0 w.heap.size 27 #[.int .i64 x.1, .int .i64 x.2]) := by rw [hW0]; exact Bk.fresh _ _ _
  have hwm : wrap64 (m + 1) = m + 1 := by unfold wrap64; omega
  go_enter Try.func11, Try.ntmps11
  go_wp2_with fail
  rw [← hW0]
  clear hW0
  refine wp_region_E (S := fun W => (Bk W h 60 #[F, .slice A n c, .int .i64 m] ∧ Bk W w.heap.size 27 #[.int .i64 x.1, .int .i64 x.2]) ∧ GrP (fun q => (Value.slice A n c).ownBlock = some q) w W) 15 (by kernel_rfl) (⟨⟨HB0.out.drewB, HX0.out.drewB⟩, GrP.ofBelow (Below.drew hbW)⟩) (fun hS0 => ?_)
  refine wpAnyE_take (i := 0) (v := ?_) rfl (by kernel_rfl) (by kernel_rfl) (by kernel_rfl) (by kernel_rfl) (by kernel_rfl) (fun _ _ _ h => h) (Or.inl ⟨by rfl, ?_⟩) hS0 ?_
  rotate_left
  · intro W _; go_simp; try with_reducible rfl
  try simp only [Act.put, List.getElem_toArray, List.getElem_cons_zero, List.setIfInBounds_toArray, List.set_cons_zero, List.set_cons_succ]
  refine wpAnyE_take (i := 1) (v := ?_) rfl (by kernel_rfl) (by kernel_rfl) (by kernel_rfl) (by kernel_rfl) (by kernel_rfl) (fun _ _ _ h => h) (Or.inl ⟨by rfl, ?_⟩) hS0 ?_
  rotate_left
  · intro W _; go_simp; try with_reducible rfl
  try simp only [Act.put, List.getElem_toArray, List.getElem_cons_zero, List.getElem_cons_succ, List.setIfInBounds_toArray, List.set_cons_zero, List.set_cons_succ]
  refine wpAnyE_take (i := 2) (v := ?_) rfl (by kernel_rfl) (by kernel_rfl) (by kernel_rfl) (by kernel_rfl) (by kernel_rfl) (fun _ _ _ h => h) (Or.inl ⟨by rfl, ?_⟩) hS0 ?_
  rotate_left
  · intro W _; go_simp; try with_reducible rfl
  try simp only [Act.put, List.getElem_toArray, List.getElem_cons_zero, List.getElem_cons_succ, List.setIfInBounds_toArray, List.set_cons_zero, List.set_cons_succ]
  refine wpAnyE_take (i := 3) (v := ?_) rfl (by kernel_rfl) (by kernel_rfl) (by kernel_rfl) (by kernel_rfl) (by kernel_rfl) (fun _ _ _ h => h) (Or.inl ⟨by rfl, ?_⟩) hS0 ?_
  rotate_left
  · intro W _; go_simp; try with_reducible rfl
  try simp only [Act.put, List.getElem_toArray, List.getElem_cons_zero, List.getElem_cons_succ, List.setIfInBounds_toArray, List.set_cons_zero, List.set_cons_succ]
  refine wpAnyE_take (i := 4) (v := ?_) rfl (by kernel_rfl) (by kernel_rfl) (by kernel_rfl) (by kernel_rfl) (by kernel_rfl) (fun _ _ _ h => h) (Or.inl ⟨by rfl, ?_⟩) hS0 ?_
  rotate_left
  · intro W hSW; have hx := hSW.1.1.cellAt 1; try simp only [List.getElem?_toArray, List.getElem?_cons_succ, List.getElem?_cons_zero] at hx; go_simp; try with_reducible rfl
  try simp only [Act.put, List.getElem_toArray, List.getElem_cons_zero, List.getElem_cons_succ, List.setIfInBounds_toArray, List.set_cons_zero, List.set_cons_succ]
  refine wpAnyE_take (i := 5) (v := .agg #[.int .i64 x.1, .int .i64 x.2]) rfl (by kernel_rfl) (by kernel_rfl) (by kernel_rfl) (by kernel_rfl) (by kernel_rfl) (fun _ _ _ h => h) (yields_bk (by rfl) 27 _ rfl w.heap.size 0 rfl 27 #[.int .i64 x.1, .int .i64 x.2] #[.int .i64 x.1, .int .i64 x.2] _ (fun W hW => hW.1.2) (Part.whole _) Try.underlying27 rfl (by kernel_rfl)) hS0 ?_
  try simp only [Act.put, List.getElem_toArray, List.getElem_cons_zero, List.getElem_cons_succ, List.setIfInBounds_toArray, List.set_cons_zero, List.set_cons_succ]
  refine wpAnyE_take (i := 6) (v := ?_) rfl (by kernel_rfl) (by kernel_rfl) (by kernel_rfl) (by kernel_rfl) (by kernel_rfl) (fun _ _ _ h => h) (Or.inl ⟨by rfl, ?_⟩) hS0 ?_
  rotate_left
  · intro W _; go_simp; try with_reducible rfl
  try simp only [Act.put, List.getElem_toArray, List.getElem_cons_zero, List.getElem_cons_succ, List.setIfInBounds_toArray, List.set_cons_zero, List.set_cons_succ]
  refine wpAnyE_take (i := 7) (v := ?_) rfl (by kernel_rfl) (by kernel_rfl) (by kernel_rfl) (by kernel_rfl) (by kernel_rfl) (fun _ _ _ h => h) (Or.inl ⟨by rfl, ?_⟩) hS0 ?_
  rotate_left
  · intro W _; go_simp; try with_reducible rfl
  try simp only [Act.put, List.getElem_toArray, List.getElem_cons_zero, List.getElem_cons_succ, List.setIfInBounds_toArray, List.set_cons_zero, List.set_cons_succ]
  refine wpAnyE_take (i := 8) (v := ?_) rfl (by kernel_rfl) (by kernel_rfl) (by kernel_rfl) (by kernel_rfl) (by kernel_rfl) (fun _ _ _ h => h) (Or.inl ⟨by rfl, ?_⟩) hS0 ?_
  rotate_left
  · intro W _; go_simp; try with_reducible rfl
  try simp only [Act.put, List.getElem_toArray, List.getElem_cons_zero, List.getElem_cons_succ, List.setIfInBounds_toArray, List.set_cons_zero, List.set_cons_succ]
  refine wpAnyE_take (i := 9) (v := ?_) rfl (by kernel_rfl) (by kernel_rfl) (by kernel_rfl) (by kernel_rfl) (by kernel_rfl) (fun _ _ _ h => h) (Or.inl ⟨by rfl, ?_⟩) hS0 ?_
  rotate_left
  · intro W hSW; have hx := hSW.1.1.cellAt 2; try simp only [List.getElem?_toArray, List.getElem?_cons_succ, List.getElem?_cons_zero] at hx; go_simp; try with_reducible rfl
  try simp only [Act.put, List.getElem_toArray, List.getElem_cons_zero, List.getElem_cons_succ, List.setIfInBounds_toArray, List.set_cons_zero, List.set_cons_succ]
  refine wpAnyE_take (i := 10) (v := ?_) rfl (by kernel_rfl) (by kernel_rfl) (by kernel_rfl) (by kernel_rfl) (by kernel_rfl) (fun _ _ _ h => h) (Or.inl ⟨by rfl, ?_⟩) hS0 ?_
  rotate_left
  · intro W _; go_simp; try with_reducible rfl
  try simp only [Act.put, List.getElem_toArray, List.getElem_cons_zero, List.getElem_cons_succ, List.setIfInBounds_toArray, List.set_cons_zero, List.set_cons_succ]
  refine wpAnyE_ready (rs := [11]) (by kernel_rfl) (by simp) ?_
  refine AllReadyE.cons rfl (fun K hK => ?_) AllReadyE.nil
  rw [if_pos (by rfl)]
  refine oneP_op 16 x.1 x.2 m rfl rfl ?_
  intro g2 w2 hg2 hsz2 hB2 hb2
  refine hK.out _ _ (⟨⟨hS0.1.1.later hb2, hS0.1.2.later hb2⟩, hS0.2.trans (GrP.ofBelow hb2)⟩) (fun hS1 => ?_)
  clear hK K
  try simp only [Act.put, List.getElem_toArray, List.getElem_cons_zero, List.getElem_cons_succ, List.setIfInBounds_toArray, List.set_cons_zero, List.set_cons_succ]
  have HS1 := Lib.hid hS1; have HB2 := Lib.hid hB2; have HL2 : Hid (Below w.heap.size w w2) := hbW.trans ((show Below W0.heap.size W0 w2 from (show Below W0.heap.size W0 W0.drew from Below.drew (Below.refl _ _)).trans hb2).mono hbW.size); have HO2 : Hid (OwnK w2 b 62 3 (.slice A n c) (l.map eP)) := hH.out.ow.below HL2.out; clear hB2 hg2 hsz2 hb2 hS1 hS0
  refine wpAnyE_ready (rs := [12]) (by kernel_rfl) (by simp) ?_
  refine AllReadyE.cons rfl (fun K hK => ?_) AllReadyE.nil
  rw [if_pos (by rfl)]
  refine append_ka_op _ (.tmp 10) (.tmp 17) 58 rfl b 62 _ 3 24 Try.underlying58 infoEP rfl (by omega) _ _ rfl HO2.out ⟨g2, 0, none⟩ 1 1 [eP (x, m)] rfl (RdK.of_bk HB2.out) (by simp) (by simp; refine ⟨rfl, ?_⟩; first | exact ⟨rfl, rfl⟩ | rfl) rfl (by rw [List.length_map, ← HN.out]; simp [maxLen]; omega) (by rw [List.length_map, ← HN.out]; simp; omega) (by have h1 := hH.out.le; have h2 := hH.out.bk.here; have h3 := HL2.out.size; omega) ?_
  intro v3 w3 hO3 hgr3 hat3
  obtain ⟨aQ, xQ, hv3, _, _, _, _⟩ := hO3.sl
  generalize hnQ : (l.map eP ++ [eP (x, m)]).length = nQ at hv3
  subst hv3
  have HO3 := Lib.hid hO3; have HAT3 := Lib.hid hat3; have HGR3 := Lib.hid hgr3; have HNQ : Hid (nQ = n + 1) := (by show nQ = n + 1; rw [← hnQ, HN.out]; simp); clear hO3 hat3 hgr3 hnQ
  refine hK.out _ _ (⟨⟨HS1.out.1.1.stays HGR3.out HOFF.out, HS1.out.1.2.stays HGR3.out HOFX.out⟩, HS1.out.2.trans (GrP.of HGR3.out)⟩) (fun hS2 => ?_)
  clear hK K
  try simp only [Act.put, List.getElem_toArray, List.getElem_cons_zero, List.getElem_cons_succ, List.setIfInBounds_toArray, List.set_cons_zero, List.set_cons_succ]
  refine wpAnyE_takeF (i := 13) (v := ?_) rfl (by kernel_rfl) (by kernel_rfl) (by kernel_rfl) (by kernel_rfl) (fun _ _ _ h => h) (Or.inl ⟨by rfl, ?_⟩) hS2 ?_
  rotate_left
  · intro W _; go_simp; try with_reducible rfl
  try simp only [Act.put, List.getElem_toArray, List.getElem_cons_zero, List.getElem_cons_succ, List.setIfInBounds_toArray, List.set_cons_zero, List.set_cons_succ]
  refine wpAnyE_take (i := 14) (v := ?_) rfl (by kernel_rfl) (by kernel_rfl) (by kernel_rfl) (by kernel_rfl) (by kernel_rfl) (fun _ _ _ h => h) (Or.inl ⟨by rfl, ?_⟩) hS2 ?_
  rotate_left
  · intro W _; go_simp; try with_reducible rfl
  try simp only [Act.put, List.getElem_toArray, List.getElem_cons_zero, List.getElem_cons_succ, List.setIfInBounds_toArray, List.set_cons_zero, List.set_cons_succ]
  have HB3 := Lib.hid hS2.1.1; have HGW := Lib.hid hS2.2; have cst : w3.cell? ⟨h, 1, none⟩ = some (.slice A n c) := HB3.out.cellAt 1; have fst : w3.frozen? ⟨h, 1, none⟩ = false := HB3.out.free 1; clear hS2
  refine wpAnyE_ready (rs := [15]) (by kernel_rfl) (by simp) ?_
  refine AllReadyE.last rfl (by kernel_rfl) (fun K hK => ?_) AllReadyE.nil
  go_simp
  refine hK.out _ _ ?_
  clear hK K
  try simp only [Act.put, List.getElem_toArray, List.getElem_cons_zero, List.getElem_cons_succ, List.setIfInBounds_toArray, List.set_cons_zero, List.set_cons_succ]
  refine wpAny_of_held (S := fun _ => True) _ _ _ _ ?_
  refine wpAnyH_done (by kernel_rfl) ?_ _
  obtain ⟨W4, hW4⟩ : ∃ W, W = w3.setCell ⟨h, 1, none⟩ (.slice aQ nQ xQ) := ⟨_, rfl⟩
  rw [← hW4]
  have HU4 : Hid (UpP w W4 b h F (.slice A n c) m (l ++ [(x, m)]) ∧ HpP W4 b h F (.slice aQ nQ xQ) m (l ++ [(x, m)]) ∧ ∀ k, HpB h (.slice aQ nQ xQ) k → HpB h (.slice A n c) k ∨ w.heap.size ≤ k) := by
    rw [hW4]
    exact hH.out.turn HGW.out (by rw [List.map_append]; exact HO3.out) fun k hk => HAT3.out.elim (fun e => .inl (e ▸ hk)) fun e => .inr (by
      have h1 := HL2.out.size
      rw [e] at hk; injection hk with hk; omega)
  have c1 : W4.cell? ⟨h, 1, none⟩ = some (.slice aQ nQ xQ) := HU4.out.2.1.bk.cellAt 1
  have c2 : W4.cell? ⟨h, 2, none⟩ = some (.int .i64 m) := HU4.out.2.1.bk.cellAt 2
  have f2 : W4.frozen? ⟨h, 2, none⟩ = false := HU4.out.2.1.bk.free 2
  have hnq : (nQ : Int) = (n : Int) + 1 := by have := HNQ.out; omega
  have hwn : wrap64 ((nQ : Int) - 1) = (n : Int) := by unfold wrap64; omega
  have HNq := Lib.hid hnq
  clear cst fst HB3 HGW HB2 HO3 HAT3 HGR3 HS1 HO2 HB0 hbW hnq HX0
  have HI : Hid (RsI (leO lt) n (l ++ [(x, m)])) := by
    have := hA.out.hp.snoc (x, m)
    rw [← HN.out] at this; exact this
  have HE := Lib.hid hW4
  clear hW4
  go_wp2_with fail
  obtain ⟨W5, hW5⟩ : ∃ W, W = W4.setCell ⟨h, 2, none⟩ (.int .i64 (m + 1)) := ⟨_, rfl⟩
  rw [← hW5]
  have H5 : Hid (HpP W5 b h F (.slice aQ nQ xQ) (m + 1) (l ++ [(x, m)])) := by rw [hW5]; exact HU4.out.2.1.setN _
  have HG5 : Hid (GrP (HpB h (.slice A n c)) w W5) := by rw [hW5]; exact HU4.out.1.2.set (.inl rfl) _
  clear hW5 c1 c2 f2
  refine (riseP_any b h F aQ nQ xQ (m + 1) (l ++ [(x, m)]) lt n W5 (by have := HNQ.out; omega) (by have := HNQ.out; omega) hO hW H5 HI).mono ?_
  rintro e w6 ⟨rfl, l', ⟨hp6, hperm, hg6⟩, hh6⟩
  go_wp2_with fail
  first | go_end0 | refine bodyPost_ret (results_none rfl _ _ _) rfl ?_
  refine ⟨rfl, l', ⟨⟨_, hp6, HU4.out.2.2⟩, HG5.out.andThen hg6 fun i hi hq => (HU4.out.2.2 i (.inr hq)).resolve_right (by omega)⟩, hA.out.push hW.out x hperm hh6⟩

section
variable {o : Oper} {a : Act} {w : World} {K : Act → World → Prop} {Q : Exit → Act → World → Prop}
theorem oneS_op (t : Tmp) (a1 : ByteArray) (a2 : Int) (ho : o.op = .buildSlice 50 1 #[(0, .tmp t)]) (hx : a.tmps[t]?.getD undef = .agg #[.string a1, .int .i64 a2]) (h : ∀ g w', g = w.heap.size → w'.heap.size = w.heap.size + 1 → Bk w' g 73 #[.string a1, .int .i64 a2] → Below w.heap.size w w' → K (a.put o.dst (.slice (some ⟨g, 0, none⟩) 1 1)) w') : o.wp Try.prog a w K Q := by
  unfold Oper.wp execOp
  simp only [ho]
  go_simp
  exact h _ _ rfl (by simp) (Bk.fresh w _ _) ((Below.refl _ _).alloc (Nat.le_refl _) _)
end
/-- A heap at h has become one of these entries: nothing but its own blocks has turned; its blocks are its own, or new ones. -/
def UpS (w w' : World) (b h : Nat) (F v : Value) (m : Int) (l : List (ByteArray × Int)) : Prop :=
  (∃ v', HpS w' b h F v' m l ∧ ∀ k, HpB h v' k → HpB h v k ∨ w.heap.size ≤ k) ∧ GrP (HpB h v) w w'
section
variable {w w3 : World} {b h : Nat} {F v v' : Value} {m m' : Int} {l l' : List (ByteArray × Int)}
theorem HpS.setN (H : HpS w b h F v m l) (m' : Int) : HpS (w.setCell ⟨h, 2, none⟩ (.int .i64 m')) b h F v m' l :=
  ⟨H.bk.put 2 _, H.ow.grp ((GrP.refl (fun k => k = h) w).set rfl _) fun k hk e => by subst e; exact H.off hk, H.le⟩
/-- Another row is laid in a heap. -/
theorem HpS.turn (H : HpS w b h F v m l) (hg : GrP (fun q => v.ownBlock = some q) w w3) (hO : OwnK w3 b 73 2 v' (l'.map eS)) (hat : ∀ k, v'.ownBlock = some k → v.ownBlock = some k ∨ w.heap.size ≤ k) :
    UpS w (w3.setCell ⟨h, 1, none⟩ v') b h F v m l' ∧ HpS (w3.setCell ⟨h, 1, none⟩ v') b h F v' m l' ∧ ∀ k, HpB h v' k → HpB h v k ∨ w.heap.size ≤ k := by
  have hb3 : Bk w3 h 52 #[F, v, .int .i64 m] := H.bk.grp hg fun e => H.off e
  have hh := H.bk.here
  have h1 : HpS (w3.setCell ⟨h, 1, none⟩ v') b h F v' m l' := ⟨hb3.put 1 _, hO.grp ((GrP.refl (fun k => k = h) w3).set rfl _) (fun k hk e => by
    subst e
    rcases hat _ hk with e | e
    · exact H.off e
    · omega), H.le⟩
  have h2 : ∀ k, HpB h v' k → HpB h v k ∨ w.heap.size ≤ k := fun k hk => by
    rcases hk with e | e
    · exact .inl (.inl e)
    · exact (hat k e).imp .inr id
  exact ⟨⟨⟨v', h1, h2⟩, (hg.wide fun k _ e => .inr e).set (.inl rfl) _⟩, h1, h2⟩
end
set_option maxHeartbeats 1600000 in
set_option maxRecDepth 100000 in
theorem newS_any (F : Value) (lt : ByteArray → ByteArray → Bool) (w : World) (hF : Hid (IsOS F lt)) : Calls Try.prog 23 #[F] w fun e w' => e = .returned (.pointer (some ⟨w.heap.size, 0, none⟩)) ∧ HpS w' w.heap.size w.heap.size F (.slice none 0 0) 0 [] ∧ Below w.heap.size w w' := by
  rcases hF.out with ⟨rfl, _⟩ | ⟨rfl, _⟩
  · go_enter Try.func23, Try.ntmps23
    go_wp2_with fail
    all_goals go_ret
    all_goals exact ⟨rfl, ⟨Bk.fresh _ _ _, OwnK.nil _ _ _ _, Nat.le_refl _⟩, (Below.refl _ _).alloc (Nat.le_refl _) _⟩
  · go_enter Try.func23, Try.ntmps23
    go_wp2_with fail
    all_goals go_ret
    all_goals exact ⟨rfl, ⟨Bk.fresh _ _ _, OwnK.nil _ _ _ _, Nat.le_refl _⟩, (Below.refl _ _).alloc (Nat.le_refl _) _⟩
set_option maxHeartbeats 1600000 in
set_option maxRecDepth 100000 in
theorem lenS_any (b h : Nat) (F v : Value) (m : Int) (l : List (ByteArray × Int)) (w : World) (hH : Hid (HpS w b h F v m l)) : Calls Try.prog 38 #[.pointer (some ⟨h, 0, none⟩)] w fun e w' => e = .returned (.int .i64 l.length) ∧ w' = w := by
  obtain ⟨A, c, hv, _, _, _⟩ := hH.out.sl
  subst hv
  have hc : w.cell? ⟨h, 1, none⟩ = some (.slice A l.length c) := hH.out.bk.cellAt 1
  go_enter Try.func38, Try.ntmps38
  go_wp2_with fail
  all_goals go_ret
  all_goals exact ⟨rfl, rfl⟩
set_option maxHeartbeats 1600000 in
set_option maxRecDepth 100000 in
theorem lenS_nil (w : World) : Calls Try.prog 38 #[.pointer none] w fun e w' => e = .returned (.int .i64 0) ∧ w' = w := by
  go_enter Try.func38, Try.ntmps38
  go_wp2_with fail
  all_goals go_ret
  all_goals exact ⟨rfl, rfl⟩
set_option maxHeartbeats 6400000 in
set_option maxRecDepth 100000 in
/-- An element is inserted. -/
theorem pushS_any (b h : Nat) (F v : Value) (m : Int) (l B : List (ByteArray × Int)) (lt : ByteArray → ByteArray → Bool) (x : ByteArray) (w : World) (hbig : l.length ≤ 900) (hm0 : 0 ≤ m) (hm1 : m ≤ 1000000) (hO : Hid (IsOS F lt)) (hW : Hid (WkO lt)) (hH : Hid (HpS w b h F v m l)) (hA : Hid (Hol lt m l B)) :
    Calls Try.prog 25 #[.pointer (some ⟨h, 0, none⟩), vS x] w fun e w' => e = .returned (.tuple #[]) ∧ ∃ l', UpS w w' b h F v (m + 1) l' ∧ Hol lt (m + 1) l' (insL lt (x, m) B) := by
  obtain ⟨A, c, hv, _, _, _⟩ := hH.out.sl
  obtain ⟨n, hn⟩ : ∃ n, n = l.length := ⟨_, rfl⟩
  rw [← hn] at hv hbig
  subst hv
  have HN := Lib.hid hn
  clear hn
  have HOFF : Hid (some h ≠ (Value.slice A n c).ownBlock) := fun e => hH.out.off e.symm
  have HOFX : Hid (some w.heap.size ≠ (Value.slice A n c).ownBlock) := fun e => by have := hH.out.ow.lt e.symm; omega
  obtain ⟨W0, hW0⟩ : ∃ W0, W0 = w := ⟨_, rfl⟩
  have hbW : Below w.heap.size w W0 := by rw [hW0]; exact Below.refl _ _
  have HB0 : Hid (Bk W0 h 52 #[F, .slice A n c, .int .i64 m]) := hH.out.bk.later hbW

  have hwm : wrap64 (m + 1) = m + 1 := by unfold wrap64; omega
  go_enter Try.func25, Try.ntmps25
  go_wp2_with fail
  rw [← hW0]
  clear hW0
  refine wp_region_E (S := fun W => (Bk W h 52 #[F, .slice A n c, .int .i64 m] ∧ True) ∧ GrP (fun q => (Value.slice A n c).ownBlock = some q) w W) 15 (by kernel_rfl) (⟨⟨HB0.out.drewB, trivial⟩, GrP.ofBelow (Below.drew hbW)⟩) (fun hS0 => ?_)
  refine wpAnyE_take (i := 0) (v := ?_) rfl (by kernel_rfl) (by kernel_rfl) (by kernel_rfl) (by kernel_rfl) (by kernel_rfl) (fun _ _ _ h => h) (Or.inl ⟨by rfl, ?_⟩) hS0 ?_
  rotate_left
  · intro W _; go_simp; try with_reducible rfl
  try simp only [Act.put, List.getElem_toArray, List.getElem_cons_zero, List.setIfInBounds_toArray, List.set_cons_zero, List.set_cons_succ]
  refine wpAnyE_take (i := 1) (v := ?_) rfl (by kernel_rfl) (by kernel_rfl) (by kernel_rfl) (by kernel_rfl) (by kernel_rfl) (fun _ _ _ h => h) (Or.inl ⟨by rfl, ?_⟩) hS0 ?_
  rotate_left
  · intro W _; go_simp; try with_reducible rfl
  try simp only [Act.put, List.getElem_toArray, List.getElem_cons_zero, List.getElem_cons_succ, List.setIfInBounds_toArray, List.set_cons_zero, List.set_cons_succ]
  refine wpAnyE_take (i := 2) (v := ?_) rfl (by kernel_rfl) (by kernel_rfl) (by kernel_rfl) (by kernel_rfl) (by kernel_rfl) (fun _ _ _ h => h) (Or.inl ⟨by rfl, ?_⟩) hS0 ?_
  rotate_left
  · intro W _; go_simp; try with_reducible rfl
  try simp only [Act.put, List.getElem_toArray, List.getElem_cons_zero, List.getElem_cons_succ, List.setIfInBounds_toArray, List.set_cons_zero, List.set_cons_succ]
  refine wpAnyE_take (i := 3) (v := ?_) rfl (by kernel_rfl) (by kernel_rfl) (by kernel_rfl) (by kernel_rfl) (by kernel_rfl) (fun _ _ _ h => h) (Or.inl ⟨by rfl, ?_⟩) hS0 ?_
  rotate_left
  · intro W _; go_simp; try with_reducible rfl
  try simp only [Act.put, List.getElem_toArray, List.getElem_cons_zero, List.getElem_cons_succ, List.setIfInBounds_toArray, List.set_cons_zero, List.set_cons_succ]
  refine wpAnyE_take (i := 4) (v := ?_) rfl (by kernel_rfl) (by kernel_rfl) (by kernel_rfl) (by kernel_rfl) (by kernel_rfl) (fun _ _ _ h => h) (Or.inl ⟨by rfl, ?_⟩) hS0 ?_
  rotate_left
  · intro W hSW; have hx := hSW.1.1.cellAt 1; try simp only [List.getElem?_toArray, List.getElem?_cons_succ, List.getElem?_cons_zero] at hx; go_simp; try with_reducible rfl
  try simp only [Act.put, List.getElem_toArray, List.getElem_cons_zero, List.getElem_cons_succ, List.setIfInBounds_toArray, List.set_cons_zero, List.set_cons_succ]
  refine wpAnyE_take (i := 5) (v := ?_) rfl (by kernel_rfl) (by kernel_rfl) (by kernel_rfl) (by kernel_rfl) (by kernel_rfl) (fun _ _ _ h => h) (Or.inl ⟨by rfl, ?_⟩) hS0 ?_
  rotate_left
  · intro W _; go_simp; try with_reducible rfl
  try simp only [Act.put, List.getElem_toArray, List.getElem_cons_zero, List.getElem_cons_succ, List.setIfInBounds_toArray, List.set_cons_zero, List.set_cons_succ]
  refine wpAnyE_take (i := 6) (v := ?_) rfl (by kernel_rfl) (by kernel_rfl) (by kernel_rfl) (by kernel_rfl) (by kernel_rfl) (fun _ _ _ h => h) (Or.inl ⟨by rfl, ?_⟩) hS0 ?_
  rotate_left
  · intro W _; go_simp; try with_reducible rfl
  try simp only [Act.put, List.getElem_toArray, List.getElem_cons_zero, List.getElem_cons_succ, List.setIfInBounds_toArray, List.set_cons_zero, List.set_cons_succ]
  refine wpAnyE_take (i := 7) (v := ?_) rfl (by kernel_rfl) (by kernel_rfl) (by kernel_rfl) (by kernel_rfl) (by kernel_rfl) (fun _ _ _ h => h) (Or.inl ⟨by rfl, ?_⟩) hS0 ?_
  rotate_left
  · intro W _; go_simp; try with_reducible rfl
  try simp only [Act.put, List.getElem_toArray, List.getElem_cons_zero, List.getElem_cons_succ, List.setIfInBounds_toArray, List.set_cons_zero, List.set_cons_succ]
  refine wpAnyE_take (i := 8) (v := ?_) rfl (by kernel_rfl) (by kernel_rfl) (by kernel_rfl) (by kernel_rfl) (by kernel_rfl) (fun _ _ _ h => h) (Or.inl ⟨by rfl, ?_⟩) hS0 ?_
  rotate_left
  · intro W _; go_simp; try with_reducible rfl
  try simp only [Act.put, List.getElem_toArray, List.getElem_cons_zero, List.getElem_cons_succ, List.setIfInBounds_toArray, List.set_cons_zero, List.set_cons_succ]
  refine wpAnyE_take (i := 9) (v := ?_) rfl (by kernel_rfl) (by kernel_rfl) (by kernel_rfl) (by kernel_rfl) (by kernel_rfl) (fun _ _ _ h => h) (Or.inl ⟨by rfl, ?_⟩) hS0 ?_
  rotate_left
  · intro W hSW; have hx := hSW.1.1.cellAt 2; try simp only [List.getElem?_toArray, List.getElem?_cons_succ, List.getElem?_cons_zero] at hx; go_simp; try with_reducible rfl
  try simp only [Act.put, List.getElem_toArray, List.getElem_cons_zero, List.getElem_cons_succ, List.setIfInBounds_toArray, List.set_cons_zero, List.set_cons_succ]
  refine wpAnyE_take (i := 10) (v := ?_) rfl (by kernel_rfl) (by kernel_rfl) (by kernel_rfl) (by kernel_rfl) (by kernel_rfl) (fun _ _ _ h => h) (Or.inl ⟨by rfl, ?_⟩) hS0 ?_
  rotate_left
  · intro W _; go_simp; try with_reducible rfl
  try simp only [Act.put, List.getElem_toArray, List.getElem_cons_zero, List.getElem_cons_succ, List.setIfInBounds_toArray, List.set_cons_zero, List.set_cons_succ]
  refine wpAnyE_ready (rs := [11]) (by kernel_rfl) (by simp) ?_
  refine AllReadyE.cons rfl (fun K hK => ?_) AllReadyE.nil
  rw [if_pos (by rfl)]
  refine oneS_op 16 x m rfl rfl ?_
  intro g2 w2 hg2 hsz2 hB2 hb2
  refine hK.out _ _ (⟨⟨hS0.1.1.later hb2, trivial⟩, hS0.2.trans (GrP.ofBelow hb2)⟩) (fun hS1 => ?_)
  clear hK K
  try simp only [Act.put, List.getElem_toArray, List.getElem_cons_zero, List.getElem_cons_succ, List.setIfInBounds_toArray, List.set_cons_zero, List.set_cons_succ]
  have HS1 := Lib.hid hS1; have HB2 := Lib.hid hB2; have HL2 : Hid (Below w.heap.size w w2) := hbW.trans ((show Below W0.heap.size W0 w2 from (show Below W0.heap.size W0 W0.drew from Below.drew (Below.refl _ _)).trans hb2).mono hbW.size); have HO2 : Hid (OwnK w2 b 73 2 (.slice A n c) (l.map eS)) := hH.out.ow.below HL2.out; clear hB2 hg2 hsz2 hb2 hS1 hS0
  refine wpAnyE_ready (rs := [12]) (by kernel_rfl) (by simp) ?_
  refine AllReadyE.cons rfl (fun K hK => ?_) AllReadyE.nil
  rw [if_pos (by rfl)]
  refine append_ka_op _ (.tmp 10) (.tmp 17) 50 rfl b 73 _ 2 24 Try.underlying50 infoES rfl (by omega) _ _ rfl HO2.out ⟨g2, 0, none⟩ 1 1 [eS (x, m)] rfl (RdK.of_bk HB2.out) (by simp) (by simp; refine ⟨rfl, ?_⟩; first | exact ⟨rfl, rfl⟩ | rfl) rfl (by rw [List.length_map, ← HN.out]; simp [maxLen]; omega) (by rw [List.length_map, ← HN.out]; simp; omega) (by have h1 := hH.out.le; have h2 := hH.out.bk.here; have h3 := HL2.out.size; omega) ?_
  intro v3 w3 hO3 hgr3 hat3
  obtain ⟨aQ, xQ, hv3, _, _, _, _⟩ := hO3.sl
  generalize hnQ : (l.map eS ++ [eS (x, m)]).length = nQ at hv3
  subst hv3
  have HO3 := Lib.hid hO3; have HAT3 := Lib.hid hat3; have HGR3 := Lib.hid hgr3; have HNQ : Hid (nQ = n + 1) := (by show nQ = n + 1; rw [← hnQ, HN.out]; simp); clear hO3 hat3 hgr3 hnQ
  refine hK.out _ _ (⟨⟨HS1.out.1.1.stays HGR3.out HOFF.out, trivial⟩, HS1.out.2.trans (GrP.of HGR3.out)⟩) (fun hS2 => ?_)
  clear hK K
  try simp only [Act.put, List.getElem_toArray, List.getElem_cons_zero, List.getElem_cons_succ, List.setIfInBounds_toArray, List.set_cons_zero, List.set_cons_succ]
  refine wpAnyE_takeF (i := 13) (v := ?_) rfl (by kernel_rfl) (by kernel_rfl) (by kernel_rfl) (by kernel_rfl) (fun _ _ _ h => h) (Or.inl ⟨by rfl, ?_⟩) hS2 ?_
  rotate_left
  · intro W _; go_simp; try with_reducible rfl
  try simp only [Act.put, List.getElem_toArray, List.getElem_cons_zero, List.getElem_cons_succ, List.setIfInBounds_toArray, List.set_cons_zero, List.set_cons_succ]
  refine wpAnyE_take (i := 14) (v := ?_) rfl (by kernel_rfl) (by kernel_rfl) (by kernel_rfl) (by kernel_rfl) (by kernel_rfl) (fun _ _ _ h => h) (Or.inl ⟨by rfl, ?_⟩) hS2 ?_
  rotate_left
  · intro W _; go_simp; try with_reducible rfl
  try simp only [Act.put, List.getElem_toArray, List.getElem_cons_zero, List.getElem_cons_succ, List.setIfInBounds_toArray, List.set_cons_zero, List.set_cons_succ]
  have HB3 := Lib.hid hS2.1.1; have HGW := Lib.hid hS2.2; have cst : w3.cell? ⟨h, 1, none⟩ = some (.slice A n c) := HB3.out.cellAt 1; have fst : w3.frozen? ⟨h, 1, none⟩ = false := HB3.out.free 1; clear hS2
  refine wpAnyE_ready (rs := [15]) (by kernel_rfl) (by simp) ?_
  refine AllReadyE.last rfl (by kernel_rfl) (fun K hK => ?_) AllReadyE.nil
  go_simp
  refine hK.out _ _ ?_
  clear hK K
  try simp only [Act.put, List.getElem_toArray, List.getElem_cons_zero, List.getElem_cons_succ, List.setIfInBounds_toArray, List.set_cons_zero, List.set_cons_succ]
  refine wpAny_of_held (S := fun _ => True) _ _ _ _ ?_
  refine wpAnyH_done (by kernel_rfl) ?_ _
  obtain ⟨W4, hW4⟩ : ∃ W, W = w3.setCell ⟨h, 1, none⟩ (.slice aQ nQ xQ) := ⟨_, rfl⟩
  rw [← hW4]
  have HU4 : Hid (UpS w W4 b h F (.slice A n c) m (l ++ [(x, m)]) ∧ HpS W4 b h F (.slice aQ nQ xQ) m (l ++ [(x, m)]) ∧ ∀ k, HpB h (.slice aQ nQ xQ) k → HpB h (.slice A n c) k ∨ w.heap.size ≤ k) := by
    rw [hW4]
    exact hH.out.turn HGW.out (by rw [List.map_append]; exact HO3.out) fun k hk => HAT3.out.elim (fun e => .inl (e ▸ hk)) fun e => .inr (by
      have h1 := HL2.out.size
      rw [e] at hk; injection hk with hk; omega)
  have c1 : W4.cell? ⟨h, 1, none⟩ = some (.slice aQ nQ xQ) := HU4.out.2.1.bk.cellAt 1
  have c2 : W4.cell? ⟨h, 2, none⟩ = some (.int .i64 m) := HU4.out.2.1.bk.cellAt 2
  have f2 : W4.frozen? ⟨h, 2, none⟩ = false := HU4.out.2.1.bk.free 2
  have hnq : (nQ : Int) = (n : Int) + 1 := by have := HNQ.out; omega
  have hwn : wrap64 ((nQ : Int) - 1) = (n : Int) := by unfold wrap64; omega
  have HNq := Lib.hid hnq
  clear cst fst HB3 HGW HB2 HO3 HAT3 HGR3 HS1 HO2 HB0 hbW hnq 
  have HI : Hid (RsI (leO lt) n (l ++ [(x, m)])) := by
    have := hA.out.hp.snoc (x, m)
    rw [← HN.out] at this; exact this
  have HE := Lib.hid hW4
  clear hW4
  go_wp2_with fail
  obtain ⟨W5, hW5⟩ : ∃ W, W = W4.setCell ⟨h, 2, none⟩ (.int .i64 (m + 1)) := ⟨_, rfl⟩
  rw [← hW5]
  have H5 : Hid (HpS W5 b h F (.slice aQ nQ xQ) (m + 1) (l ++ [(x, m)])) := by rw [hW5]; exact HU4.out.2.1.setN _
  have HG5 : Hid (GrP (HpB h (.slice A n c)) w W5) := by rw [hW5]; exact HU4.out.1.2.set (.inl rfl) _
  clear hW5 c1 c2 f2
  refine (riseS_any b h F aQ nQ xQ (m + 1) (l ++ [(x, m)]) lt n W5 (by have := HNQ.out; omega) (by have := HNQ.out; omega) hO hW H5 HI).mono ?_
  rintro e w6 ⟨rfl, l', ⟨hp6, hperm, hg6⟩, hh6⟩
  go_wp2_with fail
  first | go_end0 | refine bodyPost_ret (results_none rfl _ _ _) rfl ?_
  refine ⟨rfl, l', ⟨⟨_, hp6, HU4.out.2.2⟩, HG5.out.andThen hg6 fun i hi hq => (HU4.out.2.2 i (.inr hq)).resolve_right (by omega)⟩, hA.out.push hW.out x hperm hh6⟩

end Go.Proofs.Ytkadcaihihgceaa
