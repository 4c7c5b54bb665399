/- schema's Decode and Translate at the bytes of a blank state. No condition. -/
import Derived.Test.YtjgojgmgicpgaaaGreatTQ11
import Derived.Deep.DeepCutAuto
import Derived.Deep.CutRange
namespace Go.Proofs.YtjgojgmgicpgaaaGreat
open Go.RowKit
set_option linter.unusedSimpArgs false
set_option linter.unusedVariables false

theorem store1z_op {P : Program} {o : Oper} {a : Act} {w : World} {K : Act → World → Prop} {Q : Exit → Act → World → Prop} (ty : TypeId) (x y : Operand) (ho : o.op = .store ty x y)
    (g off : Nat) (u : Value) (hx : a.eval x = .pointer (some ⟨g, off, none⟩)) (hy : a.eval y = u) (t : TypeId) (cs cs' : Array Value) (hg : Bk w g t cs)
    (hi : (P.info? ty).map (·.size) = some 1) (hl : off < cs.size) (h1 : u.oneCell' = true) (hu : u.cells = #[u]) (hc : cs' = cs.setIfInBounds off u)
    (h : ∀ w', Bk w' g t cs' → w.grownBy w' (some g) → w'.heap.size = w.heap.size → K (a.put o.dst undef) w') : o.wp P a w K Q := by
  have hst := run_storeCells_at P g off t [u] 0 cs w hg (by simp; omega) (fun v hv => by simp at hv; subst hv; exact h1)
  have hpp : putPart cs off #[u] = cs.setIfInBounds off u := by
    unfold putPart
    apply Array.ext'
    apply List.ext_getElem?
    intro i
    simp only [List.size_toArray, List.length_cons, List.length_nil, Array.toList_setIfInBounds, List.getElem?_set]
    by_cases h1 : i < off
    · rw [List.append_assoc, List.getElem?_append_left (by simp; omega), List.getElem?_take_of_lt h1, if_neg (by omega)]
    · by_cases h2 : i = off
      · subst h2
        rw [List.append_assoc, List.getElem?_append_right (by simp; omega)]
        simp [hl, show min i cs.size = i by omega]
      · rw [List.append_assoc, List.getElem?_append_right (by simp; omega), List.getElem?_append_right (by simp; omega), List.getElem?_drop, if_neg (fun e => h2 e.symm)]
        congr 1
        simp
        omega
  have hsv : (storeVar ty ⟨g, off, none⟩ u).run P w = .ok () (w.setRow g (putPart cs off #[u])) := by
    cases hq : P.info? ty with
    | none => simp [hq] at hi
    | some i =>
      have hs : i.size = 1 := by simpa [hq] using hi
      simp only [Nat.add_zero] at hst
      simp [storeVar, sizeOf, typeInfo, hq, hu, hs]
      rw [hst]; simp [putPart]
  unfold Oper.wp execOp
  simp only [ho, hx, hy, Instr.storeAt, Instr.sureAddr, Sem.run_bind, Sem.run_pure, Result.andThen_ok, hsv]
  refine h _ ?_ ⟨rfl, rfl, rfl, by simp, fun i hi hne => ?_⟩ (by simp)
  · rw [hc, ← hpp]; exact setRow_heap w g cs _ t _ hg
  · exact setRow_other w g i _ (fun e => hne (by rw [e]))
/-- The reader stands at p, the state that is read is blank. -/
structure Zr (w0 w : World) (R Sb : Nat) (A : Option Addr) (n c : Nat) (l : List UInt8) (p : Int) : Prop where
  r : Bk w R 105 #[.slice A n c, .int .i64 p, .bool false]
  s : Bk w Sb 26 #[.int .i64 0, .int .i64 1, .slice none 0 0, .slice none 0 0, .slice none 0 0]
  d : Rd w A l
  g : GrP (fun q => q = R ∨ q = Sb) w0 w
section
variable {w0 w w' : World} {R Sb n c : Nat} {A : Option Addr} {l : List UInt8} {p q : Int}
theorem Zr.below (h : Zr w0 w R Sb A n c l p) (hb : Below w.heap.size w w') : Zr w0 w' R Sb A n c l p := ⟨h.r.later hb, h.s.later hb, h.d.below hb, h.g.trans (GrP.ofBelow hb)⟩
/-- Bytes stay where a block is written that holds none. -/
theorem Rd.aside {k : Nat} {t : TypeId} {cs : Array Value} (h : Rd w A l) (hB : Bk w k t cs) (hn : ∀ (i : Nat) (x : Int), ¬ cs[i]? = some (Value.int .u8 x)) (hg : w.grownBy w' (some k)) : Rd w' A l := fun i b hb => by
  obtain ⟨g, o, hA, hc⟩ := h i b hb
  have hne : g ≠ k := fun e => by
    subst e
    exact hn _ _ ((hB.cellAt _).symm.trans hc)
  exact ⟨g, o, hA, by rw [World.cell?_of_block (hg.block g (World.block_lt_of_cell? w _ hc) (by simp; exact hne))]; exact hc⟩
theorem noB_rd {p : Int} {b : Bool} : ∀ (i : Nat) (x : Int), ¬ (#[.slice A n c, .int .i64 p, .bool b] : Array Value)[i]? = some (.int .u8 x) := fun i x h => by
  match i, h with
  | 0, h => simp at h
  | 1, h => simp at h
  | 2, h => simp at h
  | i + 3, h => simp at h
theorem noB_st : ∀ (i : Nat) (x : Int), ¬ (#[.int .i64 0, .int .i64 1, .slice none 0 0, .slice none 0 0, .slice none 0 0] : Array Value)[i]? = some (.int .u8 x) := fun i x h => by
  match i, h with
  | 0, h => simp at h
  | 1, h => simp at h
  | 2, h => simp at h
  | 3, h => simp at h
  | 4, h => simp at h
  | i + 5, h => simp at h
theorem Zr.read (h : Zr w0 w R Sb A n c l p) (hne : R ≠ Sb) (hB : Bk w' R 105 #[.slice A n c, .int .i64 q, .bool false]) (hg : w.grownBy w' (some R)) : Zr w0 w' R Sb A n c l q :=
  ⟨hB, h.s.stays hg (by intro e; injection e with e; exact hne e.symm), h.d.aside h.r noB_rd hg, h.g.trans ((GrP.of hg).wide fun k _ hk => by injection hk with hk; exact .inl hk.symm)⟩
theorem Zr.put (h : Zr w0 w R Sb A n c l p) (hne : R ≠ Sb) (hB : Bk w' Sb 26 #[.int .i64 0, .int .i64 1, .slice none 0 0, .slice none 0 0, .slice none 0 0]) (hg : w.grownBy w' (some Sb)) : Zr w0 w' R Sb A n c l p :=
  ⟨h.r.stays hg (by intro e; injection e with e; exact hne e), hB, h.d.aside h.s noB_st hg, h.g.trans ((GrP.of hg).wide fun k _ hk => by injection hk with hk; exact .inr hk.symm)⟩
end
set_option maxHeartbeats 12800000 in
set_option maxRecDepth 100000 in
theorem lists_z (R Sb : Nat) (A : Option Addr) (n c : Nat) (l : List UInt8) (w : World) (hne : R ≠ Sb) (HZ : Hid (Zr w w R Sb A n c l 5)) (hn : Hid (n = l.length)) (hc : n ≤ c) (hc2 : c ≤ 9223372036854775807) (h5 : Hid (takeP l 5 = (0, 6, 0))) (h6 : Hid (takeP l 6 = (0, 7, 0))) (h7 : Hid (takeP l 7 = (0, 8, 0))) :
    Calls Tryz.prog 137 #[.pointer (some ⟨R, 0, none⟩), .pointer (some ⟨Sb, 0, none⟩)] w fun e w' => e = .returned (.tuple #[]) ∧ Zr w w' R Sb A n c l 8 := by
  have HNE := Lib.hid hne
  have hmf : ∀ (fn : Fn) (first cap : Array Value) (w : World), (Instr.makeFunc fn first cap).run Tryz.prog w = .ok (.func fn first cap) w := fun _ _ _ _ => rfl
  have HNX : Hid (w.heap.size ≠ R ∧ w.heap.size ≠ Sb) := ⟨fun e => by have := HZ.out.r.here; omega, fun e => by have := HZ.out.s.here; omega⟩
  obtain ⟨W0, hW0⟩ : ∃ W0, W0 = w.alloc (.cells #[.pointer (some ⟨R, 0, none⟩)] 201) := ⟨_, rfl⟩
  have HX0 : Hid (Bk W0 w.heap.size 201 #[.pointer (some ⟨R, 0, none⟩)]) := by rw [hW0]; exact Bk.fresh _ _ _
  have HZ0 : Hid (Zr w W0 R Sb A n c l 5) := HZ.out.below (by rw [hW0]; exact (Below.refl _ _).alloc (Nat.le_refl _) _)
  have d0 : W0.cell? ⟨w.heap.size, 0, none⟩ = some (.pointer (some ⟨R, 0, none⟩)) := HX0.out.cellAt 0
  clear HZ
  subst hW0
  go_enter Tryz.func137, Tryz.ntmps137
  go_wp2_with fail
  refine (listM_z R A n c 5 6 0 l _ (Lib.hid HZ0.out.r) hn (Lib.hid HZ0.out.d) hc hc2 h5 16 _ rfl (by decide)).mono ?_
  rintro e w1 ⟨rfl, hB, hG⟩
  have HZ1 := Lib.hid (HZ0.out.read HNE.out hB hG)
  have HXb1 := Lib.hid (HX0.out.stays hG (by intro e; injection e with e; exact HNX.out.1 e))
  clear hB hG d0 HZ0
  go_wp2_with ((with_reducible refine store1_bk rfl 22 (.tmp 10) (.tmp 8) rfl Sb 2 (.slice none 0 0) rfl rfl 26 #[.int .i64 0, .int .i64 1, .slice none 0 0, .slice none 0 0, .slice none 0 0] #[.int .i64 0, .int .i64 1, .slice none 0 0, .slice none 0 0, .slice none 0 0] HZ1.out.s (by kernel_rfl) (by simp) rfl rfl rfl ?_); intro v1 hB hg hs; have HY1 := Lib.hid (HZ1.out.put HNE.out hB hg); have HX1 := Lib.hid (HXb1.out.stays hg (by intro e; injection e with e; exact HNX.out.2 e)); clear hB hg hs; have d0 : v1.cell? ⟨w.heap.size, 0, none⟩ = some (.pointer (some ⟨R, 0, none⟩)) := HX1.out.cellAt 0)
  refine (listQ_z R A n c 6 7 0 l _ (Lib.hid HY1.out.r) hn (Lib.hid HY1.out.d) hc hc2 h6 8 _ rfl (by decide)).mono ?_
  rintro e w2 ⟨rfl, hB, hG⟩
  have HZ2 := Lib.hid (HY1.out.read HNE.out hB hG)
  have HXb2 := Lib.hid (HX1.out.stays hG (by intro e; injection e with e; exact HNX.out.1 e))
  clear hB hG d0 HY1
  go_wp2_with ((with_reducible refine store1_bk rfl 23 (.tmp 17) (.tmp 15) rfl Sb 3 (.slice none 0 0) rfl rfl 26 #[.int .i64 0, .int .i64 1, .slice none 0 0, .slice none 0 0, .slice none 0 0] #[.int .i64 0, .int .i64 1, .slice none 0 0, .slice none 0 0, .slice none 0 0] HZ2.out.s (by kernel_rfl) (by simp) rfl rfl rfl ?_); intro v2 hB hg hs; have HY2 := Lib.hid (HZ2.out.put HNE.out hB hg); have HX2 := Lib.hid (HXb2.out.stays hg (by intro e; injection e with e; exact HNX.out.2 e)); clear hB hg hs; have d0 : v2.cell? ⟨w.heap.size, 0, none⟩ = some (.pointer (some ⟨R, 0, none⟩)) := HX2.out.cellAt 0)
  refine (listJ_z R A n c 7 8 0 l _ (Lib.hid HY2.out.r) hn (Lib.hid HY2.out.d) hc hc2 h7 48 _ rfl (by decide)).mono ?_
  rintro e w3 ⟨rfl, hB, hG⟩
  have HZ3 := Lib.hid (HY2.out.read HNE.out hB hG)
  have HXb3 := Lib.hid (HX2.out.stays hG (by intro e; injection e with e; exact HNX.out.1 e))
  clear hB hG d0 HY2
  go_wp2_with ((with_reducible refine store1_bk rfl 24 (.tmp 23) (.tmp 21) rfl Sb 4 (.slice none 0 0) rfl rfl 26 #[.int .i64 0, .int .i64 1, .slice none 0 0, .slice none 0 0, .slice none 0 0] #[.int .i64 0, .int .i64 1, .slice none 0 0, .slice none 0 0, .slice none 0 0] HZ3.out.s (by kernel_rfl) (by simp) rfl rfl rfl ?_); intro v3 hB hg hs; have HY3 := Lib.hid (HZ3.out.put HNE.out hB hg); have HX3 := Lib.hid (HXb3.out.stays hg (by intro e; injection e with e; exact HNX.out.2 e)); clear hB hg hs)
  first | go_end0 | go_ret
  exact ⟨rfl, HY3.out⟩
set_option maxHeartbeats 12800000 in
set_option maxRecDepth 100000 in
theorem groups_z (R Sb : Nat) (A : Option Addr) (n c : Nat) (l : List UInt8) (w : World) (hne : R ≠ Sb) (HZ : Hid (Zr w w R Sb A n c l 5)) (hn : Hid (n = l.length)) (hc : n ≤ c) (hc2 : c ≤ 9223372036854775807) (h5 : Hid (takeP l 5 = (0, 6, 0))) (h6 : Hid (takeP l 6 = (0, 7, 0))) (hsort : Hid (∀ W, Calls Tryz.prog 239 #[.slice none 0 0, .func (.func 240) #[] #[]] W fun e w' => e = .returned (.tuple #[]) ∧ Below W.heap.size W w')) :
    Calls Tryz.prog 138 #[.pointer (some ⟨R, 0, none⟩), .pointer (some ⟨Sb, 0, none⟩)] w fun e w' => e = .returned (.tuple #[]) ∧ Zr w w' R Sb A n c l 7 := by
  have HNE := Lib.hid hne
  have hmf : ∀ (fn : Fn) (first cap : Array Value) (w : World), (Instr.makeFunc fn first cap).run Tryz.prog w = .ok (.func fn first cap) w := fun _ _ _ _ => rfl
  have HNX : Hid ((w.heap.size ≠ R ∧ w.heap.size ≠ Sb) ∧ w.heap.size + 1 ≠ R ∧ w.heap.size + 1 ≠ Sb) := by
    have h1 := HZ.out.r.here; have h2 := HZ.out.s.here
    show _ ∧ _; omega
  obtain ⟨W0, hW0⟩ : ∃ W0, W0 = (w.alloc (.cells #[.pointer (some ⟨R, 0, none⟩)] 201)).alloc (.cells #[.pointer (some ⟨Sb, 0, none⟩)] 205) := ⟨_, rfl⟩
  have HXr0 : Hid (Bk W0 w.heap.size 201 #[.pointer (some ⟨R, 0, none⟩)]) := by rw [hW0]; exact (Bk.fresh w _ _).later ((Below.refl _ _).alloc (Nat.le_refl _) _)
  have HXs0 : Hid (Bk W0 (w.heap.size + 1) 205 #[.pointer (some ⟨Sb, 0, none⟩)]) := by rw [hW0]; exact Bk.freshAt _ _ _ (by simp)
  have HZ0 : Hid (Zr w W0 R Sb A n c l 5) := HZ.out.below (by rw [hW0]; exact ((Below.refl _ _).alloc (Nat.le_refl _) _).alloc (by simp) _)
  clear HZ
  go_enter Tryz.func138, Tryz.ntmps138
  go_upto_region 1 with fail
  try simp only [Act.put]
  rw [← hW0]
  clear hW0
  refine wp_region_held_drew (S := fun W => GrP (fun q => q = R ∨ q = Sb) W0 W) (by kernel_rfl) (GrP.ofBelow (Below.drew (Below.refl _ _))) (fun hS0 => ?_)
  refine wpAnyH_take (i := 0) (v := ?_) rfl (by kernel_rfl) (by kernel_rfl) (by kernel_rfl) (fun _ _ _ h => h) (Or.inl ⟨by rfl, ?_⟩) hS0 ?_
  rotate_left
  · intro W hSW; have hx := (HXs0.out.grp hSW (fun e => e.elim HNX.out.2.1 HNX.out.2.2)).cellAt 0; go_simp; try with_reducible rfl
  try simp only [Act.put, List.getElem_toArray, List.getElem_cons_zero, List.setIfInBounds_toArray, List.set_cons_zero, List.set_cons_succ]
  refine wpAnyH_take (i := 1) (v := ?_) rfl (by kernel_rfl) (by kernel_rfl) (by kernel_rfl) (fun _ _ _ h => h) (Or.inl ⟨by rfl, ?_⟩) hS0 ?_
  rotate_left
  · intro W hSW; have hx := (HXr0.out.grp hSW (fun e => e.elim HNX.out.1.1 HNX.out.1.2)).cellAt 0; go_simp; try with_reducible rfl
  try simp only [Act.put, List.getElem_toArray, List.getElem_cons_zero, List.getElem_cons_succ, List.setIfInBounds_toArray, List.set_cons_zero, List.set_cons_succ]
  refine wpAnyH_take (i := 2) (v := ?_) rfl (by kernel_rfl) (by kernel_rfl) (by kernel_rfl) (fun _ _ _ h => h) (Or.inl ⟨by rfl, ?_⟩) hS0 ?_
  rotate_left
  · intro W _; go_simp; try with_reducible rfl
  try simp only [Act.put, List.getElem_toArray, List.getElem_cons_zero, List.getElem_cons_succ, List.setIfInBounds_toArray, List.set_cons_zero, List.set_cons_succ]
  refine wpAnyH_ready (rs := [3]) (by kernel_rfl) (by simp) ?_
  refine AllReadyH.cons rfl (fun K hK => ?_) AllReadyH.nil
  go_simp
  refine (listM_z R A n c 5 6 0 l _ (Lib.hid (HZ0.out.below (Below.drew (Below.refl _ _))).r) hn (Lib.hid (HZ0.out.below (Below.drew (Below.refl _ _))).d) hc hc2 h5 16 _ rfl (by decide)).mono ?_
  rintro e y1 ⟨rfl, hB, hG⟩
  have HZa := Lib.hid ((HZ0.out.below (Below.drew (Below.refl _ _))).read HNE.out hB hG)
  go_simp
  refine hK.out _ _ (hS0.trans ((GrP.of hG).wide fun k _ hk => by injection hk with hk; exact .inl hk.symm)) (fun hS1 => ?_)
  clear hK K
  try simp only [Act.put, List.getElem_toArray, List.getElem_cons_zero, List.getElem_cons_succ, List.setIfInBounds_toArray, List.set_cons_zero, List.set_cons_succ]
  refine wpAnyH_take (i := 4) (v := ?_) rfl (by kernel_rfl) (by kernel_rfl) (by kernel_rfl) (fun _ _ _ h => h) (Or.inl ⟨by rfl, ?_⟩) hS1 ?_
  rotate_left
  · intro W _; go_simp; try with_reducible rfl
  try simp only [Act.put, List.getElem_toArray, List.getElem_cons_zero, List.getElem_cons_succ, List.setIfInBounds_toArray, List.set_cons_zero, List.set_cons_succ]
  refine wpAnyH_take (i := 5) (v := ?_) rfl (by kernel_rfl) (by kernel_rfl) (by kernel_rfl) (fun _ _ _ h => h) (Or.inl ⟨by rfl, ?_⟩) hS1 ?_
  rotate_left
  · intro W _; go_simp; try with_reducible rfl
  try simp only [Act.put, List.getElem_toArray, List.getElem_cons_zero, List.getElem_cons_succ, List.setIfInBounds_toArray, List.set_cons_zero, List.set_cons_succ]
  refine wpAnyH_ready (rs := [6]) (by kernel_rfl) (by simp) ?_
  refine AllReadyH.cons rfl (fun K hK => ?_) AllReadyH.nil
  simp only [if_pos, Region.wanted]
  refine store1z_op 22 (.tmp 9) (.tmp 7) rfl Sb 2 (.slice none 0 0) rfl rfl 26 #[.int .i64 0, .int .i64 1, .slice none 0 0, .slice none 0 0, .slice none 0 0] #[.int .i64 0, .int .i64 1, .slice none 0 0, .slice none 0 0, .slice none 0 0] HZa.out.s (by kernel_rfl) (by simp) rfl rfl rfl ?_
  intro y2 hB2 hG2 hs2
  have HZb := Lib.hid (HZa.out.put HNE.out hB2 hG2)
  refine hK.out _ _ (hS1.trans ((GrP.of hG2).wide fun k _ hk => by injection hk with hk; exact .inr hk.symm)) (fun hS2 => ?_)
  clear hK K
  try simp only [Act.put, List.getElem_toArray, List.getElem_cons_zero, List.getElem_cons_succ, List.setIfInBounds_toArray, List.set_cons_zero, List.set_cons_succ]
  refine wpAnyH_done (by kernel_rfl) ?_ _
  have HXr1 := Lib.hid (HXr0.out.grp hS2 (fun e => e.elim HNX.out.1.1 HNX.out.1.2))
  have HXs1 := Lib.hid (HXs0.out.grp hS2 (fun e => e.elim HNX.out.2.1 HNX.out.2.2))
  have HZ1 : Hid (Zr w y2 R Sb A n c l 6) := HZb
  clear HZa HZb hS0 hS1 hS2 hB hG hB2 hG2 hs2 HZ0
  go_wp2_with fail
  refine wp_region_held_drew (S := fun W => GrP (fun q => q = R ∨ q = Sb) y2 W) (by kernel_rfl) (GrP.ofBelow (Below.drew (Below.refl _ _))) (fun hS0 => ?_)
  refine wpAnyH_take (i := 0) (v := ?_) rfl (by kernel_rfl) (by kernel_rfl) (by kernel_rfl) (fun _ _ _ h => h) (Or.inl ⟨by rfl, ?_⟩) hS0 ?_
  rotate_left
  · intro W hSW; have hx := (HXs1.out.grp hSW (fun e => e.elim HNX.out.2.1 HNX.out.2.2)).cellAt 0; go_simp; try with_reducible rfl
  try simp only [Act.put, List.getElem_toArray, List.getElem_cons_zero, List.setIfInBounds_toArray, List.set_cons_zero, List.set_cons_succ]
  refine wpAnyH_take (i := 1) (v := ?_) rfl (by kernel_rfl) (by kernel_rfl) (by kernel_rfl) (fun _ _ _ h => h) (Or.inl ⟨by rfl, ?_⟩) hS0 ?_
  rotate_left
  · intro W hSW; have hx := (HXr1.out.grp hSW (fun e => e.elim HNX.out.1.1 HNX.out.1.2)).cellAt 0; go_simp; try with_reducible rfl
  try simp only [Act.put, List.getElem_toArray, List.getElem_cons_zero, List.getElem_cons_succ, List.setIfInBounds_toArray, List.set_cons_zero, List.set_cons_succ]
  refine wpAnyH_take (i := 2) (v := ?_) rfl (by kernel_rfl) (by kernel_rfl) (by kernel_rfl) (fun _ _ _ h => h) (Or.inl ⟨by rfl, ?_⟩) hS0 ?_
  rotate_left
  · intro W _; go_simp; try with_reducible rfl
  try simp only [Act.put, List.getElem_toArray, List.getElem_cons_zero, List.getElem_cons_succ, List.setIfInBounds_toArray, List.set_cons_zero, List.set_cons_succ]
  refine wpAnyH_ready (rs := [3]) (by kernel_rfl) (by simp) ?_
  refine AllReadyH.cons rfl (fun K hK => ?_) AllReadyH.nil
  go_simp
  refine (listQ_z R A n c 6 7 0 l _ (Lib.hid (HZ1.out.below (Below.drew (Below.refl _ _))).r) hn (Lib.hid (HZ1.out.below (Below.drew (Below.refl _ _))).d) hc hc2 h6 8 _ rfl (by decide)).mono ?_
  rintro e y1 ⟨rfl, hB, hG⟩
  have HZa := Lib.hid ((HZ1.out.below (Below.drew (Below.refl _ _))).read HNE.out hB hG)
  go_simp
  refine hK.out _ _ (hS0.trans ((GrP.of hG).wide fun k _ hk => by injection hk with hk; exact .inl hk.symm)) (fun hS1 => ?_)
  clear hK K
  try simp only [Act.put, List.getElem_toArray, List.getElem_cons_zero, List.getElem_cons_succ, List.setIfInBounds_toArray, List.set_cons_zero, List.set_cons_succ]
  refine wpAnyH_take (i := 4) (v := ?_) rfl (by kernel_rfl) (by kernel_rfl) (by kernel_rfl) (fun _ _ _ h => h) (Or.inl ⟨by rfl, ?_⟩) hS1 ?_
  rotate_left
  · intro W _; go_simp; try with_reducible rfl
  try simp only [Act.put, List.getElem_toArray, List.getElem_cons_zero, List.getElem_cons_succ, List.setIfInBounds_toArray, List.set_cons_zero, List.set_cons_succ]
  refine wpAnyH_take (i := 5) (v := ?_) rfl (by kernel_rfl) (by kernel_rfl) (by kernel_rfl) (fun _ _ _ h => h) (Or.inl ⟨by rfl, ?_⟩) hS1 ?_
  rotate_left
  · intro W _; go_simp; try with_reducible rfl
  try simp only [Act.put, List.getElem_toArray, List.getElem_cons_zero, List.getElem_cons_succ, List.setIfInBounds_toArray, List.set_cons_zero, List.set_cons_succ]
  refine wpAnyH_ready (rs := [6]) (by kernel_rfl) (by simp) ?_
  refine AllReadyH.cons rfl (fun K hK => ?_) AllReadyH.nil
  simp only [if_pos, Region.wanted]
  refine store1z_op 23 (.tmp 15) (.tmp 13) rfl Sb 3 (.slice none 0 0) rfl rfl 26 #[.int .i64 0, .int .i64 1, .slice none 0 0, .slice none 0 0, .slice none 0 0] #[.int .i64 0, .int .i64 1, .slice none 0 0, .slice none 0 0, .slice none 0 0] HZa.out.s (by kernel_rfl) (by simp) rfl rfl rfl ?_
  intro y2 hB2 hG2 hs2
  have HZb := Lib.hid (HZa.out.put HNE.out hB2 hG2)
  refine hK.out _ _ (hS1.trans ((GrP.of hG2).wide fun k _ hk => by injection hk with hk; exact .inr hk.symm)) (fun hS2 => ?_)
  clear hK K
  try simp only [Act.put, List.getElem_toArray, List.getElem_cons_zero, List.getElem_cons_succ, List.setIfInBounds_toArray, List.set_cons_zero, List.set_cons_succ]
  refine wpAnyH_done (by kernel_rfl) ?_ _
  have HXr2 := Lib.hid (HXr1.out.grp hS2 (fun e => e.elim HNX.out.1.1 HNX.out.1.2))
  have HXs2 := Lib.hid (HXs1.out.grp hS2 (fun e => e.elim HNX.out.2.1 HNX.out.2.2))
  have HZ2 : Hid (Zr w y2 R Sb A n c l 7) := HZb
  clear HZa HZb hS0 hS1 hS2 hB hG hB2 hG2 hs2 HZ1
  obtain ⟨w3, hw3⟩ : ∃ W, W = y2 := ⟨_, rfl⟩
  rw [← hw3] at HZ2 HXr2 HXs2 ⊢
  have d0 : w3.cell? ⟨w.heap.size + 1, 0, none⟩ = some (.pointer (some ⟨Sb, 0, none⟩)) := HXs2.out.cellAt 0
  have d4 : w3.cell? ⟨Sb, 4, none⟩ = some (.slice none 0 0) := HZ2.out.s.cellAt 4
  clear hw3
  go_wp2_with fail
  refine (hsort.out _).mono ?_
  rintro e w4 ⟨rfl, hb4⟩
  have HZ4 := Lib.hid (HZ2.out.below hb4)
  clear hb4 d0 d4 HZ2
  go_wp2_with fail
  first | go_end0 | go_ret
  exact ⟨rfl, HZ4.out⟩
end Go.Proofs.YtjgojgmgicpgaaaGreat
