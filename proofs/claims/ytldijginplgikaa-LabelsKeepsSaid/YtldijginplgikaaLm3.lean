/- Layer 18: Del of the program's index. No condition. -/
import Derived.Test.YtldijginplgikaaLm2
import Derived.Test.YtldijginplgikaaRge
namespace Go.Proofs.Ytldijginplgikaa
open Go.RowKit
set_option linter.unusedSimpArgs false
set_option linter.unusedVariables false

theorem zeroSE (w : World) : (zeroValue 53).run Try.prog w = .ok (.map none) w := by kernel_rfl
theorem zeroLL (w : World) : (zeroValue 36).run Try.prog w = .ok (.slice none 0 0) w := by kernel_rfl
theorem keyS : KeyK Try.prog 9 Value.string := keyStr Try.underlying9
theorem inS_del {S : List SB} {T : Nat → List ByteArray} {s : ByteArray} {lb : Lb} (hn : (S.map Prod.fst).Nodup) (hd : (S.map Prod.snd).Nodup) (lb' : Lb) (t : ByteArray) :
    InS S (setT T (fS S lb) ((nmS S T lb).filter fun x => decide (x ≠ s))) lb' t ↔ InS S T lb' t ∧ ¬ (t = s ∧ lb' = lb) := by
  rw [inS_nm hn, inS_nm hn, nmS_set hd]
  by_cases h : (fS S lb).isSome = true ∧ lb' = lb
  · rw [if_pos h, h.2, List.mem_filter, decide_eq_true_eq]
    exact ⟨fun h2 => ⟨h2.1, fun e => h2.2 e.1⟩, fun h2 => ⟨h2.1, fun e => h2.2 ⟨e, rfl⟩⟩⟩
  · rw [if_neg h]
    refine ⟨fun h2 => ⟨h2, fun e => ?_⟩, fun h2 => h2.1⟩
    rw [e.2] at h2
    unfold nmS at h2
    cases hf : fS S lb with
    | none => rw [hf] at h2; cases h2
    | some k => exact h ⟨by rw [hf]; rfl, e.2⟩
theorem inS_drop {S : List SB} {T : Nat → List ByteArray} {lb : Lb} (hn : (S.map Prod.fst).Nodup) (h0 : nmS S T lb = []) (lb' : Lb) (t : ByteArray) :
    InS (S.filter fun q => decide (q.1 ≠ lb)) T lb' t ↔ InS S T lb' t := by
  constructor
  · rintro ⟨q, hq, h1, h2⟩
    exact ⟨q, (List.mem_filter.1 hq).1, h1, h2⟩
  · rintro ⟨q, hq, h1, h2⟩
    refine ⟨q, List.mem_filter.2 ⟨hq, decide_eq_true fun e => ?_⟩, h1, h2⟩
    have h3 : t ∈ nmS S T lb := (inS_nm hn).1 ⟨q, hq, e, h2⟩
    rw [h0] at h3; cases h3
/-- Where Del stands behind k labels. -/
structure Dk (w wr : World) (b g : Nat) (o1 o2 : Option Nat) (D : List NH) (S0 S : List SB) (T0 T : Nat → List ByteArray) (s : ByteArray) (l : List Lb) : Prop where
  xm : Xm wr b g o1 o2 D S T
  sub : ∀ q ∈ S, q ∈ S0
  rel : ∀ lb t, InS S T lb t ↔ InS S0 T0 lb t ∧ ¬ (t = s ∧ lb ∈ l)
  gr : GrP (XB g o1 o2 D S0) w wr
section
variable {w wr w' : World} {b g : Nat} {o1 o2 : Option Nat} {D : List NH} {S0 S : List SB} {T0 T : Nat → List ByteArray} {s : ByteArray} {l : List Lb} {lb : Lb}
theorem Dk.later (H : Dk w wr b g o1 o2 D S0 S T0 T s l) (hb : Below wr.heap.size wr w') : Dk w w' b g o1 o2 D S0 S T0 T s l := ⟨H.xm.later hb, H.sub, H.rel, H.gr.trans (GrP.ofBelow hb)⟩
theorem XB.of (H : Dk w wr b g o1 o2 D S0 S T0 T s l) {k : Nat} (h : fS S lb = some k) : XB g o1 o2 D S0 k := .inr (.inr (.inr (.inl ⟨_, H.sub _ (fS_mem h), rfl⟩)))
theorem Dk.del (H : Dk w wr b g o1 o2 D S0 S T0 T s l) (hg : wr.grownBy w' (fS S lb)) (hm : MapH Value.string w' (.map (fS S lb)) (((nmS S T lb).filter fun x => decide (x ≠ s)).map eNm)) :
    Dk w w' b g o1 o2 D S0 S T0 (setT T (fS S lb) ((nmS S T lb).filter fun x => decide (x ≠ s))) s (l ++ [lb]) := by
  refine ⟨H.xm.turnSet hg hm, H.sub, fun lb' t => ?_, H.gr.trans ((GrP.of hg).wide fun k _ hk => XB.of H hk)⟩
  rw [inS_del H.xm.keys H.xm.nd, H.rel, and_assoc]
  refine and_congr_right fun _ => ?_
  rw [List.mem_append, List.mem_singleton]
  constructor
  · rintro ⟨h1, h2⟩ ⟨h3, h4 | h4⟩
    · exact h1 ⟨h3, h4⟩
    · exact h2 ⟨h3, h4⟩
  · exact fun h => ⟨fun h2 => h ⟨h2.1, .inl h2.2⟩, fun h2 => h ⟨h2.1, .inr h2.2⟩⟩
theorem Dk.drop (H : Dk w wr b g o1 o2 D S0 S T0 T s l) (h0 : nmS S T lb = []) (hg : wr.grownBy w' o2) (hm : MapH encLb w' (.map o2) ((S.filter fun q => decide (q.1 ≠ lb)).map eSB)) :
    Dk w w' b g o1 o2 D S0 (S.filter fun q => decide (q.1 ≠ lb)) T0 T s l :=
  ⟨H.xm.turn2 hg hm (fun q hq => (List.mem_filter.1 hq).1) ((List.filter_sublist.map _).nodup H.xm.nd), fun q hq => H.sub q (List.mem_filter.1 hq).1, fun lb' t => by rw [inS_drop H.xm.keys h0, H.rel], H.gr.trans ((GrP.of hg).wide fun k _ hk => .inr (.inr (.inl hk)))⟩
end
set_option maxHeartbeats 6400000 in
set_option maxRecDepth 100000 in
/-- A name is struck. -/
theorem del_any (b g : Nat) (o1 o2 : Option Nat) (D : List NH) (S : List SB) (T : Nat → List ByteArray) (s : ByteArray) (w : World) (hbw : b ≤ w.heap.size) (hH : Hid (Xm w b g o1 o2 D S T)) (hbig : (labN D s).n ≤ 1000) :
    Calls Try.prog 12 #[.pointer (some ⟨g, 0, none⟩), .string s] w fun e w' => e = .returned (.bool (hasN D s)) ∧ (∃ S' T', Xm w' b g o1 o2 (dropN D s) S' T' ∧ (∀ q ∈ S', q ∈ S) ∧ ∀ lb t, InS S' T' lb t ↔ InS S T lb t ∧ ¬ (t = s ∧ lb ∈ (labN D s).l)) ∧ GrP (XB g o1 o2 D S) w w' := by
  obtain ⟨R, hR⟩ : ∃ R, R = hasN D s := ⟨_, rfl⟩
  have hlab := hH.out.lab s
  obtain ⟨⟨A, n, c, l⟩, hh⟩ : ∃ h, h = labN D s := ⟨_, rfl⟩
  rw [← hh] at hlab hbig
  have hl : n = l.length := hlab.ln
  have hbig : n ≤ 1000 := hbig
  have q1 : Hid ((getG (D.map eNH) s).getD (.slice none 0 0) = .slice A n c) := by show _ = _; rw [getG_lab, ← hh]
  have q2 : Hid ((getG (D.map eNH) s).isSome = R) := by show _ = _; rw [getG_has, hR]
  rw [← hR, ← hh]
  have HH : Hid (labN D s = ⟨A, n, c, l⟩) := hh.symm
  have HL := Lib.hid hl
  have HLAB := Lib.hid hlab
  have HBIG := Lib.hid hbig
  have H0 : Hid (Dk w w b g o1 o2 D S S T T s []) := ⟨hH.out, fun _ h => h, fun lb t => by simp, GrP.refl _ _⟩
  have hc0 : w.cell? ⟨g, 0, none⟩ = some (.map o1) := hH.out.bk.cellAt 0
  have HM1 := Lib.hid hH.out.mp1
  have HBW := Lib.hid hbw
  clear hh hR hl hlab hbig hbw
  go_enter Try.func12, Try.ntmps12
  go_wp2_with ((with_reducible refine look_g rfl _ _ 32 rfl 9 36 Try.underlying32 keyS (.slice none 0 0) (zeroLL _) (.map o1) rfl HM1.out s rfl _ q1.out _ q2.out ?_))
  clear HM1 hc0
  go_loopw [22] (fun s22 wr => ∃ (k : Nat) (S' : List SB) (T' : Nat → List ByteArray), k ≤ n ∧ s22 = .int .i64 k ∧ Hid (Dk w wr b g o1 o2 D S S' T T' s (l.take k))) (fun s22 wr => n - (intOf s22).toNat)
  case atStart => exact ⟨0, S, T, Nat.zero_le _, rfl, by rw [List.take_zero]; exact H0⟩
  case round =>
    clear H0
    obtain ⟨k, S1, T1, hk, rfl, H⟩ := hrel
    by_cases hlt : k < n
    · have hkl : Hid (k < l.length) := by show k < l.length; rw [← HL.out]; exact hlt
      have hrd : RdL wr A l := by have := H.out.xm.lab s; rw [HH.out] at this; exact this.rd
      obtain ⟨g0, o0, rfl, hg0, c1, c2⟩ := hrd.at hkl.out
      obtain ⟨⟨x1, x2⟩, ex⟩ : ∃ x, x = l[k]'hkl.out := ⟨_, rfl⟩
      have HX := Lib.hid ex
      rw [← ex] at c1 c2
      have hwk : wrap64 ((k : Int) + 1) = ((k + 1 : Nat) : Int) := by have := HBIG.out; unfold wrap64; omega
      obtain ⟨W1, hW1⟩ : ∃ W, W = wr.alloc (.cells #[.string x1, .string x2] 48) := ⟨_, rfl⟩
      obtain ⟨p, hp⟩ : ∃ p, p = wr.heap.size := ⟨_, rfl⟩
      have HBa : Hid (Below wr.heap.size wr W1) := by rw [hW1]; exact (Below.refl _ _).alloc (Nat.le_refl _) _
      have HP1 : Hid (Bk W1 p 48 #[.string x1, .string x2]) := by rw [hW1, hp]; exact Bk.fresh _ _ _
      have H1 := Lib.hid (H.out.later HBa.out)
      have HPL : Hid (¬ XB g o1 o2 D S1 p) := fun hk => by have := H.out.xm.lt p hk; rw [hp] at this; omega
      clear ex hrd hg0 H
      go_wp2_with fail
      rw [← hW1, ← hp]
      clear hW1 hp c1 c2
      have HD1 := Lib.hid (H1.out.later (w' := W1.drew) (Below.drew (Below.refl _ _)))
      have HPD : Hid (Bk W1.drew p 48 #[.string x1, .string x2]) := HP1.out.drewB
      clear H1 HP1
      refine wp_region_held_drew (S := fun W => W.cell? ⟨g, 1, none⟩ = some (.map o2) ∧ Bk W p 48 #[.string x1, .string x2] ∧ MapH encLb W (.map o2) (S1.map eSB)) (by kernel_rfl) (⟨HD1.out.xm.bk.cellAt 1, HPD.out, HD1.out.xm.mp2⟩) (fun hS0 => ?_)
      refine wpAnyH_take (i := 0) (v := ?_) rfl (by kernel_rfl) (by kernel_rfl) (by kernel_rfl) (fun _ _ _ h => h) (Or.inl ⟨by rfl, ?_⟩) hS0 ?_
      rotate_left
      · intro W _; go_simp; try with_reducible rfl
      try simp only [Act.put, List.getElem_toArray, List.getElem_cons_zero, List.setIfInBounds_toArray, List.set_cons_zero, List.set_cons_succ]
      refine wpAnyH_take (i := 1) (v := ?_) rfl (by kernel_rfl) (by kernel_rfl) (by kernel_rfl) (fun _ _ _ h => h) (Or.inl ⟨by rfl, ?_⟩) hS0 ?_
      rotate_left
      · intro W _; go_simp; try with_reducible rfl
      try simp only [Act.put, List.getElem_toArray, List.getElem_cons_zero, List.getElem_cons_succ, List.setIfInBounds_toArray, List.set_cons_zero, List.set_cons_succ]
      refine wpAnyH_take (i := 2) (v := ?_) rfl (by kernel_rfl) (by kernel_rfl) (by kernel_rfl) (fun _ _ _ h => h) (Or.inl ⟨by rfl, ?_⟩) hS0 ?_
      rotate_left
      · intro W _; go_simp; try with_reducible rfl
      try simp only [Act.put, List.getElem_toArray, List.getElem_cons_zero, List.getElem_cons_succ, List.setIfInBounds_toArray, List.set_cons_zero, List.set_cons_succ]
      refine wpAnyH_take (i := 3) (v := ?_) rfl (by kernel_rfl) (by kernel_rfl) (by kernel_rfl) (fun _ _ _ h => h) (Or.inl ⟨by rfl, ?_⟩) hS0 ?_
      rotate_left
      · intro W hSW; have hx := hSW.1; go_simp; try with_reducible rfl
      try simp only [Act.put, List.getElem_toArray, List.getElem_cons_zero, List.getElem_cons_succ, List.setIfInBounds_toArray, List.set_cons_zero, List.set_cons_succ]
      refine wpAnyH_take (i := 4) (v := .agg #[.string x1, .string x2]) rfl (by kernel_rfl) (by kernel_rfl) (by kernel_rfl) (fun _ _ _ h => h) (yields_bk (by rfl) 48 _ rfl p 0 rfl 48 #[.string x1, .string x2] #[.string x1, .string x2] _ (fun W hW => hW.2.1) (Part.whole _) Try.underlying48 rfl (by kernel_rfl)) hS0 ?_
      try simp only [Act.put, List.getElem_toArray, List.getElem_cons_zero, List.getElem_cons_succ, List.setIfInBounds_toArray, List.set_cons_zero, List.set_cons_succ]
      refine wpAnyH_take (i := 5) (v := ?_) rfl (by kernel_rfl) (by kernel_rfl) (by kernel_rfl) (fun _ _ _ h => h) (Or.inl ⟨by rfl, ?_⟩) hS0 ?_
      rotate_left
      · intro W hSW; have hx : (Instr.lookup 33 (.map o2) (.agg #[.string x1, .string x2]) false).run Try.prog W = .ok (.map (fS S1 (x1, x2))) W := look1_run (s := (x1, x2)) Try.underlying33 keyLb (zeroSE _) hSW.2.2 (getG_SB _ _); go_simp; try with_reducible rfl
      try simp only [Act.put, List.getElem_toArray, List.getElem_cons_zero, List.getElem_cons_succ, List.setIfInBounds_toArray, List.set_cons_zero, List.set_cons_succ]
      refine wpAnyH_take (i := 6) (v := ?_) rfl (by kernel_rfl) (by kernel_rfl) (by kernel_rfl) (fun _ _ _ h => h) (Or.inl ⟨by rfl, ?_⟩) hS0 ?_
      rotate_left
      · intro W _; go_simp; try with_reducible rfl
      try simp only [Act.put, List.getElem_toArray, List.getElem_cons_zero, List.getElem_cons_succ, List.setIfInBounds_toArray, List.set_cons_zero, List.set_cons_succ]
      refine wpAnyH_ready (rs := [7]) (by kernel_rfl) (by simp) ?_
      refine AllReadyH.cons rfl (fun K hK => ?_) AllReadyH.nil
      refine delete_g_op _ _ 53 9 rfl _ Try.underlying53 keyS (.map (fS S1 (x1, x2))) rfl (HD1.out.xm.set (x1, x2)) s rfl ?_
      intro w5 hm5 hg5 hs5
      rw [delG_Nm] at hm5
      have H5 := Lib.hid (HD1.out.del (lb := (x1, x2)) hg5 hm5)
      have HP5 : Hid (Bk w5 p 48 #[.string x1, .string x2]) := HPD.out.stays hg5 fun e => HPL.out (fS_blk e.symm)
      clear hm5 hg5 hs5
      refine hK.out _ _ (⟨H5.out.xm.bk.cellAt 1, HP5.out, H5.out.xm.mp2⟩) (fun hS1 => ?_)
      clear hK K
      try simp only [Act.put, List.getElem_toArray, List.getElem_cons_zero, List.getElem_cons_succ, List.setIfInBounds_toArray, List.set_cons_zero, List.set_cons_succ]
      refine wpAnyH_done (by kernel_rfl) ?_ _
      clear HD1 HPD
      obtain ⟨T5, hT5⟩ : ∃ T5, T5 = setT T1 (fS S1 (x1, x2)) ((nmS S1 T1 (x1, x2)).filter fun x => decide (x ≠ s)) := ⟨_, rfl⟩
      rw [← hT5] at H5
      clear hT5
      have HD5 := Lib.hid (H5.out.later (w' := w5.drew) (Below.drew (Below.refl _ _)))
      have HQ5 : Hid (Bk w5.drew p 48 #[.string x1, .string x2]) := HP5.out.drewB
      obtain ⟨m, hm⟩ : ∃ m, m = (nmS S1 T5 (x1, x2)).length := ⟨_, rfl⟩
      have HNL := Lib.hid hm
      clear H5 HP5 hm
      go_wp2_with fail
      refine wp_region_held_drew (S := fun W => W.cell? ⟨g, 1, none⟩ = some (.map o2) ∧ Bk W p 48 #[.string x1, .string x2] ∧ MapH encLb W (.map o2) (S1.map eSB)) (by kernel_rfl) (⟨HD5.out.xm.bk.cellAt 1, HQ5.out, HD5.out.xm.mp2⟩) (fun hS0 => ?_)
      refine wpAnyH_take (i := 0) (v := ?_) rfl (by kernel_rfl) (by kernel_rfl) (by kernel_rfl) (fun _ _ _ h => h) (Or.inl ⟨by rfl, ?_⟩) hS0 ?_
      rotate_left
      · intro W _; go_simp; try with_reducible rfl
      try simp only [Act.put, List.getElem_toArray, List.getElem_cons_zero, List.setIfInBounds_toArray, List.set_cons_zero, List.set_cons_succ]
      refine wpAnyH_take (i := 1) (v := ?_) rfl (by kernel_rfl) (by kernel_rfl) (by kernel_rfl) (fun _ _ _ h => h) (Or.inl ⟨by rfl, ?_⟩) hS0 ?_
      rotate_left
      · intro W _; go_simp; try with_reducible rfl
      try simp only [Act.put, List.getElem_toArray, List.getElem_cons_zero, List.getElem_cons_succ, List.setIfInBounds_toArray, List.set_cons_zero, List.set_cons_succ]
      refine wpAnyH_take (i := 2) (v := ?_) rfl (by kernel_rfl) (by kernel_rfl) (by kernel_rfl) (fun _ _ _ h => h) (Or.inl ⟨by rfl, ?_⟩) hS0 ?_
      rotate_left
      · intro W _; go_simp; try with_reducible rfl
      try simp only [Act.put, List.getElem_toArray, List.getElem_cons_zero, List.getElem_cons_succ, List.setIfInBounds_toArray, List.set_cons_zero, List.set_cons_succ]
      refine wpAnyH_take (i := 3) (v := ?_) rfl (by kernel_rfl) (by kernel_rfl) (by kernel_rfl) (fun _ _ _ h => h) (Or.inl ⟨by rfl, ?_⟩) hS0 ?_
      rotate_left
      · intro W hSW; have hx := hSW.1; go_simp; try with_reducible rfl
      try simp only [Act.put, List.getElem_toArray, List.getElem_cons_zero, List.getElem_cons_succ, List.setIfInBounds_toArray, List.set_cons_zero, List.set_cons_succ]
      refine wpAnyH_take (i := 4) (v := .agg #[.string x1, .string x2]) rfl (by kernel_rfl) (by kernel_rfl) (by kernel_rfl) (fun _ _ _ h => h) (yields_bk (by rfl) 48 _ rfl p 0 rfl 48 #[.string x1, .string x2] #[.string x1, .string x2] _ (fun W hW => hW.2.1) (Part.whole _) Try.underlying48 rfl (by kernel_rfl)) hS0 ?_
      try simp only [Act.put, List.getElem_toArray, List.getElem_cons_zero, List.getElem_cons_succ, List.setIfInBounds_toArray, List.set_cons_zero, List.set_cons_succ]
      refine wpAnyH_take (i := 5) (v := ?_) rfl (by kernel_rfl) (by kernel_rfl) (by kernel_rfl) (fun _ _ _ h => h) (Or.inl ⟨by rfl, ?_⟩) hS0 ?_
      rotate_left
      · intro W hSW; have hx : (Instr.lookup 33 (.map o2) (.agg #[.string x1, .string x2]) false).run Try.prog W = .ok (.map (fS S1 (x1, x2))) W := look1_run (s := (x1, x2)) Try.underlying33 keyLb (zeroSE _) hSW.2.2 (getG_SB _ _); go_simp; try with_reducible rfl
      try simp only [Act.put, List.getElem_toArray, List.getElem_cons_zero, List.getElem_cons_succ, List.setIfInBounds_toArray, List.set_cons_zero, List.set_cons_succ]
      refine wpAnyH_ready (rs := [6]) (by kernel_rfl) (by simp) ?_
      refine AllReadyH.cons rfl (fun K hK => ?_) AllReadyH.nil
      refine len_g_op _ 53 rfl _ _ Try.underlying53 (.map (fS S1 (x1, x2))) rfl (HD5.out.xm.set (x1, x2)) ?_
      rw [List.length_map, ← HNL.out]
      refine hK.out _ _ (hS0) (fun hS1 => ?_)
      clear hK K
      try simp only [Act.put, List.getElem_toArray, List.getElem_cons_zero, List.getElem_cons_succ, List.setIfInBounds_toArray, List.set_cons_zero, List.set_cons_succ]
      refine wpAnyH_take (i := 7) (v := ?_) rfl (by kernel_rfl) (by kernel_rfl) (by kernel_rfl) (fun _ _ _ h => h) (Or.inl ⟨by rfl, ?_⟩) hS1 ?_
      rotate_left
      · intro W _; go_simp; try with_reducible rfl
      try simp only [Act.put, List.getElem_toArray, List.getElem_cons_zero, List.getElem_cons_succ, List.setIfInBounds_toArray, List.set_cons_zero, List.set_cons_succ]
      refine wpAnyH_done (by kernel_rfl) ?_ _
      clear hS0 hS1
      have HTK : Hid (l.take (k + 1) = l.take k ++ [(x1, x2)]) := by show _ = _; rw [List.take_succ_eq_append_getElem hkl.out, ← HX.out]
      by_cases hm0 : m = 0
      · have hmb : ((m : Int) == 0) = true := by rw [hm0]; rfl
        have HN0 : Hid (nmS S1 T5 (x1, x2) = []) := List.eq_nil_of_length_eq_zero (by rw [← HNL.out]; exact hm0)
        clear hm0
        have HD6 := Lib.hid (HD5.out.later (w' := w5.drew.drew) (Below.drew (Below.refl _ _)))
        have HQ6 : Hid (Bk w5.drew.drew p 48 #[.string x1, .string x2]) := HQ5.out.drewB
        go_wp2_with fail
        clear HD5 HQ5 HNL
        refine wp_region_held_drew (S := fun W => W.cell? ⟨g, 1, none⟩ = some (.map o2) ∧ Bk W p 48 #[.string x1, .string x2]) (by kernel_rfl) (⟨HD6.out.xm.bk.cellAt 1, HQ6.out⟩) (fun hS0 => ?_)
        refine wpAnyH_take (i := 0) (v := ?_) rfl (by kernel_rfl) (by kernel_rfl) (by kernel_rfl) (fun _ _ _ h => h) (Or.inl ⟨by rfl, ?_⟩) hS0 ?_
        rotate_left
        · intro W _; go_simp; try with_reducible rfl
        try simp only [Act.put, List.getElem_toArray, List.getElem_cons_zero, List.setIfInBounds_toArray, List.set_cons_zero, List.set_cons_succ]
        refine wpAnyH_take (i := 1) (v := ?_) rfl (by kernel_rfl) (by kernel_rfl) (by kernel_rfl) (fun _ _ _ h => h) (Or.inl ⟨by rfl, ?_⟩) hS0 ?_
        rotate_left
        · intro W _; go_simp; try with_reducible rfl
        try simp only [Act.put, List.getElem_toArray, List.getElem_cons_zero, List.getElem_cons_succ, List.setIfInBounds_toArray, List.set_cons_zero, List.set_cons_succ]
        refine wpAnyH_take (i := 2) (v := ?_) rfl (by kernel_rfl) (by kernel_rfl) (by kernel_rfl) (fun _ _ _ h => h) (Or.inl ⟨by rfl, ?_⟩) hS0 ?_
        rotate_left
        · intro W _; go_simp; try with_reducible rfl
        try simp only [Act.put, List.getElem_toArray, List.getElem_cons_zero, List.getElem_cons_succ, List.setIfInBounds_toArray, List.set_cons_zero, List.set_cons_succ]
        refine wpAnyH_take (i := 3) (v := ?_) rfl (by kernel_rfl) (by kernel_rfl) (by kernel_rfl) (fun _ _ _ h => h) (Or.inl ⟨by rfl, ?_⟩) hS0 ?_
        rotate_left
        · intro W hSW; have hx := hSW.1; go_simp; try with_reducible rfl
        try simp only [Act.put, List.getElem_toArray, List.getElem_cons_zero, List.getElem_cons_succ, List.setIfInBounds_toArray, List.set_cons_zero, List.set_cons_succ]
        refine wpAnyH_take (i := 4) (v := .agg #[.string x1, .string x2]) rfl (by kernel_rfl) (by kernel_rfl) (by kernel_rfl) (fun _ _ _ h => h) (yields_bk (by rfl) 48 _ rfl p 0 rfl 48 #[.string x1, .string x2] #[.string x1, .string x2] _ (fun W hW => hW.2) (Part.whole _) Try.underlying48 rfl (by kernel_rfl)) hS0 ?_
        try simp only [Act.put, List.getElem_toArray, List.getElem_cons_zero, List.getElem_cons_succ, List.setIfInBounds_toArray, List.set_cons_zero, List.set_cons_succ]
        refine wpAnyH_ready (rs := [5]) (by kernel_rfl) (by simp) ?_
        refine AllReadyH.cons rfl (fun K hK => ?_) AllReadyH.nil
        refine delete_g_op _ _ 33 48 rfl _ Try.underlying33 keyLb (.map o2) rfl HD6.out.xm.mp2 (x1, x2) rfl ?_
        intro w7 hm7 hg7 hs7
        rw [delG_SB] at hm7
        have H7 := Lib.hid (HD6.out.drop HN0.out hg7 hm7)
        have HP7 : Hid (Bk w7 p 48 #[.string x1, .string x2]) := HQ6.out.stays hg7 fun e => HPL.out (.inr (.inr (.inl e.symm)))
        clear hm7 hg7 hs7
        refine hK.out _ _ (⟨H7.out.xm.bk.cellAt 1, HP7.out⟩) (fun hS1 => ?_)
        clear hK K
        try simp only [Act.put, List.getElem_toArray, List.getElem_cons_zero, List.getElem_cons_succ, List.setIfInBounds_toArray, List.set_cons_zero, List.set_cons_succ]
        refine wpAnyH_done (by kernel_rfl) ?_ _
        go_wp2_with fail
        have HR7 : Hid (Dk w w7 b g o1 o2 D S (S1.filter fun q => decide (q.1 ≠ (x1, x2))) T T5 s (l.take (k + 1))) := by show Dk _ _ _ _ _ _ _ _ _ _ _ _ _; rw [HTK.out]; exact H7.out
        go_round
        case rel => exact ⟨k + 1, _, _, by omega, by go_num, HR7⟩
        case measure => simp [intOf]; omega
      · have hmb : ((m : Int) == 0) = false := by rw [Bool.eq_false_iff]; intro e; exact hm0 (by simpa using e)
        have HR7 : Hid (Dk w w5.drew b g o1 o2 D S S1 T T5 s (l.take (k + 1))) := by show Dk _ _ _ _ _ _ _ _ _ _ _ _ _; rw [HTK.out]; exact HD5.out
        clear hm0 HD5 HQ5 HNL
        go_wp2_with fail
        go_round
        case rel => exact ⟨k + 1, _, _, by omega, by go_num, HR7⟩
        case measure => simp [intOf]; omega
    · have hkn : k = n := by omega
      subst hkn
      have HTK : Hid (l.take k = l) := List.take_of_length_le (by rw [← HL.out]; exact Nat.le_refl _)
      have HD : Hid (Dk w wr b g o1 o2 D S S1 T T1 s l) := by have := H.out; rw [HTK.out] at this; exact this
      have c0 : wr.cell? ⟨g, 0, none⟩ = some (.map o1) := HD.out.xm.bk.cellAt 0
      have HM1 := Lib.hid HD.out.xm.mp1
      clear H HTK hk
      go_wp2_with ((with_reducible refine delete_g rfl _ _ 32 9 rfl 36 Try.underlying32 keyS (.map o1) rfl HM1.out s rfl ?_); intro w7 hm7 hg7 hs7; rw [delG_NH] at hm7; have HM7 := Lib.hid hm7; have HG7 := Lib.hid hg7; clear hm7 hg7 hs7)
      go_ret
      exact ⟨rfl, ⟨S1, T1, HD.out.xm.turn1 HG7.out HM7.out (fun p hp => (dropN_mem.1 hp).1), HD.out.sub, HD.out.rel⟩, HD.out.gr.trans ((GrP.of HG7.out).wide fun k _ hk => .inr (.inl hk))⟩
end Go.Proofs.Ytldijginplgikaa
