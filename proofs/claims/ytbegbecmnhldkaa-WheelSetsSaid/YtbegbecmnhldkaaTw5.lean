/- The document's wheel: what it is in memory; Del. Condition: at most 1000 names. -/
import Derived.Test.YtbegbecmnhldkaaTw1
namespace Go.Proofs.Ytbegbecmnhldkaa
open Go.RowKit
set_option linter.unusedSimpArgs false
set_option linter.unusedVariables false

theorem haltT {P : Program} {ops : Array Oper} {rest : List Oper} {o : Oper} {a : Act} {w : World} {Q : Exit → Act → World → Prop} (d : Nat) (_hd : o.dst = some d) (h : Hid (wpList P ops Q (o :: rest) a w)) : wpList P ops Q (o :: rest) a w := h.out
/-- The document's index at r. -/
structure Ry (w : World) (b r : Nat) (vN vA : Value) (D : List NT) : Prop where
  bk : Bk w r 31 #[vN, vA]
  nm : OwnK w b 9 1 vN (cellsS (D.map Prod.fst))
  am : OwnK w b 3 1 vA (cellsI (D.map Prod.snd))
  le : b ≤ r
/-- Its blocks. -/
def RyB (r : Nat) (vN vA : Value) (k : Nat) : Prop := k = r ∨ vN.ownBlock = some k ∨ vA.ownBlock = some k
section
variable {w w' : World} {b b' r : Nat} {vN vA : Value} {D : List NT}
theorem Ry.later (H : Ry w b r vN vA D) (hb : Below w.heap.size w w') : Ry w' b r vN vA D := ⟨H.bk.later hb, H.nm.below hb, H.am.below hb, H.le⟩
theorem Ry.grp {p : Nat → Prop} (H : Ry w b r vN vA D) (hg : GrP p w w') (hn : ∀ k, RyB r vN vA k → ¬ p k) : Ry w' b r vN vA D :=
  ⟨H.bk.grp hg (hn r (.inl rfl)), H.nm.grp hg fun k hk => hn k (.inr (.inl hk)), H.am.grp hg fun k hk => hn k (.inr (.inr hk)), H.le⟩
theorem Ry.base (H : Ry w b r vN vA D) (hb : b' ≤ b) : Ry w b' r vN vA D := ⟨H.bk, H.nm.base hb, H.am.base hb, Nat.le_trans hb H.le⟩
theorem Ry.blk (H : Ry w b r vN vA D) {k : Nat} (hk : RyB r vN vA k) : b ≤ k ∧ k < w.heap.size := by
  rcases hk with rfl | h | h
  · exact ⟨H.le, H.bk.here⟩
  · exact ⟨H.nm.block k h, H.nm.lt h⟩
  · exact ⟨H.am.block k h, H.am.lt h⟩
theorem OwnK.notMapT {k : Nat} {e : TypeId} {v m : Value} {l : List (List Value)} {L : Ents} (h : OwnK w b e k v l) (hm : MapV w m L) {q : Nat} (hq : mapBlock m = some q) : v.ownBlock ≠ some q := fun he => by
  rcases hm with ⟨rfl, _⟩ | ⟨b', rfl, hM⟩
  · cases hq
  · injection hq with hq
    subst hq
    obtain ⟨es, clock, hb⟩ := hM.here
    rcases h.2.2 with ⟨rfl, _⟩ | ⟨g', cap, cur, rfl, _, hg, _⟩
    · cases he
    · injection he with he
      subst he
      have := hg.symm.trans hb
      injection this with this
      cases this
/-- The program's index and the document's lie apart. -/
theorem Wx.parted {b2 g : Nat} {M : Nat → Value} {E : List NT} (H : Wx w b2 g M E) (R : Ry w b r vN vA D) : ∀ k, WxB g M k → ¬ RyB r vN vA k := by
  intro k h1 h2
  rcases h1 with rfl | ⟨i, hi, hm⟩
  · rcases h2 with h2 | h2 | h2
    · exact Bk.ne H.bk R.bk (by rw [cT_size]; show 16 ≠ 2; decide) h2
    · exact (R.nm.notBk H.bk (by decide)).elim (fun e => by rw [e] at h2; cases h2) fun e => e h2
    · exact (R.am.notBk H.bk (by decide)).elim (fun e => by rw [e] at h2; cases h2) fun e => e h2
  · obtain ⟨L, hM, _⟩ := H.maps i hi
    rcases h2 with rfl | h2 | h2
    · rcases hM with ⟨h3, _⟩ | ⟨b', h3, h4⟩
      · rw [h3] at hm; cases hm
      · rw [h3] at hm
        injection hm with hm
        subst hm
        obtain ⟨es, clock, hb⟩ := h4.here
        have := R.bk.symm.trans hb
        cases this
    · exact R.nm.notMapT hM hm h2
    · exact R.am.notMapT hM hm h2
end
/-- Names and vectors that stay. -/
structure Dt (w wr : World) (E : List NT) (vn va : Value) : Prop where
  be : Below w.heap.size w wr
  nm : OwnK wr w.heap.size 9 1 vn (cellsS (E.map Prod.fst))
  am : OwnK wr w.heap.size 3 1 va (cellsI (E.map Prod.snd))
section
variable {w wr w' : World} {E : List NT} {vn va v : Value} {s : ByteArray} {t : Int}
theorem Dt.below (H : Dt w wr E vn va) (hb : Below wr.heap.size wr w') : Dt w w' E vn va := ⟨H.be.trans (hb.mono H.be.size), H.nm.below hb, H.am.below hb⟩
theorem Dt.name (H : Dt w wr E vn va) (hO : OwnK w' w.heap.size 9 1 v (cellsS (E.map Prod.fst ++ [s]))) (hg : wr.grownBy w' vn.ownBlock) : Below w.heap.size w w' ∧ OwnK w' w.heap.size 3 1 va (cellsI (E.map Prod.snd)) := by
  refine ⟨H.be.grown hg H.be.size fun k hk => H.nm.block k hk, H.am.grp (GrP.of hg) fun k hk e => ?_⟩
  exact H.nm.parted H.am (by decide) e hk
theorem Dt.vec (h : Below w.heap.size w wr) (hO : OwnK wr w.heap.size 9 1 vn (cellsS (E.map Prod.fst ++ [s]))) (ha : OwnK wr w.heap.size 3 1 va (cellsI (E.map Prod.snd))) (hO2 : OwnK w' w.heap.size 3 1 v (cellsI (E.map Prod.snd ++ [t]))) (hg : wr.grownBy w' va.ownBlock) : Dt w w' (E ++ [(s, t)]) vn v := by
  refine ⟨h.grown hg h.size fun k hk => ha.block k hk, ?_, by rw [List.map_append]; exact hO2⟩
  rw [List.map_append]
  exact hO.grp (GrP.of hg) fun k hk e => hO.parted ha (by decide) hk e
end
theorem delT_snoc (D : List NT) (p : NT) (s : ByteArray) : delT (D ++ [p]) s = if p.1 = s then delT D s else delT D s ++ [p] := by
  unfold delT
  rw [List.filter_append, List.filter_cons]
  by_cases h : p.1 = s
  · rw [if_neg (by simp [h]), if_pos h]; simp
  · rw [if_pos (by simp [h]), if_neg h]; simp
theorem delT_lt {D : List NT} {s : ByteArray} : decide ((delT D s).length < D.length) = (getT D s).isSome := by
  cases h : getT D s with
  | none =>
    rw [delT_none (getT_none.1 h)]
    exact decide_eq_false (by omega)
  | some t =>
    refine decide_eq_true ?_
    have hm := getT_mem h
    rcases Nat.lt_or_ge (delT D s).length D.length with h1 | h1
    · exact h1
    · have h2 : (delT D s).length = D.length := Nat.le_antisymm (List.length_filter_le _ _) h1
      have h3 := List.length_filter_eq_length_iff.1 h2 _ hm
      simp at h3
theorem delT_len (D : List NT) (s : ByteArray) : (delT D s).length ≤ D.length := List.length_filter_le _ _
set_option maxHeartbeats 6400000 in
set_option maxRecDepth 100000 in
/-- A name is struck. -/
theorem rdelT_any (b r : Nat) (vN vA : Value) (D : List NT) (s : ByteArray) (w : World) (hbig : D.length ≤ 1000) (hR : Hid (Ry w b r vN vA D)) (hb : b ≤ w.heap.size) :
    Calls Try.prog 13 #[.pointer (some ⟨r, 0, none⟩), .string s] w fun e w' => e = .returned (.bool (getT D s).isSome) ∧ (∃ vN' vA', Ry w' b r vN' vA' (delT D s)) ∧ GrP (fun k => k = r) w w' := by
  rw [← delT_lt]
  obtain ⟨N, hN⟩ : ∃ N, N = D.length := ⟨_, rfl⟩
  obtain ⟨A, c, hv, HRN, -, -⟩ := hR.out.nm.rds
  rw [List.length_map, ← hN] at hv
  subst hv
  obtain ⟨B, d, hv, HRV, -, -⟩ := hR.out.am.rdi
  rw [List.length_map, ← hN] at hv
  subst hv
  have HR1 := Lib.hid HRN
  have HR2 := Lib.hid HRV
  have HN := Lib.hid hN
  rw [← hN] at hbig
  have HBB := Lib.hid hb
  have HBG := Lib.hid hbig
  have H0 : Hid (Dt w w (delT (D.take 0) s) (.slice none 0 0) (.slice none 0 0)) := ⟨Below.refl _ _, OwnK.nil _ _ _ _, OwnK.nil _ _ _ _⟩
  have hr0 : w.cell? ⟨r, 0, none⟩ = some (.slice A N c) := hR.out.bk.cellAt 0
  clear hN HRN HRV hb hbig
  go_enter Try.func13, Try.ntmps13
  go_wp2_with fail
  go_loopw [14, 5, 6] (fun s14 s5 s6 wr => ∃ (k : Nat) (vn va : Value), k ≤ N ∧ s14 = .int .i64 k ∧ s5 = vn ∧ s6 = va ∧ Hid (Dt w wr (delT (D.take k) s) vn va)) (fun s14 s5 s6 wr => N - (intOf s14).toNat)
  case atStart => exact ⟨0, _, _, Nat.zero_le _, rfl, rfl, rfl, H0⟩
  case round =>
    clear H0 hr0
    obtain ⟨k, vn, va, hk, rfl, h5, h6, H⟩ := hrel
    obtain ⟨A1, c1, hv1, -, -, -⟩ := H.out.nm.rds
    obtain ⟨A2, c2, hv2, -, -, -⟩ := H.out.am.rdi
    obtain ⟨q, hq⟩ : ∃ q, q = (delT (D.take k) s).length := ⟨_, rfl⟩
    rw [List.length_map, ← hq] at hv1
    rw [List.length_map, ← hq] at hv2
    subst hv1 hv2
    subst h5 h6
    have hqk : q ≤ k := by rw [hq]; exact Nat.le_trans (delT_len _ _) (by rw [List.length_take]; omega)
    have HQ := Lib.hid hq
    have cr : wr.cell? ⟨r, 0, none⟩ = some (.slice A N c) := (hR.out.bk.later H.out.be).cellAt 0
    have cr1 : wr.cell? ⟨r, 1, none⟩ = some (.slice B N d) := (hR.out.bk.later H.out.be).cellAt 1
    clear hq
    by_cases hlt : k < N
    · have hkl : Hid (k < D.length) := by show k < D.length; rw [← HN.out]; exact hlt
      obtain ⟨⟨x, t⟩, ex⟩ : ∃ x, x = D[k]'hkl.out := ⟨_, rfl⟩
      obtain ⟨g, o, hA, hg, hxw⟩ := HR1.out.at (i := k) (by rw [List.length_map]; exact hkl.out)
      obtain ⟨g2, o2, hB, hg2, hx2⟩ := HR2.out.at (i := k) (by rw [List.length_map]; exact hkl.out)
      rw [List.getElem_map, ← ex] at hxw hx2
      subst hA hB
      have hx : wr.cell? ⟨g, o + k, none⟩ = some (.string x) := (H.out.be.cell (p := ⟨g, o + k, none⟩) hg).trans hxw
      have HXT : Hid (∀ W, Below w.heap.size w W → W.cell? ⟨g2, o2 + k, none⟩ = some (.int .i64 t)) := fun W hb => (hb.cell (p := ⟨g2, o2 + k, none⟩) hg2).trans hx2
      have HX := Lib.hid ex
      have hwk : wrap64 ((k : Int) + 1) = ((k + 1 : Nat) : Int) := by have := HBG.out; unfold wrap64; omega
      have HS : Hid (delT (D.take (k + 1)) s = if x = s then delT (D.take k) s else delT (D.take k) s ++ [(x, t)]) := by
        show _ = _
        rw [List.take_succ_eq_append_getElem hkl.out, delT_snoc, ← HX.out]
      clear ex hx2 hxw hg hg2
      by_cases he : x = s
      · have H2 : Hid (Dt w wr (delT (D.take (k + 1)) s) (.slice A1 q c1) (.slice A2 q c2)) := by rw [HS.out, if_pos he]; exact H.out
        subst he
        clear H HS HXT hqk
        go_wp2_with fail
        go_round
        case rel => exact ⟨k + 1, .slice A1 q c1, .slice A2 q c2, by omega, by go_num, rfl, rfl, H2⟩
        case measure =>
          rw [hwk]
          show N - ((k + 1 : Nat) : Int).toNat < N - ((k : Nat) : Int).toNat
          rw [Int.toNat_natCast, Int.toNat_natCast]; omega
      · have he' : (x.toList == s.toList) = false := by cases h : sE x s with
          | false => exact h
          | true => exact absurd (sE_iff.1 h) he
        have HE := Lib.hid he
        have HSZ : Hid (w.heap.size ≤ (wr.alloc (.cells #[.string x] 9)).heap.size) := by show _ ≤ _; have := H.out.be.size; simp; omega
        have HBa : Hid (Below wr.heap.size wr (wr.alloc (.cells #[.string x] 9))) := (Below.refl _ _).alloc (Nat.le_refl _) _
        have HOa := Lib.hid (H.out.below HBa.out)
        have hlen : (delT (D.take k) s).length ≤ 1000 := by have := HBG.out; rw [← HQ.out]; omega
        have HX1 : Hid ((cellsS ((delT (D.take k) s).map Prod.fst)).length + (cellsS [x]).length ≤ maxLen) := by show _ ≤ _; rw [cellsS_length, cellsS_length, List.length_map]; simp [maxLen]; omega
        have HX2 : Hid (((cellsS ((delT (D.take k) s).map Prod.fst)).length + (cellsS [x]).length) * 16 ≤ 140737488355328) := by show _ ≤ _; rw [cellsS_length, cellsS_length, List.length_map]; simp; omega
        have HX3 : Hid ((cellsI ((delT (D.take k) s).map Prod.snd)).length + (cellsI [t]).length ≤ maxLen) := by show _ ≤ _; rw [cellsI_length, cellsI_length, List.length_map]; simp [maxLen]; omega
        have HX4 : Hid (((cellsI ((delT (D.take k) s).map Prod.snd)).length + (cellsI [t]).length) * 8 ≤ 140737488355328) := by show _ ≤ _; rw [cellsI_length, cellsI_length, List.length_map]; simp; omega
        clear he hlen hqk
        go_wp2_with (first | ((with_reducible refine append_k _ rfl (.tmp 26) (.tmp 34) 28 rfl w.heap.size 9 _ 1 16 Try.underlying28 infoS rfl (by omega) (.slice A1 q c1) (cellsS ((delT (D.take k) s).map Prod.fst)) rfl HOa.out.nm ⟨wr.heap.size, 0, none⟩ 1 1 (cellsS [x]) rfl (RdK.of_bk (Bk.fresh _ _ _)) (cellsS_k _) (cellsS_one _) rfl HX1.out HX2.out HSZ.out ?_); intro v7 w7 hO7 hg7; rw [← cellsS_append] at hO7; have HO7 := Lib.hid hO7; have HG7 := Lib.hid hg7; clear hO7 hg7; have H7 := Lib.hid (HOa.out.name HO7.out HG7.out); have cr7 : w7.cell? ⟨r, 1, none⟩ = some (.slice (some ⟨g2, o2, none⟩) N d) := (hR.out.bk.later H7.out.1).cellAt 1; have hx7 : w7.cell? ⟨g2, o2 + k, none⟩ = some (.int .i64 t) := HXT.out w7 H7.out.1; have H7a : Hid (Below w.heap.size w (w7.alloc (.cells #[.int .i64 t] 3)) ∧ OwnK (w7.alloc (.cells #[.int .i64 t] 3)) w.heap.size 3 1 (.slice A2 q c2) (cellsI ((delT (D.take k) s).map Prod.snd)) ∧ OwnK (w7.alloc (.cells #[.int .i64 t] 3)) w.heap.size 9 1 v7 (cellsS ((delT (D.take k) s).map Prod.fst ++ [x]))) := ⟨H7.out.1.alloc H7.out.1.size _, H7.out.2.alloc _, HO7.out.alloc _⟩) | ((with_reducible refine append_k _ rfl (.tmp 36) (.tmp 44) 29 rfl w.heap.size 3 _ 1 8 Try.underlying29 infoI rfl (by omega) (.slice A2 q c2) (cellsI ((delT (D.take k) s).map Prod.snd)) rfl H7a.out.2.1 ⟨w7.heap.size, 0, none⟩ 1 1 (cellsI [t]) rfl (RdK.of_bk (Bk.fresh _ _ _)) (cellsI_k _) (cellsI_one _) rfl HX3.out HX4.out H7a.out.1.size ?_); intro v8 w8 hO8 hg8; rw [← cellsI_append] at hO8; have HO8 := Lib.hid hO8; have HG8 := Lib.hid hg8; clear hO8 hg8) | (with_reducible refine haltT 35 rfl ?_) | (with_reducible refine haltT 45 rfl ?_))
        have H8 : Hid (Dt w w8 (delT (D.take (k + 1)) s) v7 v8) := by
          show Dt _ _ _ _ _
          rw [HS.out, if_neg HE.out]
          exact Dt.vec H7a.out.1 H7a.out.2.2 H7a.out.2.1 HO8.out HG8.out
        clear H7a HO8 HG8 HO7 HG7 H7 cr7 hx7 HXT HOa HBa HSZ HX1 HX2 HX3 HX4 H
        go_round
        case rel => exact ⟨k + 1, _, _, by omega, by go_num, rfl, rfl, H8⟩
        case measure =>
          rw [hwk]
          show N - ((k + 1 : Nat) : Int).toNat < N - ((k : Nat) : Int).toNat
          rw [Int.toNat_natCast, Int.toNat_natCast]; omega
    · have hkN : k = N := by omega
      subst hkN
      have hE : Hid (D.take k = D) := by show _ = _; rw [HN.out, List.take_length]
      have H2 : Hid (Dt w wr (delT D s) (.slice A1 q c1) (.slice A2 q c2)) := by have := H.out; rw [hE.out] at this; exact this
      have HQ2 : Hid (q = (delT D s).length) := by have := HQ.out; rw [hE.out] at this; exact this
      have hf0 : wr.frozen? ⟨r, 0, none⟩ = false := (hR.out.bk.later H.out.be).free 0
      have hf1 : wr.frozen? ⟨r, 1, none⟩ = false := (hR.out.bk.later H.out.be).free 1
      clear H hE HQ hqk
      go_wp2_with fail
      go_ret
      refine ⟨?_, ⟨.slice A1 q c1, .slice A2 q c2, ?_⟩, ?_⟩
      · rw [← HQ2.out, ← HN.out]; first | rfl | (congr 2; simp)
      · have hg2 : GrP (fun k => k = r) wr ((wr.setCell ⟨r, 0, none⟩ (.slice A1 q c1)).setCell ⟨r, 1, none⟩ (.slice A2 q c2)) := ((GrP.refl (fun k => k = r) wr).set (a := ⟨r, 0, none⟩) rfl _).set (a := ⟨r, 1, none⟩) rfl _
        refine ⟨((hR.out.bk.later H2.out.be).put 0 _).put 1 _, (H2.out.nm.grp hg2 fun k hk e => ?_).base HBB.out, (H2.out.am.grp hg2 fun k hk e => ?_).base HBB.out, hR.out.le⟩
        · subst e; have h1 := H2.out.nm.block _ hk; have h2 := hR.out.bk.here; omega
        · subst e; have h1 := H2.out.am.block _ hk; have h2 := hR.out.bk.here; omega
      · exact ((GrP.ofBelow (p := fun k => k = r) H2.out.be).set (a := ⟨r, 0, none⟩) rfl _).set (a := ⟨r, 1, none⟩) rfl _
end Go.Proofs.Ytbegbecmnhldkaa
