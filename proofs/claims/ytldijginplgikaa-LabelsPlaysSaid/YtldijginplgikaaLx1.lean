/- The document's index of labels: what it is in memory; Del. Condition: at most 1000 names. -/
import Derived.Test.YtldijginplgikaaHgr
import Derived.Test.YtldijginplgikaaSt
namespace Go.Proofs.Ytldijginplgikaa
open Go.RowKit
set_option linter.unusedSimpArgs false
set_option linter.unusedVariables false

theorem haltAt {P : Program} {ops : Array Oper} {rest : List Oper} {o : Oper} {a : Act} {w : World} {Q : Exit → Act → World → Prop} (d : Nat) (_hd : o.dst = some d) (h : Hid (wpList P ops Q (o :: rest) a w)) : wpList P ops Q (o :: rest) a w := h.out
/-- A slice of labels: where it lies, and what it reads as. -/
structure Hd where
  a : Option Addr
  n : Nat
  c : Nat
  l : List Lb
abbrev Hd.v (h : Hd) : Value := .slice h.a h.n h.c
/-- It is so in memory. -/
structure Hd.Ok (w : World) (h : Hd) : Prop where
  ln : h.n = h.l.length
  rd : RdL w h.a h.l
  lc : h.n ≤ h.c
  cm : h.c ≤ 9223372036854775807
theorem Hd.Ok.later {w w' : World} {h : Hd} (H : h.Ok w) (hb : Below w.heap.size w w') : h.Ok w' := ⟨H.ln, H.rd.later hb, H.lc, H.cm⟩
/-- A name and its labels. -/
abbrev NH := ByteArray × Hd
/-- The cells of slices of labels. -/
def cellsH (l : List Hd) : List (List Value) := l.map fun h => [.slice h.a h.n h.c]
theorem cellsH_length (l : List Hd) : (cellsH l).length = l.length := by simp [cellsH]
theorem cellsH_append (l m : List Hd) : cellsH (l ++ m) = cellsH l ++ cellsH m := by simp [cellsH]
theorem cellsH_take (l : List Hd) (k : Nat) : cellsH (l.take k) = (cellsH l).take k := by unfold cellsH; rw [List.map_take]
theorem cellsH_drop (l : List Hd) (k : Nat) : cellsH (l.drop k) = (cellsH l).drop k := by unfold cellsH; rw [List.map_drop]
theorem cellsH_k (l : List Hd) : ∀ x ∈ cellsH l, x.length = 1 := by
  intro x hx
  obtain ⟨y, _, rfl⟩ := List.mem_map.1 hx
  rfl
theorem cellsH_one (l : List Hd) : ∀ y ∈ cellsH l, ∀ u ∈ y, u.oneCell' = true := by
  intro x hx u hu
  obtain ⟨y, _, rfl⟩ := List.mem_map.1 hx
  simp only [List.mem_cons, List.not_mem_nil, or_false] at hu
  subst hu; rfl
theorem infoH : (Try.prog.info? 36).map (fun i => (i.zero, i.size, i.bytes)) = some (some (.slice none 0 0), 1, 24) := by kernel_rfl
theorem RdK.hd {w : World} {A : Option Addr} {l : List Hd} (h : RdK w 1 A (cellsH l)) {i : Nat} (hi : i < l.length) : ∃ g o, A = some ⟨g, o, none⟩ ∧ g < w.heap.size ∧ w.cell? ⟨g, o + i, none⟩ = some (.slice l[i].a l[i].n l[i].c) := by
  obtain ⟨g, o, ha, hr⟩ := h.at (i := i) (by rw [cellsH_length]; exact hi)
  have hc := hr 0 (.slice l[i].a l[i].n l[i].c) (by simp [cellsH])
  rw [Nat.mul_one, Nat.add_zero] at hc
  exact ⟨g, o, ha, World.block_lt_of_cell? w _ hc, hc⟩
/-- The document's index at r. -/
structure Lx (w : World) (b r : Nat) (vN vA : Value) (D : List NH) : Prop where
  bk : Bk w r 31 #[vN, vA]
  nm : OwnK w b 9 1 vN (cellsS (D.map Prod.fst))
  am : OwnK w b 36 1 vA (cellsH (D.map Prod.snd))
  le : b ≤ r
/-- Its blocks. -/
def LxB (r : Nat) (vN vA : Value) (k : Nat) : Prop := k = r ∨ vN.ownBlock = some k ∨ vA.ownBlock = some k
section
variable {w w' : World} {b b' r : Nat} {vN vA : Value} {D : List NH}
theorem Lx.later (H : Lx w b r vN vA D) (hb : Below w.heap.size w w') : Lx w' b r vN vA D := ⟨H.bk.later hb, H.nm.below hb, H.am.below hb, H.le⟩
theorem Lx.grp {p : Nat → Prop} (H : Lx w b r vN vA D) (hg : GrP p w w') (hn : ∀ k, LxB r vN vA k → ¬ p k) : Lx w' b r vN vA D :=
  ⟨H.bk.grp hg (hn r (.inl rfl)), H.nm.grp hg fun k hk => hn k (.inr (.inl hk)), H.am.grp hg fun k hk => hn k (.inr (.inr hk)), H.le⟩
theorem Lx.base (H : Lx w b r vN vA D) (hb : b' ≤ b) : Lx w b' r vN vA D := ⟨H.bk, H.nm.base hb, H.am.base hb, Nat.le_trans hb H.le⟩
theorem Lx.blk (H : Lx w b r vN vA D) {k : Nat} (hk : LxB r vN vA k) : b ≤ k ∧ k < w.heap.size := by
  rcases hk with rfl | h | h
  · exact ⟨H.le, H.bk.here⟩
  · exact ⟨H.nm.block k h, H.nm.lt h⟩
  · exact ⟨H.am.block k h, H.am.lt h⟩
end
/-- Names and vectors that stay. -/
structure Dl (w wr : World) (E : List NH) (vn va : Value) : Prop where
  be : Below w.heap.size w wr
  nm : OwnK wr w.heap.size 9 1 vn (cellsS (E.map Prod.fst))
  am : OwnK wr w.heap.size 36 1 va (cellsH (E.map Prod.snd))
section
variable {w wr w' : World} {E : List NH} {vn va v : Value} {s : ByteArray} {t : Hd}
theorem Dl.below (H : Dl w wr E vn va) (hb : Below wr.heap.size wr w') : Dl w w' E vn va := ⟨H.be.trans (hb.mono H.be.size), H.nm.below hb, H.am.below hb⟩
theorem Dl.name (H : Dl w wr E vn va) (hO : OwnK w' w.heap.size 9 1 v (cellsS (E.map Prod.fst ++ [s]))) (hg : wr.grownBy w' vn.ownBlock) : Below w.heap.size w w' ∧ OwnK w' w.heap.size 36 1 va (cellsH (E.map Prod.snd)) := by
  refine ⟨H.be.grown hg H.be.size fun k hk => H.nm.block k hk, H.am.grp (GrP.of hg) fun k hk e => ?_⟩
  exact H.nm.parted H.am (by decide) e hk
theorem Dl.vec (h : Below w.heap.size w wr) (hO : OwnK wr w.heap.size 9 1 vn (cellsS (E.map Prod.fst ++ [s]))) (ha : OwnK wr w.heap.size 36 1 va (cellsH (E.map Prod.snd))) (hO2 : OwnK w' w.heap.size 36 1 v (cellsH (E.map Prod.snd ++ [t]))) (hg : wr.grownBy w' va.ownBlock) : Dl w w' (E ++ [(s, t)]) vn v := by
  refine ⟨h.grown hg h.size fun k hk => ha.block k hk, ?_, by rw [List.map_append]; exact hO2⟩
  rw [List.map_append]
  exact hO.grp (GrP.of hg) fun k hk e => hO.parted ha (by decide) hk e
end
/-- All but this name. -/
def dropN {β : Type} (D : List (ByteArray × β)) (s : ByteArray) : List (ByteArray × β) := D.filter fun p => decide (p.1 ≠ s)
/-- Is it there? -/
def hasN {β : Type} (D : List (ByteArray × β)) (s : ByteArray) : Bool := D.any fun p => decide (p.1 = s)
theorem dropN_snoc {β : Type} (D : List (ByteArray × β)) (p : ByteArray × β) (s : ByteArray) : dropN (D ++ [p]) s = if p.1 = s then dropN D s else dropN D s ++ [p] := by
  unfold dropN
  rw [List.filter_append, List.filter_cons]
  by_cases h : p.1 = s
  · rw [if_neg (by simp [h]), if_pos h]; simp
  · rw [if_pos (by simp [h]), if_neg h]; simp
theorem dropN_mem {β : Type} {D : List (ByteArray × β)} {s : ByteArray} {p : ByteArray × β} : p ∈ dropN D s ↔ p ∈ D ∧ p.1 ≠ s := by simp [dropN]
theorem dropN_lt {β : Type} {D : List (ByteArray × β)} {s : ByteArray} : decide ((dropN D s).length < D.length) = hasN D s := by
  cases h : hasN D s with
  | false =>
    have h2 : dropN D s = D := List.filter_eq_self.2 fun p hp => by
      have := List.any_eq_false.1 h p hp
      simpa using this
    rw [h2]
    exact decide_eq_false (by omega)
  | true =>
    refine decide_eq_true ?_
    obtain ⟨p, hm, hp⟩ := List.any_eq_true.1 h
    rcases Nat.lt_or_ge (dropN D s).length D.length with h1 | h1
    · exact h1
    · have h2 : (dropN D s).length = D.length := Nat.le_antisymm (List.length_filter_le _ _) h1
      have h3 := List.length_filter_eq_length_iff.1 h2 _ hm
      simp at h3 hp
      exact absurd hp h3
theorem dropN_len {β : Type} (D : List (ByteArray × β)) (s : ByteArray) : (dropN D s).length ≤ D.length := List.length_filter_le _ _
set_option maxHeartbeats 6400000 in
set_option maxRecDepth 100000 in
/-- A name is struck. -/
theorem rdel_any (b r : Nat) (vN vA : Value) (D : List NH) (s : ByteArray) (w : World) (hbig : D.length ≤ 1000) (hR : Hid (Lx w b r vN vA D)) (hb : b ≤ w.heap.size) :
    Calls Try.prog 13 #[.pointer (some ⟨r, 0, none⟩), .string s] w fun e w' => e = .returned (.bool (hasN D s)) ∧ (∃ vN' vA', Lx w' b r vN' vA' (dropN D s) ∧ ∀ k, LxB r vN' vA' k → k = r ∨ w.heap.size ≤ k) ∧ GrP (fun k => k = r) w w' := by
  rw [← dropN_lt]
  obtain ⟨N, hN⟩ : ∃ N, N = D.length := ⟨_, rfl⟩
  obtain ⟨A, c, hv, HRN, -, -⟩ := hR.out.nm.rds
  rw [List.length_map, ← hN] at hv
  subst hv
  obtain ⟨B, d, hv, HRV, -, -, -⟩ := hR.out.am.sl
  rw [cellsH_length, List.length_map, ← hN] at hv
  subst hv
  have HR1 := Lib.hid HRN
  have HR2 := Lib.hid HRV
  have HN := Lib.hid hN
  rw [← hN] at hbig
  have HBB := Lib.hid hb
  have HBG := Lib.hid hbig
  have H0 : Hid (Dl w w (dropN (D.take 0) s) (.slice none 0 0) (.slice none 0 0)) := ⟨Below.refl _ _, OwnK.nil _ _ _ _, OwnK.nil _ _ _ _⟩
  have hr0 : w.cell? ⟨r, 0, none⟩ = some (.slice A N c) := hR.out.bk.cellAt 0
  clear hN HRN HRV hb hbig
  go_enter Try.func13, Try.ntmps13
  go_wp2_with fail
  go_loopw [14, 5, 6] (fun s14 s5 s6 wr => ∃ (k : Nat) (vn va : Value), k ≤ N ∧ s14 = .int .i64 k ∧ s5 = vn ∧ s6 = va ∧ Hid (Dl w wr (dropN (D.take k) s) vn va)) (fun s14 s5 s6 wr => N - (intOf s14).toNat)
  case atStart => exact ⟨0, _, _, Nat.zero_le _, rfl, rfl, rfl, H0⟩
  case round =>
    clear H0 hr0
    obtain ⟨k, vn, va, hk, rfl, h5, h6, H⟩ := hrel
    obtain ⟨A1, c1, hv1, -, -, -⟩ := H.out.nm.rds
    obtain ⟨A2, c2, hv2, -, -, -, -⟩ := H.out.am.sl
    obtain ⟨q, hq⟩ : ∃ q, q = (dropN (D.take k) s).length := ⟨_, rfl⟩
    rw [List.length_map, ← hq] at hv1
    rw [cellsH_length, List.length_map, ← hq] at hv2
    subst hv1 hv2
    subst h5 h6
    have hqk : q ≤ k := by rw [hq]; exact Nat.le_trans (dropN_len _ _) (by rw [List.length_take]; omega)
    have HQ := Lib.hid hq
    have cr : wr.cell? ⟨r, 0, none⟩ = some (.slice A N c) := (hR.out.bk.later H.out.be).cellAt 0
    have cr1 : wr.cell? ⟨r, 1, none⟩ = some (.slice B N d) := (hR.out.bk.later H.out.be).cellAt 1
    clear hq
    by_cases hlt : k < N
    · have hkl : Hid (k < D.length) := by show k < D.length; rw [← HN.out]; exact hlt
      obtain ⟨⟨x, ⟨t1, t2, t3, t4⟩⟩, ex⟩ : ∃ x, x = D[k]'hkl.out := ⟨_, rfl⟩
      obtain ⟨g, o, hA, hg, hxw⟩ := HR1.out.at (i := k) (by rw [List.length_map]; exact hkl.out)
      obtain ⟨g2, o2, hB, hg2, hx2⟩ := RdK.hd HR2.out (i := k) (by rw [List.length_map]; exact hkl.out)
      rw [List.getElem_map, ← ex] at hxw hx2
      subst hA hB
      have hx : wr.cell? ⟨g, o + k, none⟩ = some (.string x) := (H.out.be.cell (p := ⟨g, o + k, none⟩) hg).trans hxw
      have HRG : Hid (∀ W, Below w.heap.size w W → W.cell? ⟨g2, o2 + k, none⟩ = some (.slice t1 t2 t3)) := fun W hb => (hb.cell (p := ⟨g2, o2 + k, none⟩) hg2).trans hx2
      have HX := Lib.hid ex
      have hwk : wrap64 ((k : Int) + 1) = ((k + 1 : Nat) : Int) := by have := HBG.out; unfold wrap64; omega
      have HS : Hid (dropN (D.take (k + 1)) s = if x = s then dropN (D.take k) s else dropN (D.take k) s ++ [(x, ⟨t1, t2, t3, t4⟩)]) := by
        show _ = _
        rw [List.take_succ_eq_append_getElem hkl.out, dropN_snoc, ← HX.out]
      clear ex hx2 hxw hg hg2
      by_cases he : x = s
      · have H2 : Hid (Dl w wr (dropN (D.take (k + 1)) s) (.slice A1 q c1) (.slice A2 q c2)) := by rw [HS.out, if_pos he]; exact H.out
        subst he
        clear H HS HRG hqk
        go_wp2_with fail
        go_round
        case rel => exact ⟨k + 1, .slice A1 q c1, .slice A2 q c2, by omega, by go_num, rfl, rfl, H2⟩
        case measure =>
          rw [hwk]
          show N - ((k + 1 : Nat) : Int).toNat < N - ((k : Nat) : Int).toNat
          rw [Int.toNat_natCast, Int.toNat_natCast]; omega
      · have he' : (x.toList == s.toList) = false := by cases h : sE x s with
          | false => exact h
          | true => exact absurd (sE_iff.1 h) he
        have HE := Lib.hid he
        have HSZ : Hid (w.heap.size ≤ (wr.alloc (.cells #[.string x] 9)).heap.size) := by show _ ≤ _; have := H.out.be.size; simp; omega
        have HBa : Hid (Below wr.heap.size wr (wr.alloc (.cells #[.string x] 9))) := (Below.refl _ _).alloc (Nat.le_refl _) _
        have HOa := Lib.hid (H.out.below HBa.out)
        have hlen : (dropN (D.take k) s).length ≤ 1000 := by have := HBG.out; rw [← HQ.out]; omega
        have HX1 : Hid ((cellsS ((dropN (D.take k) s).map Prod.fst)).length + (cellsS [x]).length ≤ maxLen) := by show _ ≤ _; rw [cellsS_length, cellsS_length, List.length_map]; simp [maxLen]; omega
        have HX2 : Hid (((cellsS ((dropN (D.take k) s).map Prod.fst)).length + (cellsS [x]).length) * 16 ≤ 140737488355328) := by show _ ≤ _; rw [cellsS_length, cellsS_length, List.length_map]; simp; omega
        have HX3 : Hid ((cellsH ((dropN (D.take k) s).map Prod.snd)).length + (cellsH [⟨t1, t2, t3, t4⟩]).length ≤ maxLen) := by show _ ≤ _; rw [cellsH_length, cellsH_length, List.length_map]; simp [maxLen]; omega
        have HX4 : Hid (((cellsH ((dropN (D.take k) s).map Prod.snd)).length + (cellsH [⟨t1, t2, t3, t4⟩]).length) * 24 ≤ 140737488355328) := by show _ ≤ _; rw [cellsH_length, cellsH_length, List.length_map]; simp; omega
        clear he hlen hqk
        go_wp2_with (first | ((with_reducible refine append_k _ rfl (.tmp 26) (.tmp 34) 28 rfl w.heap.size 9 _ 1 16 Try.underlying28 infoS rfl (by omega) (.slice A1 q c1) (cellsS ((dropN (D.take k) s).map Prod.fst)) rfl HOa.out.nm ⟨wr.heap.size, 0, none⟩ 1 1 (cellsS [x]) rfl (RdK.of_bk (Bk.fresh _ _ _)) (cellsS_k _) (cellsS_one _) rfl HX1.out HX2.out HSZ.out ?_); intro v7 w7 hO7 hg7; rw [← cellsS_append] at hO7; have HO7 := Lib.hid hO7; have HG7 := Lib.hid hg7; clear hO7 hg7; have H7 := Lib.hid (HOa.out.name HO7.out HG7.out); have cr7 : w7.cell? ⟨r, 1, none⟩ = some (.slice (some ⟨g2, o2, none⟩) N d) := (hR.out.bk.later H7.out.1).cellAt 1; have cs7 := HRG.out w7 H7.out.1; have H7a : Hid (Below w.heap.size w (w7.alloc (.cells #[.slice t1 t2 t3] 36)) ∧ OwnK (w7.alloc (.cells #[.slice t1 t2 t3] 36)) w.heap.size 36 1 (.slice A2 q c2) (cellsH ((dropN (D.take k) s).map Prod.snd)) ∧ OwnK (w7.alloc (.cells #[.slice t1 t2 t3] 36)) w.heap.size 9 1 v7 (cellsS ((dropN (D.take k) s).map Prod.fst ++ [x]))) := ⟨H7.out.1.alloc H7.out.1.size _, H7.out.2.alloc _, HO7.out.alloc _⟩) | ((with_reducible refine append_k _ rfl (.tmp 36) (.tmp 44) 29 rfl w.heap.size 36 _ 1 24 Try.underlying29 infoH rfl (by omega) (.slice A2 q c2) (cellsH ((dropN (D.take k) s).map Prod.snd)) rfl H7a.out.2.1 ⟨w7.heap.size, 0, none⟩ 1 1 (cellsH [⟨t1, t2, t3, t4⟩]) rfl (RdK.of_bk (Bk.fresh _ _ _)) (cellsH_k _) (cellsH_one _) rfl HX3.out HX4.out H7a.out.1.size ?_); intro v8 w8 hO8 hg8; rw [← cellsH_append] at hO8; have HO8 := Lib.hid hO8; have HG8 := Lib.hid hg8; clear hO8 hg8) | (with_reducible refine haltAt 35 rfl ?_) | (with_reducible refine haltAt 45 rfl ?_))
        have H8 : Hid (Dl w w8 (dropN (D.take (k + 1)) s) v7 v8) := by
          show Dl _ _ _ _ _
          rw [HS.out, if_neg HE.out]
          exact Dl.vec H7a.out.1 H7a.out.2.2 H7a.out.2.1 HO8.out HG8.out
        clear H7a HO8 HG8 HO7 HG7 H7 cr7 cs7 HOa HBa HSZ HX1 HX2 HX3 HX4 H
        go_round
        case rel => exact ⟨k + 1, _, _, by omega, by go_num, rfl, rfl, H8⟩
        case measure =>
          rw [hwk]
          show N - ((k + 1 : Nat) : Int).toNat < N - ((k : Nat) : Int).toNat
          rw [Int.toNat_natCast, Int.toNat_natCast]; omega
    · have hkN : k = N := by omega
      subst hkN
      have hE : Hid (D.take k = D) := by show _ = _; rw [HN.out, List.take_length]
      have H2 : Hid (Dl w wr (dropN D s) (.slice A1 q c1) (.slice A2 q c2)) := by have := H.out; rw [hE.out] at this; exact this
      have HQ2 : Hid (q = (dropN D s).length) := by have := HQ.out; rw [hE.out] at this; exact this
      have hf0 : wr.frozen? ⟨r, 0, none⟩ = false := (hR.out.bk.later H.out.be).free 0
      have hf1 : wr.frozen? ⟨r, 1, none⟩ = false := (hR.out.bk.later H.out.be).free 1
      clear H hE HQ hqk
      go_wp2_with fail
      go_ret
      refine ⟨?_, ⟨.slice A1 q c1, .slice A2 q c2, ?_, fun k hk => ?_⟩, ?_⟩
      · rw [← HQ2.out, ← HN.out]; first | rfl | (congr 2; simp)
      · have hg2 : GrP (fun k => k = r) wr ((wr.setCell ⟨r, 0, none⟩ (.slice A1 q c1)).setCell ⟨r, 1, none⟩ (.slice A2 q c2)) := ((GrP.refl (fun k => k = r) wr).set (a := ⟨r, 0, none⟩) rfl _).set (a := ⟨r, 1, none⟩) rfl _
        refine ⟨((hR.out.bk.later H2.out.be).put 0 _).put 1 _, (H2.out.nm.grp hg2 fun k hk e => ?_).base HBB.out, (H2.out.am.grp hg2 fun k hk e => ?_).base HBB.out, hR.out.le⟩
        · subst e; have h1 := H2.out.nm.block _ hk; have h2 := hR.out.bk.here; omega
        · subst e; have h1 := H2.out.am.block _ hk; have h2 := hR.out.bk.here; omega
      · rcases hk with e | e | e
        · exact .inl e
        · exact .inr (H2.out.nm.block k e)
        · exact .inr (H2.out.am.block k e)
      · exact ((GrP.ofBelow (p := fun k => k = r) H2.out.be).set (a := ⟨r, 0, none⟩) rfl _).set (a := ⟨r, 1, none⟩) rfl _
end Go.Proofs.Ytldijginplgikaa
