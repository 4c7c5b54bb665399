/- The document's wheel: When, Due. Condition: at most 1000 names. -/
import Derived.Test.YtbegbecmnhldkaaTw4
import Derived.Test.YtbegbecmnhldkaaTw5
namespace Go.Proofs.Ytbegbecmnhldkaa
open Go.RowKit
set_option linter.unusedSimpArgs false
set_option linter.unusedVariables false

theorem getT_at {D : List NT} (hn : (D.map Prod.fst).Nodup) {k : Nat} (hk : k < D.length) {s : ByteArray} {t : Int} (h : (s, t) = D[k]) : getT D s = some t := by
  have := getT_some hn (p := (s, t)) (h ▸ List.getElem_mem hk)
  exact this
set_option maxHeartbeats 6400000 in
set_option maxRecDepth 100000 in
/-- A name's time. -/
theorem rwhen_any (b r : Nat) (vN vA : Value) (D : List NT) (s : ByteArray) (w : World) (hbig : D.length ≤ 1000) (hn : Hid ((D.map Prod.fst).Nodup)) (hR : Hid (Ry w b r vN vA D)) :
    Calls Try.prog 15 #[.pointer (some ⟨r, 0, none⟩), .string s] w fun e w' => e = .returned (.tuple #[.int .i64 ((getT D s).getD 0), .bool (getT D s).isSome]) ∧ Below w.heap.size w w' := by
  obtain ⟨R, hRR⟩ : ∃ R, R = getT D s := ⟨_, rfl⟩
  rw [← hRR]
  have HRR := Lib.hid hRR
  clear hRR
  obtain ⟨N, hN⟩ : ∃ N, N = D.length := ⟨_, rfl⟩
  obtain ⟨A, c, hv, HRN, -, -⟩ := hR.out.nm.rds
  rw [List.length_map, ← hN] at hv
  subst hv
  obtain ⟨B, d, hv, HRV, -, -⟩ := hR.out.am.rdi
  rw [List.length_map, ← hN] at hv
  subst hv
  have HR1 := Lib.hid HRN
  have HR2 := Lib.hid HRV
  have HN := Lib.hid hN
  rw [← hN] at hbig
  have HBG := Lib.hid hbig
  clear hN HRN HRV hbig
  have cr : w.cell? ⟨r, 0, none⟩ = some (.slice A N c) := hR.out.bk.cellAt 0
  have cr1 : w.cell? ⟨r, 1, none⟩ = some (.slice B N d) := hR.out.bk.cellAt 1
  go_enter Try.func15, Try.ntmps15
  go_wp2_with fail
  go_loopw [12] (fun s12 wr => ∃ k : Nat, k ≤ N ∧ s12 = .int .i64 k ∧ Hid (∀ p ∈ D.take k, p.1 ≠ s) ∧ wr = w) (fun s12 wr => N - (intOf s12).toNat)
  case atStart => exact ⟨0, Nat.zero_le _, rfl, (by intro p hp; simp at hp), rfl⟩
  case round =>
    obtain ⟨k, hk, rfl, HNO, hwr⟩ := hrel
    rw [hwr]
    clear hwr wr
    by_cases hlt : k < N
    · skip
      have hkl : Hid (k < D.length) := by show k < D.length; rw [← HN.out]; exact hlt
      obtain ⟨⟨x, t⟩, ex⟩ : ∃ x, x = D[k]'hkl.out := ⟨_, rfl⟩
      obtain ⟨g, o, hA, hg, hxw⟩ := HR1.out.at (i := k) (by rw [List.length_map]; exact hkl.out)
      obtain ⟨g2, o2, hB, hg2, hx2⟩ := HR2.out.at (i := k) (by rw [List.length_map]; exact hkl.out)
      rw [List.getElem_map, ← ex] at hxw hx2
      subst hA hB
      have HX := Lib.hid ex
      have HXC : Hid (∀ W, Below w.heap.size w W → W.cell? ⟨g, o + k, none⟩ = some (.string x)) := fun W hb => (hb.cell (p := ⟨g, o + k, none⟩) hg).trans hxw
      have HTC : Hid (∀ W, Below w.heap.size w W → W.cell? ⟨g2, o2 + k, none⟩ = some (.int .i64 t)) := fun W hb => (hb.cell (p := ⟨g2, o2 + k, none⟩) hg2).trans hx2
      have hwk : wrap64 ((k : Int) + 1) = ((k + 1 : Nat) : Int) := by have := HBG.out; unfold wrap64; omega
      clear ex hx2 hxw hg hg2
      have hx := HXC.out w (Below.refl _ _)
      have ht := HTC.out w (Below.refl _ _)
      by_cases he : x = s
      · have hRs : R = some t := by rw [HRR.out, ← he]; exact getT_at hn.out hkl.out HX.out
        subst hRs
        subst he
        clear HXC HTC
        go_wp2_with fail
        go_ret2
        exact ⟨rfl, Below.refl _ _⟩
      · have he' : (x.toList == s.toList) = false := by cases h : sE x s with
          | false => exact h
          | true => exact absurd (sE_iff.1 h) he
        have HN2 : Hid (∀ p ∈ D.take (k + 1), p.1 ≠ s) := fun p hp => by
          rw [List.take_succ_eq_append_getElem hkl.out] at hp
          rcases List.mem_append.1 hp with hp | hp
          · exact HNO.out p hp
          · rw [List.mem_singleton.1 hp, ← HX.out]; exact he
        clear he HXC HTC
        go_wp2_with fail
        go_round
        case rel => exact ⟨k + 1, by omega, by go_num, HN2, trivial⟩
        case measure =>
          first
          | (rw [hwk]; show N - ((k + 1 : Nat) : Int).toNat < N - ((k : Nat) : Int).toNat; rw [Int.toNat_natCast, Int.toNat_natCast]; omega)
          | (show N - ((k : Int) + 1).toNat < N - ((k : Nat) : Int).toNat; omega)
    · have hkN : k = N := by omega
      subst hkN
      have hE : D.take k = D := by rw [HN.out, List.take_length]
      have hRs : R = none := by
        rw [HRR.out]
        exact getT_none.2 fun p hp => HNO.out p (by rw [hE]; exact hp)
      subst hRs
      clear hE
      go_wp2_with fail
      go_ret2
      exact ⟨rfl, Below.refl _ _⟩
/-- Without these names. -/
def delsT (D : List NT) (l : List ByteArray) : List NT := D.filter fun p => l.all fun s => decide (p.1 ≠ s)
theorem delsT_nil (D : List NT) : delsT D [] = D := List.filter_eq_self.2 fun p _ => by simp
theorem delsT_snoc (D : List NT) (l : List ByteArray) (s : ByteArray) : delT (delsT D l) s = delsT D (l ++ [s]) := by
  unfold delT delsT
  rw [List.filter_filter]
  refine List.filter_congr fun p _ => ?_
  rw [List.all_append, Bool.and_comm]
  simp
theorem delsT_due {D : List NT} (hn : (D.map Prod.fst).Nodup) (now : Int) : delsT D ((D.filter (dueB now)).map Prod.fst) = D.filter fun p => !dueB now p := by
  unfold delsT
  refine List.filter_congr fun p hp => ?_
  cases h : dueB now p with
  | true =>
    refine List.all_eq_false.2 ⟨p.1, List.mem_map.2 ⟨p, List.mem_filter.2 ⟨hp, h⟩, rfl⟩, by simp⟩
  | false =>
    refine List.all_eq_true.2 fun s hs => decide_eq_true fun e => ?_
    obtain ⟨q, hq, e2⟩ := List.mem_map.1 hs
    obtain ⟨h1, h2⟩ := List.mem_filter.1 hq
    rw [nt_one hn h1 hp (e2.trans e.symm), h] at h2
    cases h2
/-- Names that are told. -/
structure NlT (w0 wr : World) (ns : List ByteArray) (v : Value) : Prop where
  be : Below w0.heap.size w0 wr
  nm : OwnK wr w0.heap.size 9 1 v (cellsS ns)
theorem NlT.below {w0 wr w' : World} {ns : List ByteArray} {v : Value} (H : NlT w0 wr ns v) (hb : Below wr.heap.size wr w') : NlT w0 w' ns v := ⟨H.be.trans (hb.mono H.be.size), H.nm.below hb⟩
theorem due_take {D : List NT} {k : Nat} (hk : k < D.length) (t : Int) {x : NT} (hx : x = D[k]) : ((D.take (k + 1)).filter (dueB t)).map Prod.fst = if dueB t x then ((D.take k).filter (dueB t)).map Prod.fst ++ [x.1] else ((D.take k).filter (dueB t)).map Prod.fst := by
  rw [List.take_succ_eq_append_getElem hk, List.filter_append, List.map_append, ← hx, List.filter_cons]
  split
  · rfl
  · simp
set_option maxHeartbeats 6400000 in
set_option maxRecDepth 100000 in
/-- The names that are due; they are out. -/
theorem rdueT_any (b r : Nat) (vN vA : Value) (D : List NT) (now : Int) (w : World) (hbig : D.length ≤ 1000) (hn : Hid ((D.map Prod.fst).Nodup)) (hR : Hid (Ry w b r vN vA D)) (hb : b ≤ w.heap.size) :
    Calls Try.prog 18 #[.pointer (some ⟨r, 0, none⟩), .int .i64 now] w fun e w' => (∃ A c, e = .returned (.slice A ((D.filter (dueB now)).map Prod.fst).length c) ∧ OwnK w' w.heap.size 9 1 (.slice A ((D.filter (dueB now)).map Prod.fst).length c) (cellsS ((D.filter (dueB now)).map Prod.fst))) ∧ (∃ vN' vA', Ry w' b r vN' vA' (D.filter fun p => !dueB now p)) ∧ GrP (fun k => k = r) w w' := by
  obtain ⟨N, hN⟩ : ∃ N, N = D.length := ⟨_, rfl⟩
  obtain ⟨A, c, hv, HRN, -, -⟩ := hR.out.nm.rds
  rw [List.length_map, ← hN] at hv
  subst hv
  obtain ⟨B, d, hv, HRV, -, -⟩ := hR.out.am.rdi
  rw [List.length_map, ← hN] at hv
  subst hv
  have HR1 := Lib.hid HRN
  have HR2 := Lib.hid HRV
  have HN := Lib.hid hN
  rw [← hN] at hbig
  have HBG := Lib.hid hbig
  clear hN HRN HRV hbig
  have HBB := Lib.hid hb
  have KD : Hid (∀ (w : World) (vN vA : Value) (D : List NT) (s : ByteArray), D.length ≤ 1000 → Hid (Ry w b r vN vA D) → b ≤ w.heap.size → Calls Try.prog 13 #[.pointer (some ⟨r, 0, none⟩), .string s] w fun e w' => e = .returned (.bool (getT D s).isSome) ∧ (∃ vN' vA', Ry w' b r vN' vA' (delT D s)) ∧ GrP (fun k => k = r) w w') := fun w vN vA D s h1 h2 h3 => rdelT_any b r vN vA D s w h1 h2 h3
  have cr0 : w.cell? ⟨r, 0, none⟩ = some (.slice A N c) := hR.out.bk.cellAt 0
  have hrw : r < w.heap.size := hR.out.bk.here
  have HRW := Lib.hid hrw
  have HS0 : Hid (NlT w w (((D.take 0).filter (dueB now)).map Prod.fst) (.slice none 0 0)) := ⟨Below.refl _ _, OwnK.nil _ _ _ _⟩
  clear hb hrw
  go_enter Try.func18, Try.ntmps18
  go_wp2_with fail
  clear cr0
  go_loopw [13, 5] (fun s13 s5 wr => ∃ (k : Nat) (v : Value), k ≤ N ∧ s13 = .int .i64 k ∧ s5 = v ∧ Hid (NlT w wr (((D.take k).filter (dueB now)).map Prod.fst) v)) (fun s13 s5 wr => N - (intOf s13).toNat)
  case atStart => exact ⟨0, _, Nat.zero_le _, rfl, rfl, HS0⟩
  case round =>
    clear HS0
    obtain ⟨k, v, hk, rfl, h5, H⟩ := hrel
    obtain ⟨A1, c1_, hv1, -, -, -⟩ := H.out.nm.rds
    obtain ⟨q, hq⟩ : ∃ q, q = (((D.take k).filter (dueB now)).map Prod.fst).length := ⟨_, rfl⟩
    rw [← hq] at hv1
    subst hv1
    subst h5
    have hqk : q ≤ k := by rw [hq, List.length_map]; exact Nat.le_trans (List.length_filter_le _ _) (by rw [List.length_take]; omega)
    have HQ := Lib.hid hq
    clear hq
    by_cases hlt : k < N
    · skip
      have hkl : Hid (k < D.length) := by show k < D.length; rw [← HN.out]; exact hlt
      obtain ⟨⟨x, t⟩, ex⟩ : ∃ x, x = D[k]'hkl.out := ⟨_, rfl⟩
      obtain ⟨g, o, hA, hg, hxw⟩ := HR1.out.at (i := k) (by rw [List.length_map]; exact hkl.out)
      obtain ⟨g2, o2, hB, hg2, hx2⟩ := HR2.out.at (i := k) (by rw [List.length_map]; exact hkl.out)
      rw [List.getElem_map, ← ex] at hxw hx2
      subst hA hB
      have HX := Lib.hid ex
      have HXC : Hid (∀ W, Below w.heap.size w W → W.cell? ⟨g, o + k, none⟩ = some (.string x)) := fun W hb => (hb.cell (p := ⟨g, o + k, none⟩) hg).trans hxw
      have HTC : Hid (∀ W, Below w.heap.size w W → W.cell? ⟨g2, o2 + k, none⟩ = some (.int .i64 t)) := fun W hb => (hb.cell (p := ⟨g2, o2 + k, none⟩) hg2).trans hx2
      have hwk : wrap64 ((k : Int) + 1) = ((k + 1 : Nat) : Int) := by have := HBG.out; unfold wrap64; omega
      clear ex hx2 hxw hg hg2
      have HTK : Hid (((D.take (k + 1)).filter (dueB now)).map Prod.fst = if dueB now (x, t) then ((D.take k).filter (dueB now)).map Prod.fst ++ [x] else ((D.take k).filter (dueB now)).map Prod.fst) := due_take hkl.out now HX.out
      have cr : wr.cell? ⟨r, 0, none⟩ = some (.slice (some ⟨g, o, none⟩) N c) := (hR.out.bk.later H.out.be).cellAt 0
      have cr1 : wr.cell? ⟨r, 1, none⟩ = some (.slice (some ⟨g2, o2, none⟩) N d) := (hR.out.bk.later H.out.be).cellAt 1
      have hx := HXC.out wr H.out.be
      have ht := HTC.out wr H.out.be
      have hki : (k : Int) < (N : Int) := by omega
      clear HXC HTC
      by_cases hu : t < now
      · have HF : Hid (dueB now (x, t) = true) := decide_eq_true hu
        have HSZ : Hid (w.heap.size ≤ (wr.alloc (.cells #[.string x] 9)).heap.size) := by show _ ≤ _; have := H.out.be.size; simp; omega
        have HOa := Lib.hid (H.out.below ((Below.refl _ _).alloc (Nat.le_refl _) (.cells #[.string x] 9)))
        have hlen : (((D.take k).filter (dueB now)).map Prod.fst).length ≤ 1000 := by have := HBG.out; rw [← HQ.out]; omega
        have HX1 : Hid ((cellsS (((D.take k).filter (dueB now)).map Prod.fst)).length + (cellsS [x]).length ≤ maxLen) := by show _ ≤ _; rw [cellsS_length, cellsS_length]; simp only [List.length_cons, List.length_nil, maxLen]; omega
        have HX2 : Hid (((cellsS (((D.take k).filter (dueB now)).map Prod.fst)).length + (cellsS [x]).length) * 16 ≤ 140737488355328) := by show _ ≤ _; rw [cellsS_length, cellsS_length]; simp only [List.length_cons, List.length_nil]; omega
        clear hlen hqk
        go_wp2_with (first | ((with_reducible refine append_k _ rfl (.tmp 25) (.tmp 33) 28 rfl w.heap.size 9 _ 1 16 Try.underlying28 infoS rfl (by omega) (.slice A1 q c1_) (cellsS (((D.take k).filter (dueB now)).map Prod.fst)) rfl HOa.out.nm ⟨wr.heap.size, 0, none⟩ 1 1 (cellsS [x]) rfl (RdK.of_bk (Bk.fresh _ _ _)) (cellsS_k _) (cellsS_one _) rfl HX1.out HX2.out HSZ.out ?_); intro v7 w7 hO7 hg7; rw [← cellsS_append] at hO7; have HO7 := Lib.hid hO7; have HG7 := Lib.hid hg7; clear hO7 hg7) | (with_reducible refine haltT 34 rfl ?_))
        have H7 : Hid (NlT w w7 (((D.take (k + 1)).filter (dueB now)).map Prod.fst) v7) := by rw [HTK.out, HF.out]; exact ⟨HOa.out.be.grown HG7.out HOa.out.be.size fun k2 hk2 => HOa.out.nm.block k2 hk2, HO7.out⟩
        clear cr cr1 hx ht HO7 HG7 HOa HSZ HX1 HX2 H
        go_round
        case rel => exact ⟨k + 1, v7, by omega, by go_num, rfl, H7⟩
        case measure =>
          first
          | (rw [hwk]; show N - ((k + 1 : Nat) : Int).toNat < N - ((k : Nat) : Int).toNat; rw [Int.toNat_natCast, Int.toNat_natCast]; omega)
          | (show N - ((k : Int) + 1).toNat < N - ((k : Nat) : Int).toNat; omega)
      · have HF : Hid (dueB now (x, t) = false) := decide_eq_false hu
        have H3 : Hid (NlT w wr (((D.take (k + 1)).filter (dueB now)).map Prod.fst) (.slice A1 q c1_)) := by rw [HTK.out, HF.out]; exact H.out
        clear H hqk
        go_wp2_with fail
        go_round
        case rel => exact ⟨k + 1, .slice A1 q c1_, by omega, by go_num, rfl, H3⟩
        case measure =>
          first
          | (rw [hwk]; show N - ((k + 1 : Nat) : Int).toNat < N - ((k : Nat) : Int).toNat; rw [Int.toNat_natCast, Int.toNat_natCast]; omega)
          | (show N - ((k : Int) + 1).toNat < N - ((k : Nat) : Int).toNat; omega)
    · have hkN : k = N := by omega
      subst hkN
      have hE : D.take k = D := by rw [HN.out, List.take_length]
      rw [hE] at H HQ
      obtain ⟨X, hX⟩ : ∃ X, X = (D.filter (dueB now)).map Prod.fst := ⟨_, rfl⟩
      rw [← hX] at H HQ
      have HXE := Lib.hid hX
      have HO1 := Lib.hid H.out.nm
      have HB1 := Lib.hid H.out.be
      obtain ⟨A', c', hv', hrd, -, -⟩ := H.out.nm.rds
      rw [← HQ.out] at hv'
      injection hv' with e1 _ e3
      subst e1 e3
      have HRX := Lib.hid hrd
      have HRY0 : Hid (Ry wr b r (.slice A k c) (.slice B k d) (delsT D (X.take 0))) := by rw [List.take_zero, delsT_nil]; exact hR.out.later HB1.out
      have hqs : q ≤ 1000 := by have := HBG.out; omega
      have HQS := Lib.hid hqs
      clear hE hqk hX hrd H hlt
      obtain ⟨wo, hwo⟩ : ∃ wo, wo = wr := ⟨_, rfl⟩
      subst hwo
      go_wp2_with fail
      go_loopw [38] (fun s38 w2 => ∃ (j : Nat) (uN uA : Value), j ≤ q ∧ s38 = .int .i64 j ∧ Hid (Ry w2 b r uN uA (delsT D (X.take j))) ∧ Hid (GrP (fun k => k = r) wo w2)) (fun s38 w2 => q - (intOf s38).toNat)
      case atStart => exact ⟨0, _, _, Nat.zero_le _, rfl, HRY0, GrP.refl _ _⟩
      case round =>
        clear HRY0
        obtain ⟨j, uN, uA, hj, rfl, HY, HG⟩ := hrel
        have HWB : Hid (w.heap.size ≤ wo.heap.size) := HB1.out.size
        by_cases hjq : j < q
        · have hjl : Hid (j < X.length) := by show j < X.length; rw [← HQ.out]; exact hjq
          obtain ⟨x, hx⟩ : ∃ x, x = X[j]'hjl.out := ⟨_, rfl⟩
          obtain ⟨g, o, hA, hg, hxc⟩ := HRX.out.at hjl.out
          rw [← hx] at hxc
          subst hA
          have hgr : g ≠ r := fun e => by have h1 := HO1.out.block g rfl; have := HRW.out; omega
          have hxc2 : wr.cell? ⟨g, o + j, none⟩ = some (.string x) := (HG.out.cell hg hgr).trans hxc
          have hwk : wrap64 ((j : Int) + 1) = ((j + 1 : Nat) : Int) := by have := HQS.out; unfold wrap64; omega
          have hji : (j : Int) < (q : Int) := by omega
          have HDL : Hid ((delsT D (X.take j)).length ≤ 1000) := Nat.le_trans (List.length_filter_le _ _) (by rw [← HN.out]; exact HBG.out)
          have HDS : Hid (delT (delsT D (X.take j)) x = delsT D (X.take (j + 1))) := by show _ = _; rw [delsT_snoc, List.take_succ_eq_append_getElem hjl.out, hx]
          clear hx hg hxc hgr
          go_wp2_with fail
          refine (KD.out _ _ _ _ _ HDL.out HY (Nat.le_trans HBB.out (Nat.le_trans HWB.out HG.out.size))).mono ?_
          rintro e w3 ⟨rfl, ⟨vN', vA', hY3⟩, hG3⟩
          rw [HDS.out] at hY3
          have HY3 := Lib.hid hY3
          have HG3 := Lib.hid (HG.out.trans hG3)
          clear hY3 hG3 HY HG hxc2
          go_wp2_with fail
          go_round
          case rel => exact ⟨j + 1, _, _, by omega, by go_num, HY3, HG3⟩
          case measure =>
            first
            | (rw [hwk]; show q - ((j + 1 : Nat) : Int).toNat < q - ((j : Nat) : Int).toNat; rw [Int.toNat_natCast, Int.toNat_natCast]; omega)
            | (show q - ((j : Int) + 1).toNat < q - ((j : Nat) : Int).toNat; omega)
        · have hjq2 : j = q := by omega
          have hfin : Hid (Ry wr b r uN uA (D.filter fun p => !dueB now p)) := by
            have h1 := HY.out
            rw [hjq2, HQ.out, List.take_length, HXE.out, delsT_due hn.out] at h1
            exact h1
          have hon : Hid (OwnK wr w.heap.size 9 1 (.slice A1 q c1_) (cellsS X)) := HO1.out.grp HG.out fun k2 hk2 e => by have := HO1.out.block k2 hk2; have := HRW.out; omega
          have hgg : Hid (GrP (fun k => k = r) w wr) := (GrP.ofBelow HB1.out).trans HG.out
          clear HY HG hj hjq
          subst hjq2
          go_wp2_with fail
          go_ret
          exact ⟨⟨A1, c1_, by rw [← HXE.out, ← HQ.out]; rfl, by rw [← HXE.out, ← HQ.out]; exact hon.out⟩, ⟨uN, uA, hfin.out⟩, hgg.out⟩
end Go.Proofs.Ytbegbecmnhldkaa
