/- The document's index: Get, AtLeast. Condition: at most 1000 names. -/
import Derived.Test.YtiklogoookngaaaBx5
import Derived.Test.YtiklogoookngaaaRv2
import Derived.Test.YtiklogoookngaaaLat
namespace Go.Proofs.Ytiklogoookngaaa
open Go.RowKit
set_option linter.unusedSimpArgs false
set_option linter.unusedVariables false

theorem getN_at {D : List NV} (hn : (D.map Prod.fst).Nodup) {k : Nat} (hk : k < D.length) {s : ByteArray} {t : R3} (h : (s, t) = D[k]) : getN D s = some t := by
  have := getN_some hn (p := (s, t)) (h ▸ List.getElem_mem hk)
  exact this
set_option maxHeartbeats 6400000 in
set_option maxRecDepth 100000 in
/-- A name's vector. -/
theorem rget_any (b r : Nat) (vN vA : Value) (D : List NV) (s : ByteArray) (w : World) (hbig : D.length ≤ 1000) (hn : Hid ((D.map Prod.fst).Nodup)) (hR : Hid (Rx w b r vN vA D)) :
    Calls Try.prog 15 #[.pointer (some ⟨r, 0, none⟩), .string s] w fun e w' => e = .returned (.tuple #[vR ((getN D s).getD (0, 0, 0)), .bool (getN D s).isSome]) ∧ Below w.heap.size w w' := by
  obtain ⟨R, hRR⟩ : ∃ R, R = getN D s := ⟨_, rfl⟩
  rw [← hRR]
  have HRR := Lib.hid hRR
  clear hRR
  obtain ⟨N, hN⟩ : ∃ N, N = D.length := ⟨_, rfl⟩
  obtain ⟨A, c, hv, HRN, -, -⟩ := hR.out.nm.rds
  rw [List.length_map, ← hN] at hv
  subst hv
  obtain ⟨B, d, hv, HRV, -, -, -⟩ := hR.out.am.sl
  rw [cellsV_length, List.length_map, ← hN] at hv
  subst hv
  have HR1 := Lib.hid HRN
  have HR2 := Lib.hid HRV
  have HN := Lib.hid hN
  rw [← hN] at hbig
  have HBG := Lib.hid hbig
  clear hN HRN HRV hbig
  obtain ⟨w1, hw1⟩ : ∃ W, W = w.alloc (.cells #[.int .i64 0, .int .i64 0, .int .i64 0] 37) := ⟨_, rfl⟩
  have HB1 : Hid (Below w.heap.size w w1) := by rw [hw1]; exact (Below.refl _ _).alloc (Nat.le_refl _) _
  have HZ1 : Hid (Bk w1 w.heap.size 37 #[.int .i64 0, .int .i64 0, .int .i64 0]) := by rw [hw1]; exact Bk.fresh _ _ _
  have cr0 : w.cell? ⟨r, 0, none⟩ = some (.slice A N c) := hR.out.bk.cellAt 0
  have hrw : r < w.heap.size := hR.out.bk.here
  go_enter Try.func15, Try.ntmps15
  go_wp2_with fail
  rw [← hw1]
  have cr : w1.cell? ⟨r, 0, none⟩ = some (.slice A N c) := (hR.out.bk.later HB1.out).cellAt 0
  clear hw1 cr0 hrw
  go_loopw [12] (fun s12 wr => ∃ k : Nat, k ≤ N ∧ s12 = .int .i64 k ∧ Hid (∀ p ∈ D.take k, p.1 ≠ s) ∧ wr = w1) (fun s12 wr => N - (intOf s12).toNat)
  case atStart => exact ⟨0, Nat.zero_le _, rfl, by intro p hp; simp at hp, rfl⟩
  case round =>
    obtain ⟨k, hk, rfl, HNO, hwr⟩ := hrel
    rw [hwr]
    clear hwr wr
    have cr1 : w1.cell? ⟨r, 1, none⟩ = some (.slice B N d) := (hR.out.bk.later HB1.out).cellAt 1
    by_cases hlt : k < N
    · skip
      have hkl : Hid (k < D.length) := by show k < D.length; rw [← HN.out]; exact hlt
      obtain ⟨⟨x, t1, t2, t3⟩, ex⟩ : ∃ x, x = D[k]'hkl.out := ⟨_, rfl⟩
      obtain ⟨g, o, hA, hg, hxw⟩ := HR1.out.at (i := k) (by rw [List.length_map]; exact hkl.out)
      obtain ⟨g2, o2, hB, hx2⟩ := RdK.vec HR2.out (i := k) (by rw [List.length_map]; exact hkl.out)
      rw [List.getElem_map, ← ex] at hxw hx2
      subst hA hB
      have HRG : Hid (w.rangeAt g2 (o2 + k * 3) (#[.int .i64 t1, .int .i64 t2, .int .i64 t3] : Array Value).toList) := hx2
      have HX := Lib.hid ex
      have HXC : Hid (∀ W, Below w.heap.size w W → W.cell? ⟨g, o + k, none⟩ = some (.string x)) := fun W hb => (hb.cell (p := ⟨g, o + k, none⟩) hg).trans hxw
      have hwk : wrap64 ((k : Int) + 1) = ((k + 1 : Nat) : Int) := by have := HBG.out; unfold wrap64; omega
      clear ex hx2 hxw hg
      have hx := HXC.out w1 HB1.out
      have HRG1 : Hid (w1.rangeAt g2 (o2 + k * 3) (#[.int .i64 t1, .int .i64 t2, .int .i64 t3] : Array Value).toList) := range_keep HRG.out HB1.out
      by_cases he : x = s
      · have hRs : R = some (t1, t2, t3) := by rw [HRR.out, ← he]; exact getN_at hn.out hkl.out HX.out
        subst hRs
        subst he
        clear HXC
        go_wp2_with (first | (with_reducible refine load_rg rfl 37 _ rfl g2 (o2 + k * 3) rfl #[.int .i64 t1, .int .i64 t2, .int .i64 t3] _ HRG1.out Try.underlying37 rfl (by kernel_rfl) ?_) | ((with_reducible refine store_bk rfl 37 (.tmp 4) (.tmp 30) rfl w.heap.size 0 #[.int .i64 t1, .int .i64 t2, .int .i64 t3] rfl rfl 37 _ #[.int .i64 t1, .int .i64 t2, .int .i64 t3] HZ1.out (by kernel_rfl) (by simp) (by kernel_rfl) rfl ?_); intro w4 hB4 hg4 hs4; have HB4 := Lib.hid hB4; have HG4 := Lib.hid hg4; clear hB4 hg4 hs4))
        refine bodyPost_ret (v := .tuple #[.agg #[.int .i64 t1, .int .i64 t2, .int .i64 t3], .bool true]) (results_bk2 Try.results15 _ _ w.heap.size 37 _ _ _ rfl rfl HB4.out Try.underlying37 rfl (by kernel_rfl)) rfl ⟨rfl, ?_⟩
        exact HB1.out.grown HG4.out HB1.out.size (fun q e => by injection e with e; omega)
      · have he' : (x.toList == s.toList) = false := by cases h : sE x s with
          | false => exact h
          | true => exact absurd (sE_iff.1 h) he
        have HN2 : Hid (∀ p ∈ D.take (k + 1), p.1 ≠ s) := fun p hp => by
          rw [List.take_succ_eq_append_getElem hkl.out] at hp
          rcases List.mem_append.1 hp with hp | hp
          · exact HNO.out p hp
          · rw [List.mem_singleton.1 hp, ← HX.out]; exact he
        clear he HXC HRG1 HRG
        go_wp2_with fail
        go_round
        case rel => exact ⟨k + 1, by omega, by go_num, HN2, trivial⟩
        case measure =>
          rw [hwk]
          show N - ((k + 1 : Nat) : Int).toNat < N - ((k : Nat) : Int).toNat
          rw [Int.toNat_natCast, Int.toNat_natCast]; omega
    · have hkN : k = N := by omega
      subst hkN
      have hE : D.take k = D := by rw [HN.out, List.take_length]
      have hRs : R = none := by
        rw [HRR.out]
        exact getN_none.2 fun p hp => HNO.out p (by rw [hE]; exact hp)
      subst hRs
      clear hE
      go_wp2_with (((with_reducible refine store_bk rfl 37 (.tmp 4) (.tmp 32) rfl w.heap.size 0 #[.int .i64 0, .int .i64 0, .int .i64 0] rfl rfl 37 _ #[.int .i64 0, .int .i64 0, .int .i64 0] HZ1.out (by kernel_rfl) (by simp) (by kernel_rfl) rfl ?_); intro w4 hB4 hg4 hs4; have HB4 := Lib.hid hB4; have HG4 := Lib.hid hg4; clear hB4 hg4 hs4))
      refine bodyPost_ret (v := .tuple #[.agg #[.int .i64 0, .int .i64 0, .int .i64 0], .bool false]) (results_bk2 Try.results15 _ _ w.heap.size 37 _ _ _ rfl rfl HB4.out Try.underlying37 rfl (by kernel_rfl)) rfl ⟨rfl, ?_⟩
      exact HB1.out.grown HG4.out HB1.out.size (fun q e => by injection e with e; omega)
/-- Names that are told. -/
structure Nl (w0 wr : World) (ns : List ByteArray) (v : Value) : Prop where
  be : Below w0.heap.size w0 wr
  nm : OwnK wr w0.heap.size 9 1 v (cellsS ns)
theorem Nl.below {w0 wr w' : World} {ns : List ByteArray} {v : Value} (H : Nl w0 wr ns v) (hb : Below wr.heap.size wr w') : Nl w0 w' ns v := ⟨H.be.trans (hb.mono H.be.size), H.nm.below hb⟩
theorem fit_take {D : List NV} {k : Nat} (hk : k < D.length) (t : R3) {x : NV} (hx : x = D[k]) : ((D.take (k + 1)).filter (fitV t)).map Prod.fst = if fitV t x then ((D.take k).filter (fitV t)).map Prod.fst ++ [x.1] else ((D.take k).filter (fitV t)).map Prod.fst := by
  rw [List.take_succ_eq_append_getElem hk, List.filter_append, List.map_append, ← hx, List.filter_cons]
  split
  · rfl
  · simp
set_option maxHeartbeats 6400000 in
set_option maxRecDepth 100000 in
/-- The names of those whose vectors are fitted. -/
theorem ratLeast_any (b r : Nat) (vN vA : Value) (D : List NV) (t : R3) (w : World) (hbig : D.length ≤ 1000) (hR : Hid (Rx w b r vN vA D)) :
    Calls Try.prog 18 #[.pointer (some ⟨r, 0, none⟩), vR t] w fun e w' => (∃ A c, e = .returned (.slice A ((D.filter (fitV t)).map Prod.fst).length c) ∧ OwnK w' w.heap.size 9 1 (.slice A ((D.filter (fitV t)).map Prod.fst).length c) (cellsS ((D.filter (fitV t)).map Prod.fst))) ∧ Below w.heap.size w w' := by
  obtain ⟨N, hN⟩ : ∃ N, N = D.length := ⟨_, rfl⟩
  obtain ⟨A, c, hv, HRN, -, -⟩ := hR.out.nm.rds
  rw [List.length_map, ← hN] at hv
  subst hv
  obtain ⟨B, d, hv, HRV, -, -, -⟩ := hR.out.am.sl
  rw [cellsV_length, List.length_map, ← hN] at hv
  subst hv
  have HR1 := Lib.hid HRN
  have HR2 := Lib.hid HRV
  have HN := Lib.hid hN
  rw [← hN] at hbig
  have HBG := Lib.hid hbig
  clear hN HRN HRV hbig
  have KI : Hid (∀ (u : R3) (s : ByteArray) w, Calls Try.prog 24 #[vR t, vR u] w fun e w' => e = .returned (.bool (fitV t (s, u))) ∧ Below w.heap.size w w') := fun u s w => rfits_any t.1 t.2.1 t.2.2 u.1 u.2.1 u.2.2 w
  obtain ⟨W0, hW0⟩ : ∃ W, W = w.alloc (.cells #[.int .i64 t.1, .int .i64 t.2.1, .int .i64 t.2.2] 37) := ⟨_, rfl⟩
  obtain ⟨p, hp⟩ : ∃ p, p = w.heap.size := ⟨_, rfl⟩
  have HB0 : Hid (Below w.heap.size w W0) := by rw [hW0]; exact (Below.refl _ _).alloc (Nat.le_refl _) _
  have HP0 : Hid (Bk W0 p 37 #[.int .i64 t.1, .int .i64 t.2.1, .int .i64 t.2.2]) := by rw [hW0, hp]; exact Bk.fresh _ _ _
  have HRW := Lib.hid (hR.out.later HB0.out)
  have cr0 : w.cell? ⟨r, 0, none⟩ = some (.slice A N c) := hR.out.bk.cellAt 0
  have hrw : r < w.heap.size := hR.out.bk.here
  have HS0 : Hid (Nl W0 W0 [] (.slice none 0 0)) := ⟨Below.refl _ _, OwnK.nil _ _ _ _⟩
  go_enter Try.func18, Try.ntmps18
  go_wp2_with fail
  rw [← hW0, ← hp]
  clear hW0 cr0 hrw
  have HPW := Lib.hid hp
  clear hp
  go_loopw [12, 5] (fun s12 s5 wr => ∃ (k : Nat) (v : Value), k ≤ N ∧ s12 = .int .i64 k ∧ s5 = v ∧ Hid (Nl W0 wr (((D.take k).filter (fitV t)).map Prod.fst) v)) (fun s12 s5 wr => N - (intOf s12).toNat)
  case atStart => exact ⟨0, _, Nat.zero_le _, rfl, rfl, HS0⟩
  case round =>
    clear HS0
    obtain ⟨k, v, hk, rfl, h5, H⟩ := hrel
    obtain ⟨A1, c1_, hv1, -, -, -⟩ := H.out.nm.rds
    obtain ⟨q, hq⟩ : ∃ q, q = (((D.take k).filter (fitV t)).map Prod.fst).length := ⟨_, rfl⟩
    rw [← hq] at hv1
    subst hv1
    subst h5
    have hqk : q ≤ k := by rw [hq, List.length_map]; exact Nat.le_trans (List.length_filter_le _ _) (by rw [List.length_take]; omega)
    have HQ := Lib.hid hq
    have cr : wr.cell? ⟨r, 0, none⟩ = some (.slice A N c) := (HRW.out.bk.later H.out.be).cellAt 0
    have cr1 : wr.cell? ⟨r, 1, none⟩ = some (.slice B N d) := (HRW.out.bk.later H.out.be).cellAt 1
    have hpw : p < wr.heap.size := Nat.lt_of_lt_of_le HP0.out.here H.out.be.size
    clear hq
    by_cases hlt : k < N
    · skip
      have hkl : Hid (k < D.length) := by show k < D.length; rw [← HN.out]; exact hlt
      obtain ⟨⟨x, t1, t2, t3⟩, ex⟩ : ∃ x, x = D[k]'hkl.out := ⟨_, rfl⟩
      obtain ⟨g, o, hA, hg, hxw⟩ := HR1.out.at (i := k) (by rw [List.length_map]; exact hkl.out)
      obtain ⟨g2, o2, hB, hx2⟩ := RdK.vec HR2.out (i := k) (by rw [List.length_map]; exact hkl.out)
      rw [List.getElem_map, ← ex] at hxw hx2
      subst hA hB
      have HRG : Hid (w.rangeAt g2 (o2 + k * 3) (#[.int .i64 t1, .int .i64 t2, .int .i64 t3] : Array Value).toList) := hx2
      have HX := Lib.hid ex
      have HXC : Hid (∀ W, Below w.heap.size w W → W.cell? ⟨g, o + k, none⟩ = some (.string x)) := fun W hb => (hb.cell (p := ⟨g, o + k, none⟩) hg).trans hxw
      have hwk : wrap64 ((k : Int) + 1) = ((k + 1 : Nat) : Int) := by have := HBG.out; unfold wrap64; omega
      clear ex hx2 hxw hg
      have HBW : Hid (Below w.heap.size w wr) := HB0.out.trans (H.out.be.mono HB0.out.size)
      have HTK : Hid (((D.take (k + 1)).filter (fitV t)).map Prod.fst = if fitV t (x, t1, t2, t3) then ((D.take k).filter (fitV t)).map Prod.fst ++ [x] else ((D.take k).filter (fitV t)).map Prod.fst) := fit_take hkl.out t HX.out
      have c0 : wr.cell? ⟨p, 0, none⟩ = some (.int .i64 t.1) := (HP0.out.later H.out.be).cellAt 0
      have c1 : wr.cell? ⟨p, 1, none⟩ = some (.int .i64 t.2.1) := (HP0.out.later H.out.be).cellAt 1
      have c2 : wr.cell? ⟨p, 2, none⟩ = some (.int .i64 t.2.2) := (HP0.out.later H.out.be).cellAt 2
      have e0 : wr.cell? ⟨g2, o2 + k * 3, none⟩ = some (.int .i64 t1) := by simpa using range_keep HRG.out HBW.out 0 _ rfl
      have e1 : wr.cell? ⟨g2, o2 + k * 3 + 1, none⟩ = some (.int .i64 t2) := by simpa using range_keep HRG.out HBW.out 1 _ rfl
      have e2 : wr.cell? ⟨g2, o2 + k * 3 + 2, none⟩ = some (.int .i64 t3) := by simpa using range_keep HRG.out HBW.out 2 _ rfl
      have hg2 : g2 < wr.heap.size := World.block_lt_of_cell? wr _ e0
      have hrl : r < wr.heap.size := World.block_lt_of_cell? wr _ cr
      have hki : (k : Int) < (N : Int) := by omega
      clear HRG
      go_wp2_with fail
      refine wp_region_later (by kernel_rfl) (by kernel_rfl) ?_; have hL : ∀ (w : World) (x : Later w) (b o : Nat), b < w.heap.size → x.to.cell? ⟨b, o, none⟩ = w.cell? ⟨b, o, none⟩ := fun w x b o hb => x.cell hb; have hN := Later.some; (repeat (go_big_quiet_step (((with_reducible exact Later.call (KI.out (t1, t2, t3) x _)))))); refine wpQuiet_nil ?_; intro w2 hw2; have hb2 := Later.out hw2; clear hw2 hL hN
      have H2 := Lib.hid (H.out.below hb2)
      have cr2 : w2.cell? ⟨r, 0, none⟩ = some (.slice (some ⟨g, o, none⟩) N c) := (HRW.out.bk.later H2.out.be).cellAt 0
      have hx : w2.cell? ⟨g, o + k, none⟩ = some (.string x) := HXC.out w2 (HB0.out.trans (H2.out.be.mono HB0.out.size))
      clear H c0 c1 c2 e0 e1 e2 hb2 cr cr1 hg2 hrl HXC
      cases hf : fitV t (x, t1, t2, t3) with
      | false =>
        have H3 : Hid (Nl W0 w2 (((D.take (k + 1)).filter (fitV t)).map Prod.fst) (.slice A1 q c1_)) := by rw [HTK.out, hf]; exact H2.out
        clear H2 cr2 hx hqk hf
        go_wp2_with fail
        go_round
        case rel => exact ⟨k + 1, .slice A1 q c1_, by omega, by go_num, rfl, H3⟩
        case measure =>
          rw [hwk]
          show N - ((k + 1 : Nat) : Int).toNat < N - ((k : Nat) : Int).toNat
          rw [Int.toNat_natCast, Int.toNat_natCast]; omega
      | true =>
        have HF := Lib.hid hf
        have HSZ : Hid (W0.heap.size ≤ (w2.alloc (.cells #[.string x] 9)).heap.size) := by show _ ≤ _; have := H2.out.be.size; simp; omega
        have HOa := Lib.hid (H2.out.below ((Below.refl _ _).alloc (Nat.le_refl _) (.cells #[.string x] 9)))
        have hlen : (((D.take k).filter (fitV t)).map Prod.fst).length ≤ 1000 := by have := HBG.out; rw [← HQ.out]; omega
        have HX1 : Hid ((cellsS (((D.take k).filter (fitV t)).map Prod.fst)).length + (cellsS [x]).length ≤ maxLen) := by show _ ≤ _; rw [cellsS_length, cellsS_length]; simp only [List.length_cons, List.length_nil, maxLen]; omega
        have HX2 : Hid (((cellsS (((D.take k).filter (fitV t)).map Prod.fst)).length + (cellsS [x]).length) * 16 ≤ 140737488355328) := by show _ ≤ _; rw [cellsS_length, cellsS_length]; simp only [List.length_cons, List.length_nil]; omega
        clear hf hlen hqk
        go_wp2_with (first | ((with_reducible refine append_k _ rfl (.tmp 24) (.tmp 32) 28 rfl W0.heap.size 9 _ 1 16 Try.underlying28 infoS rfl (by omega) (.slice A1 q c1_) (cellsS (((D.take k).filter (fitV t)).map Prod.fst)) rfl HOa.out.nm ⟨w2.heap.size, 0, none⟩ 1 1 (cellsS [x]) rfl (RdK.of_bk (Bk.fresh _ _ _)) (cellsS_k _) (cellsS_one _) rfl HX1.out HX2.out HSZ.out ?_); intro v7 w7 hO7 hg7; rw [← cellsS_append] at hO7; have HO7 := Lib.hid hO7; have HG7 := Lib.hid hg7; clear hO7 hg7) | (with_reducible refine haltAt 33 rfl ?_))
        have H7 : Hid (Nl W0 w7 (((D.take (k + 1)).filter (fitV t)).map Prod.fst) v7) := by rw [HTK.out, HF.out]; exact ⟨HOa.out.be.grown HG7.out HOa.out.be.size fun k2 hk2 => HOa.out.nm.block k2 hk2, HO7.out⟩
        clear H2 cr2 hx HO7 HG7 HOa HSZ HX1 HX2
        go_round
        case rel => exact ⟨k + 1, v7, by omega, by go_num, rfl, H7⟩
        case measure =>
          rw [hwk]
          show N - ((k + 1 : Nat) : Int).toNat < N - ((k : Nat) : Int).toNat
          rw [Int.toNat_natCast, Int.toNat_natCast]; omega
    · have hkN : k = N := by omega
      subst hkN
      have hE : D.take k = D := by rw [HN.out, List.take_length]
      rw [hE] at H HQ
      have HBW : Hid (Below w.heap.size w wr) := HB0.out.trans (H.out.be.mono HB0.out.size)
      have HBS : Hid (w.heap.size ≤ W0.heap.size) := HB0.out.size
      clear hE hqk cr cr1 hpw
      go_wp2_with fail
      go_ret
      refine ⟨⟨A1, c1_, by rw [← HQ.out]; rfl, ?_⟩, HBW.out⟩
      rw [← HQ.out]
      exact H.out.nm.base HBS.out
end Go.Proofs.Ytiklogoookngaaa
