/- The walk of QuotaApart. No condition beyond the form's own. -/
import Derived.Test.YtblmjaidonopeaaQm
import Derived.Test.YtblmjaidonopeaaQb
import Derived.Test.YtblmjaidonopeaaQk
import Derived.Test.YtblmjaidonopeaaLat
import Derived.Deep.RegionHeld3
namespace Go.Proofs.Ytblmjaidonopeaa
open Go.RowKit
set_option linter.unusedSimpArgs false
set_option linter.unusedVariables false
namespace quotaApart
theorem RdJ.at_later {w : World} (x : Later w) {A : Option Addr} {l : List Jb} (h : RdJ w A l) : RdJ x.to A l := h.later x.below
/-- A job at another machine. -/
abbrev mv (s : ByteArray) (j : Jb) : Jb := ⟨j.nm, j.qu, j.pr, j.a, j.b, j.c, j.A, j.n, j.cp, j.ap, j.ga, j.sz, j.sq, s, j.bo⟩
/-- The jobs of a queue, at that machine. -/
def mine (q s : ByteArray) (l : List Jb) : List Jb := (l.filter fun j => sE j.qu q).map (mv s)
theorem mine_take {q s : ByteArray} {l : List Jb} {k : Nat} (h : k < l.length) : mine q s (l.take (k + 1)) = mine q s (l.take k) ++ if sE l[k].qu q then [mv s l[k]] else [] := by
  rw [List.take_succ_eq_append_getElem h]; simp only [mine, List.filter_append, List.map_append]
  cases he : sE l[k].qu q <;> simp [he]
theorem mine_len (q s : ByteArray) (l : List Jb) : (mine q s l).length ≤ l.length := by unfold mine; rw [List.length_map]; exact List.length_filter_le _ _
theorem ofQ_mine (q s : ByteArray) (l : List Jb) : ofQ q (mine q s l) = ofQ q l := by
  induction l with
  | nil => rfl
  | cons j l ih =>
    unfold mine ofQ at ih ⊢
    cases he : sE j.qu q <;> simp [he, ih]

set_option maxHeartbeats 6400000 in
set_option maxRecDepth 100000 in
theorem walk (A : Option Addr) (n cap : Nat) (l : List Jb) (nm : ByteArray) (a b c : Int) (d e f : Int) (s : ByteArray) (w : World) (hn : n = l.length) (hA : RdJ w A l) (hc : n ≤ cap) (hc2 : cap ≤ 9223372036854775807) (hnm : nm.size ≤ 140737488351232) (hs : s.size ≤ 140737488351232) :
    Calls Try.prog 5 #[.slice A n cap, .agg #[.string nm, .int .i64 a, .int .i64 b, .int .i64 c], .agg #[.int .i64 d, .int .i64 e, .int .i64 f], .string s] w fun r w' => r = .returned (.bool true) ∧ Below w.heap.size w w' := by
  obtain ⟨u, hu⟩ : ∃ u, sm 0 0 0 (ofQ nm l) = u := ⟨_, rfl⟩
  obtain ⟨x, y, z, v⟩ := u
  have hu' : sm 0 0 0 (ofQ nm (mine nm s l)) = (x, y, z, v) := by rw [ofQ_mine]; exact hu
  have HN := Lib.hid hn; clear hn
  have HA := Lib.hid hA; clear hA
  have HU := Lib.hid hu; clear hu
  have HU' := Lib.hid hu'; clear hu'
  have hE : eq3 x y z x y z = true := by simp [eq3]
  by_cases h1 : 300 < n
  · go_enter Try.func5, Try.ntmps5
    have hQ0 : Bk ((w.alloc (.cells #[.string nm, .int .i64 a, .int .i64 b, .int .i64 c] 26)).alloc (.cells #[.int .i64 d, .int .i64 e, .int .i64 f] 24)) w.heap.size 26 #[.string nm, .int .i64 a, .int .i64 b, .int .i64 c] := (Bk.fresh w _ _).later ((Below.refl _ _).alloc (Nat.le_refl _) _)
    have hN0 : Bk ((w.alloc (.cells #[.string nm, .int .i64 a, .int .i64 b, .int .i64 c] 26)).alloc (.cells #[.int .i64 d, .int .i64 e, .int .i64 f] 24)) (w.heap.size + 1) 24 #[.int .i64 d, .int .i64 e, .int .i64 f] := Bk.freshAt _ _ _ (by simp)
    have HQ0 := Lib.hid hQ0; clear hQ0
    have HN0 := Lib.hid hN0; clear hN0
    have hB0 : Below w.heap.size w ((w.alloc (.cells #[.string nm, .int .i64 a, .int .i64 b, .int .i64 c] 26)).alloc (.cells #[.int .i64 d, .int .i64 e, .int .i64 f] 24)) := ((Below.refl _ _).alloc (Nat.le_refl _) _).alloc (by simp) _
    go_wp2_with fail
    refine (awake_any _).mono ?_; rintro r w1 ⟨rfl, hb1⟩
    have hB1 : Below w.heap.size w w1 := hB0.trans (hb1.mono hB0.size)
    have HQ1 := Lib.hid (HQ0.out.later hb1); clear HQ0
    have HN1 := Lib.hid (HN0.out.later hb1); clear HN0
    have cnm : w1.cell? ⟨w.heap.size, 0, none⟩ = some (.string nm) := HQ1.out.cellAt 0
    have hz1 : w.heap.size < w1.heap.size := HQ1.out.here
    go_wp2_with fail
    refine (awake_any _).mono ?_; rintro r w2 ⟨rfl, hb2⟩
    go_wp2_with fail
    go_ret
    exact ⟨rfl, hB1.trans (hb2.mono hB1.size)⟩
  by_cases h2 : 1000 < nm.size
  · have h1' : decide (300 < (n : Int)) = false := by rw [decide_eq_false_iff_not]; omega
    go_enter Try.func5, Try.ntmps5
    have hQ0 : Bk ((w.alloc (.cells #[.string nm, .int .i64 a, .int .i64 b, .int .i64 c] 26)).alloc (.cells #[.int .i64 d, .int .i64 e, .int .i64 f] 24)) w.heap.size 26 #[.string nm, .int .i64 a, .int .i64 b, .int .i64 c] := (Bk.fresh w _ _).later ((Below.refl _ _).alloc (Nat.le_refl _) _)
    have hN0 : Bk ((w.alloc (.cells #[.string nm, .int .i64 a, .int .i64 b, .int .i64 c] 26)).alloc (.cells #[.int .i64 d, .int .i64 e, .int .i64 f] 24)) (w.heap.size + 1) 24 #[.int .i64 d, .int .i64 e, .int .i64 f] := Bk.freshAt _ _ _ (by simp)
    have HQ0 := Lib.hid hQ0; clear hQ0
    have HN0 := Lib.hid hN0; clear hN0
    have hB0 : Below w.heap.size w ((w.alloc (.cells #[.string nm, .int .i64 a, .int .i64 b, .int .i64 c] 26)).alloc (.cells #[.int .i64 d, .int .i64 e, .int .i64 f] 24)) := ((Below.refl _ _).alloc (Nat.le_refl _) _).alloc (by simp) _
    go_wp2_with fail
    refine (awake_any _).mono ?_; rintro r w1 ⟨rfl, hb1⟩
    have hB1 : Below w.heap.size w w1 := hB0.trans (hb1.mono hB0.size)
    have HQ1 := Lib.hid (HQ0.out.later hb1); clear HQ0
    have HN1 := Lib.hid (HN0.out.later hb1); clear HN0
    have cnm : w1.cell? ⟨w.heap.size, 0, none⟩ = some (.string nm) := HQ1.out.cellAt 0
    have hz1 : w.heap.size < w1.heap.size := HQ1.out.here
    go_wp2_with fail
    refine (awake_any _).mono ?_; rintro r w2 ⟨rfl, hb2⟩
    go_wp2_with fail
    go_ret
    exact ⟨rfl, hB1.trans (hb2.mono hB1.size)⟩
  have h1' : decide (300 < (n : Int)) = false := by rw [decide_eq_false_iff_not]; omega
  have h2' : decide (1000 < (nm.size : Int)) = false := by rw [decide_eq_false_iff_not]; omega

  go_enter Try.func5, Try.ntmps5
  have hQ0 : Bk ((w.alloc (.cells #[.string nm, .int .i64 a, .int .i64 b, .int .i64 c] 26)).alloc (.cells #[.int .i64 d, .int .i64 e, .int .i64 f] 24)) w.heap.size 26 #[.string nm, .int .i64 a, .int .i64 b, .int .i64 c] := (Bk.fresh w _ _).later ((Below.refl _ _).alloc (Nat.le_refl _) _)
  have hN0 : Bk ((w.alloc (.cells #[.string nm, .int .i64 a, .int .i64 b, .int .i64 c] 26)).alloc (.cells #[.int .i64 d, .int .i64 e, .int .i64 f] 24)) (w.heap.size + 1) 24 #[.int .i64 d, .int .i64 e, .int .i64 f] := Bk.freshAt _ _ _ (by simp)
  have HQ0 := Lib.hid hQ0; clear hQ0
  have HN0 := Lib.hid hN0; clear hN0
  have hB0 : Below w.heap.size w ((w.alloc (.cells #[.string nm, .int .i64 a, .int .i64 b, .int .i64 c] 26)).alloc (.cells #[.int .i64 d, .int .i64 e, .int .i64 f] 24)) := ((Below.refl _ _).alloc (Nat.le_refl _) _).alloc (by simp) _
  go_wp2_with fail
  refine (awake_any _).mono ?_; rintro r w1 ⟨rfl, hb1⟩
  have hB1 : Below w.heap.size w w1 := hB0.trans (hb1.mono hB0.size)
  have HQ1 := Lib.hid (HQ0.out.later hb1); clear HQ0
  have HN1 := Lib.hid (HN0.out.later hb1); clear HN0
  have cnm : w1.cell? ⟨w.heap.size, 0, none⟩ = some (.string nm) := HQ1.out.cellAt 0
  have hz1 : w.heap.size < w1.heap.size := HQ1.out.here
  go_wp2_with fail
  clear cnm hz1
  go_loopw [9, 32] (fun v i wr => ∃ k : Nat, k ≤ n ∧ i = .int .i64 k ∧ Hid (OwnK wr (w.heap.size + 2) 41 13 v (cellsJ (mine nm s (l.take k)))) ∧ Hid (Bk wr w.heap.size 26 #[.string nm, .int .i64 a, .int .i64 b, .int .i64 c]) ∧ Hid (Bk wr (w.heap.size + 1) 24 #[.int .i64 d, .int .i64 e, .int .i64 f]) ∧ Below w.heap.size w wr) (fun _ i wr => n - (intOf i).toNat)
  case atStart => exact ⟨0, Nat.zero_le _, rfl, (show OwnK _ _ _ _ _ (cellsJ (mine nm s (l.take 0))) from OwnK.nil _ _ _ _), HQ1, HN1, hB1⟩
  case round =>
    clear HQ1 HN1 hB1 hb1
    obtain ⟨k, hk, rfl, HO, HQ2, HN2, hb⟩ := hrel
    have lt1 : w.heap.size + 1 < wr.heap.size := HN2.out.here
    by_cases hlt : k < n
    · have hlk : k < l.length := by have := HN.out; omega
      obtain ⟨g, o, rfl, hg, hj⟩ := (HA.out.later hb).at hlk
      obtain ⟨j, hjk⟩ : ∃ j, j = l[k] := ⟨_, rfl⟩
      rw [← hjk] at hj
      have HJ := Lib.hid hj; clear hj
      have c1 : wr.cell? ⟨g, o + k * 13 + 1, none⟩ = some (.string j.qu) := HJ.out.qu
      have cnm : wr.cell? ⟨w.heap.size, 0, none⟩ = some (.string nm) := HQ2.out.cellAt 0
      have lt0 : w.heap.size < wr.heap.size := by omega
      have hlen : (cellsJ (mine nm s (l.take k))).length ≤ 300 := by rw [cellsJ_length]; have := mine_len nm s (l.take k); rw [List.length_take] at this; omega
      cases he : sE j.qu nm
      · have HD : Hid (OwnK wr (w.heap.size + 2) 41 13 u9 (cellsJ (mine nm s (l.take (k + 1))))) := by
          show OwnK _ _ _ _ _ _
          have h := HO.out
          rw [mine_take hlk, ← hjk, he]; simpa using h
        have he' : (j.qu.toList == nm.toList) = false := he
        have HJK := Lib.hid hjk; clear hjk he
        go_wp2_with fail
        refine wp_region_later (by kernel_rfl) (by kernel_rfl) ?_; have hL : ∀ (w : World) (x : Later w) (b o : Nat), b < w.heap.size → x.to.cell? ⟨b, o, none⟩ = w.cell? ⟨b, o, none⟩ := fun w x b o hb => x.cell hb; have hN := Later.some; (repeat (go_big_quiet_step (((fail))))); refine wpQuiet_nil ?_; intro w2 hw2; have hb2 := Later.out hw2; clear hw2 hL hN
        have hB2 : Below w.heap.size w w2 := hb.trans (hb2.mono hb.size)
        go_wp2_with fail
        go_round
        case rel => exact ⟨k + 1, by omega, by go_num, HD.out.below hb2, HQ2.out.later hb2, HN2.out.later hb2, hB2⟩
        case measure => simp [intOf]; omega
      · have HD : Hid (cellsJ (mine nm s (l.take (k + 1))) = cellsJ (mine nm s (l.take k)) ++ cellsJ [mv s j]) := by
          show _ = _
          rw [mine_take hlk, ← hjk, he, cellsJ_append]; rfl
        have he' : (j.qu.toList == nm.toList) = true := he
        have HJK := Lib.hid hjk; clear hjk he
        go_wp2_with fail
        refine wp_region_later (by kernel_rfl) (by kernel_rfl) ?_; have hL : ∀ (w : World) (x : Later w) (b o : Nat), b < w.heap.size → x.to.cell? ⟨b, o, none⟩ = w.cell? ⟨b, o, none⟩ := fun w x b o hb => x.cell hb; have hN := Later.some; (repeat (go_big_quiet_step (((fail))))); refine wpQuiet_nil ?_; intro w2 hw2; have hb2 := Later.out hw2; clear hw2 hL hN
        have hB2 : Below w.heap.size w w2 := hb.trans (hb2.mono hb.size)
        have HJ2 := Lib.hid (HJ.out.later hb2); clear HJ c1 cnm
        have HQ3 := Lib.hid (HQ2.out.later hb2); have HN3 := Lib.hid (HN2.out.later hb2); have HO2 := Lib.hid (HO.out.below hb2)
        have hz2 : g < w2.heap.size := HJ2.out.lt
        go_wp2_with (first | (with_reducible refine load_rg rfl 41 _ rfl g (o + k * 13) rfl j.arr _ HJ2.out.rg Try.underlying41 rfl (by kernel_rfl) ?_) | ((with_reducible refine store_bk rfl 41 (.tmp 11) (.tmp 47) rfl w2.heap.size 0 j.arr rfl rfl 41 _ j.arr (Bk.fresh _ _ _) (by kernel_rfl) (by simp) (by kernel_rfl) rfl ?_); intro w3 hX hg3 hs3; clear hs3; have c11 : w3.cell? ⟨w2.heap.size, 11, none⟩ = some (.string j.nd) := hX.cellAt 11; have f11 := hX.free 11; have z3 : w2.heap.size < w3.heap.size := hX.here; have bl3 : Below w2.heap.size w2 w3 := grown_below ((Below.refl _ _).alloc (Nat.le_refl _) _) hg3 (Nat.le_refl _); have bl4 : Below w2.heap.size w2 (w3.setCell ⟨w2.heap.size, 11, none⟩ (.string s)) := bl3.setCell (Nat.le_refl _) _; have hY : Bk (w3.setCell ⟨w2.heap.size, 11, none⟩ (.string s)) w2.heap.size 41 #[.string j.nm, .string j.qu, .int .i64 j.pr, .int .i64 j.a, .int .i64 j.b, .int .i64 j.c, .slice j.A j.n j.cp, .string j.ap, .string j.ga, .int .i64 j.sz, .int .i64 j.sq, .string s, .int .i64 j.bo] := (by have := hX.put 11 (.string s); simpa using this); have HO4 := Lib.hid (HO2.out.below bl4); have hF : RdK ((w3.setCell ⟨w2.heap.size, 11, none⟩ (.string s)).alloc (.cells #[.string j.nm, .string j.qu, .int .i64 j.pr, .int .i64 j.a, .int .i64 j.b, .int .i64 j.c, .slice j.A j.n j.cp, .string j.ap, .string j.ga, .int .i64 j.sz, .int .i64 j.sq, .string s, .int .i64 j.bo] 41)) 13 (some ⟨w3.heap.size, 0, none⟩) (cellsJ [mv s j]) := fresh_k _ 13 (mv s j).cells _ (by simp); have HF := Lib.hid hF; have HX := Lib.hid hX; have HY := Lib.hid hY; clear hX hY hF) | (with_reducible refine load_bk rfl 41 _ rfl w2.heap.size 0 rfl 41 #[.string j.nm, .string j.qu, .int .i64 j.pr, .int .i64 j.a, .int .i64 j.b, .int .i64 j.c, .slice j.A j.n j.cp, .string j.ap, .string j.ga, .int .i64 j.sz, .int .i64 j.sq, .string s, .int .i64 j.bo] #[.string j.nm, .string j.qu, .int .i64 j.pr, .int .i64 j.a, .int .i64 j.b, .int .i64 j.c, .slice j.A j.n j.cp, .string j.ap, .string j.ga, .int .i64 j.sz, .int .i64 j.sq, .string s, .int .i64 j.bo] _ HY.out (Part.whole _) Try.underlying41 rfl (by kernel_rfl) ?_) | ((with_reducible refine append_k _ rfl (.tmp 50) (.tmp 52) 22 rfl (w.heap.size + 2) 41 _ 13 160 Try.underlying22 infoJ rfl (by omega) u9 (cellsJ (mine nm s (l.take k))) rfl (HO4.out.alloc _) ⟨w3.heap.size, 0, none⟩ 1 1 (cellsJ [mv s j]) rfl HF.out (cellsJ_k _) (cellsJ_one _) rfl (by unfold maxLen; simp [cellsJ] at hlen ⊢; omega) (by simp [cellsJ] at hlen ⊢; omega) (by have := hB2.size; simp; omega) ?_); intro u9' w5 hO5 hg5))
        have hown := HO.out.block
        have hB4 : Below w.heap.size w (w3.setCell ⟨w2.heap.size, 11, none⟩ (.string s)) := hB2.trans (bl4.mono hB2.size)
        go_round
        case rel => exact ⟨k + 1, by omega, by go_num, (by show OwnK _ _ _ _ _ _; rw [HD.out]; exact hO5), ((HQ3.out.later bl4).later ((Below.refl _ _).alloc (Nat.le_refl _) _)).stays hg5 (fun e => by have := hown _ e.symm; omega), ((HN3.out.later bl4).later ((Below.refl _ _).alloc (Nat.le_refl _) _)).stays hg5 (fun e => by have := hown _ e.symm; omega), (hB4.alloc hB4.size _).grown hg5 (by have := hB4.size; simp at this ⊢; omega) (fun g e => by have := hown _ e; omega)⟩
        case measure => simp [intOf]; omega
    · have hk' : k = n := by omega
      subst hk'
      obtain ⟨w2, hw2⟩ : ∃ w2, w2 = wr := ⟨_, rfl⟩
      subst hw2
      have hlk : l.take k = l := by rw [HN.out]; exact List.take_length
      have HO' := HO.out
      rw [hlk] at HO'
      obtain ⟨A', c', hv, hr, hc', hc2'⟩ := HO'.rdj
      clear HO' hlk
      subst hv
      have hnn0 : (mine nm s l).length ≤ 300 := by have := mine_len nm s l; have := HN.out; omega
      obtain ⟨n', hn'⟩ : ∃ n', n' = (mine nm s l).length := ⟨_, rfl⟩
      rw [← hn'] at hc' hnn0
      rw [← hn']
      have HN' := Lib.hid hn'; clear hn'
      have HA' := Lib.hid hr; clear hr
      have hB2 := hb
      have HA2 := Lib.hid (HA.out.later hB2)
      have cnm : w2.cell? ⟨w.heap.size, 0, none⟩ = some (.string nm) := HQ2.out.cellAt 0; have hz2 : w.heap.size < w2.heap.size := HQ2.out.here
      clear HO lt1 hk
      go_wp2_with fail
      refine (used_any A k cap l nm _ HN (by omega) HA2 x y z v HU).mono ?_; rintro r w3 ⟨rfl, hb3⟩
      clear cnm hz2
      have hB3 : Below w.heap.size w w3 := hB2.trans (hb3.mono hB2.size)
      have HQ3 := Lib.hid (HQ2.out.later hb3); clear HQ2
      have HN3 := Lib.hid (HN2.out.later hb3); clear HN2
      have HA'3 := Lib.hid (HA'.out.later hb3)
      go_wp2_with (((with_reducible refine store_bk rfl 24 (.tmp 12) (.tmp 60) rfl w3.heap.size 0 #[.int .i64 x, .int .i64 y, .int .i64 z] rfl rfl 24 _ #[.int .i64 x, .int .i64 y, .int .i64 z] (Bk.fresh _ _ _) (by kernel_rfl) (by simp) (by kernel_rfl) rfl ?_); intro w4 hX hg4 hs4; clear hs4; have HX4 := Lib.hid hX; clear hX; have bl4 : Below w3.heap.size w3 w4 := grown_below ((Below.refl _ _).alloc (Nat.le_refl _) _) hg4 (Nat.le_refl _); have hB4 : Below w.heap.size w w4 := hB3.trans (bl4.mono hB3.size); have HQ4 := Lib.hid (HQ3.out.later bl4); clear HQ3; have HN4 := Lib.hid (HN3.out.later bl4); clear HN3; have cnm : w4.cell? ⟨w.heap.size, 0, none⟩ = some (.string nm) := HQ4.out.cellAt 0; have hz4 : w.heap.size < w4.heap.size := HQ4.out.here))
      have HA'4 := Lib.hid (HA'3.out.later bl4)
      refine (used_any A' n' c' (mine nm s l) nm _ HN' (by omega) HA'4 x y z v HU').mono ?_; rintro r w5 ⟨rfl, hb5⟩
      clear cnm hz4
      have hB5 : Below w.heap.size w w5 := hB4.trans (hb5.mono hB4.size)
      have HQ5 := Lib.hid (HQ4.out.later hb5); clear HQ4
      have HN5 := Lib.hid (HN4.out.later hb5); clear HN4
      have HX5 := Lib.hid (HX4.out.later hb5); clear HX4
      go_wp2_with (((with_reducible refine store_bk rfl 24 (.tmp 14) (.tmp 67) rfl w5.heap.size 0 #[.int .i64 x, .int .i64 y, .int .i64 z] rfl rfl 24 _ #[.int .i64 x, .int .i64 y, .int .i64 z] (Bk.fresh _ _ _) (by kernel_rfl) (by simp) (by kernel_rfl) rfl ?_); intro w6 hX hg6 hs6; clear hs6; have HX6 := Lib.hid hX; clear hX; have bl6 : Below w5.heap.size w5 w6 := grown_below ((Below.refl _ _).alloc (Nat.le_refl _) _) hg6 (Nat.le_refl _); have hB6 : Below w.heap.size w w6 := hB5.trans (bl6.mono hB5.size); have HQ6 := Lib.hid (HQ5.out.later bl6); clear HQ5; have HN6 := Lib.hid (HN5.out.later bl6); clear HN5))
      have HY6 := Lib.hid (HX5.out.later bl6)
      have HA6 := Lib.hid (HA.out.later hB6)
      have HA'6 := Lib.hid ((HA'4.out.later hb5).later bl6)
      have q0 : w6.cell? ⟨w.heap.size, 1, none⟩ = some (.int .i64 a) := HQ6.out.cellAt 1
      have q1 : w6.cell? ⟨w.heap.size, 2, none⟩ = some (.int .i64 b) := HQ6.out.cellAt 2
      have q2 : w6.cell? ⟨w.heap.size, 3, none⟩ = some (.int .i64 c) := HQ6.out.cellAt 3
      have cnm : w6.cell? ⟨w.heap.size, 0, none⟩ = some (.string nm) := HQ6.out.cellAt 0
      have n0 : w6.cell? ⟨w.heap.size + 1, 0, none⟩ = some (.int .i64 d) := HN6.out.cellAt 0
      have n1 : w6.cell? ⟨w.heap.size + 1, 1, none⟩ = some (.int .i64 e) := HN6.out.cellAt 1
      have n2 : w6.cell? ⟨w.heap.size + 1, 2, none⟩ = some (.int .i64 f) := HN6.out.cellAt 2
      have x0 : w6.cell? ⟨w5.heap.size, 0, none⟩ = some (.int .i64 x) := HX6.out.cellAt 0
      have x1 : w6.cell? ⟨w5.heap.size, 1, none⟩ = some (.int .i64 y) := HX6.out.cellAt 1
      have x2 : w6.cell? ⟨w5.heap.size, 2, none⟩ = some (.int .i64 z) := HX6.out.cellAt 2
      have y0 : w6.cell? ⟨w3.heap.size, 0, none⟩ = some (.int .i64 x) := HY6.out.cellAt 0
      have y1 : w6.cell? ⟨w3.heap.size, 1, none⟩ = some (.int .i64 y) := HY6.out.cellAt 1
      have y2 : w6.cell? ⟨w3.heap.size, 2, none⟩ = some (.int .i64 z) := HY6.out.cellAt 2
      have z0 : w.heap.size < w6.heap.size := HQ6.out.here
      have z1 : w.heap.size + 1 < w6.heap.size := HN6.out.here
      have z2 : w5.heap.size < w6.heap.size := HX6.out.here
      have z3 : w3.heap.size < w6.heap.size := HY6.out.here
      obtain ⟨T, hT⟩ : ∃ T, adm nm a b c d e f x y z v = T := ⟨_, rfl⟩
      have k1 : ∀ y : Later w6, Calls Try.prog 10 #[.agg #[.string nm, .int .i64 a, .int .i64 b, .int .i64 c], .slice A k cap, .agg #[.int .i64 d, .int .i64 e, .int .i64 f]] y.to fun r w' => r = .returned (.int .i64 T) ∧ Below y.to.heap.size y.to w' := fun y => hT ▸ admit_any nm a b c A k cap l d e f y.to HN (by omega) (Lib.hid (RdJ.at_later y HA6.out)) (by omega) _ _ _ _ HU
      have k2 : ∀ y : Later w6, Calls Try.prog 10 #[.agg #[.string nm, .int .i64 a, .int .i64 b, .int .i64 c], .slice A' n' c', .agg #[.int .i64 d, .int .i64 e, .int .i64 f]] y.to fun r w' => r = .returned (.int .i64 T) ∧ Below y.to.heap.size y.to w' := fun y => hT ▸ admit_any nm a b c A' n' c' (mine nm s l) d e f y.to HN' (by omega) (Lib.hid (RdJ.at_later y HA'6.out)) (by omega) _ _ _ _ HU'
      have K1 := Lib.hid k1; have K2 := Lib.hid k2
      clear k1 k2 hT hB0 hb hB2 hb3 hb5 bl4 bl6 hB3 hB4 hB5 hg4 hg6
      refine wp_region_later (by kernel_rfl) (by kernel_rfl) ?_; have hL : ∀ (w : World) (x : Later w) (b o : Nat), b < w.heap.size → x.to.cell? ⟨b, o, none⟩ = w.cell? ⟨b, o, none⟩ := fun w x b o hb => x.cell hb; have hN := Later.some; (repeat (go_big_quiet_step (((go_at_call 10; first | (with_reducible exact Later.call (K1.out _)) | (with_reducible exact Later.call (K2.out _))))))); refine wpQuiet_nil ?_; intro w7 hw7; have hb7 := Later.out hw7; clear hw7 hL hN
      go_wp2_with fail
      go_ret
      exact ⟨rfl, hB6.trans (hb7.mono hB6.size)⟩
end quotaApart
end Go.Proofs.Ytblmjaidonopeaa
