/- The contract of quota.Used. Condition: the slice reads as a list of jobs. -/
import Derived.Test.YtblmjaidonopeaaJb
import Derived.Test.YtblmjaidonopeaaQf
import Derived.Test.YtblmjaidonopeaaSm
namespace Go.Proofs.Ytblmjaidonopeaa
open Go.RowKit
set_option linter.unusedSimpArgs false
set_option linter.unusedVariables false

/-- What a job needs. -/
abbrev Jb.need (j : Jb) : Int × Int × Int := (j.a, j.b, j.c)
/-- What the jobs of a queue need. -/
def ofQ (q : ByteArray) (l : List Jb) : List (Int × Int × Int) := (l.filter fun j => sE j.qu q).map Jb.need
theorem ofQ_yes {q : ByteArray} {l : List Jb} {k : Nat} (h : k < l.length) (he : sE l[k].qu q = true) : ofQ q (l.drop k) = l[k].need :: ofQ q (l.drop (k + 1)) := by
  unfold ofQ; rw [List.drop_eq_getElem_cons h, List.filter_cons_of_pos (p := fun j : Jb => sE j.qu q) he]; rfl
theorem ofQ_no {q : ByteArray} {l : List Jb} {k : Nat} (h : k < l.length) (he : sE l[k].qu q = false) : ofQ q (l.drop k) = ofQ q (l.drop (k + 1)) := by
  unfold ofQ; rw [List.drop_eq_getElem_cons h, List.filter_cons_of_neg (p := fun j : Jb => sE j.qu q) (by simp [he])]
theorem ofQ_take {q : ByteArray} {l : List Jb} {k : Nat} (h : k < l.length) : ofQ q (l.take (k + 1)) = ofQ q (l.take k) ++ if sE l[k].qu q then [l[k].need] else [] := by
  rw [List.take_succ_eq_append_getElem h]; simp only [ofQ, List.filter_append, List.map_append]
  cases he : sE l[k].qu q <;> simp [he]

set_option maxHeartbeats 3200000 in
theorem used_any (A : Option Addr) (n cap : Nat) (l : List Jb) (q : ByteArray) (w : World) (hn : Hid (n = l.length)) (hl : n ≤ 9223372036854775807) (hA : Hid (RdJ w A l)) (x y z v : Int) (hs : Hid (sm 0 0 0 (ofQ q l) = (x, y, z, v))) :
    Calls Try.prog 8 #[.slice A n cap, .string q] w fun e w' => e = .returned (.tuple #[.agg #[.int .i64 x, .int .i64 y, .int .i64 z], .int .i64 v]) ∧ Below w.heap.size w w' := by
  go_enter Try.func8, Try.ntmps8
  have B4 : Bk (w.alloc (.cells #[.int .i64 0, .int .i64 0, .int .i64 0] 24)) w.heap.size 24 #[.int .i64 0, .int .i64 0, .int .i64 0] := Bk.fresh _ _ _
  go_wp2_with ((with_reducible refine store_bk rfl 24 (.tmp 6) (.tmp 11) rfl (w.heap.size + 1) 0 #[.int .i64 0, .int .i64 0, .int .i64 0] rfl rfl 24 _ #[.int .i64 0, .int .i64 0, .int .i64 0] (Bk.freshAt _ _ _ (by simp)) (by kernel_rfl) (by simp) (by kernel_rfl) rfl ?_); intro w0 hB0 hg0 hs0)
  have hb0 : Below w.heap.size w w0 := grown_below (((Below.refl _ _).alloc (Nat.le_refl _) _).alloc (by simp) _) hg0 (by omega)
  have hB4 : Bk w0 w.heap.size 24 #[.int .i64 0, .int .i64 0, .int .i64 0] := (B4.later ((Below.refl _ _).alloc (Nat.le_refl _) _)).stays hg0 (by simp)
  clear B4 hg0 hs0
  have HB4 := Lib.hid hB4; clear hB4
  have HB0 := Lib.hid hB0; clear hB0
  go_loopw [14] (fun i wr => ∃ (k : Nat) (p r s : Int), k ≤ n ∧ i = .int .i64 k ∧ Hid (sm p r s (ofQ q (l.drop k)) = (x, y, z, v)) ∧ Hid (Bk wr w.heap.size 24 #[.int .i64 0, .int .i64 0, .int .i64 0]) ∧
      Hid (Bk wr (w.heap.size + 1) 24 #[.int .i64 p, .int .i64 r, .int .i64 s]) ∧ Below w.heap.size w wr) (fun i wr => n - (intOf i).toNat)
  case atStart => exact ⟨0, 0, 0, 0, Nat.zero_le _, rfl, (show sm 0 0 0 (ofQ q (l.drop 0)) = _ by simpa using hs.out), HB4, HB0, hb0⟩
  case round =>
    clear HB4 HB0 hb0
    obtain ⟨k, p, r, s, hk, rfl, HS, HB4, HB6, hb⟩ := hrel
    have lt1 : w.heap.size + 1 < wr.heap.size := HB6.out.here
    by_cases hlt : k < n
    · have hlk : k < l.length := by have := hn.out; omega
      obtain ⟨g, o, rfl, hg, hj⟩ := (hA.out.later hb).at hlk
      obtain ⟨j, hjk⟩ : ∃ j, j = l[k] := ⟨_, rfl⟩
      rw [← hjk] at hj
      have HJ := Lib.hid hj; clear hj
      cases he : sE j.qu q
      · have hfin := HS.out
        rw [ofQ_no hlk (hjk ▸ he)] at hfin
        have HF := Lib.hid hfin; clear hfin
        have he' : (j.qu.toList == q.toList) = false := he
        have HJK := Lib.hid hjk; clear hjk he
        go_wp2_with (first | (with_reducible refine load_rg rfl 41 _ rfl g (o + k * 13) rfl j.arr _ HJ.out.rg Try.underlying41 rfl (by kernel_rfl) ?_) | ((with_reducible refine store_bk rfl 41 (.tmp 8) (.tmp 17) rfl wr.heap.size 0 j.arr rfl rfl 41 _ j.arr (Bk.fresh _ _ _) (by kernel_rfl) (by simp) (by kernel_rfl) rfl ?_); intro w1 hB1 hg1 hs1; have hn1 := hB1.cellAt 1; simp at hn1))
        go_round
        case rel => exact ⟨k + 1, p, r, s, by omega, by go_num, HF, (HB4.out.later ((Below.refl _ _).alloc (Nat.le_refl _) _)).stays hg1 (by simp; omega), (HB6.out.later ((Below.refl _ _).alloc (Nat.le_refl _) _)).stays hg1 (by simp; omega), grown_below (hb.alloc hb.size _) hg1 hb.size⟩
        case measure => simp [intOf]; omega
      · obtain ⟨hd, hdef⟩ : ∃ t, t = ofQ q (l.drop (k + 1)) := ⟨_, rfl⟩
        have hfin := HS.out
        rw [ofQ_yes hlk (hjk ▸ he), ← hjk, ← hdef] at hfin
        have HD := Lib.hid hdef; clear hdef
        have he' : (j.qu.toList == q.toList) = true := he
        have HJK := Lib.hid hjk; clear hjk he
        cases h : adB p r s j.a j.b j.c
        · have hv := adE_no h
          rw [sm_no h] at hfin
          simp only [Prod.mk.injEq] at hfin
          obtain ⟨rfl, rfl, rfl, hfv⟩ := hfin
          try simp only at hv
          rw [hfv] at hv
          have HH := Lib.hid h; clear h
          have HV := Lib.hid hfv; clear hfv
          rcases hv with rfl | rfl
          all_goals
            go_wp2_with (first | (with_reducible refine load_rg rfl 41 _ rfl g (o + k * 13) rfl j.arr _ HJ.out.rg Try.underlying41 rfl (by kernel_rfl) ?_) | ((with_reducible refine store_bk rfl 41 (.tmp 8) (.tmp 17) rfl wr.heap.size 0 j.arr rfl rfl 41 _ j.arr (Bk.fresh _ _ _) (by kernel_rfl) (by simp) (by kernel_rfl) rfl ?_); intro w1 hB1 hg1 hs1; have hn1 := hB1.cellAt 1; simp at hn1; have hb1 : Below w.heap.size w w1 := grown_below (hb.alloc hb.size _) hg1 hb.size; have hB6 := (HB6.out.later ((Below.refl _ _).alloc (Nat.le_refl _) _)).stays hg1 (by simp; omega); have hB4 := (HB4.out.later ((Below.refl _ _).alloc (Nat.le_refl _) _)).stays hg1 (by simp; omega); have HB6' := Lib.hid hB6; have HB4' := Lib.hid hB4; have HBJ := Lib.hid hB1; clear hB6 hB4 hB1 HB6 HB4) | (with_reducible refine load_bk rfl 24 _ rfl (w.heap.size + 1) 0 rfl 24 #[.int .i64 p, .int .i64 r, .int .i64 s] #[.int .i64 p, .int .i64 r, .int .i64 s] _ HB6'.out (Part.whole _) Try.underlying24 rfl (by kernel_rfl) ?_) | (with_reducible refine load_bk rfl 24 _ rfl wr.heap.size 3 rfl 41 j.arr #[.int .i64 j.a, .int .i64 j.b, .int .i64 j.c] _ HBJ.out (Part.of rfl) Try.underlying24 rfl (by kernel_rfl) ?_))
            refine (add_false HH.out HV.out _).mono ?_; rintro r' w2 ⟨rfl, hb2⟩
            go_wp2_with (first | ((with_reducible refine store_bk rfl 24 (.tmp 9) (.tmp 29) rfl w2.heap.size 0 #[.int .i64 0, .int .i64 0, .int .i64 0] rfl rfl 24 _ #[.int .i64 0, .int .i64 0, .int .i64 0] (Bk.fresh _ _ _) (by kernel_rfl) (by simp) (by kernel_rfl) rfl ?_); intro w3 hB9 hg3 hs3; have HB9 := Lib.hid hB9; clear hB9; have hb3 : Below w.heap.size w w3 := grown_below ((hb1.trans (hb2.mono hb1.size)).alloc (Nat.le_trans hb1.size hb2.size) _) hg3 (Nat.le_trans hb1.size hb2.size); have hB6 := ((HB6'.out.later hb2).later ((Below.refl _ _).alloc (Nat.le_refl _) _)).stays hg3 (by have := hb2.size; have := hs1; simp at this ⊢; omega); have hB4 := ((HB4'.out.later hb2).later ((Below.refl _ _).alloc (Nat.le_refl _) _)).stays hg3 (by have := hb2.size; have := hs1; simp at this ⊢; omega); have HB6 := Lib.hid hB6; have HB4 := Lib.hid hB4; clear hB6 hB4) | ((with_reducible refine store_bk rfl 24 (.tmp 4) (.tmp 33) rfl w.heap.size 0 #[.int .i64 0, .int .i64 0, .int .i64 0] rfl rfl 24 _ #[.int .i64 0, .int .i64 0, .int .i64 0] HB4.out (by kernel_rfl) (by simp) (by kernel_rfl) rfl ?_); intro w4 hB5 hg4 hs4))
            exact bodyPost_ret (v := .tuple #[.agg #[.int .i64 0, .int .i64 0, .int .i64 0], .int .i64 _]) (results_bk2 Try.results8 _ _ w.heap.size 24 _ _ _ rfl rfl hB5 Try.underlying24 rfl (by kernel_rfl)) rfl ⟨rfl, grown_below hb3 hg4 (Nat.le_refl _)⟩
        · rw [sm_ok h] at hfin
          have HF := Lib.hid hfin; clear hfin
          have HH := Lib.hid h; clear h
          go_wp2_with (first | (with_reducible refine load_rg rfl 41 _ rfl g (o + k * 13) rfl j.arr _ HJ.out.rg Try.underlying41 rfl (by kernel_rfl) ?_) | ((with_reducible refine store_bk rfl 41 (.tmp 8) (.tmp 17) rfl wr.heap.size 0 j.arr rfl rfl 41 _ j.arr (Bk.fresh _ _ _) (by kernel_rfl) (by simp) (by kernel_rfl) rfl ?_); intro w1 hB1 hg1 hs1; have hn1 := hB1.cellAt 1; simp at hn1; have hb1 : Below w.heap.size w w1 := grown_below (hb.alloc hb.size _) hg1 hb.size; have hB6 := (HB6.out.later ((Below.refl _ _).alloc (Nat.le_refl _) _)).stays hg1 (by simp; omega); have hB4 := (HB4.out.later ((Below.refl _ _).alloc (Nat.le_refl _) _)).stays hg1 (by simp; omega); have HB6' := Lib.hid hB6; have HB4' := Lib.hid hB4; have HBJ := Lib.hid hB1; clear hB6 hB4 hB1 HB6 HB4) | (with_reducible refine load_bk rfl 24 _ rfl (w.heap.size + 1) 0 rfl 24 #[.int .i64 p, .int .i64 r, .int .i64 s] #[.int .i64 p, .int .i64 r, .int .i64 s] _ HB6'.out (Part.whole _) Try.underlying24 rfl (by kernel_rfl) ?_) | (with_reducible refine load_bk rfl 24 _ rfl wr.heap.size 3 rfl 41 j.arr #[.int .i64 j.a, .int .i64 j.b, .int .i64 j.c] _ HBJ.out (Part.of rfl) Try.underlying24 rfl (by kernel_rfl) ?_))
          refine (add_true HH.out _).mono ?_; rintro r' w2 ⟨rfl, hb2⟩
          go_wp2_with (first | ((with_reducible refine store_bk rfl 24 (.tmp 9) (.tmp 29) rfl w2.heap.size 0 #[.int .i64 (p + j.a), .int .i64 (r + j.b), .int .i64 (s + j.c)] rfl rfl 24 _ #[.int .i64 (p + j.a), .int .i64 (r + j.b), .int .i64 (s + j.c)] (Bk.fresh _ _ _) (by kernel_rfl) (by simp) (by kernel_rfl) rfl ?_); intro w3 hB9 hg3 hs3; have HB9 := Lib.hid hB9; clear hB9; have hb3 : Below w.heap.size w w3 := grown_below ((hb1.trans (hb2.mono hb1.size)).alloc (Nat.le_trans hb1.size hb2.size) _) hg3 (Nat.le_trans hb1.size hb2.size); have hB6 := ((HB6'.out.later hb2).later ((Below.refl _ _).alloc (Nat.le_refl _) _)).stays hg3 (by have := hb2.size; have := hs1; simp at this ⊢; omega); have hB4 := ((HB4'.out.later hb2).later ((Below.refl _ _).alloc (Nat.le_refl _) _)).stays hg3 (by have := hb2.size; have := hs1; simp at this ⊢; omega); have HB6 := Lib.hid hB6; have HB4 := Lib.hid hB4; clear hB6 hB4) | (with_reducible refine load_bk rfl 24 _ rfl w2.heap.size 0 rfl 24 #[.int .i64 (p + j.a), .int .i64 (r + j.b), .int .i64 (s + j.c)] #[.int .i64 (p + j.a), .int .i64 (r + j.b), .int .i64 (s + j.c)] _ HB9.out (Part.whole _) Try.underlying24 rfl (by kernel_rfl) ?_) | ((with_reducible refine store_bk rfl 24 (.tmp 6) (.tmp 35) rfl (w.heap.size + 1) 0 #[.int .i64 (p + j.a), .int .i64 (r + j.b), .int .i64 (s + j.c)] rfl rfl 24 _ #[.int .i64 (p + j.a), .int .i64 (r + j.b), .int .i64 (s + j.c)] HB6.out (by kernel_rfl) (by simp) (by kernel_rfl) rfl ?_); intro w4 hB7 hg4 hs4))
          go_round
          case rel => exact ⟨k + 1, p + j.a, r + j.b, s + j.c, by omega, by go_num, (show sm _ _ _ (ofQ q (l.drop (k + 1))) = _ by rw [← HD.out]; exact HF.out), HB4.out.stays hg4 (by simp), hB7, grown_below hb3 hg4 (by omega)⟩
          case measure => simp [intOf]; omega
    · have hk' : k = n := by omega
      subst hk'
      have hfin := HS.out
      rw [hn.out, List.drop_length] at hfin
      simp only [ofQ, List.filter_nil, List.map_nil, sm_nil, Prod.mk.injEq] at hfin
      obtain ⟨rfl, rfl, rfl, rfl⟩ := hfin
      go_wp2_with (first | (with_reducible refine load_bk rfl 24 _ rfl (w.heap.size + 1) 0 rfl 24 #[.int .i64 p, .int .i64 r, .int .i64 s] #[.int .i64 p, .int .i64 r, .int .i64 s] _ HB6.out (Part.whole _) Try.underlying24 rfl (by kernel_rfl) ?_) | ((with_reducible refine store_bk rfl 24 (.tmp 4) (.tmp 37) rfl w.heap.size 0 #[.int .i64 p, .int .i64 r, .int .i64 s] rfl rfl 24 _ #[.int .i64 p, .int .i64 r, .int .i64 s] HB4.out (by kernel_rfl) (by simp) (by kernel_rfl) rfl ?_); intro w1 hB1 hg1 hs1))
      exact bodyPost_ret (v := .tuple #[.agg #[.int .i64 p, .int .i64 r, .int .i64 s], .int .i64 0]) (results_bk2 Try.results8 _ _ w.heap.size 24 _ _ _ rfl rfl hB1 Try.underlying24 rfl (by kernel_rfl)) rfl ⟨rfl, grown_below hb hg1 (Nat.le_refl _)⟩
end Go.Proofs.Ytblmjaidonopeaa
