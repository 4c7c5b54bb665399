/- The contract of the document's own Used: a list of vectors is built, and summed. Condition: the slice reads as a list of jobs, of at most 1000000. -/
import Derived.Test.YtblmjaidonopeaaQu
import Derived.Test.YtblmjaidonopeaaRsum
namespace Go.Proofs.Ytblmjaidonopeaa
open Go.RowKit
set_option linter.unusedSimpArgs false
set_option linter.unusedVariables false

/-- The cells of vectors. -/
def cellsV (l : List (Int × Int × Int)) : List (List Value) := l.map fun t => [.int .i64 t.1, .int .i64 t.2.1, .int .i64 t.2.2]
theorem cellsV_append (l m : List (Int × Int × Int)) : cellsV (l ++ m) = cellsV l ++ cellsV m := by simp [cellsV]
theorem cellsV_length (l : List (Int × Int × Int)) : (cellsV l).length = l.length := by simp [cellsV]
theorem RdV.of {w : World} {A : Option Addr} {l : List (Int × Int × Int)} (h : RdK w 3 A (cellsV l)) : RdV w A l := fun i t ht => by
  obtain ⟨g, o, ha, hr⟩ := h i [.int .i64 t.1, .int .i64 t.2.1, .int .i64 t.2.2] (by simp [cellsV, ht])
  exact ⟨g, o, ha, hr 0 _ rfl, hr 1 _ rfl, hr 2 _ rfl⟩
theorem infoV : (Try.prog.info? 24).map (fun i => (i.zero, i.size, i.bytes)) = some (some (.agg #[.int .i64 0, .int .i64 0, .int .i64 0]), 3, 24) := by kernel_rfl
theorem ofQ_len (q : ByteArray) (l : List Jb) : (ofQ q l).length ≤ l.length := by unfold ofQ; rw [List.length_map]; exact List.length_filter_le _ _

set_option maxHeartbeats 3200000 in
theorem rused_any (A : Option Addr) (n cap : Nat) (l : List Jb) (q : ByteArray) (w : World) (hn : Hid (n = l.length)) (hl : n ≤ 1000000) (hA : Hid (RdJ w A l)) (x y z v : Int) (hs : Hid (sm 0 0 0 (ofQ q l) = (x, y, z, v))) :
    Calls Try.prog 9 #[.slice A n cap, .string q] w fun e w' => e = .returned (.tuple #[.agg #[.int .i64 x, .int .i64 y, .int .i64 z], .int .i64 v]) ∧ Below w.heap.size w w' := by
  go_enter Try.func9, Try.ntmps9
  have B4 : Bk (w.alloc (.cells #[.int .i64 0, .int .i64 0, .int .i64 0] 24)) w.heap.size 24 #[.int .i64 0, .int .i64 0, .int .i64 0] := Bk.fresh _ _ _
  have HB := Lib.hid B4; clear B4
  go_wp2_with fail
  go_loopw [6, 10] (fun v i wr => ∃ k : Nat, k ≤ n ∧ i = .int .i64 k ∧ Hid (OwnK wr (w.heap.size + 1) 24 3 v (cellsV (ofQ q (l.take k)))) ∧ Hid (Bk wr w.heap.size 24 #[.int .i64 0, .int .i64 0, .int .i64 0]) ∧ Below w.heap.size w wr) (fun _ i wr => n - (intOf i).toNat)
  case atStart => exact ⟨0, Nat.zero_le _, rfl, (show OwnK _ _ _ _ _ (cellsV (ofQ q (l.take 0))) from OwnK.nil _ _ _ _), HB, (Below.refl _ _).alloc (Nat.le_refl _) _⟩
  case round =>
    clear HB
    obtain ⟨k, hk, rfl, HO, HB, hb⟩ := hrel
    have lt0 : w.heap.size + 1 ≤ wr.heap.size := HB.out.here
    by_cases hlt : k < n
    · have hlk : k < l.length := by have := hn.out; omega
      obtain ⟨g, o, rfl, hg, hj⟩ := (hA.out.later hb).at hlk
      obtain ⟨j, hjk⟩ : ∃ j, j = l[k] := ⟨_, rfl⟩
      rw [← hjk] at hj
      have c1 := hj.qu
      have hlen : (cellsV (ofQ q (l.take k))).length ≤ k := by rw [cellsV_length]; exact Nat.le_trans (ofQ_len q _) (by rw [List.length_take]; omega)
      cases he : sE j.qu q
      · have HN : Hid (OwnK wr (w.heap.size + 1) 24 3 u6 (cellsV (ofQ q (l.take (k + 1))))) := by
          show OwnK _ _ _ _ _ _
          have h := HO.out
          rw [ofQ_take hlk, ← hjk, he]; simpa using h
        have he' : (j.qu.toList == q.toList) = false := he
        have HJK := Lib.hid hjk; clear hjk he hj
        go_wp2_with fail
        go_round
        case rel => exact ⟨k + 1, by omega, by go_num, HN, HB, hb⟩
        case measure => simp [intOf]; omega
      · have c3 := hj.a
        have c4 := hj.b
        have c5 := hj.c
        have he' : (j.qu.toList == q.toList) = true := he
        have HE : Hid (ofQ q (l.take (k + 1)) = ofQ q (l.take k) ++ [j.need]) := by
          show _ = _
          rw [ofQ_take hlk, ← hjk, he]; rfl
        have HJK := Lib.hid hjk; clear hjk he hj
        go_wp2_with (first | ((with_reducible refine append_k _ rfl (.tmp 21) (.tmp 28) 43 rfl (w.heap.size + 1) 24 _ 3 24 Try.underlying43 infoV rfl (by omega) u6 (cellsV (ofQ q (l.take k))) rfl (HO.out.alloc _) ⟨wr.heap.size, 0, none⟩ 1 1 (cellsV [j.need]) rfl (fresh_k wr 3 _ _ rfl) (by simp [cellsV]) (by simp [cellsV, Value.oneCell']) (by simp [cellsV]) (by simp [cellsV, maxLen] at hlen ⊢; omega) (by simp [cellsV] at hlen ⊢; omega) (by simp; omega) ?_); intro u6' w1 hO1 hg1))
        go_round
        case rel => exact ⟨k + 1, by omega, by go_num, (by rw [HE.out, cellsV_append]; exact hO1), (HB.out.later ((Below.refl _ _).alloc (Nat.le_refl _) _)).stays hg1 (fun e => by have := HO.out.block _ e.symm; omega), (hb.alloc hb.size _).grown hg1 (by simp; omega) (fun g e => by have := HO.out.block _ e; omega)⟩
        case measure => simp [intOf]; omega
    · have hk' : k = n := by omega
      subst hk'
      obtain ⟨B, c, hv, hr, _, _, _⟩ := HO.out.sl
      subst hv
      have hlk : l.take k = l := by rw [hn.out]; exact List.take_length
      rw [hlk] at hr
      have HR := Lib.hid (RdV.of hr); clear hr
      rw [hlk]
      have hll : (cellsV (ofQ q l)).length ≤ 1000000 := by rw [cellsV_length]; have := ofQ_len q l; have := hn.out; omega
      obtain ⟨m, hm⟩ : ∃ m, m = (cellsV (ofQ q l)).length := ⟨_, rfl⟩
      rw [← hm]
      have HM : Hid (m = (ofQ q l).length) := by show _ = _; rw [hm, cellsV_length]
      have hml : m ≤ 1000000 := by omega
      clear hm hll
      go_wp2_with fail
      refine (rsum_any B m c (ofQ q l) _ HM (by omega) HR x y z v hs).mono ?_; rintro e w2 ⟨rfl, hb2⟩
      have HB2 := Lib.hid (HB.out.later hb2)
      go_wp2_with ((with_reducible refine store_bk rfl 24 (.tmp 4) (.tmp 33) rfl w.heap.size 0 #[.int .i64 x, .int .i64 y, .int .i64 z] rfl rfl 24 _ #[.int .i64 x, .int .i64 y, .int .i64 z] HB2.out (by kernel_rfl) (by simp) (by kernel_rfl) rfl ?_); intro w3 hB3 hg3 hs3)
      exact bodyPost_ret (v := .tuple #[.agg #[.int .i64 x, .int .i64 y, .int .i64 z], .int .i64 _]) (results_bk2 Try.results9 _ _ w.heap.size 24 _ _ _ rfl rfl hB3 Try.underlying24 rfl (by kernel_rfl)) rfl ⟨rfl, grown_below (hb.trans (hb2.mono hb.size)) hg3 (Nat.le_refl _)⟩
end Go.Proofs.Ytblmjaidonopeaa
