/- The contracts of the store's Read and Bytes, of New, of the document's New, and of the law's full. Condition: the store lies there. -/
import Derived.Test.YtnikhlajlhgikaaWrt
namespace Go.Proofs.Ytnikhlajlhgikaa
open Go.RowKit
set_option linter.unusedSimpArgs false
set_option linter.unusedVariables false

theorem info5 : (Try.prog.info? 5).map (fun i => (i.zero, i.size, i.bytes)) = some (some (.int .u8 0), 1, 1) := by kernel_rfl
theorem info_of {i : Option TypeInfo} {z : Option Value} {s b : Nat} (h : i.map (fun i => (i.zero, i.size, i.bytes)) = some (z, s, b)) : ∃ t, i = some t ∧ t.zero = z ∧ t.size = s ∧ t.bytes = b := by
  cases i with
  | none => cases h
  | some t => simp at h; exact ⟨t, rfl, h.1, h.2.1, h.2.2⟩

/-- A block of bytes reads as its bytes, from any place on. -/
theorem Bk.rdAt {w : World} {g : Nat} {T : TypeId} {l : List UInt8} {tl : List Value} (h : Bk w g T (cells l ++ tl).toArray) (o n : Nat) : Rd w (some ⟨g, o, none⟩) ((l.drop o).take n) := fun i b hi => by
  rw [List.getElem?_take] at hi
  split at hi
  · rw [List.getElem?_drop] at hi
    have hlt : o + i < l.length := (List.getElem?_eq_some_iff.1 hi).1
    refine ⟨_, _, rfl, (h.cellAt (o + i)).trans ?_⟩
    simp only [List.getElem?_toArray]
    rw [List.getElem?_append_left (by rw [cells_length]; exact hlt)]
    exact cells_at hi
  · cases hi
theorem Bk.rd {w : World} {g : Nat} {T : TypeId} {l : List UInt8} (h : Bk w g T (cells l).toArray) : Rd w (some ⟨g, 0, none⟩) l := by
  have := Bk.rdAt (l := l) (tl := []) (by simpa using h) 0 l.length
  simpa using this

/-- Block k of the bytes. -/
def blockAt (B : List UInt8) (k : Nat) : List UInt8 := (B.drop (k * 64)).take 64
theorem blockAt_length {B : List UInt8} {k : Nat} (h : B.length = 65536) (hk : k < 1024) : (blockAt B k).length = 64 := by simp [blockAt]; omega
theorem St.part {w : World} {g : Nat} {d : Dv} (h : St w g d) (k : Nat) (hk : k < 1024) : Part d.cs (k * 64) (cells (blockAt d.B k)).toArray := by
  refine Part.of ?_
  have hl := h.len
  simp only [List.size_toArray, cells_length, blockAt_length hl hk, Dv.cs]
  rw [List.drop_append_of_le_length (by rw [cells_length]; omega), List.take_append_of_le_length (by simp [cells_length]; omega)]
  simp [blockAt, cells]

theorem read_off (g : Nat) (d : Dv) (i : Int) (w : World) (h : St w g d) (hoff : d.off = true) : Calls Try.prog 14 #[.pointer (some ⟨g, 0, none⟩), .int .i64 i] w fun e w' => e = .returned (.tuple #[.slice none 0 0, .int .i64 13]) ∧ w = w' := by
  have hg := h.bk.here
  have k0 := h.c0
  rw [hoff] at k0
  have H := Lib.hid h
  clear h hoff
  go_enter Try.func14, Try.ntmps14
  go_wp2
  go_ret2
  exact ⟨rfl, rfl⟩
theorem read_nil (i : Int) (w : World) : Calls Try.prog 14 #[.pointer none, .int .i64 i] w fun e w' => e = .returned (.tuple #[.slice none 0 0, .int .i64 1]) ∧ w = w' := by
  go_enter Try.func14, Try.ntmps14
  go_wp2
  go_ret2
  exact ⟨rfl, rfl⟩
theorem read_not (g : Nat) (d : Dv) (i : Int) (w : World) (h : St w g d) (hoff : d.off = false) (hi : isB i = false) : Calls Try.prog 14 #[.pointer (some ⟨g, 0, none⟩), .int .i64 i] w fun e w' => e = .returned (.tuple #[.slice none 0 0, .int .i64 1]) ∧ w = w' := by
  have hg := h.bk.here
  have k0 := h.c0
  rw [hoff] at k0
  have hc := isBlock_any i w
  rw [hi] at hc
  have H := Lib.hid h
  have HC := Lib.hid hc
  clear h hoff hi hc
  go_enter Try.func14, Try.ntmps14
  go_wp2_with fail
  refine HC.out.mono ?_
  rintro e w' ⟨rfl, rfl⟩
  go_wp2
  go_ret2
  exact ⟨rfl, rfl⟩
set_option maxHeartbeats 1000000 in
theorem read_is (g : Nat) (d : Dv) (k : Nat) (w : World) (h : St w g d) (hoff : d.off = false) (hk : k < 1024) : Calls Try.prog 14 #[.pointer (some ⟨g, 0, none⟩), .int .i64 (k : Int)] w fun e w' =>
    e = .returned (.tuple #[.slice (some ⟨w.heap.size, 0, none⟩) 64 64, .int .i64 0]) ∧ Bk w' w.heap.size 29 (cells (blockAt d.B k)).toArray ∧ Below w.heap.size w w' := by
  have hg := h.bk.here
  have k0 := h.c0
  rw [hoff] at k0
  have hc := isBlock_any (k : Int) w
  rw [show isB (k : Int) = true by simp [isB]; omega] at hc
  have hsz : (cells (blockAt d.B k)).toArray.size = 64 := by simp [cells_length, blockAt_length h.len hk]
  have hone : (cells (blockAt d.B k)).toArray.all (·.oneCell') = true := by
    rw [Array.all_eq_true_iff_forall_mem]
    intro u hu
    exact cells_one _ u (by simpa using hu)
  have hP := h.part k hk
  obtain ⟨ps, hps⟩ : ∃ ps, ps = (cells (blockAt d.B k)).toArray := ⟨_, rfl⟩
  rw [← hps] at hsz hone hP ⊢
  obtain ⟨Z, hZ⟩ : ∃ Z : Array Value, ∀ W, (zeroValue 29).run Try.prog W = .ok (.agg Z) W ∧ Z.size = 64 := ⟨_, fun W => ⟨Try.zeroValue29 W, rfl⟩⟩
  have hz1 : ∀ W, (zeroValue 29).run Try.prog W = .ok (.agg Z) W := fun W => (hZ W).1
  have hz2 : Z.size = 64 := (hZ w).2
  have hk0 : (0 : Int) ≤ (k : Int) := by omega
  have hk2 : (k : Int) < 1024 := by omega
  have H := Lib.hid h
  have HC := Lib.hid hc
  have HP := Lib.hid hP
  have HS := Lib.hid hsz
  have HO := Lib.hid hone
  have hpp : ps = putPart Z 0 ps := by
    unfold putPart
    rw [hsz, List.drop_of_length_le (by rw [Array.length_toList, hz2]; exact Nat.le_refl _)]
    simp
  have HZ2 := Lib.hid hz2
  have HPP := Lib.hid hpp
  clear hpp h hoff hc hps hZ hsz hone hP hz2
  go_enter Try.func14, Try.ntmps14
  go_wp2_with fail
  refine HC.out.mono ?_
  rintro e w' ⟨rfl, rfl⟩
  go_wp2_with (first
    | (with_reducible refine load_bk rfl 29 _ rfl g (k * 64) rfl 32 d.cs ps _ H.out.bk HP.out Try.underlying29 rfl (by rw [HS.out]; kernel_rfl) ?_)
    | (with_reducible refine store_bk rfl 29 (.tmp 6) (.tmp 24) rfl w.heap.size 0 ps rfl rfl 29 Z ps (Bk.fresh _ _ _) (by rw [HS.out]; kernel_rfl) (by rw [HS.out, HZ2.out]; exact Nat.le_refl _) HO.out HPP.out ?_; intro w1 hB hg1 hs1))
  go_ret2
  exact ⟨rfl, hB, grown_below ((Below.refl _ _).alloc (Nat.le_refl _) _) hg1 (Nat.le_refl _)⟩

set_option maxHeartbeats 1000000 in
theorem bytes_any (g : Nat) (d : Dv) (w : World) (h : St w g d) : Calls Try.prog 22 #[.pointer (some ⟨g, 0, none⟩)] w fun e w' =>
    e = .returned (.slice (some ⟨w.heap.size, 0, none⟩) 65536 65536) ∧ Own w' w.heap.size 5 w.heap.size 65536 d.B ∧ Below w.heap.size w w' := by
  obtain ⟨i0, hi, hz0, hz1, hz2⟩ := info_of info5
  have hg := h.bk.here
  have H := Lib.hid h
  clear h
  go_enter Try.func22, Try.ntmps22
  go_wp2_with (at_make; refine wpList_make_own _ rfl _ _ 37 rfl w.heap.size 5 i0 (.int .u8 0) 1 Try.underlying37 hi hz0 hz1 _ _ _ 65536 rfl rfl (by omega) (by rw [hz2]; omega) (by unfold maxLen; omega) (Nat.le_refl _) ?_; intro w1 hown1 hg1)
  have O1 : Own w1 w.heap.size 5 w.heap.size 65536 [] := hown1
  have HO1 := Lib.hid O1
  have HB1 := Lib.hid (grownBy_below hg1 (Nat.le_refl _) (by intro k hk; cases hk))
  clear O1 hown1 hg1
  go_loopw [3, 8] (fun all i wr => ∃ j : Nat, j ≤ 1024 ∧ i = .int .i64 j ∧ all = .slice (some ⟨w.heap.size, 0, none⟩) (j * 64) 65536 ∧ Hid (Own wr w.heap.size 5 w.heap.size 65536 (d.B.take (j * 64))) ∧ Hid (Below w.heap.size w wr)) (fun _ i _ => 1024 - (intOf i).toNat)
  case atStart =>
    exact ⟨0, by omega, rfl, by simp, by simpa using HO1, HB1⟩
  case round =>
    obtain ⟨j, hj, rfl, rfl, ho, hb⟩ := hrel
    by_cases h1 : j < 1024
    · have hj0 : (0 : Int) ≤ (j : Int) := by omega
      have hj2 : (j : Int) < 1024 := by omega
      have hl : (blockAt d.B j).length = 64 := blockAt_length H.out.len h1
      have hlt : (d.B.take (j * 64)).length = j * 64 := by rw [List.length_take, H.out.len]; omega
      have HL := Lib.hid hl
      have HLT := Lib.hid hlt
      clear hl hlt
      go_wp2_with (at_builtin; refine wpList_append_rd _ rfl _ _ 37 rfl w.heap.size 5 i0 Try.underlying37 hi hz1 w.heap.size 65536 (j * 64) (d.B.take (j * 64)) rfl ho.out (some ⟨g, j * 64, none⟩) 64 64 (blockAt d.B j) rfl ((H.out.later hb.out).rd (j * 64) 64) HLT.out.symm HL.out.symm (by rw [HL.out, HLT.out]; omega) ?_; intro w2 hown2 hg2)
      have HO2 := Lib.hid hown2
      have HB2 := Lib.hid (hb.out.trans (grownBy_below hg2 hb.out.size (by intro k hk; cases hk; exact ho.out.lt.1)))
      clear hown2 hg2
      go_roundw
      case rel =>
        refine ⟨j + 1, by omega, by go_num, by simp; omega, ?_, HB2⟩
        have e : d.B.take ((j + 1) * 64) = d.B.take (j * 64) ++ blockAt d.B j := by
          rw [Nat.add_mul, Nat.one_mul]; exact List.take_add
        unfold Hid
        rw [e]
        exact HO2.out
      case measure => simp [intOf]; omega
    · obtain rfl : j = 1024 := by omega
      go_wp2
      go_ret
      refine ⟨rfl, ?_, hb.out⟩
      have e : d.B.take (1024 * 64) = d.B := List.take_of_length_le (by rw [H.out.len]; omega)
      have := ho.out
      rw [e] at this
      exact this
theorem bytes_nil (w : World) : Calls Try.prog 22 #[.pointer none] w fun e w' => e = .returned (.slice none 0 0) ∧ w = w' := by
  go_enter Try.func22, Try.ntmps22
  go_wp2
  go_ret
  exact ⟨rfl, rfl⟩
end Go.Proofs.Ytnikhlajlhgikaa
