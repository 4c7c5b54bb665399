/- What a write comes to where it is known how the store stands; blocks of bytes put over bytes; the law's awake. No condition beyond those that each lemma bears. -/
import Derived.Test.YtnikhlajlhgikaaNwf
namespace Go.Proofs.Ytnikhlajlhgikaa
open Go.RowKit
set_option linter.unusedSimpArgs false
set_option linter.unusedVariables false

theorem isB_k {k : Nat} (hk : k < 1024) : isB (k : Int) = true := by unfold isB; simp; omega
section
variable (g : Nat) (d : Dv) (k ga c : Nat) (b : List UInt8) (w : World) (h : St w g d) (hk : k < 1024) (hb : b.length = 64) (hr : Rd w (some ⟨ga, 0, none⟩) b) (hga : ga ∉ [g])
include h hr hga
theorem write_off (i : Int) (n : Nat) (hn : n = b.length) (hoff : d.off = true) : Calls Try.prog 12 #[.pointer (some ⟨g, 0, none⟩), .int .i64 i, .slice (some ⟨ga, 0, none⟩) n c] w fun e w' => e = .returned (.int .i64 13) ∧ Turned g d w w' := by
  have := write_any g d i ga n c b w h hn (Lib.hid hr) hga
  have e : d.write i b = (13, d) := by rw [Dv.write, if_pos hoff]
  rw [e] at this
  exact this
include hk hb
theorem write_plain (hoff : d.off = false) (harm : d.armed = false) : Calls Try.prog 12 #[.pointer (some ⟨g, 0, none⟩), .int .i64 (k : Int), .slice (some ⟨ga, 0, none⟩) 64 c] w fun e w' => e = .returned (.int .i64 0) ∧ Turned g ⟨over d.B (k * 64) b, false, wrap64 (d.wr + 1), false, d.cnt, d.part⟩ w w' := by
  have := write_any g d (k : Int) ga 64 c b w h hb.symm (Lib.hid hr) hga
  have e : d.write (k : Int) b = (0, ⟨over d.B (k * 64) b, false, wrap64 (d.wr + 1), false, d.cnt, d.part⟩) := by
    rw [Dv.write, if_neg (by rw [hoff]; simp), if_neg (by rw [isB_k hk, hb]; simp), if_neg (by unfold Dv.goesDown; rw [harm]; simp)]
    unfold Dv.counted
    rw [if_neg (by show ¬ (d.armed = true ∧ _); rw [harm]; simp)]
    show (0, Dv.mk (over d.B (k * 64) b) d.off (wrap64 (d.wr + 1)) d.armed d.cnt d.part) = _
    rw [hoff, harm]
  rw [e] at this
  exact this
theorem write_counts (hoff : d.off = false) (harm : d.armed = true) (hc : 0 < d.cnt) : Calls Try.prog 12 #[.pointer (some ⟨g, 0, none⟩), .int .i64 (k : Int), .slice (some ⟨ga, 0, none⟩) 64 c] w fun e w' => e = .returned (.int .i64 0) ∧ Turned g ⟨over d.B (k * 64) b, false, wrap64 (d.wr + 1), true, wrap64 (d.cnt - 1), d.part⟩ w w' := by
  have := write_any g d (k : Int) ga 64 c b w h hb.symm (Lib.hid hr) hga
  have e : d.write (k : Int) b = (0, ⟨over d.B (k * 64) b, false, wrap64 (d.wr + 1), true, wrap64 (d.cnt - 1), d.part⟩) := by
    rw [Dv.write, if_neg (by rw [hoff]; simp), if_neg (by rw [isB_k hk, hb]; simp), if_neg (by unfold Dv.goesDown; rw [harm]; simp; exact hc)]
    unfold Dv.counted
    rw [if_pos ⟨harm, hc⟩]
    show (0, Dv.mk (over d.B (k * 64) b) d.off (wrap64 (d.wr + 1)) d.armed (wrap64 (d.cnt - 1)) d.part) = _
    rw [hoff, harm]
  rw [e] at this
  exact this
theorem write_cut (hoff : d.off = false) (harm : d.armed = true) (hc : ¬ 0 < d.cnt) : Calls Try.prog 12 #[.pointer (some ⟨g, 0, none⟩), .int .i64 (k : Int), .slice (some ⟨ga, 0, none⟩) 64 c] w fun e w' => e = .returned (.int .i64 13) ∧ Turned g ⟨over d.B (k * 64) (b.take d.part.toNat), true, wrap64 (d.wr + 1), false, 0, 0⟩ w w' := by
  have := write_any g d (k : Int) ga 64 c b w h hb.symm (Lib.hid hr) hga
  have e : d.write (k : Int) b = (13, ⟨over d.B (k * 64) (b.take d.part.toNat), true, wrap64 (d.wr + 1), false, 0, 0⟩) := by
    rw [Dv.write, if_neg (by rw [hoff]; simp), if_neg (by rw [isB_k hk, hb]; simp), if_pos (by unfold Dv.goesDown; rw [harm]; simp; omega)]
    rfl
  rw [e] at this
  exact this
end
theorem over_get {B l : List UInt8} {o : Nat} (h : o + l.length ≤ B.length) (i : Nat) : (over B o l)[i]? = if o ≤ i ∧ i < o + l.length then l[i - o]? else B[i]? := by
  have ht : (B.take o).length = o := by rw [List.length_take]; omega
  unfold over
  by_cases h1 : i < o
  · rw [if_neg (by omega), List.append_assoc, List.getElem?_append_left (by omega), List.getElem?_take, if_pos h1]
  · rw [List.append_assoc, List.getElem?_append_right (by omega), ht]
    by_cases h2 : i < o + l.length
    · rw [if_pos ⟨by omega, h2⟩, List.getElem?_append_left (by omega)]
    · rw [if_neg (by omega), List.getElem?_append_right (by omega), List.getElem?_drop]
      congr 1
      omega
theorem blockAt_get {B : List UInt8} {k i : Nat} (hi : i < 64) : (blockAt B k)[i]? = B[k * 64 + i]? := by
  unfold blockAt
  rw [List.getElem?_take, if_pos hi, List.getElem?_drop]
theorem blockAt_over {B b : List UInt8} {k : Nat} (h : B.length = 65536) (hk : k < 1024) (hb : b.length = 64) : blockAt (over B (k * 64) b) k = b := by
  have hl : (over B (k * 64) b).length = 65536 := by rw [over_length (by omega)]; exact h
  apply List.ext_getElem?
  intro i
  by_cases hi : i < 64
  · rw [blockAt_get hi, over_get (by omega), if_pos (by omega)]
    congr 1
    omega
  · rw [List.getElem?_eq_none (by rw [blockAt_length hl hk]; omega), List.getElem?_eq_none (by omega)]

theorem get_same {l : List UInt8} {n i : Nat} {c : UInt8} (h : l = List.replicate n c) (hi : i < n) : l[i]? = some c := by
  rw [h]; exact List.getElem?_replicate_of_lt hi

set_option maxHeartbeats 1000000 in
theorem awake_any (w : World) : Calls Try.prog 8 #[] w fun e w' => e = .returned (.bool true) ∧ Below w.heap.size w w' := by
  have hf : ∀ W : World, Calls Try.prog 23 #[.int .u8 1] W fun e w' => e = .returned (.slice (some ⟨W.heap.size, 0, none⟩) 64 64) ∧ Bk w' W.heap.size 5 (cells (List.replicate 64 1)).toArray ∧ Below W.heap.size W w' := fun W => full_any 1 W
  obtain ⟨b, hb⟩ : ∃ b : List UInt8, b = List.replicate 64 1 := ⟨_, rfl⟩
  rw [← hb] at hf
  have hbl : b.length = 64 := by rw [hb]; exact List.length_replicate
  have hb63 : b[63]? = some 1 := get_same hb (by omega)
  have hn := new_any w
  have q0 : dv0.off = false := rfl
  have q1 : dv0.armed = false := rfl
  have q2 : dv0.wr = 0 := rfl
  have q3 : dv0.cnt = 0 := rfl
  have q4 : dv0.part = 0 := rfl
  generalize dv0 = d0 at hn q0 q1 q2 q3 q4
  have HN := Lib.hid hn
  have HF := Lib.hid hf
  have Q0 := Lib.hid q0
  have Q1 := Lib.hid q1
  have Q2 := Lib.hid q2
  have HBL := Lib.hid hbl
  have HB63 := Lib.hid hb63
  clear hn hf hb q0 q1 q2 q3 q4 hbl hb63
  go_enter Try.func8, Try.ntmps8
  go_wp2_with fail
  refine HN.out.mono ?_
  rintro e w1 ⟨rfl, hs, hb1⟩
  have HS1 := Lib.hid hs
  have HB1 := Lib.hid hb1
  have z1 := hs.bk.here
  clear hs hb1
  go_wp2_with fail
  refine (HF.out w1).mono ?_
  rintro e w2 ⟨rfl, hB2, hb2⟩
  have HS2 := Lib.hid (HS1.out.later hb2)
  have hr2 := hB2.rd
  have HR2 := Lib.hid hr2
  have HB2 := Lib.hid (HB1.out.trans (hb2.mono HB1.out.size))
  clear hr2 hB2 hb2
  go_wp2_with fail
  refine (write_plain w.heap.size d0 3 w1.heap.size 64 b w2 HS2.out (by omega) HBL.out HR2.out (by simp; omega) Q0.out Q1.out).mono ?_
  rintro e w3 ⟨rfl, hs3, hg3, hz3⟩
  have HS3 := Lib.hid hs3
  have HB3 := Lib.hid (HB2.out.trans (hg3.below HB2.out.size (by simp)))
  clear hs3 hg3 hz3
  go_wp2_with fail
  refine (read_is w.heap.size _ 3 w3 HS3.out rfl (by omega)).mono ?_
  rintro e w4 ⟨rfl, hB4, hb4⟩
  have HS4 := Lib.hid (HS3.out.later hb4)
  have k63 : w4.cell? ⟨w3.heap.size, 63, none⟩ = some (.int .u8 1) := by
    rw [hB4.cellAt, List.getElem?_toArray]
    have e : blockAt (over d0.B (3 * 64) b) 3 = b := blockAt_over HS2.out.len (by omega) HBL.out
    rw [e]
    exact cells_at HB63.out
  have z4 := hB4.here
  have HB4 := Lib.hid (HB3.out.trans (hb4.mono HB3.out.size))
  clear hB4 hb4 z1
  have hw := writes_any w.heap.size _ w4 HS4.out
  rw [show wrap64 (d0.wr + 1) = 1 by rw [Q2.out]; unfold wrap64; omega] at hw
  have HW := Lib.hid hw
  clear hw
  go_wp2_with fail
  refine HW.out.mono ?_
  rintro e w5 ⟨rfl, rfl⟩
  go_wp2
  go_ret
  exact ⟨rfl, HB4.out⟩
end Go.Proofs.Ytnikhlajlhgikaa
