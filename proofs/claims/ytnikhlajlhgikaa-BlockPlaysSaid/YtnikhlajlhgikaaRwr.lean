/- The contract of the document's Write. Condition: the store lies there; the text is one that Go can have. -/
import Derived.Test.YtnikhlajlhgikaaRfs
import Derived.Lib.MinMax
namespace Go.Proofs.Ytnikhlajlhgikaa
open Go.RowKit
set_option linter.unusedSimpArgs false
set_option linter.unusedVariables false

/-- A write as the document does it: the error, and the store behind it. -/
def Rv.write (r : Rv) (i : Int) (b : List UInt8) : Int × Rv :=
  if r.down = true then (13, r)
  else if isB i = false ∨ b.length ≠ 64 then (1, r)
  else if r.armed = true ∧ r.left = 0 then (13, ⟨over r.B (i.toNat * 64) (b.take (clamp r.part).toNat), false, wrap64 (r.left - 1), r.part, true, wrap64 (r.wr + 1)⟩)
  else (0, ⟨over r.B (i.toNat * 64) b, r.armed, wrap64 (r.left - 1), r.part, r.down, wrap64 (r.wr + 1)⟩)
theorem over_step {B l : List UInt8} {o j : Nat} (h : o + l.length ≤ B.length) (hj : j < l.length) : (over B o (l.take j)).set (o + j) l[j] = over B o (l.take (j + 1)) := by
  have ht : (l.take j).length = j := by rw [List.length_take]; omega
  have ht1 : (l.take (j + 1)).length = j + 1 := by rw [List.length_take]; omega
  apply List.ext_getElem?
  intro i
  rw [over_get (by omega), ht1]
  by_cases e : o + j = i
  · subst e
    rw [List.getElem?_set_self (by rw [over_length (by omega)]; omega), if_pos (by omega), List.getElem?_take, if_pos (by omega), Nat.add_sub_cancel_left]
    exact (List.getElem?_eq_getElem hj).symm
  · rw [List.getElem?_set_ne (by omega), over_get (by omega), ht]
    by_cases h1 : o ≤ i ∧ i < o + j
    · rw [if_pos h1, if_pos (by omega), List.getElem?_take, if_pos (by omega), List.getElem?_take, if_pos (by omega)]
    · rw [if_neg h1, if_neg (by omega)]
theorem Rs.byte {w : World} {g gb : Nat} {r : Rv} (h : Rs w g gb r) (o : Nat) (v : UInt8) : Rs (w.setCell ⟨gb, o, none⟩ (.int .u8 (v.toNat : Int))) g gb { r with B := r.B.set o v } := by
  refine ⟨by rw [show ({ r with B := r.B.set o v } : Rv).B = r.B.set o v from rfl, List.length_set]; exact h.len, h.ne, h.bk.other (p := ⟨gb, o, none⟩) h.ne _, ?_⟩
  have := h.row.put o (.int .u8 (v.toNat : Int))
  rw [List.setIfInBounds_toArray] at this
  show Bk _ gb 5 (cells (r.B.set o v)).toArray
  unfold cells at this ⊢
  rw [List.map_set]
  exact this

theorem byte_eq (s : ByteArray) (j : Nat) (h1 : j < s.size) (h2 : j < s.data.toList.length) : s.data.toList[j]'h2 = s[j]'h1 := by
  rw [Array.getElem_toList]
  rfl
theorem wr_mul (x : Nat) (hx : x < 1024) : IntKind.i64.wrap (64 * (x : Int)) = 64 * (x : Int) := by
  rw [IntKind.wrap_i64]
  omega
theorem wr_add (x j : Nat) (hx : x < 1024) (hj : (j : Int) < 64) : IntKind.i64.wrap (64 * (x : Int) + (j : Int)) = 64 * (x : Int) + (j : Int) := by
  rw [IntKind.wrap_i64]
  omega
set_option maxRecDepth 100000 in
set_option maxHeartbeats 6400000 in
theorem rwrite_any (g gb : Nat) (r : Rv) (i : Int) (s : ByteArray) (w : World) (h : Rs w g gb r) (hs : s.size ≤ 140737488351232) : Calls Try.prog 13 #[.pointer (some ⟨g, 0, none⟩), .int .i64 i, .string s] w fun e w' => e = .returned (.int .i64 (r.write i s.data.toList).1) ∧ Changed g gb (r.write i s.data.toList).2 w w' := by
  obtain ⟨e0, he⟩ : ∃ e0, e0 = (r.write i s.data.toList).1 := ⟨_, rfl⟩
  obtain ⟨r0, hr⟩ : ∃ r0, r0 = (r.write i s.data.toList).2 := ⟨_, rfl⟩
  rw [← he, ← hr]
  have hll : s.data.toList.length = s.size := by simp
  have k0 := h.c0
  have k1 := h.c1
  have k2 := h.c2
  have k3 := h.c3
  have k4 := h.c4
  have k5 := h.c5
  have f1 := h.bk.free 1
  have f2 := h.bk.free 2
  have f4 := h.bk.free 4
  have f5 := h.bk.free 5
  have hg := h.bk.here
  have HR0 := Lib.hid h
  clear h
  by_cases hd : r.down = true
  · obtain rfl : e0 = 13 := by rw [he, Rv.write, if_pos hd]
    obtain rfl : r0 = r := by rw [hr, Rv.write, if_pos hd]
    rw [hd] at k4
    clear he hr hd hll
    go_enter Try.func13, Try.ntmps13
    go_wp2
    go_ret
    exact ⟨rfl, HR0.out, Gr.refl _ _, rfl⟩
  rw [(by simpa using hd : r.down = false)] at k4
  by_cases h0 : i < 0
  · have hno : isB i = false ∨ s.data.toList.length ≠ 64 := Or.inl (by unfold isB; simp; omega)
    obtain rfl : e0 = 1 := by rw [he, Rv.write, if_neg hd, if_pos hno]
    obtain rfl : r0 = r := by rw [hr, Rv.write, if_neg hd, if_pos hno]
    clear he hr hd hno hll
    go_enter Try.func13, Try.ntmps13
    go_wp2
    go_ret
    exact ⟨rfl, HR0.out, Gr.refl _ _, rfl⟩
  by_cases h1 : 1023 < i
  · have hno : isB i = false ∨ s.data.toList.length ≠ 64 := Or.inl (by unfold isB; simp; omega)
    obtain rfl : e0 = 1 := by rw [he, Rv.write, if_neg hd, if_pos hno]
    obtain rfl : r0 = r := by rw [hr, Rv.write, if_neg hd, if_pos hno]
    clear he hr hd hno hll
    go_enter Try.func13, Try.ntmps13
    go_wp2
    go_ret
    exact ⟨rfl, HR0.out, Gr.refl _ _, rfl⟩
  by_cases h64 : s.size = 64
  case neg =>
    have hno : isB i = false ∨ s.data.toList.length ≠ 64 := Or.inr (by rw [hll]; exact h64)
    obtain rfl : e0 = 1 := by rw [he, Rv.write, if_neg hd, if_pos hno]
    obtain rfl : r0 = r := by rw [hr, Rv.write, if_neg hd, if_pos hno]
    have h64i : ¬ (s.size : Int) = 64 := by omega
    clear he hr hd hno hll
    go_enter Try.func13, Try.ntmps13
    go_wp2
    go_ret
    exact ⟨rfl, HR0.out, Gr.refl _ _, rfl⟩
  case pos =>
  obtain ⟨x, rfl, hx⟩ : ∃ x : Nat, i = (x : Int) ∧ x < 1024 := ⟨i.toNat, by omega, by omega⟩
  have hno : ¬ (isB (x : Int) = false ∨ s.data.toList.length ≠ 64) := by rw [isB_k hx, hll, h64]; simp
  have h64i : (s.size : Int) = 64 := by omega
  have hxa : decide ((x : Int) < 0) = false := decide_eq_false (by omega)
  have hxb : decide ((1023 : Int) < (x : Int)) = false := decide_eq_false (by omega)
  have HL := Lib.hid h64
  clear h64
  have hrl := HR0.out.len
  have HRL := Lib.hid hrl
  clear hrl
  by_cases ha : r.armed = true ∧ r.left = 0
  · obtain rfl : e0 = 13 := by rw [he, Rv.write, if_neg hd, if_neg hno, if_pos ha]
    obtain ⟨q, hcl, hq, hcm⟩ : ∃ q : Nat, clamp r.part = (q : Int) ∧ q ≤ 64 ∧ max 0 (min r.part 64) = (q : Int) := ⟨(clamp r.part).toNat, by unfold clamp; omega, by unfold clamp; omega, by unfold clamp; omega⟩
    have hr' : r0 = ⟨over r.B (x * 64) (s.data.toList.take q), false, wrap64 (r.left - 1), r.part, true, wrap64 (r.wr + 1)⟩ := by rw [hr, Rv.write, if_neg hd, if_neg hno, if_pos ha, hcl]; rfl
    have hl0 : r.left = 0 := ha.2
    rw [ha.1] at k1
    rw [hl0] at k2
    have hnl0 : wrap64 (r.left - 1) = -1 := by rw [hl0]; unfold wrap64; omega
    rw [hnl0] at hr'
    have HRR := Lib.hid hr'
    have hcl0 : (0 : Int) ≤ (q : Int) := by omega
    clear he hr hd hno hr' ha hll h0 h1 hcl hl0 hnl0
    
    have hr1 : Rs ((((w.setCell ⟨g, 4, none⟩ (.bool true)).setCell ⟨g, 1, none⟩ (.bool false)).setCell ⟨g, 2, none⟩ (.int .i64 (-1))).setCell ⟨g, 5, none⟩ (.int .i64 (wrap64 (r.wr + 1)))) g gb ⟨r.B, false, -1, r.part, true, wrap64 (r.wr + 1)⟩ := ((((HR0.out.s4 _).s1 _).s2 _).s5 _)
    have hg1 : Gr [g, gb] w ((((w.setCell ⟨g, 4, none⟩ (.bool true)).setCell ⟨g, 1, none⟩ (.bool false)).setCell ⟨g, 2, none⟩ (.int .i64 (-1))).setCell ⟨g, 5, none⟩ (.int .i64 (wrap64 (r.wr + 1)))) := ((((Gr.refl _ _).set (p := ⟨g, 4, none⟩) (by simp) _).set (p := ⟨g, 1, none⟩) (by simp) _).set (p := ⟨g, 2, none⟩) (by simp) _).set (p := ⟨g, 5, none⟩) (by simp) _
    have hz1 : ((((w.setCell ⟨g, 4, none⟩ (.bool true)).setCell ⟨g, 1, none⟩ (.bool false)).setCell ⟨g, 2, none⟩ (.int .i64 (-1))).setCell ⟨g, 5, none⟩ (.int .i64 (wrap64 (r.wr + 1)))).heap.size = w.heap.size := by simp
    have HR1 := Lib.hid hr1
    have HG1 := Lib.hid hg1
    have HZ1 := Lib.hid hz1
    clear hr1 hg1 hz1
    go_enter Try.func13, Try.ntmps13
    go_wp2
    obtain ⟨w1, hw1⟩ : ∃ w1, w1 = ((((w.setCell ⟨g, 4, none⟩ (.bool true)).setCell ⟨g, 1, none⟩ (.bool false)).setCell ⟨g, 2, none⟩ (.int .i64 (-1))).setCell ⟨g, 5, none⟩ (.int .i64 (wrap64 (r.wr + 1)))) := ⟨_, rfl⟩
    rw [← hw1] at HR1 HG1 HZ1 ⊢
    clear hw1 k0 k1 k2 k3 k4 k5 f1 f2 f4 f5 hg
    go_loopw [9] (fun k wr => ∃ j : Nat, j ≤ q ∧ k = .int .i64 j ∧ Hid (Rs wr g gb ⟨over r.B (x * 64) (s.data.toList.take j), false, -1, r.part, true, wrap64 (r.wr + 1)⟩) ∧ Hid (Gr [g, gb] w wr) ∧ Hid (wr.heap.size = w.heap.size)) (fun k _ => q - (intOf k).toNat)
    case atStart =>
      refine ⟨0, Nat.zero_le _, rfl, ?_, HG1.out, HZ1.out⟩
      rw [List.take_zero, over_nil]
      exact HR1.out
    case round =>
      obtain ⟨j, hj, rfl, HR, HG, HZ⟩ := hrel
      have hge := HR.out.bk.here
      by_cases h1 : j < q
      · have hj0 : (0 : Int) ≤ (j : Int) := by omega
        have hj1 : (j : Int) < (q : Int) := by omega
        have hj2 : j < s.size := by have := HL.out; omega
        have hjs : (j : Int) < (s.size : Int) := by omega
        have hlt : j < s.data.toList.length := by have := HL.out; simp; omega
        have hm3 : (0 : Int) ≤ 64 * (x : Int) + (j : Int) := by omega
        have hm4 : 64 * (x : Int) + (j : Int) < 65536 := by omega
        have hm5 : (64 * (x : Int) + (j : Int)).toNat = x * 64 + j := by omega
        obtain ⟨v, kv⟩ : ∃ v : UInt8, wr.cell? ⟨gb, x * 64 + j, none⟩ = some (.int .u8 (v.toNat : Int)) := byte_at HR.out.row (by rw [HR.out.len]; omega)
        have fv := HR.out.row.free (x * 64 + j)
        have hgb := HR.out.row.here
        have hj64 : (j : Int) < 64 := by omega
        have hw1 := wr_mul x hx
        have hw2 := wr_add x j hx hj64
        have HLT := Lib.hid hlt
        clear hlt
        go_wp2_with fail
        refine wp_region_held_drew (S := fun W => W.cell? ⟨g, 0, none⟩ = some (.slice (some ⟨gb, 0, none⟩) 65536 65536)) (by kernel_rfl) (HR.out.c0) (fun hS0 => ?_)
        refine wpAnyH_take (i := 0) (v := ?_) rfl (by kernel_rfl) (by kernel_rfl) (by kernel_rfl) (fun _ _ _ h => h) (Or.inl ⟨by rfl, ?_⟩) hS0 ?_
        rotate_left
        · intro W _; go_simp; try with_reducible rfl
        try simp only [Act.put, List.getElem_toArray, List.getElem_cons_zero, List.setIfInBounds_toArray, List.set_cons_zero, List.set_cons_succ]
        refine wpAnyH_take (i := 1) (v := ?_) rfl (by kernel_rfl) (by kernel_rfl) (by kernel_rfl) (fun _ _ _ h => h) (Or.inl ⟨by rfl, ?_⟩) hS0 ?_
        rotate_left
        · intro W _; go_simp; try with_reducible rfl
        try simp only [Act.put, List.getElem_toArray, List.getElem_cons_zero, List.getElem_cons_succ, List.setIfInBounds_toArray, List.set_cons_zero, List.set_cons_succ]
        refine wpAnyH_take (i := 2) (v := ?_) rfl (by kernel_rfl) (by kernel_rfl) (by kernel_rfl) (fun _ _ _ h => h) (Or.inl ⟨by rfl, ?_⟩) hS0 ?_
        rotate_left
        · intro W _; go_simp; try with_reducible rfl
        try simp only [Act.put, List.getElem_toArray, List.getElem_cons_zero, List.getElem_cons_succ, List.setIfInBounds_toArray, List.set_cons_zero, List.set_cons_succ]
        refine wpAnyH_take (i := 3) (v := ?_) rfl (by kernel_rfl) (by kernel_rfl) (by kernel_rfl) (fun _ _ _ h => h) (Or.inl ⟨by rfl, ?_⟩) hS0 ?_
        rotate_left
        · intro W hSW; have hx0 := hSW; go_simp; try with_reducible rfl
        try simp only [Act.put, List.getElem_toArray, List.getElem_cons_zero, List.getElem_cons_succ, List.setIfInBounds_toArray, List.set_cons_zero, List.set_cons_succ]
        refine wpAnyH_take (i := 4) (v := ?_) rfl (by kernel_rfl) (by kernel_rfl) (by kernel_rfl) (fun _ _ _ h => h) (Or.inl ⟨by rfl, ?_⟩) hS0 ?_
        rotate_left
        · intro W _; go_simp; try with_reducible rfl
        try simp only [Act.put, List.getElem_toArray, List.getElem_cons_zero, List.getElem_cons_succ, List.setIfInBounds_toArray, List.set_cons_zero, List.set_cons_succ]
        refine wpAnyH_take (i := 5) (v := ?_) rfl (by kernel_rfl) (by kernel_rfl) (by kernel_rfl) (fun _ _ _ h => h) (Or.inl ⟨by rfl, ?_⟩) hS0 ?_
        rotate_left
        · intro W _; go_simp; try with_reducible rfl
        try simp only [Act.put, List.getElem_toArray, List.getElem_cons_zero, List.getElem_cons_succ, List.setIfInBounds_toArray, List.set_cons_zero, List.set_cons_succ]
        refine wpAnyH_take (i := 6) (v := ?_) rfl (by kernel_rfl) (by kernel_rfl) (by kernel_rfl) (fun _ _ _ h => h) (Or.inl ⟨by rfl, ?_⟩) hS0 ?_
        rotate_left
        · intro W _; go_simp; try with_reducible rfl
        try simp only [Act.put, List.getElem_toArray, List.getElem_cons_zero, List.getElem_cons_succ, List.setIfInBounds_toArray, List.set_cons_zero, List.set_cons_succ]
        refine wpAnyH_take (i := 7) (v := ?_) rfl (by kernel_rfl) (by kernel_rfl) (by kernel_rfl) (fun _ _ _ h => h) (Or.inl ⟨by rfl, ?_⟩) hS0 ?_
        rotate_left
        · intro W _; go_simp; try with_reducible rfl
        try simp only [Act.put, List.getElem_toArray, List.getElem_cons_zero, List.getElem_cons_succ, List.setIfInBounds_toArray, List.set_cons_zero, List.set_cons_succ]
        refine wpAnyH_take (i := 8) (v := ?_) rfl (by kernel_rfl) (by kernel_rfl) (by kernel_rfl) (fun _ _ _ h => h) (Or.inl ⟨by rfl, ?_⟩) hS0 ?_
        rotate_left
        · intro W _; go_simp; try with_reducible rfl
        try simp only [Act.put, List.getElem_toArray, List.getElem_cons_zero, List.getElem_cons_succ, List.setIfInBounds_toArray, List.set_cons_zero, List.set_cons_succ]
        refine wpAnyH_take (i := 9) (v := ?_) rfl (by kernel_rfl) (by kernel_rfl) (by kernel_rfl) (fun _ _ _ h => h) (Or.inl ⟨by rfl, ?_⟩) hS0 ?_
        rotate_left
        · intro W _; go_simp; try with_reducible rfl
        try simp only [Act.put, List.getElem_toArray, List.getElem_cons_zero, List.getElem_cons_succ, List.setIfInBounds_toArray, List.set_cons_zero, List.set_cons_succ]
        refine wpAnyH_take (i := 10) (v := ?_) rfl (by kernel_rfl) (by kernel_rfl) (by kernel_rfl) (fun _ _ _ h => h) (Or.inl ⟨by rfl, ?_⟩) hS0 ?_
        rotate_left
        · intro W _; go_simp; try with_reducible rfl
        try simp only [Act.put, List.getElem_toArray, List.getElem_cons_zero, List.getElem_cons_succ, List.setIfInBounds_toArray, List.set_cons_zero, List.set_cons_succ]
        refine wpAnyH_take (i := 11) (v := ?_) rfl (by kernel_rfl) (by kernel_rfl) (by kernel_rfl) (fun _ _ _ h => h) (Or.inl ⟨by rfl, ?_⟩) hS0 ?_
        rotate_left
        · intro W _; go_simp; try with_reducible rfl
        try simp only [Act.put, List.getElem_toArray, List.getElem_cons_zero, List.getElem_cons_succ, List.setIfInBounds_toArray, List.set_cons_zero, List.set_cons_succ]
        refine wpAnyH_ready (rs := [12]) (by kernel_rfl) (by simp) ?_
        refine AllReadyH.cons rfl (fun K hK => ?_) AllReadyH.nil
        go_simp
        refine hK.out _ _ ((World.cell?_setCell_far wr ⟨gb, x * 64 + j, none⟩ ⟨g, 0, none⟩ _ (fun e => HR.out.ne e.symm)).trans HR.out.c0) (fun hS1 => ?_)
        clear hK K
        try simp only [Act.put, List.getElem_toArray, List.getElem_cons_zero, List.getElem_cons_succ, List.setIfInBounds_toArray, List.set_cons_zero, List.set_cons_succ]
        refine wpAnyH_done (by kernel_rfl) ?_ _
        go_wp2
        go_roundw
        case rel =>
          refine ⟨j + 1, by omega, by go_num, ?_, HG.out.drew.set (p := ⟨gb, x * 64 + j, none⟩) (by simp) _, by have := HZ.out; simpa [Hid] using this⟩
          have h2 := HR.out.byte (x * 64 + j) (s.data.toList[j]'HLT.out)
          simp only [] at h2
          rw [over_step (by rw [HRL.out]; have := HL.out; simp; omega) HLT.out, byte_eq s j hj2 HLT.out] at h2
          exact h2.later (Below.drew (Below.refl _ _))
        case measure => simp [intOf]; omega
      · obtain rfl : j = q := by omega
        go_wp2
        go_ret
        exact ⟨rfl, by rw [HRR.out]; exact HR.out, HG.out, HZ.out⟩
  · obtain rfl : e0 = 0 := by rw [he, Rv.write, if_neg hd, if_neg hno, if_neg ha]
    have hr' : r0 = ⟨over r.B (x * 64) s.data.toList, r.armed, wrap64 (r.left - 1), r.part, false, wrap64 (r.wr + 1)⟩ := by rw [hr, Rv.write, if_neg hd, if_neg hno, if_neg ha, (by simpa using hd : r.down = false)]; rfl
    have hfull : s.data.toList.take 64 = s.data.toList := List.take_of_length_le (by have := HL.out; simp; omega)
    have HRR := Lib.hid hr'
    have HF := Lib.hid hfull
    have hdf : r.down = false := by simpa using hd
    have HDF := Lib.hid hdf
    clear hfull hr' he hr hd hno hll h0 h1 hdf
    by_cases ha1 : r.armed = true
    · have hl1 : ((r.left : Int) == 0) = false := by simp; exact fun e => ha ⟨ha1, e⟩
      have HA1 := Lib.hid ha1
      rw [ha1] at k1
      clear ha ha1
      
      have hr1 : Rs ((w.setCell ⟨g, 2, none⟩ (.int .i64 (wrap64 (r.left - 1)))).setCell ⟨g, 5, none⟩ (.int .i64 (wrap64 (r.wr + 1)))) g gb ⟨r.B, true, wrap64 (r.left - 1), r.part, false, wrap64 (r.wr + 1)⟩ := by have h2 := (HR0.out.s2 (wrap64 (r.left - 1))).s5 (wrap64 (r.wr + 1)); rw [HA1.out, HDF.out] at h2; exact h2
      have hg1 : Gr [g, gb] w ((w.setCell ⟨g, 2, none⟩ (.int .i64 (wrap64 (r.left - 1)))).setCell ⟨g, 5, none⟩ (.int .i64 (wrap64 (r.wr + 1)))) := ((Gr.refl _ _).set (p := ⟨g, 2, none⟩) (by simp) _).set (p := ⟨g, 5, none⟩) (by simp) _
      have hz1 : ((w.setCell ⟨g, 2, none⟩ (.int .i64 (wrap64 (r.left - 1)))).setCell ⟨g, 5, none⟩ (.int .i64 (wrap64 (r.wr + 1)))).heap.size = w.heap.size := by simp
      have HR1 := Lib.hid hr1
      have HG1 := Lib.hid hg1
      have HZ1 := Lib.hid hz1
      clear hr1 hg1 hz1
      go_enter Try.func13, Try.ntmps13
      go_wp2
      obtain ⟨w1, hw1⟩ : ∃ w1, w1 = ((w.setCell ⟨g, 2, none⟩ (.int .i64 (wrap64 (r.left - 1)))).setCell ⟨g, 5, none⟩ (.int .i64 (wrap64 (r.wr + 1)))) := ⟨_, rfl⟩
      rw [← hw1] at HR1 HG1 HZ1 ⊢
      clear hw1 k0 k1 k2 k3 k4 k5 f1 f2 f4 f5 hg
      go_loopw [9] (fun k wr => ∃ j : Nat, j ≤ 64 ∧ k = .int .i64 j ∧ Hid (Rs wr g gb ⟨over r.B (x * 64) (s.data.toList.take j), true, wrap64 (r.left - 1), r.part, false, wrap64 (r.wr + 1)⟩) ∧ Hid (Gr [g, gb] w wr) ∧ Hid (wr.heap.size = w.heap.size)) (fun k _ => 64 - (intOf k).toNat)
      case atStart =>
        refine ⟨0, Nat.zero_le _, rfl, ?_, HG1.out, HZ1.out⟩
        rw [List.take_zero, over_nil]
        exact HR1.out
      case round =>
        obtain ⟨j, hj, rfl, HR, HG, HZ⟩ := hrel
        have hge := HR.out.bk.here
        by_cases h1 : j < 64
        · have hj0 : (0 : Int) ≤ (j : Int) := by omega
          have hj1 : (j : Int) < 64 := by omega
          have hj2 : j < s.size := by have := HL.out; omega
          have hjs : (j : Int) < (s.size : Int) := by omega
          have hlt : j < s.data.toList.length := by have := HL.out; simp; omega
          have hm3 : (0 : Int) ≤ 64 * (x : Int) + (j : Int) := by omega
          have hm4 : 64 * (x : Int) + (j : Int) < 65536 := by omega
          have hm5 : (64 * (x : Int) + (j : Int)).toNat = x * 64 + j := by omega
          obtain ⟨v, kv⟩ : ∃ v : UInt8, wr.cell? ⟨gb, x * 64 + j, none⟩ = some (.int .u8 (v.toNat : Int)) := byte_at HR.out.row (by rw [HR.out.len]; omega)
          have fv := HR.out.row.free (x * 64 + j)
          have hgb := HR.out.row.here
          have hj64 : (j : Int) < 64 := by omega
          have hw1 := wr_mul x hx
          have hw2 := wr_add x j hx hj64
          have HLT := Lib.hid hlt
          clear hlt
          go_wp2_with fail
          refine wp_region_held_drew (S := fun W => W.cell? ⟨g, 0, none⟩ = some (.slice (some ⟨gb, 0, none⟩) 65536 65536)) (by kernel_rfl) (HR.out.c0) (fun hS0 => ?_)
          refine wpAnyH_take (i := 0) (v := ?_) rfl (by kernel_rfl) (by kernel_rfl) (by kernel_rfl) (fun _ _ _ h => h) (Or.inl ⟨by rfl, ?_⟩) hS0 ?_
          rotate_left
          · intro W _; go_simp; try with_reducible rfl
          try simp only [Act.put, List.getElem_toArray, List.getElem_cons_zero, List.setIfInBounds_toArray, List.set_cons_zero, List.set_cons_succ]
          refine wpAnyH_take (i := 1) (v := ?_) rfl (by kernel_rfl) (by kernel_rfl) (by kernel_rfl) (fun _ _ _ h => h) (Or.inl ⟨by rfl, ?_⟩) hS0 ?_
          rotate_left
          · intro W _; go_simp; try with_reducible rfl
          try simp only [Act.put, List.getElem_toArray, List.getElem_cons_zero, List.getElem_cons_succ, List.setIfInBounds_toArray, List.set_cons_zero, List.set_cons_succ]
          refine wpAnyH_take (i := 2) (v := ?_) rfl (by kernel_rfl) (by kernel_rfl) (by kernel_rfl) (fun _ _ _ h => h) (Or.inl ⟨by rfl, ?_⟩) hS0 ?_
          rotate_left
          · intro W _; go_simp; try with_reducible rfl
          try simp only [Act.put, List.getElem_toArray, List.getElem_cons_zero, List.getElem_cons_succ, List.setIfInBounds_toArray, List.set_cons_zero, List.set_cons_succ]
          refine wpAnyH_take (i := 3) (v := ?_) rfl (by kernel_rfl) (by kernel_rfl) (by kernel_rfl) (fun _ _ _ h => h) (Or.inl ⟨by rfl, ?_⟩) hS0 ?_
          rotate_left
          · intro W hSW; have hx0 := hSW; go_simp; try with_reducible rfl
          try simp only [Act.put, List.getElem_toArray, List.getElem_cons_zero, List.getElem_cons_succ, List.setIfInBounds_toArray, List.set_cons_zero, List.set_cons_succ]
          refine wpAnyH_take (i := 4) (v := ?_) rfl (by kernel_rfl) (by kernel_rfl) (by kernel_rfl) (fun _ _ _ h => h) (Or.inl ⟨by rfl, ?_⟩) hS0 ?_
          rotate_left
          · intro W _; go_simp; try with_reducible rfl
          try simp only [Act.put, List.getElem_toArray, List.getElem_cons_zero, List.getElem_cons_succ, List.setIfInBounds_toArray, List.set_cons_zero, List.set_cons_succ]
          refine wpAnyH_take (i := 5) (v := ?_) rfl (by kernel_rfl) (by kernel_rfl) (by kernel_rfl) (fun _ _ _ h => h) (Or.inl ⟨by rfl, ?_⟩) hS0 ?_
          rotate_left
          · intro W _; go_simp; try with_reducible rfl
          try simp only [Act.put, List.getElem_toArray, List.getElem_cons_zero, List.getElem_cons_succ, List.setIfInBounds_toArray, List.set_cons_zero, List.set_cons_succ]
          refine wpAnyH_take (i := 6) (v := ?_) rfl (by kernel_rfl) (by kernel_rfl) (by kernel_rfl) (fun _ _ _ h => h) (Or.inl ⟨by rfl, ?_⟩) hS0 ?_
          rotate_left
          · intro W _; go_simp; try with_reducible rfl
          try simp only [Act.put, List.getElem_toArray, List.getElem_cons_zero, List.getElem_cons_succ, List.setIfInBounds_toArray, List.set_cons_zero, List.set_cons_succ]
          refine wpAnyH_take (i := 7) (v := ?_) rfl (by kernel_rfl) (by kernel_rfl) (by kernel_rfl) (fun _ _ _ h => h) (Or.inl ⟨by rfl, ?_⟩) hS0 ?_
          rotate_left
          · intro W _; go_simp; try with_reducible rfl
          try simp only [Act.put, List.getElem_toArray, List.getElem_cons_zero, List.getElem_cons_succ, List.setIfInBounds_toArray, List.set_cons_zero, List.set_cons_succ]
          refine wpAnyH_take (i := 8) (v := ?_) rfl (by kernel_rfl) (by kernel_rfl) (by kernel_rfl) (fun _ _ _ h => h) (Or.inl ⟨by rfl, ?_⟩) hS0 ?_
          rotate_left
          · intro W _; go_simp; try with_reducible rfl
          try simp only [Act.put, List.getElem_toArray, List.getElem_cons_zero, List.getElem_cons_succ, List.setIfInBounds_toArray, List.set_cons_zero, List.set_cons_succ]
          refine wpAnyH_take (i := 9) (v := ?_) rfl (by kernel_rfl) (by kernel_rfl) (by kernel_rfl) (fun _ _ _ h => h) (Or.inl ⟨by rfl, ?_⟩) hS0 ?_
          rotate_left
          · intro W _; go_simp; try with_reducible rfl
          try simp only [Act.put, List.getElem_toArray, List.getElem_cons_zero, List.getElem_cons_succ, List.setIfInBounds_toArray, List.set_cons_zero, List.set_cons_succ]
          refine wpAnyH_take (i := 10) (v := ?_) rfl (by kernel_rfl) (by kernel_rfl) (by kernel_rfl) (fun _ _ _ h => h) (Or.inl ⟨by rfl, ?_⟩) hS0 ?_
          rotate_left
          · intro W _; go_simp; try with_reducible rfl
          try simp only [Act.put, List.getElem_toArray, List.getElem_cons_zero, List.getElem_cons_succ, List.setIfInBounds_toArray, List.set_cons_zero, List.set_cons_succ]
          refine wpAnyH_take (i := 11) (v := ?_) rfl (by kernel_rfl) (by kernel_rfl) (by kernel_rfl) (fun _ _ _ h => h) (Or.inl ⟨by rfl, ?_⟩) hS0 ?_
          rotate_left
          · intro W _; go_simp; try with_reducible rfl
          try simp only [Act.put, List.getElem_toArray, List.getElem_cons_zero, List.getElem_cons_succ, List.setIfInBounds_toArray, List.set_cons_zero, List.set_cons_succ]
          refine wpAnyH_ready (rs := [12]) (by kernel_rfl) (by simp) ?_
          refine AllReadyH.cons rfl (fun K hK => ?_) AllReadyH.nil
          go_simp
          refine hK.out _ _ ((World.cell?_setCell_far wr ⟨gb, x * 64 + j, none⟩ ⟨g, 0, none⟩ _ (fun e => HR.out.ne e.symm)).trans HR.out.c0) (fun hS1 => ?_)
          clear hK K
          try simp only [Act.put, List.getElem_toArray, List.getElem_cons_zero, List.getElem_cons_succ, List.setIfInBounds_toArray, List.set_cons_zero, List.set_cons_succ]
          refine wpAnyH_done (by kernel_rfl) ?_ _
          go_wp2
          go_roundw
          case rel =>
            refine ⟨j + 1, by omega, by go_num, ?_, HG.out.drew.set (p := ⟨gb, x * 64 + j, none⟩) (by simp) _, by have := HZ.out; simpa [Hid] using this⟩
            have h2 := HR.out.byte (x * 64 + j) (s.data.toList[j]'HLT.out)
            simp only [] at h2
            rw [over_step (by rw [HRL.out]; have := HL.out; simp; omega) HLT.out, byte_eq s j hj2 HLT.out] at h2
            exact h2.later (Below.drew (Below.refl _ _))
          case measure => simp [intOf]; omega
        · obtain rfl : j = 64 := by omega
          go_wp2
          go_ret
          exact ⟨rfl, by have h2 := HR.out; rw [HF.out] at h2; rw [HRR.out, HA1.out]; exact h2, HG.out, HZ.out⟩
    · have HA1 : Hid (r.armed = false) := by simpa [Hid] using ha1
      rw [HA1.out] at k1
      clear ha ha1
      
      have hr1 : Rs ((w.setCell ⟨g, 2, none⟩ (.int .i64 (wrap64 (r.left - 1)))).setCell ⟨g, 5, none⟩ (.int .i64 (wrap64 (r.wr + 1)))) g gb ⟨r.B, false, wrap64 (r.left - 1), r.part, false, wrap64 (r.wr + 1)⟩ := by have h2 := (HR0.out.s2 (wrap64 (r.left - 1))).s5 (wrap64 (r.wr + 1)); rw [HA1.out, HDF.out] at h2; exact h2
      have hg1 : Gr [g, gb] w ((w.setCell ⟨g, 2, none⟩ (.int .i64 (wrap64 (r.left - 1)))).setCell ⟨g, 5, none⟩ (.int .i64 (wrap64 (r.wr + 1)))) := ((Gr.refl _ _).set (p := ⟨g, 2, none⟩) (by simp) _).set (p := ⟨g, 5, none⟩) (by simp) _
      have hz1 : ((w.setCell ⟨g, 2, none⟩ (.int .i64 (wrap64 (r.left - 1)))).setCell ⟨g, 5, none⟩ (.int .i64 (wrap64 (r.wr + 1)))).heap.size = w.heap.size := by simp
      have HR1 := Lib.hid hr1
      have HG1 := Lib.hid hg1
      have HZ1 := Lib.hid hz1
      clear hr1 hg1 hz1
      go_enter Try.func13, Try.ntmps13
      go_wp2
      obtain ⟨w1, hw1⟩ : ∃ w1, w1 = ((w.setCell ⟨g, 2, none⟩ (.int .i64 (wrap64 (r.left - 1)))).setCell ⟨g, 5, none⟩ (.int .i64 (wrap64 (r.wr + 1)))) := ⟨_, rfl⟩
      rw [← hw1] at HR1 HG1 HZ1 ⊢
      clear hw1 k0 k1 k2 k3 k4 k5 f1 f2 f4 f5 hg
      go_loopw [9] (fun k wr => ∃ j : Nat, j ≤ 64 ∧ k = .int .i64 j ∧ Hid (Rs wr g gb ⟨over r.B (x * 64) (s.data.toList.take j), false, wrap64 (r.left - 1), r.part, false, wrap64 (r.wr + 1)⟩) ∧ Hid (Gr [g, gb] w wr) ∧ Hid (wr.heap.size = w.heap.size)) (fun k _ => 64 - (intOf k).toNat)
      case atStart =>
        refine ⟨0, Nat.zero_le _, rfl, ?_, HG1.out, HZ1.out⟩
        rw [List.take_zero, over_nil]
        exact HR1.out
      case round =>
        obtain ⟨j, hj, rfl, HR, HG, HZ⟩ := hrel
        have hge := HR.out.bk.here
        by_cases h1 : j < 64
        · have hj0 : (0 : Int) ≤ (j : Int) := by omega
          have hj1 : (j : Int) < 64 := by omega
          have hj2 : j < s.size := by have := HL.out; omega
          have hjs : (j : Int) < (s.size : Int) := by omega
          have hlt : j < s.data.toList.length := by have := HL.out; simp; omega
          have hm3 : (0 : Int) ≤ 64 * (x : Int) + (j : Int) := by omega
          have hm4 : 64 * (x : Int) + (j : Int) < 65536 := by omega
          have hm5 : (64 * (x : Int) + (j : Int)).toNat = x * 64 + j := by omega
          obtain ⟨v, kv⟩ : ∃ v : UInt8, wr.cell? ⟨gb, x * 64 + j, none⟩ = some (.int .u8 (v.toNat : Int)) := byte_at HR.out.row (by rw [HR.out.len]; omega)
          have fv := HR.out.row.free (x * 64 + j)
          have hgb := HR.out.row.here
          have hj64 : (j : Int) < 64 := by omega
          have hw1 := wr_mul x hx
          have hw2 := wr_add x j hx hj64
          have HLT := Lib.hid hlt
          clear hlt
          go_wp2_with fail
          refine wp_region_held_drew (S := fun W => W.cell? ⟨g, 0, none⟩ = some (.slice (some ⟨gb, 0, none⟩) 65536 65536)) (by kernel_rfl) (HR.out.c0) (fun hS0 => ?_)
          refine wpAnyH_take (i := 0) (v := ?_) rfl (by kernel_rfl) (by kernel_rfl) (by kernel_rfl) (fun _ _ _ h => h) (Or.inl ⟨by rfl, ?_⟩) hS0 ?_
          rotate_left
          · intro W _; go_simp; try with_reducible rfl
          try simp only [Act.put, List.getElem_toArray, List.getElem_cons_zero, List.setIfInBounds_toArray, List.set_cons_zero, List.set_cons_succ]
          refine wpAnyH_take (i := 1) (v := ?_) rfl (by kernel_rfl) (by kernel_rfl) (by kernel_rfl) (fun _ _ _ h => h) (Or.inl ⟨by rfl, ?_⟩) hS0 ?_
          rotate_left
          · intro W _; go_simp; try with_reducible rfl
          try simp only [Act.put, List.getElem_toArray, List.getElem_cons_zero, List.getElem_cons_succ, List.setIfInBounds_toArray, List.set_cons_zero, List.set_cons_succ]
          refine wpAnyH_take (i := 2) (v := ?_) rfl (by kernel_rfl) (by kernel_rfl) (by kernel_rfl) (fun _ _ _ h => h) (Or.inl ⟨by rfl, ?_⟩) hS0 ?_
          rotate_left
          · intro W _; go_simp; try with_reducible rfl
          try simp only [Act.put, List.getElem_toArray, List.getElem_cons_zero, List.getElem_cons_succ, List.setIfInBounds_toArray, List.set_cons_zero, List.set_cons_succ]
          refine wpAnyH_take (i := 3) (v := ?_) rfl (by kernel_rfl) (by kernel_rfl) (by kernel_rfl) (fun _ _ _ h => h) (Or.inl ⟨by rfl, ?_⟩) hS0 ?_
          rotate_left
          · intro W hSW; have hx0 := hSW; go_simp; try with_reducible rfl
          try simp only [Act.put, List.getElem_toArray, List.getElem_cons_zero, List.getElem_cons_succ, List.setIfInBounds_toArray, List.set_cons_zero, List.set_cons_succ]
          refine wpAnyH_take (i := 4) (v := ?_) rfl (by kernel_rfl) (by kernel_rfl) (by kernel_rfl) (fun _ _ _ h => h) (Or.inl ⟨by rfl, ?_⟩) hS0 ?_
          rotate_left
          · intro W _; go_simp; try with_reducible rfl
          try simp only [Act.put, List.getElem_toArray, List.getElem_cons_zero, List.getElem_cons_succ, List.setIfInBounds_toArray, List.set_cons_zero, List.set_cons_succ]
          refine wpAnyH_take (i := 5) (v := ?_) rfl (by kernel_rfl) (by kernel_rfl) (by kernel_rfl) (fun _ _ _ h => h) (Or.inl ⟨by rfl, ?_⟩) hS0 ?_
          rotate_left
          · intro W _; go_simp; try with_reducible rfl
          try simp only [Act.put, List.getElem_toArray, List.getElem_cons_zero, List.getElem_cons_succ, List.setIfInBounds_toArray, List.set_cons_zero, List.set_cons_succ]
          refine wpAnyH_take (i := 6) (v := ?_) rfl (by kernel_rfl) (by kernel_rfl) (by kernel_rfl) (fun _ _ _ h => h) (Or.inl ⟨by rfl, ?_⟩) hS0 ?_
          rotate_left
          · intro W _; go_simp; try with_reducible rfl
          try simp only [Act.put, List.getElem_toArray, List.getElem_cons_zero, List.getElem_cons_succ, List.setIfInBounds_toArray, List.set_cons_zero, List.set_cons_succ]
          refine wpAnyH_take (i := 7) (v := ?_) rfl (by kernel_rfl) (by kernel_rfl) (by kernel_rfl) (fun _ _ _ h => h) (Or.inl ⟨by rfl, ?_⟩) hS0 ?_
          rotate_left
          · intro W _; go_simp; try with_reducible rfl
          try simp only [Act.put, List.getElem_toArray, List.getElem_cons_zero, List.getElem_cons_succ, List.setIfInBounds_toArray, List.set_cons_zero, List.set_cons_succ]
          refine wpAnyH_take (i := 8) (v := ?_) rfl (by kernel_rfl) (by kernel_rfl) (by kernel_rfl) (fun _ _ _ h => h) (Or.inl ⟨by rfl, ?_⟩) hS0 ?_
          rotate_left
          · intro W _; go_simp; try with_reducible rfl
          try simp only [Act.put, List.getElem_toArray, List.getElem_cons_zero, List.getElem_cons_succ, List.setIfInBounds_toArray, List.set_cons_zero, List.set_cons_succ]
          refine wpAnyH_take (i := 9) (v := ?_) rfl (by kernel_rfl) (by kernel_rfl) (by kernel_rfl) (fun _ _ _ h => h) (Or.inl ⟨by rfl, ?_⟩) hS0 ?_
          rotate_left
          · intro W _; go_simp; try with_reducible rfl
          try simp only [Act.put, List.getElem_toArray, List.getElem_cons_zero, List.getElem_cons_succ, List.setIfInBounds_toArray, List.set_cons_zero, List.set_cons_succ]
          refine wpAnyH_take (i := 10) (v := ?_) rfl (by kernel_rfl) (by kernel_rfl) (by kernel_rfl) (fun _ _ _ h => h) (Or.inl ⟨by rfl, ?_⟩) hS0 ?_
          rotate_left
          · intro W _; go_simp; try with_reducible rfl
          try simp only [Act.put, List.getElem_toArray, List.getElem_cons_zero, List.getElem_cons_succ, List.setIfInBounds_toArray, List.set_cons_zero, List.set_cons_succ]
          refine wpAnyH_take (i := 11) (v := ?_) rfl (by kernel_rfl) (by kernel_rfl) (by kernel_rfl) (fun _ _ _ h => h) (Or.inl ⟨by rfl, ?_⟩) hS0 ?_
          rotate_left
          · intro W _; go_simp; try with_reducible rfl
          try simp only [Act.put, List.getElem_toArray, List.getElem_cons_zero, List.getElem_cons_succ, List.setIfInBounds_toArray, List.set_cons_zero, List.set_cons_succ]
          refine wpAnyH_ready (rs := [12]) (by kernel_rfl) (by simp) ?_
          refine AllReadyH.cons rfl (fun K hK => ?_) AllReadyH.nil
          go_simp
          refine hK.out _ _ ((World.cell?_setCell_far wr ⟨gb, x * 64 + j, none⟩ ⟨g, 0, none⟩ _ (fun e => HR.out.ne e.symm)).trans HR.out.c0) (fun hS1 => ?_)
          clear hK K
          try simp only [Act.put, List.getElem_toArray, List.getElem_cons_zero, List.getElem_cons_succ, List.setIfInBounds_toArray, List.set_cons_zero, List.set_cons_succ]
          refine wpAnyH_done (by kernel_rfl) ?_ _
          go_wp2
          go_roundw
          case rel =>
            refine ⟨j + 1, by omega, by go_num, ?_, HG.out.drew.set (p := ⟨gb, x * 64 + j, none⟩) (by simp) _, by have := HZ.out; simpa [Hid] using this⟩
            have h2 := HR.out.byte (x * 64 + j) (s.data.toList[j]'HLT.out)
            simp only [] at h2
            rw [over_step (by rw [HRL.out]; have := HL.out; simp; omega) HLT.out, byte_eq s j hj2 HLT.out] at h2
            exact h2.later (Below.drew (Below.refl _ _))
          case measure => simp [intOf]; omega
        · obtain rfl : j = 64 := by omega
          go_wp2
          go_ret
          exact ⟨rfl, by have h2 := HR.out; rw [HF.out] at h2; rw [HRR.out, HA1.out]; exact h2, HG.out, HZ.out⟩
end Go.Proofs.Ytnikhlajlhgikaa
