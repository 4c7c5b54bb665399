/- The contract of the store's Write. Conditions: the store lies there; the bytes lie in another block. -/
import Derived.Test.YtnikhlajlhgikaaCpy
namespace Go.Proofs.Ytnikhlajlhgikaa
open Go.RowKit
set_option linter.unusedSimpArgs false
set_option linter.unusedVariables false

/-- A write as the program does it: the error, and the store behind it. -/
def Dv.write (d : Dv) (i : Int) (b : List UInt8) : Int × Dv :=
  if d.off = true then (13, d)
  else if isB i = false ∨ b.length ≠ 64 then (1, d)
  else if d.goesDown = true then (13, ⟨over d.B (i.toNat * 64) (b.take d.part.toNat), true, wrap64 (d.wr + 1), false, 0, 0⟩)
  else (0, { Dv.counted { d with wr := wrap64 (d.wr + 1) } with B := over d.B (i.toNat * 64) b })
/-- The store is another one; of the rest only what is new has turned. -/
def Turned (g : Nat) (d : Dv) (w : World) (w' : World) : Prop := St w' g d ∧ Gr [g] w w' ∧ w'.heap.size = w.heap.size
theorem Became.turned {g : Nat} {d : Dv} {w w' : World} (h : Became g d w w') : Turned g d w w' := ⟨h.1, Gr.of h.2.1, h.2.2⟩

theorem isB_nat {i : Int} (h : isB i = true) : ∃ k : Nat, i = (k : Int) ∧ k < 1024 := by
  unfold isB at h
  simp at h
  exact ⟨i.toNat, by omega, by omega⟩

set_option maxHeartbeats 1600000 in
theorem write_any (g : Nat) (d : Dv) (i : Int) (ga n c : Nat) (b : List UInt8) (w : World) (h : St w g d) (hn : Hid (n = b.length)) (hr : Hid (Rd w (some ⟨ga, 0, none⟩) b)) (hga : ga ∉ [g]) :
    Calls Try.prog 12 #[.pointer (some ⟨g, 0, none⟩), .int .i64 i, .slice (some ⟨ga, 0, none⟩) n c] w fun e w' => e = .returned (.int .i64 (d.write i b).1) ∧ Turned g (d.write i b).2 w w' := by
  obtain ⟨e0, he⟩ : ∃ e0, e0 = (d.write i b).1 := ⟨_, rfl⟩
  obtain ⟨d0, hd⟩ : ∃ d0, d0 = (d.write i b).2 := ⟨_, rfl⟩
  rw [← he, ← hd]
  have hg := h.bk.here
  have k0 := h.c0
  have k1 := h.c1
  have f0 := h.bk.free 65536
  have f1 := h.bk.free 65537
  have H := Lib.hid h
  clear h
  have hi := fun W => isBlock_any i W
  obtain ⟨r, hr'⟩ : ∃ r, r = isB i := ⟨_, rfl⟩
  rw [← hr'] at hi
  have HI := Lib.hid hi
  clear hi
  by_cases hoff : d.off = true
  · obtain rfl : e0 = 13 := by rw [he, Dv.write, if_pos hoff]
    obtain rfl : d0 = d := by rw [hd, Dv.write, if_pos hoff]
    rw [hoff] at k0
    clear he hd hoff hr' k1 f1
    go_enter Try.func12, Try.ntmps12
    go_wp2
    go_ret
    exact ⟨rfl, H.out, Gr.refl _ _, rfl⟩
  rw [(by simpa using hoff : d.off = false)] at k0
  cases r
  case false =>
    obtain rfl : e0 = 1 := by rw [he, Dv.write, if_neg hoff, if_pos (Or.inl hr'.symm)]
    obtain rfl : d0 = d := by rw [hd, Dv.write, if_neg hoff, if_pos (Or.inl hr'.symm)]
    clear he hd hoff hr' k1 f1
    go_enter Try.func12, Try.ntmps12
    go_wp2_with fail
    refine (HI.out _).mono ?_
    rintro e w' ⟨rfl, rfl⟩
    go_wp2
    go_ret
    exact ⟨rfl, H.out, Gr.refl _ _, rfl⟩
  case true =>
  by_cases h64 : n = 64
  case neg =>
    have hb : b.length ≠ 64 := by rw [← hn.out]; exact h64
    obtain rfl : e0 = 1 := by rw [he, Dv.write, if_neg hoff, if_pos (Or.inr hb)]
    obtain rfl : d0 = d := by rw [hd, Dv.write, if_neg hoff, if_pos (Or.inr hb)]
    clear he hd hoff hr' k1 f1 hb
    go_enter Try.func12, Try.ntmps12
    go_wp2_with fail
    refine (HI.out _).mono ?_
    rintro e w' ⟨rfl, rfl⟩
    go_wp2
    go_ret
    exact ⟨rfl, H.out, Gr.refl _ _, rfl⟩
  case pos =>
  subst h64
  have hb64 : Hid (64 = b.length) := hn
  clear hn
  have hno : ¬ (isB i = false ∨ b.length ≠ 64) := by rw [← hr', ← hb64.out]; simp
  obtain ⟨k, hk, hk1⟩ := isB_nat hr'.symm
  subst hk
  have hk0 : (0 : Int) ≤ (k : Int) := by omega
  have hk2 : (k : Int) < 1024 := by omega
  have hi := fun W (h : St W g { d with wr := wrap64 (d.wr + 1) }) => interrupts_any g { d with wr := wrap64 (d.wr + 1) } W h
  rw [show Dv.goesDown { d with wr := wrap64 (d.wr + 1) } = d.goesDown from rfl] at hi
  obtain ⟨q, hq⟩ : ∃ q, q = d.goesDown := ⟨_, rfl⟩
  rw [← hq] at hi
  cases q
  case true =>
    have e1 : Dv.counted { d with wr := wrap64 (d.wr + 1) } = { d with wr := wrap64 (d.wr + 1) } := by
      have h1 : d.goesDown = true := hq.symm
      unfold Dv.goesDown at h1
      simp at h1
      unfold Dv.counted
      rw [if_neg (by simp; intro _; exact h1.2)]
    rw [e1] at hi
    obtain ⟨p, hp, hp1⟩ : ∃ p : Nat, d.part = (p : Int) ∧ p ≤ 64 := ⟨d.part.toNat, by have := H.out.low; omega, by have := H.out.high; omega⟩
    obtain rfl : e0 = 13 := by rw [he, Dv.write, if_neg hoff, if_neg hno, if_pos hq.symm]
    have hd' : d0 = ⟨over d.B (k * 64) (b.take p), true, wrap64 (d.wr + 1), false, 0, 0⟩ := by rw [hd, Dv.write, if_neg hoff, if_neg hno, if_pos hq.symm]; simp [hp]
    have hd2 := fun W (h : St W g { d with wr := wrap64 (d.wr + 1), B := over d.B (k * 64) (b.take p), off := true }) => disarm_any g _ W h
    have HI2 := Lib.hid hi
    have HD := Lib.hid hd'
    have HD2 := Lib.hid hd2
    have HP := Lib.hid hp
    have hpi : (p : Int) ≤ 64 := by omega
    have hp0 : (0 : Int) ≤ (p : Int) := by omega
    clear he hd hoff hr' hno hi hq e1 hd' hd2 hp
    go_enter Try.func12, Try.ntmps12
    go_wp2_with fail
    refine (HI.out _).mono ?_
    rintro e w' ⟨rfl, rfl⟩
    go_wp2_with fail
    refine (HI2.out _ (H.out.s1 _)).mono ?_
    rintro e w1 ⟨rfl, hs, hg1, hz⟩
    have HS := Lib.hid hs
    have HG : Hid (Gr [g] w w1) := (((Gr.refl [g] w).set (p := ⟨g, 65537, none⟩) (by simp) _).trans (Gr.of hg1))
    have HZ : Hid (w1.heap.size = w.heap.size) := by unfold Hid; rw [hz]; simp
    have hgz : g < w1.heap.size := by rw [HZ.out]; exact hg
    have HC4 : w1.cell? ⟨g, 65540, none⟩ = some (.int .i64 (p : Int)) := by rw [HS.out.c4]; exact congrArg (fun x => some (Value.int .i64 x)) HP.out
    clear hs hg1 hz k0 k1 f0 f1
    go_wp2_with fail
    refine wp_region_held_drew (S := fun W => W.cell? ⟨g, 65540, none⟩ = some (.int .i64 (p : Int))) (by kernel_rfl) (HC4) (fun hS0 => ?_)
    refine wpAnyH_take (i := 0) (v := ?_) rfl (by kernel_rfl) (by kernel_rfl) (by kernel_rfl) (fun _ _ _ h => h) (Or.inl ⟨by rfl, ?_⟩) hS0 ?_
    rotate_left
    · intro W _; go_simp; try with_reducible rfl
    try simp only [Act.put, List.getElem_toArray, List.getElem_cons_zero, List.setIfInBounds_toArray, List.set_cons_zero, List.set_cons_succ]
    refine wpAnyH_take (i := 1) (v := ?_) rfl (by kernel_rfl) (by kernel_rfl) (by kernel_rfl) (fun _ _ _ h => h) (Or.inl ⟨by rfl, ?_⟩) hS0 ?_
    rotate_left
    · intro W _; go_simp; try with_reducible rfl
    try simp only [Act.put, List.getElem_toArray, List.getElem_cons_zero, List.getElem_cons_succ, List.setIfInBounds_toArray, List.set_cons_zero, List.set_cons_succ]
    refine wpAnyH_take (i := 2) (v := ?_) rfl (by kernel_rfl) (by kernel_rfl) (by kernel_rfl) (fun _ _ _ h => h) (Or.inl ⟨by rfl, ?_⟩) hS0 ?_
    rotate_left
    · intro W _; go_simp; try with_reducible rfl
    try simp only [Act.put, List.getElem_toArray, List.getElem_cons_zero, List.getElem_cons_succ, List.setIfInBounds_toArray, List.set_cons_zero, List.set_cons_succ]
    refine wpAnyH_take (i := 3) (v := ?_) rfl (by kernel_rfl) (by kernel_rfl) (by kernel_rfl) (fun _ _ _ h => h) (Or.inl ⟨by rfl, ?_⟩) hS0 ?_
    rotate_left
    · intro W _; go_simp; try with_reducible rfl
    try simp only [Act.put, List.getElem_toArray, List.getElem_cons_zero, List.getElem_cons_succ, List.setIfInBounds_toArray, List.set_cons_zero, List.set_cons_succ]
    refine wpAnyH_take (i := 4) (v := ?_) rfl (by kernel_rfl) (by kernel_rfl) (by kernel_rfl) (fun _ _ _ h => h) (Or.inl ⟨by rfl, ?_⟩) hS0 ?_
    rotate_left
    · intro W _; go_simp; try with_reducible rfl
    try simp only [Act.put, List.getElem_toArray, List.getElem_cons_zero, List.getElem_cons_succ, List.setIfInBounds_toArray, List.set_cons_zero, List.set_cons_succ]
    refine wpAnyH_take (i := 5) (v := ?_) rfl (by kernel_rfl) (by kernel_rfl) (by kernel_rfl) (fun _ _ _ h => h) (Or.inl ⟨by rfl, ?_⟩) hS0 ?_
    rotate_left
    · intro W _; go_simp; try with_reducible rfl
    try simp only [Act.put, List.getElem_toArray, List.getElem_cons_zero, List.getElem_cons_succ, List.setIfInBounds_toArray, List.set_cons_zero, List.set_cons_succ]
    refine wpAnyH_take (i := 6) (v := ?_) rfl (by kernel_rfl) (by kernel_rfl) (by kernel_rfl) (fun _ _ _ h => h) (Or.inl ⟨by rfl, ?_⟩) hS0 ?_
    rotate_left
    · intro W _; go_simp; try with_reducible rfl
    try simp only [Act.put, List.getElem_toArray, List.getElem_cons_zero, List.getElem_cons_succ, List.setIfInBounds_toArray, List.set_cons_zero, List.set_cons_succ]
    refine wpAnyH_take (i := 7) (v := ?_) rfl (by kernel_rfl) (by kernel_rfl) (by kernel_rfl) (fun _ _ _ h => h) (Or.inl ⟨by rfl, ?_⟩) hS0 ?_
    rotate_left
    · intro W _; go_simp; try with_reducible rfl
    try simp only [Act.put, List.getElem_toArray, List.getElem_cons_zero, List.getElem_cons_succ, List.setIfInBounds_toArray, List.set_cons_zero, List.set_cons_succ]
    refine wpAnyH_take (i := 8) (v := ?_) rfl (by kernel_rfl) (by kernel_rfl) (by kernel_rfl) (fun _ _ _ h => h) (Or.inl ⟨by rfl, ?_⟩) hS0 ?_
    rotate_left
    · intro W hSW; have hx := hSW; go_simp; try with_reducible rfl
    try simp only [Act.put, List.getElem_toArray, List.getElem_cons_zero, List.getElem_cons_succ, List.setIfInBounds_toArray, List.set_cons_zero, List.set_cons_succ]
    refine wpAnyH_take (i := 9) (v := ?_) rfl (by kernel_rfl) (by kernel_rfl) (by kernel_rfl) (fun _ _ _ h => h) (Or.inl ⟨by rfl, ?_⟩) hS0 ?_
    rotate_left
    · intro W _; go_simp; try with_reducible rfl
    try simp only [Act.put, List.getElem_toArray, List.getElem_cons_zero, List.getElem_cons_succ, List.setIfInBounds_toArray, List.set_cons_zero, List.set_cons_succ]
    refine wpAnyH_take (i := 10) (v := ?_) rfl (by kernel_rfl) (by kernel_rfl) (by kernel_rfl) (fun _ _ _ h => h) (Or.inl ⟨by rfl, ?_⟩) hS0 ?_
    rotate_left
    · intro W _; go_simp; try with_reducible rfl
    try simp only [Act.put, List.getElem_toArray, List.getElem_cons_zero, List.getElem_cons_succ, List.setIfInBounds_toArray, List.set_cons_zero, List.set_cons_succ]
    refine wpAnyH_ready (rs := [11]) (by kernel_rfl) (by simp) ?_
    refine AllReadyH.cons rfl (fun K hK => ?_) AllReadyH.nil
    rw [if_pos (by rfl)]
    refine copy_bk_op (.tmp 42) (.tmp 43) 37 5 rfl Try.underlying37 (by kernel_rfl) g (k * 64) p 64 32 _ ⟨ga, 0, none⟩ 64 c b rfl rfl HS.out.bk (hr.out.gr HG.out.drew hga) (by rw [hb64.out]) (by rw [Dv.size _ HS.out.len]; omega) ?_
    intro w2 hB2 hg2 hz2
    have HS2 := Lib.hid (St.over HS.out (l := b.take p) (by rw [List.length_take]; omega) hB2)
    have HG2 := Lib.hid (HG.out.drew.trans (Gr.of hg2))
    have HZ2 := Lib.hid (hz2.trans HZ.out)
    clear hB2 hg2 hz2
    refine hK.out _ _ (by rw [HS2.out.c4]; exact congrArg (fun x => some (Value.int .i64 x)) HP.out) (fun hS1 => ?_)
    clear hK K
    try simp only [Act.put, List.getElem_toArray, List.getElem_cons_zero, List.getElem_cons_succ, List.setIfInBounds_toArray, List.set_cons_zero, List.set_cons_succ]
    refine wpAnyH_done (by kernel_rfl) ?_ _
    have k0 := HS2.out.c0
    have f0 := HS2.out.bk.free 65536
    have hgz2 := HS2.out.bk.here
    clear hgz HC4 hS0 hS1
    go_wp2_with fail
    refine (HD2.out _ (HS2.out.s0 true)).mono ?_
    rintro e w3 ⟨rfl, hs3, hg3, hz3⟩
    go_wp2
    go_ret
    refine ⟨rfl, by rw [HD.out]; exact hs3, (HG2.out.set (p := ⟨g, 65536, none⟩) (by simp) _).trans (Gr.of hg3), ?_⟩
    rw [hz3]
    simpa using HZ2.out
  case false =>
    obtain ⟨dc, hdc⟩ : ∃ dc, dc = Dv.counted { d with wr := wrap64 (d.wr + 1) } := ⟨_, rfl⟩
    rw [← hdc] at hi
    have hnd : ¬ d.goesDown = true := by rw [← hq]; simp
    obtain rfl : e0 = 0 := by rw [he, Dv.write, if_neg hoff, if_neg hno, if_neg hnd]
    have hd' : d0 = { dc with B := over d.B (k * 64) b } := by rw [hd, Dv.write, if_neg hoff, if_neg hno, if_neg hnd, hdc]; rfl
    have hdB : dc.B = d.B := by rw [hdc]; unfold Dv.counted; split <;> rfl
    have HI2 := Lib.hid hi
    have HD := Lib.hid hd'
    have HDB := Lib.hid hdB
    clear he hd hoff hr' hno hi hq hd' hnd hdc hdB
    go_enter Try.func12, Try.ntmps12
    go_wp2_with fail
    refine (HI.out _).mono ?_
    rintro e w' ⟨rfl, rfl⟩
    go_wp2_with fail
    refine (HI2.out _ (H.out.s1 _)).mono ?_
    rintro e w1 ⟨rfl, hs, hg1, hz⟩
    have HS := Lib.hid hs
    have HG : Hid (Gr [g] w w1) := (((Gr.refl [g] w).set (p := ⟨g, 65537, none⟩) (by simp) _).trans (Gr.of hg1))
    have HZ : Hid (w1.heap.size = w.heap.size) := by unfold Hid; rw [hz]; simp
    have hgz : g < w1.heap.size := by rw [HZ.out]; exact hg
    clear hs hg1 hz k0 k1 f0 f1
    go_wp2_with (with_reducible refine copy_bk rfl (.tmp 55) (.tmp 56) 37 5 rfl Try.underlying37 (by kernel_rfl) g (k * 64) 64 64 32 _ ⟨ga, 0, none⟩ 64 c b rfl rfl HS.out.bk (hr.out.gr HG.out hga) (by rw [hb64.out]) (by rw [Dv.size _ HS.out.len]; omega) ?_; intro w2 hB2 hg2 hz2)
    go_ret
    have hb := hb64.out
    have ht : b.take 64 = b := by rw [hb]; exact List.take_length
    rw [ht] at hB2
    refine ⟨rfl, ?_, HG.out.trans (Gr.of hg2), by rw [hz2, HZ.out]⟩
    rw [HD.out, ← HDB.out]
    exact St.over HS.out (by omega) hB2
end Go.Proofs.Ytnikhlajlhgikaa
