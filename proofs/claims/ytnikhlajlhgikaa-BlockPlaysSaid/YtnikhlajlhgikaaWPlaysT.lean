/- The walk of BlockPlays, from a zero store: whatever is written, read and cut off, each answer is the document's. Conditions: the slice and its texts are ones that Go can have. -/
import Derived.Test.YtnikhlajlhgikaaSim
import Derived.Test.YtnikhlajlhgikaaFwo
namespace Go.Proofs.Ytnikhlajlhgikaa
open Go.RowKit
set_option linter.unusedSimpArgs false
set_option linter.unusedVariables false

set_option maxRecDepth 100000 in
set_option maxHeartbeats 12800000 in
theorem plays_true (A : Option Addr) (len cap : Nat) (l : List Ox) (w : World) (wl : len = l.length) (hro : RdO w A l) (wc : len ≤ cap) (wm : cap ≤ 9223372036854775807) (wz : ∀ x ∈ l, x.2.2.2.size ≤ 140737488351232) (wo : ∀ x ∈ l, okO x) : Calls Try.prog 3 #[.slice A len cap, .bool true] w fun e w' => e = .returned (.bool true) ∧ Below w.heap.size w w' := by
  have HWL := Lib.hid wl
  have HRO := Lib.hid hro
  have HWZ := Lib.hid wz
  have HWO := Lib.hid wo
  have HA := Lib.hid awake_any
  have HN := Lib.hid new_at
  have HRN := Lib.hid rnew_at
  clear wl hro wz wo
  obtain ⟨Z, hz, hst⟩ := zero_at
  have HST := Lib.hid hst
  clear hst
  go_enter Try.func3, Try.ntmps3
  go_wp2_with fail
  refine (HA.out _).mono ?_
  rintro e w1 ⟨rfl, hb1⟩
  have HB1 := Lib.hid hb1
  clear hb1
  go_wp2_with fail
  refine (few_any A len cap l w1 HWL.out (HRO.out.later HB1.out) wc wm HWZ.out).mono ?_
  rintro e w1' ⟨⟨b, rfl⟩, rfl⟩
  cases b
  case false =>
    go_wp2_with fail
    refine (HA.out _).mono ?_
    rintro e w3 ⟨rfl, hb3⟩
    go_wp2
    go_ret
    exact ⟨rfl, HB1.out.trans (hb3.mono HB1.out.size)⟩
  case true =>
  go_wp2_with fail
  refine (HN.out _).mono ?_
  rintro e w2 ⟨rfl, ⟨B0, hB0, hs2⟩, hb2⟩
  have HS2 := Lib.hid hs2
  have HZ2 := Lib.hid hB0
  have HB2 := Lib.hid (HB1.out.trans (hb2.mono HB1.out.size))
  have HGS0 : Hid (w.heap.size ≤ w1.heap.size) := HB1.out.size
  clear hs2 hB0 hb2
  generalize w1.heap.size = g0 at HS2 HGS0 ⊢
  go_wp2_with fail
  refine (HRN.out _).mono ?_
  rintro e w3 ⟨gr, gb, rfl, ⟨B1, hB1, hr3⟩, hg1, hg2, hb3⟩
  have HR3 := Lib.hid hr3
  have HZ3 := Lib.hid hB1
  have HG3 : Hid (w2.heap.size ≤ gr ∧ w2.heap.size ≤ gb) := ⟨hg1, hg2⟩
  have HB3 := Lib.hid (HB2.out.trans (hb3.mono HB2.out.size))
  have HL3 := Lib.hid hb3
  clear hr3 hB1 hg1 hg2 hb3
  have HT : Hid (∃ d r, St (w3.alloc (.cells Z 32)) w3.heap.size d ∧ Rs (w3.alloc (.cells Z 32)) gr gb r ∧ Sim d r ∧ Below w.heap.size w (w3.alloc (.cells Z 32))) := by
    obtain ⟨B2, hB2, hs⟩ := HST.out w3
    exact ⟨_, _, hs, HR3.out.later ((Below.refl _ _).alloc (Nat.le_refl _) _), by rw [hB2, HZ3.out]; exact sim0, HB3.out.alloc HB3.out.size _⟩
  have HNE : Hid (w3.heap.size ≠ gr ∧ w3.heap.size ≠ gb ∧ w.heap.size ≤ w3.heap.size ∧ w.heap.size ≤ gr ∧ w.heap.size ≤ gb) := by
    have h1 := HR3.out.bk.here
    have h4 := HR3.out.row.here
    have h2 := HG3.out
    have h3 := HB2.out.size
    exact ⟨by omega, by omega, HB3.out.size, by omega, by omega⟩
  clear HS2 HR3 HB3 HB2 HB1 HZ2 HZ3 HL3 HG3 HGS0 HN HRN HA HST
  go_wp2_with fail
  generalize w3.heap.size = gs at HT HNE ⊢
  generalize w3.alloc (.cells Z 32) = wx at HT ⊢
  clear hz
  go_loopw [30] (fun i wr => ∃ k : Nat, k ≤ len ∧ i = .int .i64 k ∧ Hid (∃ d r, St wr gs d ∧ Rs wr gr gb r ∧ Sim d r ∧ Below w.heap.size w wr)) (fun i _ => len - (intOf i).toNat)
  case atStart => exact ⟨0, Nat.zero_le _, rfl, HT⟩
  case round =>
    clear HT
    obtain ⟨k, hk, rfl, HT⟩ := hrel
    by_cases hlt : k < len
    case neg =>
      have hke : k = len := by omega
      subst hke
      obtain ⟨d, r, hs, hrs, hsim, hb⟩ := HT.out
      have HS := Lib.hid hs
      have HRS := Lib.hid hrs
      have HSIM := Lib.hid hsim
      have HB := Lib.hid hb
      clear HT hs hrs hsim hb
      go_wp2_with fail
      refine wp_region_held_drew (S := fun W => Below wr.heap.size wr W) (by kernel_rfl) (Below.drew (Below.refl _ _)) (fun hS0 => ?_)
      refine wpAnyH_take (i := 0) (v := ?_) rfl (by kernel_rfl) (by kernel_rfl) (by kernel_rfl) (fun _ _ _ h => h) (Or.inl ⟨by rfl, ?_⟩) hS0 ?_
      rotate_left
      · intro W _; go_simp; try with_reducible rfl
      try simp only [Act.put, List.getElem_toArray, List.getElem_cons_zero, List.setIfInBounds_toArray, List.set_cons_zero, List.set_cons_succ]
      refine wpAnyH_take (i := 3) (v := ?_) rfl (by kernel_rfl) (by kernel_rfl) (by kernel_rfl) (fun _ _ _ h => h) (Or.inl ⟨by rfl, ?_⟩) hS0 ?_
      rotate_left
      · intro W _; go_simp; try with_reducible rfl
      try simp only [Act.put, List.getElem_toArray, List.getElem_cons_zero, List.getElem_cons_succ, List.setIfInBounds_toArray, List.set_cons_zero, List.set_cons_succ]
      refine wpAnyH_take (i := 4) (v := ?_) rfl (by kernel_rfl) (by kernel_rfl) (by kernel_rfl) (fun _ _ _ h => h) (Or.inl ⟨by rfl, ?_⟩) hS0 ?_
      rotate_left
      · intro W _; go_simp; try with_reducible rfl
      try simp only [Act.put, List.getElem_toArray, List.getElem_cons_zero, List.getElem_cons_succ, List.setIfInBounds_toArray, List.set_cons_zero, List.set_cons_succ]
      refine wpAnyH_take (i := 5) (v := ?_) rfl (by kernel_rfl) (by kernel_rfl) (by kernel_rfl) (fun _ _ _ h => h) (Or.inl ⟨by rfl, ?_⟩) hS0 ?_
      rotate_left
      · intro W _; go_simp; try with_reducible rfl
      try simp only [Act.put, List.getElem_toArray, List.getElem_cons_zero, List.getElem_cons_succ, List.setIfInBounds_toArray, List.set_cons_zero, List.set_cons_succ]
      refine wpAnyH_take (i := 6) (v := ?_) rfl (by kernel_rfl) (by kernel_rfl) (by kernel_rfl) (fun _ _ _ h => h) (Or.inl ⟨by rfl, ?_⟩) hS0 ?_
      rotate_left
      · intro W hSW; have hx0 : W.cell? ⟨gr, 0, none⟩ = some (.slice (some ⟨gb, 0, none⟩) 65536 65536) := (hSW.cell (p := ⟨gr, 0, none⟩) HRS.out.bk.here).trans HRS.out.c0; go_simp; try with_reducible rfl
      try simp only [Act.put, List.getElem_toArray, List.getElem_cons_zero, List.getElem_cons_succ, List.setIfInBounds_toArray, List.set_cons_zero, List.set_cons_succ]
      refine wpAnyH_take (i := 7) (v := ?_) rfl (by kernel_rfl) (by kernel_rfl) (by kernel_rfl) (fun _ _ _ h => h) (Or.inl ⟨by rfl, ?_⟩) hS0 ?_
      rotate_left
      · intro W hSW; have hx := str_of (c := 65536) (HRS.out.later hSW).row.rd HRS.out.len.symm; go_simp; try with_reducible rfl
      try simp only [Act.put, List.getElem_toArray, List.getElem_cons_zero, List.getElem_cons_succ, List.setIfInBounds_toArray, List.set_cons_zero, List.set_cons_succ]
      refine wpAnyH_ready (rs := [1]) (by kernel_rfl) (by simp) ?_
      refine AllReadyH.cons rfl (fun K hK => ?_) AllReadyH.nil
      go_simp
      refine (bytes_any gs d wr.drew (HS.out.later (Below.drew (Below.refl _ _)))).mono ?_
      rintro e w6 ⟨rfl, ho6, hb6⟩
      have HO6 : Hid (Rd w6 (some ⟨wr.heap.size, 0, none⟩) d.B) := ho6.rd
      have HB6 := Lib.hid (HB.out.drew.trans (hb6.mono HB.out.drew.size))
      clear ho6
      go_simp
      refine hK.out _ _ (hS0.trans (hb6.mono hS0.size)) (fun hS1 => ?_)
      clear hK K
      try simp only [Act.put, List.getElem_toArray, List.getElem_cons_zero, List.getElem_cons_succ, List.setIfInBounds_toArray, List.set_cons_zero, List.set_cons_succ]
      refine wpAnyH_strong (S' := fun W => Below w6.heap.size w6 W) (fun W hW => hS1.trans (hW.mono hS1.size)) _ _ _ _ ?_
      have hS2 : (fun W => Below w6.heap.size w6 W) _ := Below.refl _ _
      refine wpAnyH_take (i := 2) (v := ?_) rfl (by kernel_rfl) (by kernel_rfl) (by kernel_rfl) (fun _ _ _ h => h) (Or.inl ⟨by rfl, ?_⟩) hS2 ?_
      rotate_left
      · intro W hSW; have hx := str_of (c := 65536) (HO6.out.below hSW) HS.out.len.symm; rw [HSIM.out.bytes] at hx; go_simp; try with_reducible rfl
      try simp only [Act.put, List.getElem_toArray, List.getElem_cons_zero, List.getElem_cons_succ, List.setIfInBounds_toArray, List.set_cons_zero, List.set_cons_succ]
      refine wpAnyH_take (i := 8) (v := ?_) rfl (by kernel_rfl) (by kernel_rfl) (by kernel_rfl) (fun _ _ _ h => h) (Or.inl ⟨by rfl, ?_⟩) hS2 ?_
      rotate_left
      · intro W _; go_simp; try with_reducible rfl
      try simp only [Act.put, List.getElem_toArray, List.getElem_cons_zero, List.getElem_cons_succ, List.setIfInBounds_toArray, List.set_cons_zero, List.set_cons_succ]
      refine wpAnyH_take (i := 9) (v := ?_) rfl (by kernel_rfl) (by kernel_rfl) (by kernel_rfl) (fun _ _ _ h => h) (Or.inl ⟨by rfl, ?_⟩) hS2 ?_
      rotate_left
      · intro W _; go_simp; try with_reducible rfl
      try simp only [Act.put, List.getElem_toArray, List.getElem_cons_zero, List.getElem_cons_succ, List.setIfInBounds_toArray, List.set_cons_zero, List.set_cons_succ]
      refine wpAnyH_done (by kernel_rfl) ?_ _
      clear hS0 hS1 hS2 hb6
      go_wp2
      go_ret
      exact ⟨rfl, HB6.out⟩
    case pos =>
      obtain ⟨d, r, hs, hrs, hsim, hb⟩ := HT.out
      have hl : k < l.length := by have := HWL.out; omega
      obtain ⟨ga, oa, hA, hga, k1, k2, k3, k4⟩ := (HRO.out.later hb).at hl
      subst hA
      have hsz := HWZ.out _ (List.getElem_mem hl)
      have hok := HWO.out _ (List.getElem_mem hl)
      have hk0 : (0 : Int) ≤ (k : Int) := by omega
      have hk1 : (k : Int) < (len : Int) := by omega
      unfold okO at hok
      generalize l[k] = x at k1 k2 k3 k4 hsz hok
      obtain ⟨K, I, M, s⟩ := x
      simp only [] at k1 k2 k3 k4 hsz hok
      have hsm : s.size ≤ maxLen := by unfold maxLen; omega
      have hsl : s.size = s.data.toList.length := by simp
      have HNG : Hid (gs < wr.heap.size ∧ gr < wr.heap.size ∧ gb < wr.heap.size) := ⟨hs.bk.here, hrs.bk.here, hrs.row.here⟩
      have HS := Lib.hid hs
      have HRS := Lib.hid hrs
      have HSIM := Lib.hid hsim
      have HB := Lib.hid hb
      have HSM := Lib.hid hsm
      have HSL := Lib.hid hsl
      have HSZ := Lib.hid hsz
      have HOK := Lib.hid hok
      clear HT hs hrs hsim hb hsm hsl hsz hok hl
      by_cases c1 : K = 1
      case pos =>
        subst c1
        go_wp2_with ((with_reducible refine store_bk rfl 34 (.tmp 8) (.tmp 36) rfl wr.heap.size 0 #[.int .i64 1, .int .i64 I, .int .i64 M, .string s] rfl rfl 34 #[.int .i64 0, .int .i64 0, .int .i64 0, .string ⟨#[]⟩] #[.int .i64 1, .int .i64 I, .int .i64 M, .string s] (Bk.fresh _ _ _) (by kernel_rfl) (by simp) (by kernel_rfl) rfl ?_); intro w5 hB5 hg5 hz5; have z5 : wr.heap.size < w5.heap.size := hB5.here; have q0_w5 : w5.cell? ⟨wr.heap.size, 0, none⟩ = some (.int .i64 1) := hB5.cellAt 0; have q1_w5 : w5.cell? ⟨wr.heap.size, 1, none⟩ = some (.int .i64 I) := hB5.cellAt 1; have q2_w5 : w5.cell? ⟨wr.heap.size, 2, none⟩ = some (.int .i64 M) := hB5.cellAt 2; have q3_w5 : w5.cell? ⟨wr.heap.size, 3, none⟩ = some (.string s) := hB5.cellAt 3)
        have hb5 : Below wr.heap.size wr w5 := grown_below ((Below.refl _ _).alloc (Nat.le_refl _) _) hg5 (Nat.le_refl _)
        have HBO := Lib.hid hB5
        have HS5 := Lib.hid (HS.out.later hb5)
        have HRS5 := Lib.hid (HRS.out.later hb5)
        have HB5 := Lib.hid (HB.out.trans (hb5.mono HB.out.size))
        have G5 : Hid (gs < w5.heap.size ∧ gr < w5.heap.size) := ⟨HS5.out.bk.here, HRS5.out.bk.here⟩
        clear hB5 hg5 hz5 hb5 k1 k2 k3 k4 HS HRS HB hga
        obtain ⟨e7, d7, r7, hd7, hr7, hsim7⟩ := both_write HSIM.out I s.data.toList
        have HMX := Lib.hid hsim7
        have HWR : Hid (∀ (W : World) (ga c : Nat), St W gs d → Rd W (some ⟨ga, 0, none⟩) s.data.toList → ga ∉ [gs] → Calls Try.prog 12 #[.pointer (some ⟨gs, 0, none⟩), .int .i64 I, .slice (some ⟨ga, 0, none⟩) s.size c] W fun e w' => e = .returned (.int .i64 e7) ∧ Turned gs d7 W w') := fun W ga c h1 h2 h3 => by
          have h := write_any gs d I ga s.size c s.data.toList W h1 HSL.out h2 h3
          rw [hd7] at h
          exact h
        have HRW : Hid (∀ W : World, Rs W gr gb r → Calls Try.prog 13 #[.pointer (some ⟨gr, 0, none⟩), .int .i64 I, .string s] W fun e w' => e = .returned (.int .i64 e7) ∧ Changed gr gb r7 W w') := fun W h1 => by
          have h := rwrite_any gr gb r I s W h1 HSZ.out
          rw [hr7] at h
          exact h
        clear hd7 hr7 hsim7
        refine wp_region_held_drew (S := fun W => Bk W wr.heap.size 34 #[.int .i64 1, .int .i64 I, .int .i64 M, .string s]) (by kernel_rfl) (HBO.out.drewB) (fun hS0 => ?_)
        refine wpAnyH_take (i := 0) (v := ?_) rfl (by kernel_rfl) (by kernel_rfl) (by kernel_rfl) (fun _ _ _ h => h) (Or.inl ⟨by rfl, ?_⟩) hS0 ?_
        rotate_left
        · intro W _; go_simp; try with_reducible rfl
        try simp only [Act.put, List.getElem_toArray, List.getElem_cons_zero, List.setIfInBounds_toArray, List.set_cons_zero, List.set_cons_succ]
        refine wpAnyH_take (i := 1) (v := ?_) rfl (by kernel_rfl) (by kernel_rfl) (by kernel_rfl) (fun _ _ _ h => h) (Or.inl ⟨by rfl, ?_⟩) hS0 ?_
        rotate_left
        · intro W _; go_simp; try with_reducible rfl
        try simp only [Act.put, List.getElem_toArray, List.getElem_cons_zero, List.getElem_cons_succ, List.setIfInBounds_toArray, List.set_cons_zero, List.set_cons_succ]
        refine wpAnyH_take (i := 2) (v := ?_) rfl (by kernel_rfl) (by kernel_rfl) (by kernel_rfl) (fun _ _ _ h => h) (Or.inl ⟨by rfl, ?_⟩) hS0 ?_
        rotate_left
        · intro W hSW; have hx1 : W.cell? ⟨wr.heap.size, 1, none⟩ = some (.int .i64 I) := hSW.cellAt 1; have hx3 : W.cell? ⟨wr.heap.size, 3, none⟩ = some (.string s) := hSW.cellAt 3; go_simp; try with_reducible rfl
        try simp only [Act.put, List.getElem_toArray, List.getElem_cons_zero, List.getElem_cons_succ, List.setIfInBounds_toArray, List.set_cons_zero, List.set_cons_succ]
        refine wpAnyH_take (i := 3) (v := ?_) rfl (by kernel_rfl) (by kernel_rfl) (by kernel_rfl) (fun _ _ _ h => h) (Or.inl ⟨by rfl, ?_⟩) hS0 ?_
        rotate_left
        · intro W _; go_simp; try with_reducible rfl
        try simp only [Act.put, List.getElem_toArray, List.getElem_cons_zero, List.getElem_cons_succ, List.setIfInBounds_toArray, List.set_cons_zero, List.set_cons_succ]
        refine wpAnyH_take (i := 4) (v := ?_) rfl (by kernel_rfl) (by kernel_rfl) (by kernel_rfl) (fun _ _ _ h => h) (Or.inl ⟨by rfl, ?_⟩) hS0 ?_
        rotate_left
        · intro W hSW; have hx1 : W.cell? ⟨wr.heap.size, 1, none⟩ = some (.int .i64 I) := hSW.cellAt 1; have hx3 : W.cell? ⟨wr.heap.size, 3, none⟩ = some (.string s) := hSW.cellAt 3; go_simp; try with_reducible rfl
        try simp only [Act.put, List.getElem_toArray, List.getElem_cons_zero, List.getElem_cons_succ, List.setIfInBounds_toArray, List.set_cons_zero, List.set_cons_succ]
        refine wpAnyH_take (i := 7) (v := ?_) rfl (by kernel_rfl) (by kernel_rfl) (by kernel_rfl) (fun _ _ _ h => h) (Or.inl ⟨by rfl, ?_⟩) hS0 ?_
        rotate_left
        · intro W _; go_simp; try with_reducible rfl
        try simp only [Act.put, List.getElem_toArray, List.getElem_cons_zero, List.getElem_cons_succ, List.setIfInBounds_toArray, List.set_cons_zero, List.set_cons_succ]
        refine wpAnyH_take (i := 8) (v := ?_) rfl (by kernel_rfl) (by kernel_rfl) (by kernel_rfl) (fun _ _ _ h => h) (Or.inl ⟨by rfl, ?_⟩) hS0 ?_
        rotate_left
        · intro W _; go_simp; try with_reducible rfl
        try simp only [Act.put, List.getElem_toArray, List.getElem_cons_zero, List.getElem_cons_succ, List.setIfInBounds_toArray, List.set_cons_zero, List.set_cons_succ]
        refine wpAnyH_take (i := 9) (v := ?_) rfl (by kernel_rfl) (by kernel_rfl) (by kernel_rfl) (fun _ _ _ h => h) (Or.inl ⟨by rfl, ?_⟩) hS0 ?_
        rotate_left
        · intro W hSW; have hx1 : W.cell? ⟨wr.heap.size, 1, none⟩ = some (.int .i64 I) := hSW.cellAt 1; have hx3 : W.cell? ⟨wr.heap.size, 3, none⟩ = some (.string s) := hSW.cellAt 3; go_simp; try with_reducible rfl
        try simp only [Act.put, List.getElem_toArray, List.getElem_cons_zero, List.getElem_cons_succ, List.setIfInBounds_toArray, List.set_cons_zero, List.set_cons_succ]
        refine wpAnyH_take (i := 10) (v := ?_) rfl (by kernel_rfl) (by kernel_rfl) (by kernel_rfl) (fun _ _ _ h => h) (Or.inl ⟨by rfl, ?_⟩) hS0 ?_
        rotate_left
        · intro W _; go_simp; try with_reducible rfl
        try simp only [Act.put, List.getElem_toArray, List.getElem_cons_zero, List.getElem_cons_succ, List.setIfInBounds_toArray, List.set_cons_zero, List.set_cons_succ]
        refine wpAnyH_take (i := 11) (v := ?_) rfl (by kernel_rfl) (by kernel_rfl) (by kernel_rfl) (fun _ _ _ h => h) (Or.inl ⟨by rfl, ?_⟩) hS0 ?_
        rotate_left
        · intro W hSW; have hx1 : W.cell? ⟨wr.heap.size, 1, none⟩ = some (.int .i64 I) := hSW.cellAt 1; have hx3 : W.cell? ⟨wr.heap.size, 3, none⟩ = some (.string s) := hSW.cellAt 3; go_simp; try with_reducible rfl
        try simp only [Act.put, List.getElem_toArray, List.getElem_cons_zero, List.getElem_cons_succ, List.setIfInBounds_toArray, List.set_cons_zero, List.set_cons_succ]
        refine wpAnyH_ready (rs := [5]) (by kernel_rfl) (by simp) ?_
        refine AllReadyH.cons rfl (fun K hK => ?_) AllReadyH.nil
        rw [if_pos (by rfl)]
        refine bytes_op (.tmp 45) 9 37 rfl 5 s Try.underlying9 Try.underlying37 Try.underlying5 HSM.out rfl ?_
        intro c6 w6 hr6 hb6 hz6 hc6 hc7
        have hr6' : Rd w6 (some ⟨w5.heap.size, 0, none⟩) s.data.toList := hr6
        have hb6' : Below w5.heap.size w5 w6 := (Below.drew (Below.refl _ _)).trans hb6
        have HR6 := Lib.hid hr6'
        have HB6 := Lib.hid (HB5.out.trans (hb6'.mono HB5.out.size))
        have HS6 := Lib.hid (HS5.out.later hb6')
        have HRS6 := Lib.hid (HRS5.out.later hb6')
        have HBO6 := Lib.hid (HBO.out.later hb6')
        have Z6 : Hid (w5.heap.size < w6.heap.size) := hz6
        clear hr6 hb6 hz6 hr6' hb6' hc6 hc7
        refine hK.out _ _ (HBO6.out) (fun hS1 => ?_)
        clear hK K
        try simp only [Act.put, List.getElem_toArray, List.getElem_cons_zero, List.getElem_cons_succ, List.setIfInBounds_toArray, List.set_cons_zero, List.set_cons_succ]
        refine wpAnyH_ready (rs := [6]) (by kernel_rfl) (by simp) ?_
        refine AllReadyH.cons rfl (fun K hK => ?_) AllReadyH.nil
        go_simp
        refine (HWR.out w6 w5.heap.size c6 HS6.out HR6.out (by simp; exact Nat.ne_of_gt G5.out.1)).mono ?_
        rintro e w7 ⟨rfl, hs7, hg7, hz7⟩
        have HS7 := Lib.hid hs7
        have HRS7 := Lib.hid (HRS6.out.gr hg7 (by simp; exact fun e => HNE.out.1 e.symm) (by simp; exact fun e => HNE.out.2.1 e.symm))
        have HBO7 := Lib.hid (HBO6.out.gr hg7 (by simp; exact Nat.ne_of_gt HNG.out.1))
        have HB7 := Lib.hid (HB6.out.trans (hg7.below HB6.out.size (by simp; exact HNE.out.2.2.1)))
        clear hs7 hg7 hz7
        go_simp
        refine hK.out _ _ (HBO7.out) (fun hS2 => ?_)
        clear hK K
        try simp only [Act.put, List.getElem_toArray, List.getElem_cons_zero, List.getElem_cons_succ, List.setIfInBounds_toArray, List.set_cons_zero, List.set_cons_succ]
        refine wpAnyH_ready (rs := [12]) (by kernel_rfl) (by simp) ?_
        refine AllReadyH.cons rfl (fun K hK => ?_) AllReadyH.nil
        go_simp
        refine (HRW.out w7 HRS7.out).mono ?_
        rintro e w8 ⟨rfl, hr8, hg8, hz8⟩
        have HRX := Lib.hid hr8
        have HSX := Lib.hid (HS7.out.gr hg8 (by simp; exact ⟨HNE.out.1, HNE.out.2.1⟩))
        have HBO8 := Lib.hid (HBO7.out.gr hg8 (by simp; exact ⟨Nat.ne_of_gt HNG.out.2.1, Nat.ne_of_gt HNG.out.2.2⟩))
        have HBX := Lib.hid (HB7.out.trans (hg8.below HB7.out.size (by simp; exact ⟨HNE.out.2.2.2.1, HNE.out.2.2.2.2⟩)))
        clear hr8 hg8 hz8
        go_simp
        refine hK.out _ _ (HBO8.out) (fun hS3 => ?_)
        clear hK K
        try simp only [Act.put, List.getElem_toArray, List.getElem_cons_zero, List.getElem_cons_succ, List.setIfInBounds_toArray, List.set_cons_zero, List.set_cons_succ]
        refine wpAnyH_take (i := 13) (v := ?_) rfl (by kernel_rfl) (by kernel_rfl) (by kernel_rfl) (fun _ _ _ h => h) (Or.inl ⟨by rfl, ?_⟩) hS3 ?_
        rotate_left
        · intro W _; go_simp; try with_reducible rfl
        try simp only [Act.put, List.getElem_toArray, List.getElem_cons_zero, List.getElem_cons_succ, List.setIfInBounds_toArray, List.set_cons_zero, List.set_cons_succ]
        refine wpAnyH_done (by kernel_rfl) ?_ _
        clear hS0 hS1 hS2 hS3
        have J4 : Hid (w8.cell? ⟨gr, 4, none⟩ = some (.bool d7.off)) := by show _ = _; rw [HRX.out.c4, HMX.out.off]
        have J5 : Hid (w8.cell? ⟨gr, 5, none⟩ = some (.int .i64 d7.wr)) := by show _ = _; rw [HRX.out.c5, HMX.out.wr]
        have ZR : Hid (gr < w8.heap.size) := HRX.out.bk.here
        go_wp2_with fail
        refine wp_region_held_drew (S := fun W => Below w8.heap.size w8 W) (by kernel_rfl) (Below.drew (Below.refl _ _)) (fun hS0 => ?_)
        refine wpAnyH_take (i := 0) (v := ?_) rfl (by kernel_rfl) (by kernel_rfl) (by kernel_rfl) (fun _ _ _ h => h) (Or.inl ⟨by rfl, ?_⟩) hS0 ?_
        rotate_left
        · intro W _; go_simp; try with_reducible rfl
        try simp only [Act.put, List.getElem_toArray, List.getElem_cons_zero, List.setIfInBounds_toArray, List.set_cons_zero, List.set_cons_succ]
        refine wpAnyH_take (i := 2) (v := ?_) rfl (by kernel_rfl) (by kernel_rfl) (by kernel_rfl) (fun _ _ _ h => h) (Or.inl ⟨by rfl, ?_⟩) hS0 ?_
        rotate_left
        · intro W _; go_simp; try with_reducible rfl
        try simp only [Act.put, List.getElem_toArray, List.getElem_cons_zero, List.getElem_cons_succ, List.setIfInBounds_toArray, List.set_cons_zero, List.set_cons_succ]
        refine wpAnyH_take (i := 3) (v := ?_) rfl (by kernel_rfl) (by kernel_rfl) (by kernel_rfl) (fun _ _ _ h => h) (Or.inl ⟨by rfl, ?_⟩) hS0 ?_
        rotate_left
        · intro W _; go_simp; try with_reducible rfl
        try simp only [Act.put, List.getElem_toArray, List.getElem_cons_zero, List.getElem_cons_succ, List.setIfInBounds_toArray, List.set_cons_zero, List.set_cons_succ]
        refine wpAnyH_take (i := 4) (v := ?_) rfl (by kernel_rfl) (by kernel_rfl) (by kernel_rfl) (fun _ _ _ h => h) (Or.inl ⟨by rfl, ?_⟩) hS0 ?_
        rotate_left
        · intro W _; go_simp; try with_reducible rfl
        try simp only [Act.put, List.getElem_toArray, List.getElem_cons_zero, List.getElem_cons_succ, List.setIfInBounds_toArray, List.set_cons_zero, List.set_cons_succ]
        refine wpAnyH_take (i := 5) (v := ?_) rfl (by kernel_rfl) (by kernel_rfl) (by kernel_rfl) (fun _ _ _ h => h) (Or.inl ⟨by rfl, ?_⟩) hS0 ?_
        rotate_left
        · intro W hSW; have hx4 : W.cell? ⟨gr, 4, none⟩ = some (.bool d7.off) := (hSW.cell (p := ⟨gr, 4, none⟩) ZR.out).trans J4.out; have hx5 : W.cell? ⟨gr, 5, none⟩ = some (.int .i64 d7.wr) := (hSW.cell (p := ⟨gr, 5, none⟩) ZR.out).trans J5.out; go_simp; try with_reducible rfl
        try simp only [Act.put, List.getElem_toArray, List.getElem_cons_zero, List.getElem_cons_succ, List.setIfInBounds_toArray, List.set_cons_zero, List.set_cons_succ]
        refine wpAnyH_ready (rs := [1]) (by kernel_rfl) (by simp) ?_
        refine AllReadyH.cons rfl (fun K hK => ?_) AllReadyH.nil
        go_simp
        refine (down_any gs d7 w8.drew (HSX.out.later (Below.drew (Below.refl _ _)))).mono ?_
        rintro e wd ⟨rfl, rfl⟩
        go_simp
        refine hK.out _ _ (hS0) (fun hS1 => ?_)
        clear hK K
        try simp only [Act.put, List.getElem_toArray, List.getElem_cons_zero, List.getElem_cons_succ, List.setIfInBounds_toArray, List.set_cons_zero, List.set_cons_succ]
        refine wpAnyH_take (i := 6) (v := ?_) rfl (by kernel_rfl) (by kernel_rfl) (by kernel_rfl) (fun _ _ _ h => h) (Or.inl ⟨by rfl, ?_⟩) hS1 ?_
        rotate_left
        · intro W _; go_simp; try with_reducible rfl
        try simp only [Act.put, List.getElem_toArray, List.getElem_cons_zero, List.getElem_cons_succ, List.setIfInBounds_toArray, List.set_cons_zero, List.set_cons_succ]
        refine wpAnyH_take (i := 7) (v := ?_) rfl (by kernel_rfl) (by kernel_rfl) (by kernel_rfl) (fun _ _ _ h => h) (Or.inl ⟨by rfl, ?_⟩) hS1 ?_
        rotate_left
        · intro W _; go_simp; try with_reducible rfl
        try simp only [Act.put, List.getElem_toArray, List.getElem_cons_zero, List.getElem_cons_succ, List.setIfInBounds_toArray, List.set_cons_zero, List.set_cons_succ]
        refine wpAnyH_take (i := 8) (v := ?_) rfl (by kernel_rfl) (by kernel_rfl) (by kernel_rfl) (fun _ _ _ h => h) (Or.inl ⟨by rfl, ?_⟩) hS1 ?_
        rotate_left
        · intro W _; go_simp; try with_reducible rfl
        try simp only [Act.put, List.getElem_toArray, List.getElem_cons_zero, List.getElem_cons_succ, List.setIfInBounds_toArray, List.set_cons_zero, List.set_cons_succ]
        refine wpAnyH_take (i := 10) (v := ?_) rfl (by kernel_rfl) (by kernel_rfl) (by kernel_rfl) (fun _ _ _ h => h) (Or.inl ⟨by rfl, ?_⟩) hS1 ?_
        rotate_left
        · intro W _; go_simp; try with_reducible rfl
        try simp only [Act.put, List.getElem_toArray, List.getElem_cons_zero, List.getElem_cons_succ, List.setIfInBounds_toArray, List.set_cons_zero, List.set_cons_succ]
        refine wpAnyH_take (i := 11) (v := ?_) rfl (by kernel_rfl) (by kernel_rfl) (by kernel_rfl) (fun _ _ _ h => h) (Or.inl ⟨by rfl, ?_⟩) hS1 ?_
        rotate_left
        · intro W _; go_simp; try with_reducible rfl
        try simp only [Act.put, List.getElem_toArray, List.getElem_cons_zero, List.getElem_cons_succ, List.setIfInBounds_toArray, List.set_cons_zero, List.set_cons_succ]
        refine wpAnyH_take (i := 12) (v := ?_) rfl (by kernel_rfl) (by kernel_rfl) (by kernel_rfl) (fun _ _ _ h => h) (Or.inl ⟨by rfl, ?_⟩) hS1 ?_
        rotate_left
        · intro W _; go_simp; try with_reducible rfl
        try simp only [Act.put, List.getElem_toArray, List.getElem_cons_zero, List.getElem_cons_succ, List.setIfInBounds_toArray, List.set_cons_zero, List.set_cons_succ]
        refine wpAnyH_take (i := 13) (v := ?_) rfl (by kernel_rfl) (by kernel_rfl) (by kernel_rfl) (fun _ _ _ h => h) (Or.inl ⟨by rfl, ?_⟩) hS1 ?_
        rotate_left
        · intro W hSW; have hx4 : W.cell? ⟨gr, 4, none⟩ = some (.bool d7.off) := (hSW.cell (p := ⟨gr, 4, none⟩) ZR.out).trans J4.out; have hx5 : W.cell? ⟨gr, 5, none⟩ = some (.int .i64 d7.wr) := (hSW.cell (p := ⟨gr, 5, none⟩) ZR.out).trans J5.out; go_simp; try with_reducible rfl
        try simp only [Act.put, List.getElem_toArray, List.getElem_cons_zero, List.getElem_cons_succ, List.setIfInBounds_toArray, List.set_cons_zero, List.set_cons_succ]
        refine wpAnyH_ready (rs := [9]) (by kernel_rfl) (by simp) ?_
        refine AllReadyH.cons rfl (fun K hK => ?_) AllReadyH.nil
        go_simp
        refine (writes_any gs d7 w8.drew (HSX.out.later (Below.drew (Below.refl _ _)))).mono ?_
        rintro e we ⟨rfl, rfl⟩
        go_simp
        refine hK.out _ _ (hS1) (fun hS2 => ?_)
        clear hK K
        try simp only [Act.put, List.getElem_toArray, List.getElem_cons_zero, List.getElem_cons_succ, List.setIfInBounds_toArray, List.set_cons_zero, List.set_cons_succ]
        refine wpAnyH_take (i := 14) (v := ?_) rfl (by kernel_rfl) (by kernel_rfl) (by kernel_rfl) (fun _ _ _ h => h) (Or.inl ⟨by rfl, ?_⟩) hS2 ?_
        rotate_left
        · intro W _; go_simp; try with_reducible rfl
        try simp only [Act.put, List.getElem_toArray, List.getElem_cons_zero, List.getElem_cons_succ, List.setIfInBounds_toArray, List.set_cons_zero, List.set_cons_succ]
        refine wpAnyH_take (i := 15) (v := ?_) rfl (by kernel_rfl) (by kernel_rfl) (by kernel_rfl) (fun _ _ _ h => h) (Or.inl ⟨by rfl, ?_⟩) hS2 ?_
        rotate_left
        · intro W _; go_simp; try with_reducible rfl
        try simp only [Act.put, List.getElem_toArray, List.getElem_cons_zero, List.getElem_cons_succ, List.setIfInBounds_toArray, List.set_cons_zero, List.set_cons_succ]
        refine wpAnyH_done (by kernel_rfl) ?_ _
        have HT2 : Hid (∃ d r, St w8.drew gs d ∧ Rs w8.drew gr gb r ∧ Sim d r ∧ Below w.heap.size w w8.drew) := ⟨d7, r7, HSX.out.later (Below.drew (Below.refl _ _)), HRX.out.later (Below.drew (Below.refl _ _)), HMX.out, HBX.out.drew⟩
        clear hS0 hS1 hS2 J4 J5 ZR
        go_wp2
        go_roundw
        case rel => exact ⟨k + 1, by omega, by go_num, HT2⟩
        case measure => simp [intOf]; omega
      case neg =>
      have c1b : ((K : Int) == 1) = false := by simp; exact c1
      clear c1
      by_cases c2 : K = 2
      case pos =>
        subst c2
        go_wp2_with ((with_reducible refine store_bk rfl 34 (.tmp 8) (.tmp 36) rfl wr.heap.size 0 #[.int .i64 2, .int .i64 I, .int .i64 M, .string s] rfl rfl 34 #[.int .i64 0, .int .i64 0, .int .i64 0, .string ⟨#[]⟩] #[.int .i64 2, .int .i64 I, .int .i64 M, .string s] (Bk.fresh _ _ _) (by kernel_rfl) (by simp) (by kernel_rfl) rfl ?_); intro w5 hB5 hg5 hz5; have z5 : wr.heap.size < w5.heap.size := hB5.here; have q0_w5 : w5.cell? ⟨wr.heap.size, 0, none⟩ = some (.int .i64 2) := hB5.cellAt 0; have q1_w5 : w5.cell? ⟨wr.heap.size, 1, none⟩ = some (.int .i64 I) := hB5.cellAt 1; have q2_w5 : w5.cell? ⟨wr.heap.size, 2, none⟩ = some (.int .i64 M) := hB5.cellAt 2; have q3_w5 : w5.cell? ⟨wr.heap.size, 3, none⟩ = some (.string s) := hB5.cellAt 3)
        have hb5 : Below wr.heap.size wr w5 := grown_below ((Below.refl _ _).alloc (Nat.le_refl _) _) hg5 (Nat.le_refl _)
        have HBO := Lib.hid hB5
        have HS5 := Lib.hid (HS.out.later hb5)
        have HRS5 := Lib.hid (HRS.out.later hb5)
        have HB5 := Lib.hid (HB.out.trans (hb5.mono HB.out.size))
        have G5 : Hid (gs < w5.heap.size ∧ gr < w5.heap.size) := ⟨HS5.out.bk.here, HRS5.out.bk.here⟩
        clear hB5 hg5 hz5 hb5 k1 k2 k3 k4 HS HRS HB hga
        obtain ⟨L, e6, hdr⟩ : ∃ L e, d.read I = (L, e) := ⟨_, _, rfl⟩
        have hrr : r.read I = (L, e6) := by rw [← HSIM.out.read]; exact hdr
        have hR := read_any gs d I w5 HS5.out
        rw [hdr] at hR
        have HRD := Lib.hid hR
        have HRR : Hid (∀ W : World, Rs W gr gb r → Calls Try.prog 15 #[.pointer (some ⟨gr, 0, none⟩), .int .i64 I] W fun e w' => e = .returned (.tuple #[.string (S L), .int .i64 e6]) ∧ W = w') := fun W h1 => by
          have h := rread_any gr gb r I W h1
          rw [hrr] at h
          exact h
        clear hdr hrr hR
        refine HRD.out.mono ?_
        rintro e w6 ⟨A6, c6, rfl, hr6, hb6⟩
        have HX6 := Lib.hid (str_of (c := c6) hr6 rfl)
        have HSX := Lib.hid (HS5.out.later hb6)
        have HRX := Lib.hid (HRS5.out.later hb6)
        have HBX := Lib.hid (HB5.out.trans (hb6.mono HB5.out.size))
        have HBO6 := Lib.hid (HBO.out.later hb6)
        have HMX := HSIM
        have z6 : wr.heap.size < w6.heap.size := HBO6.out.here
        have q1_w6 : w6.cell? ⟨wr.heap.size, 1, none⟩ = some (.int .i64 I) := HBO6.out.cellAt 1
        clear hr6 hb6
        go_wp2_with fail
        refine (HRR.out w6 HRX.out).mono ?_
        rintro e w7 ⟨rfl, rfl⟩
        have hx6 := HX6.out
        have J4 : Hid (w6.cell? ⟨gr, 4, none⟩ = some (.bool d.off)) := by show _ = _; rw [HRX.out.c4, HMX.out.off]
        have J5 : Hid (w6.cell? ⟨gr, 5, none⟩ = some (.int .i64 d.wr)) := by show _ = _; rw [HRX.out.c5, HMX.out.wr]
        have ZR : Hid (gr < w6.heap.size) := HRX.out.bk.here
        go_wp2_with fail
        refine wp_region_held_drew (S := fun W => Below w6.heap.size w6 W) (by kernel_rfl) (Below.drew (Below.refl _ _)) (fun hS0 => ?_)
        refine wpAnyH_take (i := 0) (v := ?_) rfl (by kernel_rfl) (by kernel_rfl) (by kernel_rfl) (fun _ _ _ h => h) (Or.inl ⟨by rfl, ?_⟩) hS0 ?_
        rotate_left
        · intro W _; go_simp; try with_reducible rfl
        try simp only [Act.put, List.getElem_toArray, List.getElem_cons_zero, List.setIfInBounds_toArray, List.set_cons_zero, List.set_cons_succ]
        refine wpAnyH_take (i := 2) (v := ?_) rfl (by kernel_rfl) (by kernel_rfl) (by kernel_rfl) (fun _ _ _ h => h) (Or.inl ⟨by rfl, ?_⟩) hS0 ?_
        rotate_left
        · intro W _; go_simp; try with_reducible rfl
        try simp only [Act.put, List.getElem_toArray, List.getElem_cons_zero, List.getElem_cons_succ, List.setIfInBounds_toArray, List.set_cons_zero, List.set_cons_succ]
        refine wpAnyH_take (i := 3) (v := ?_) rfl (by kernel_rfl) (by kernel_rfl) (by kernel_rfl) (fun _ _ _ h => h) (Or.inl ⟨by rfl, ?_⟩) hS0 ?_
        rotate_left
        · intro W _; go_simp; try with_reducible rfl
        try simp only [Act.put, List.getElem_toArray, List.getElem_cons_zero, List.getElem_cons_succ, List.setIfInBounds_toArray, List.set_cons_zero, List.set_cons_succ]
        refine wpAnyH_take (i := 4) (v := ?_) rfl (by kernel_rfl) (by kernel_rfl) (by kernel_rfl) (fun _ _ _ h => h) (Or.inl ⟨by rfl, ?_⟩) hS0 ?_
        rotate_left
        · intro W _; go_simp; try with_reducible rfl
        try simp only [Act.put, List.getElem_toArray, List.getElem_cons_zero, List.getElem_cons_succ, List.setIfInBounds_toArray, List.set_cons_zero, List.set_cons_succ]
        refine wpAnyH_take (i := 5) (v := ?_) rfl (by kernel_rfl) (by kernel_rfl) (by kernel_rfl) (fun _ _ _ h => h) (Or.inl ⟨by rfl, ?_⟩) hS0 ?_
        rotate_left
        · intro W hSW; have hx4 : W.cell? ⟨gr, 4, none⟩ = some (.bool d.off) := (hSW.cell (p := ⟨gr, 4, none⟩) ZR.out).trans J4.out; have hx5 : W.cell? ⟨gr, 5, none⟩ = some (.int .i64 d.wr) := (hSW.cell (p := ⟨gr, 5, none⟩) ZR.out).trans J5.out; go_simp; try with_reducible rfl
        try simp only [Act.put, List.getElem_toArray, List.getElem_cons_zero, List.getElem_cons_succ, List.setIfInBounds_toArray, List.set_cons_zero, List.set_cons_succ]
        refine wpAnyH_ready (rs := [1]) (by kernel_rfl) (by simp) ?_
        refine AllReadyH.cons rfl (fun K hK => ?_) AllReadyH.nil
        go_simp
        refine (down_any gs d w6.drew (HSX.out.later (Below.drew (Below.refl _ _)))).mono ?_
        rintro e wd ⟨rfl, rfl⟩
        go_simp
        refine hK.out _ _ (hS0) (fun hS1 => ?_)
        clear hK K
        try simp only [Act.put, List.getElem_toArray, List.getElem_cons_zero, List.getElem_cons_succ, List.setIfInBounds_toArray, List.set_cons_zero, List.set_cons_succ]
        refine wpAnyH_take (i := 6) (v := ?_) rfl (by kernel_rfl) (by kernel_rfl) (by kernel_rfl) (fun _ _ _ h => h) (Or.inl ⟨by rfl, ?_⟩) hS1 ?_
        rotate_left
        · intro W _; go_simp; try with_reducible rfl
        try simp only [Act.put, List.getElem_toArray, List.getElem_cons_zero, List.getElem_cons_succ, List.setIfInBounds_toArray, List.set_cons_zero, List.set_cons_succ]
        refine wpAnyH_take (i := 7) (v := ?_) rfl (by kernel_rfl) (by kernel_rfl) (by kernel_rfl) (fun _ _ _ h => h) (Or.inl ⟨by rfl, ?_⟩) hS1 ?_
        rotate_left
        · intro W _; go_simp; try with_reducible rfl
        try simp only [Act.put, List.getElem_toArray, List.getElem_cons_zero, List.getElem_cons_succ, List.setIfInBounds_toArray, List.set_cons_zero, List.set_cons_succ]
        refine wpAnyH_take (i := 8) (v := ?_) rfl (by kernel_rfl) (by kernel_rfl) (by kernel_rfl) (fun _ _ _ h => h) (Or.inl ⟨by rfl, ?_⟩) hS1 ?_
        rotate_left
        · intro W _; go_simp; try with_reducible rfl
        try simp only [Act.put, List.getElem_toArray, List.getElem_cons_zero, List.getElem_cons_succ, List.setIfInBounds_toArray, List.set_cons_zero, List.set_cons_succ]
        refine wpAnyH_take (i := 10) (v := ?_) rfl (by kernel_rfl) (by kernel_rfl) (by kernel_rfl) (fun _ _ _ h => h) (Or.inl ⟨by rfl, ?_⟩) hS1 ?_
        rotate_left
        · intro W _; go_simp; try with_reducible rfl
        try simp only [Act.put, List.getElem_toArray, List.getElem_cons_zero, List.getElem_cons_succ, List.setIfInBounds_toArray, List.set_cons_zero, List.set_cons_succ]
        refine wpAnyH_take (i := 11) (v := ?_) rfl (by kernel_rfl) (by kernel_rfl) (by kernel_rfl) (fun _ _ _ h => h) (Or.inl ⟨by rfl, ?_⟩) hS1 ?_
        rotate_left
        · intro W _; go_simp; try with_reducible rfl
        try simp only [Act.put, List.getElem_toArray, List.getElem_cons_zero, List.getElem_cons_succ, List.setIfInBounds_toArray, List.set_cons_zero, List.set_cons_succ]
        refine wpAnyH_take (i := 12) (v := ?_) rfl (by kernel_rfl) (by kernel_rfl) (by kernel_rfl) (fun _ _ _ h => h) (Or.inl ⟨by rfl, ?_⟩) hS1 ?_
        rotate_left
        · intro W _; go_simp; try with_reducible rfl
        try simp only [Act.put, List.getElem_toArray, List.getElem_cons_zero, List.getElem_cons_succ, List.setIfInBounds_toArray, List.set_cons_zero, List.set_cons_succ]
        refine wpAnyH_take (i := 13) (v := ?_) rfl (by kernel_rfl) (by kernel_rfl) (by kernel_rfl) (fun _ _ _ h => h) (Or.inl ⟨by rfl, ?_⟩) hS1 ?_
        rotate_left
        · intro W hSW; have hx4 : W.cell? ⟨gr, 4, none⟩ = some (.bool d.off) := (hSW.cell (p := ⟨gr, 4, none⟩) ZR.out).trans J4.out; have hx5 : W.cell? ⟨gr, 5, none⟩ = some (.int .i64 d.wr) := (hSW.cell (p := ⟨gr, 5, none⟩) ZR.out).trans J5.out; go_simp; try with_reducible rfl
        try simp only [Act.put, List.getElem_toArray, List.getElem_cons_zero, List.getElem_cons_succ, List.setIfInBounds_toArray, List.set_cons_zero, List.set_cons_succ]
        refine wpAnyH_ready (rs := [9]) (by kernel_rfl) (by simp) ?_
        refine AllReadyH.cons rfl (fun K hK => ?_) AllReadyH.nil
        go_simp
        refine (writes_any gs d w6.drew (HSX.out.later (Below.drew (Below.refl _ _)))).mono ?_
        rintro e we ⟨rfl, rfl⟩
        go_simp
        refine hK.out _ _ (hS1) (fun hS2 => ?_)
        clear hK K
        try simp only [Act.put, List.getElem_toArray, List.getElem_cons_zero, List.getElem_cons_succ, List.setIfInBounds_toArray, List.set_cons_zero, List.set_cons_succ]
        refine wpAnyH_take (i := 14) (v := ?_) rfl (by kernel_rfl) (by kernel_rfl) (by kernel_rfl) (fun _ _ _ h => h) (Or.inl ⟨by rfl, ?_⟩) hS2 ?_
        rotate_left
        · intro W _; go_simp; try with_reducible rfl
        try simp only [Act.put, List.getElem_toArray, List.getElem_cons_zero, List.getElem_cons_succ, List.setIfInBounds_toArray, List.set_cons_zero, List.set_cons_succ]
        refine wpAnyH_take (i := 15) (v := ?_) rfl (by kernel_rfl) (by kernel_rfl) (by kernel_rfl) (fun _ _ _ h => h) (Or.inl ⟨by rfl, ?_⟩) hS2 ?_
        rotate_left
        · intro W _; go_simp; try with_reducible rfl
        try simp only [Act.put, List.getElem_toArray, List.getElem_cons_zero, List.getElem_cons_succ, List.setIfInBounds_toArray, List.set_cons_zero, List.set_cons_succ]
        refine wpAnyH_done (by kernel_rfl) ?_ _
        have HT2 : Hid (∃ d r, St w6.drew gs d ∧ Rs w6.drew gr gb r ∧ Sim d r ∧ Below w.heap.size w w6.drew) := ⟨d, r, HSX.out.later (Below.drew (Below.refl _ _)), HRX.out.later (Below.drew (Below.refl _ _)), HMX.out, HBX.out.drew⟩
        clear hS0 hS1 hS2 J4 J5 ZR
        go_wp2
        go_roundw
        case rel => exact ⟨k + 1, by omega, by go_num, HT2⟩
        case measure => simp [intOf]; omega
      case neg =>
      have c2b : ((K : Int) == 2) = false := by simp; exact c2
      clear c2
      by_cases c3 : K = 3
      case pos =>
        subst c3
        go_wp2_with ((with_reducible refine store_bk rfl 34 (.tmp 8) (.tmp 36) rfl wr.heap.size 0 #[.int .i64 3, .int .i64 I, .int .i64 M, .string s] rfl rfl 34 #[.int .i64 0, .int .i64 0, .int .i64 0, .string ⟨#[]⟩] #[.int .i64 3, .int .i64 I, .int .i64 M, .string s] (Bk.fresh _ _ _) (by kernel_rfl) (by simp) (by kernel_rfl) rfl ?_); intro w5 hB5 hg5 hz5; have z5 : wr.heap.size < w5.heap.size := hB5.here; have q0_w5 : w5.cell? ⟨wr.heap.size, 0, none⟩ = some (.int .i64 3) := hB5.cellAt 0; have q1_w5 : w5.cell? ⟨wr.heap.size, 1, none⟩ = some (.int .i64 I) := hB5.cellAt 1; have q2_w5 : w5.cell? ⟨wr.heap.size, 2, none⟩ = some (.int .i64 M) := hB5.cellAt 2; have q3_w5 : w5.cell? ⟨wr.heap.size, 3, none⟩ = some (.string s) := hB5.cellAt 3)
        have hb5 : Below wr.heap.size wr w5 := grown_below ((Below.refl _ _).alloc (Nat.le_refl _) _) hg5 (Nat.le_refl _)
        have HBO := Lib.hid hB5
        have HS5 := Lib.hid (HS.out.later hb5)
        have HRS5 := Lib.hid (HRS.out.later hb5)
        have HB5 := Lib.hid (HB.out.trans (hb5.mono HB.out.size))
        have G5 : Hid (gs < w5.heap.size ∧ gr < w5.heap.size) := ⟨HS5.out.bk.here, HRS5.out.bk.here⟩
        clear hB5 hg5 hz5 hb5 k1 k2 k3 k4 HS HRS HB hga
        refine (arm_any gs d I M w5 HS5.out).mono ?_
        rintro e w6 ⟨rfl, hs6, hg6, hz6⟩
        have HS6 := Lib.hid hs6
        have HRS6 := Lib.hid (HRS5.out.gr (Gr.of hg6) (by simp; exact fun e => HNE.out.1 e.symm) (by simp; exact fun e => HNE.out.2.1 e.symm))
        have HBO6 := Lib.hid (HBO.out.gr (Gr.of hg6) (by simp; exact Nat.ne_of_gt HNG.out.1))
        have HB6 := Lib.hid (HB5.out.trans ((Gr.of hg6).below HB5.out.size (by simp; exact HNE.out.2.2.1)))
        have z6 : wr.heap.size < w6.heap.size := HBO6.out.here
        have q1_w6 : w6.cell? ⟨wr.heap.size, 1, none⟩ = some (.int .i64 I) := HBO6.out.cellAt 1
        have q2_w6 : w6.cell? ⟨wr.heap.size, 2, none⟩ = some (.int .i64 M) := HBO6.out.cellAt 2
        clear hs6 hg6 hz6
        go_wp2_with fail
        refine (rarm_any gr gb r I M w6 HRS6.out).mono ?_
        rintro e w8 ⟨rfl, hr8, hg8, hz8⟩
        have hsim8 := HSIM.out.arm I M HOK.out
        generalize d.arm I M = d7 at HS6 hsim8
        generalize ({ r with armed := decide (0 ≤ I), left := I, part := M } : Rv) = r7 at hr8 hsim8
        have HMX := Lib.hid hsim8
        have HRX := Lib.hid hr8
        have HSX := Lib.hid (HS6.out.gr hg8 (by simp; exact ⟨HNE.out.1, HNE.out.2.1⟩))
        have HBX := Lib.hid (HB6.out.trans (hg8.below HB6.out.size (by simp; exact ⟨HNE.out.2.2.2.1, HNE.out.2.2.2.2⟩)))
        clear hr8 hg8 hz8 hsim8
        have J4 : Hid (w8.cell? ⟨gr, 4, none⟩ = some (.bool d7.off)) := by show _ = _; rw [HRX.out.c4, HMX.out.off]
        have J5 : Hid (w8.cell? ⟨gr, 5, none⟩ = some (.int .i64 d7.wr)) := by show _ = _; rw [HRX.out.c5, HMX.out.wr]
        have ZR : Hid (gr < w8.heap.size) := HRX.out.bk.here
        go_wp2_with fail
        refine wp_region_held_drew (S := fun W => Below w8.heap.size w8 W) (by kernel_rfl) (Below.drew (Below.refl _ _)) (fun hS0 => ?_)
        refine wpAnyH_take (i := 0) (v := ?_) rfl (by kernel_rfl) (by kernel_rfl) (by kernel_rfl) (fun _ _ _ h => h) (Or.inl ⟨by rfl, ?_⟩) hS0 ?_
        rotate_left
        · intro W _; go_simp; try with_reducible rfl
        try simp only [Act.put, List.getElem_toArray, List.getElem_cons_zero, List.setIfInBounds_toArray, List.set_cons_zero, List.set_cons_succ]
        refine wpAnyH_take (i := 2) (v := ?_) rfl (by kernel_rfl) (by kernel_rfl) (by kernel_rfl) (fun _ _ _ h => h) (Or.inl ⟨by rfl, ?_⟩) hS0 ?_
        rotate_left
        · intro W _; go_simp; try with_reducible rfl
        try simp only [Act.put, List.getElem_toArray, List.getElem_cons_zero, List.getElem_cons_succ, List.setIfInBounds_toArray, List.set_cons_zero, List.set_cons_succ]
        refine wpAnyH_take (i := 3) (v := ?_) rfl (by kernel_rfl) (by kernel_rfl) (by kernel_rfl) (fun _ _ _ h => h) (Or.inl ⟨by rfl, ?_⟩) hS0 ?_
        rotate_left
        · intro W _; go_simp; try with_reducible rfl
        try simp only [Act.put, List.getElem_toArray, List.getElem_cons_zero, List.getElem_cons_succ, List.setIfInBounds_toArray, List.set_cons_zero, List.set_cons_succ]
        refine wpAnyH_take (i := 4) (v := ?_) rfl (by kernel_rfl) (by kernel_rfl) (by kernel_rfl) (fun _ _ _ h => h) (Or.inl ⟨by rfl, ?_⟩) hS0 ?_
        rotate_left
        · intro W _; go_simp; try with_reducible rfl
        try simp only [Act.put, List.getElem_toArray, List.getElem_cons_zero, List.getElem_cons_succ, List.setIfInBounds_toArray, List.set_cons_zero, List.set_cons_succ]
        refine wpAnyH_take (i := 5) (v := ?_) rfl (by kernel_rfl) (by kernel_rfl) (by kernel_rfl) (fun _ _ _ h => h) (Or.inl ⟨by rfl, ?_⟩) hS0 ?_
        rotate_left
        · intro W hSW; have hx4 : W.cell? ⟨gr, 4, none⟩ = some (.bool d7.off) := (hSW.cell (p := ⟨gr, 4, none⟩) ZR.out).trans J4.out; have hx5 : W.cell? ⟨gr, 5, none⟩ = some (.int .i64 d7.wr) := (hSW.cell (p := ⟨gr, 5, none⟩) ZR.out).trans J5.out; go_simp; try with_reducible rfl
        try simp only [Act.put, List.getElem_toArray, List.getElem_cons_zero, List.getElem_cons_succ, List.setIfInBounds_toArray, List.set_cons_zero, List.set_cons_succ]
        refine wpAnyH_ready (rs := [1]) (by kernel_rfl) (by simp) ?_
        refine AllReadyH.cons rfl (fun K hK => ?_) AllReadyH.nil
        go_simp
        refine (down_any gs d7 w8.drew (HSX.out.later (Below.drew (Below.refl _ _)))).mono ?_
        rintro e wd ⟨rfl, rfl⟩
        go_simp
        refine hK.out _ _ (hS0) (fun hS1 => ?_)
        clear hK K
        try simp only [Act.put, List.getElem_toArray, List.getElem_cons_zero, List.getElem_cons_succ, List.setIfInBounds_toArray, List.set_cons_zero, List.set_cons_succ]
        refine wpAnyH_take (i := 6) (v := ?_) rfl (by kernel_rfl) (by kernel_rfl) (by kernel_rfl) (fun _ _ _ h => h) (Or.inl ⟨by rfl, ?_⟩) hS1 ?_
        rotate_left
        · intro W _; go_simp; try with_reducible rfl
        try simp only [Act.put, List.getElem_toArray, List.getElem_cons_zero, List.getElem_cons_succ, List.setIfInBounds_toArray, List.set_cons_zero, List.set_cons_succ]
        refine wpAnyH_take (i := 7) (v := ?_) rfl (by kernel_rfl) (by kernel_rfl) (by kernel_rfl) (fun _ _ _ h => h) (Or.inl ⟨by rfl, ?_⟩) hS1 ?_
        rotate_left
        · intro W _; go_simp; try with_reducible rfl
        try simp only [Act.put, List.getElem_toArray, List.getElem_cons_zero, List.getElem_cons_succ, List.setIfInBounds_toArray, List.set_cons_zero, List.set_cons_succ]
        refine wpAnyH_take (i := 8) (v := ?_) rfl (by kernel_rfl) (by kernel_rfl) (by kernel_rfl) (fun _ _ _ h => h) (Or.inl ⟨by rfl, ?_⟩) hS1 ?_
        rotate_left
        · intro W _; go_simp; try with_reducible rfl
        try simp only [Act.put, List.getElem_toArray, List.getElem_cons_zero, List.getElem_cons_succ, List.setIfInBounds_toArray, List.set_cons_zero, List.set_cons_succ]
        refine wpAnyH_take (i := 10) (v := ?_) rfl (by kernel_rfl) (by kernel_rfl) (by kernel_rfl) (fun _ _ _ h => h) (Or.inl ⟨by rfl, ?_⟩) hS1 ?_
        rotate_left
        · intro W _; go_simp; try with_reducible rfl
        try simp only [Act.put, List.getElem_toArray, List.getElem_cons_zero, List.getElem_cons_succ, List.setIfInBounds_toArray, List.set_cons_zero, List.set_cons_succ]
        refine wpAnyH_take (i := 11) (v := ?_) rfl (by kernel_rfl) (by kernel_rfl) (by kernel_rfl) (fun _ _ _ h => h) (Or.inl ⟨by rfl, ?_⟩) hS1 ?_
        rotate_left
        · intro W _; go_simp; try with_reducible rfl
        try simp only [Act.put, List.getElem_toArray, List.getElem_cons_zero, List.getElem_cons_succ, List.setIfInBounds_toArray, List.set_cons_zero, List.set_cons_succ]
        refine wpAnyH_take (i := 12) (v := ?_) rfl (by kernel_rfl) (by kernel_rfl) (by kernel_rfl) (fun _ _ _ h => h) (Or.inl ⟨by rfl, ?_⟩) hS1 ?_
        rotate_left
        · intro W _; go_simp; try with_reducible rfl
        try simp only [Act.put, List.getElem_toArray, List.getElem_cons_zero, List.getElem_cons_succ, List.setIfInBounds_toArray, List.set_cons_zero, List.set_cons_succ]
        refine wpAnyH_take (i := 13) (v := ?_) rfl (by kernel_rfl) (by kernel_rfl) (by kernel_rfl) (fun _ _ _ h => h) (Or.inl ⟨by rfl, ?_⟩) hS1 ?_
        rotate_left
        · intro W hSW; have hx4 : W.cell? ⟨gr, 4, none⟩ = some (.bool d7.off) := (hSW.cell (p := ⟨gr, 4, none⟩) ZR.out).trans J4.out; have hx5 : W.cell? ⟨gr, 5, none⟩ = some (.int .i64 d7.wr) := (hSW.cell (p := ⟨gr, 5, none⟩) ZR.out).trans J5.out; go_simp; try with_reducible rfl
        try simp only [Act.put, List.getElem_toArray, List.getElem_cons_zero, List.getElem_cons_succ, List.setIfInBounds_toArray, List.set_cons_zero, List.set_cons_succ]
        refine wpAnyH_ready (rs := [9]) (by kernel_rfl) (by simp) ?_
        refine AllReadyH.cons rfl (fun K hK => ?_) AllReadyH.nil
        go_simp
        refine (writes_any gs d7 w8.drew (HSX.out.later (Below.drew (Below.refl _ _)))).mono ?_
        rintro e we ⟨rfl, rfl⟩
        go_simp
        refine hK.out _ _ (hS1) (fun hS2 => ?_)
        clear hK K
        try simp only [Act.put, List.getElem_toArray, List.getElem_cons_zero, List.getElem_cons_succ, List.setIfInBounds_toArray, List.set_cons_zero, List.set_cons_succ]
        refine wpAnyH_take (i := 14) (v := ?_) rfl (by kernel_rfl) (by kernel_rfl) (by kernel_rfl) (fun _ _ _ h => h) (Or.inl ⟨by rfl, ?_⟩) hS2 ?_
        rotate_left
        · intro W _; go_simp; try with_reducible rfl
        try simp only [Act.put, List.getElem_toArray, List.getElem_cons_zero, List.getElem_cons_succ, List.setIfInBounds_toArray, List.set_cons_zero, List.set_cons_succ]
        refine wpAnyH_take (i := 15) (v := ?_) rfl (by kernel_rfl) (by kernel_rfl) (by kernel_rfl) (fun _ _ _ h => h) (Or.inl ⟨by rfl, ?_⟩) hS2 ?_
        rotate_left
        · intro W _; go_simp; try with_reducible rfl
        try simp only [Act.put, List.getElem_toArray, List.getElem_cons_zero, List.getElem_cons_succ, List.setIfInBounds_toArray, List.set_cons_zero, List.set_cons_succ]
        refine wpAnyH_done (by kernel_rfl) ?_ _
        have HT2 : Hid (∃ d r, St w8.drew gs d ∧ Rs w8.drew gr gb r ∧ Sim d r ∧ Below w.heap.size w w8.drew) := ⟨d7, r7, HSX.out.later (Below.drew (Below.refl _ _)), HRX.out.later (Below.drew (Below.refl _ _)), HMX.out, HBX.out.drew⟩
        clear hS0 hS1 hS2 J4 J5 ZR
        go_wp2
        go_roundw
        case rel => exact ⟨k + 1, by omega, by go_num, HT2⟩
        case measure => simp [intOf]; omega
      case neg =>
      have c3b : ((K : Int) == 3) = false := by simp; exact c3
      clear c3
      by_cases c4 : K = 4
      case pos =>
        subst c4
        go_wp2_with ((with_reducible refine store_bk rfl 34 (.tmp 8) (.tmp 36) rfl wr.heap.size 0 #[.int .i64 4, .int .i64 I, .int .i64 M, .string s] rfl rfl 34 #[.int .i64 0, .int .i64 0, .int .i64 0, .string ⟨#[]⟩] #[.int .i64 4, .int .i64 I, .int .i64 M, .string s] (Bk.fresh _ _ _) (by kernel_rfl) (by simp) (by kernel_rfl) rfl ?_); intro w5 hB5 hg5 hz5; have z5 : wr.heap.size < w5.heap.size := hB5.here; have q0_w5 : w5.cell? ⟨wr.heap.size, 0, none⟩ = some (.int .i64 4) := hB5.cellAt 0; have q1_w5 : w5.cell? ⟨wr.heap.size, 1, none⟩ = some (.int .i64 I) := hB5.cellAt 1; have q2_w5 : w5.cell? ⟨wr.heap.size, 2, none⟩ = some (.int .i64 M) := hB5.cellAt 2; have q3_w5 : w5.cell? ⟨wr.heap.size, 3, none⟩ = some (.string s) := hB5.cellAt 3)
        have hb5 : Below wr.heap.size wr w5 := grown_below ((Below.refl _ _).alloc (Nat.le_refl _) _) hg5 (Nat.le_refl _)
        have HBO := Lib.hid hB5
        have HS5 := Lib.hid (HS.out.later hb5)
        have HRS5 := Lib.hid (HRS.out.later hb5)
        have HB5 := Lib.hid (HB.out.trans (hb5.mono HB.out.size))
        have G5 : Hid (gs < w5.heap.size ∧ gr < w5.heap.size) := ⟨HS5.out.bk.here, HRS5.out.bk.here⟩
        clear hB5 hg5 hz5 hb5 k1 k2 k3 k4 HS HRS HB hga
        refine (power_any gs d w5 HS5.out).mono ?_
        rintro e w6 ⟨rfl, hs6, hg6, hz6⟩
        have HS6 := Lib.hid hs6
        have HRS6 := Lib.hid (HRS5.out.gr (Gr.of hg6) (by simp; exact fun e => HNE.out.1 e.symm) (by simp; exact fun e => HNE.out.2.1 e.symm))
        have HB6 := Lib.hid (HB5.out.trans ((Gr.of hg6).below HB5.out.size (by simp; exact HNE.out.2.2.1)))
        clear hs6 hg6 hz6
        go_wp2_with fail
        refine (rpower_any gr gb r w6 HRS6.out).mono ?_
        rintro e w8 ⟨rfl, hr8, hg8, hz8⟩
        have hsim8 := HSIM.out.power
        generalize ({ d with off := false, armed := false, cnt := 0, part := 0 } : Dv) = d7 at HS6 hsim8
        generalize ({ r with armed := false, down := false } : Rv) = r7 at hr8 hsim8
        have HMX := Lib.hid hsim8
        have HRX := Lib.hid hr8
        have HSX := Lib.hid (HS6.out.gr hg8 (by simp; exact ⟨HNE.out.1, HNE.out.2.1⟩))
        have HBX := Lib.hid (HB6.out.trans (hg8.below HB6.out.size (by simp; exact ⟨HNE.out.2.2.2.1, HNE.out.2.2.2.2⟩)))
        clear hr8 hg8 hz8 hsim8
        have J4 : Hid (w8.cell? ⟨gr, 4, none⟩ = some (.bool d7.off)) := by show _ = _; rw [HRX.out.c4, HMX.out.off]
        have J5 : Hid (w8.cell? ⟨gr, 5, none⟩ = some (.int .i64 d7.wr)) := by show _ = _; rw [HRX.out.c5, HMX.out.wr]
        have ZR : Hid (gr < w8.heap.size) := HRX.out.bk.here
        go_wp2_with fail
        refine wp_region_held_drew (S := fun W => Below w8.heap.size w8 W) (by kernel_rfl) (Below.drew (Below.refl _ _)) (fun hS0 => ?_)
        refine wpAnyH_take (i := 0) (v := ?_) rfl (by kernel_rfl) (by kernel_rfl) (by kernel_rfl) (fun _ _ _ h => h) (Or.inl ⟨by rfl, ?_⟩) hS0 ?_
        rotate_left
        · intro W _; go_simp; try with_reducible rfl
        try simp only [Act.put, List.getElem_toArray, List.getElem_cons_zero, List.setIfInBounds_toArray, List.set_cons_zero, List.set_cons_succ]
        refine wpAnyH_take (i := 2) (v := ?_) rfl (by kernel_rfl) (by kernel_rfl) (by kernel_rfl) (fun _ _ _ h => h) (Or.inl ⟨by rfl, ?_⟩) hS0 ?_
        rotate_left
        · intro W _; go_simp; try with_reducible rfl
        try simp only [Act.put, List.getElem_toArray, List.getElem_cons_zero, List.getElem_cons_succ, List.setIfInBounds_toArray, List.set_cons_zero, List.set_cons_succ]
        refine wpAnyH_take (i := 3) (v := ?_) rfl (by kernel_rfl) (by kernel_rfl) (by kernel_rfl) (fun _ _ _ h => h) (Or.inl ⟨by rfl, ?_⟩) hS0 ?_
        rotate_left
        · intro W _; go_simp; try with_reducible rfl
        try simp only [Act.put, List.getElem_toArray, List.getElem_cons_zero, List.getElem_cons_succ, List.setIfInBounds_toArray, List.set_cons_zero, List.set_cons_succ]
        refine wpAnyH_take (i := 4) (v := ?_) rfl (by kernel_rfl) (by kernel_rfl) (by kernel_rfl) (fun _ _ _ h => h) (Or.inl ⟨by rfl, ?_⟩) hS0 ?_
        rotate_left
        · intro W _; go_simp; try with_reducible rfl
        try simp only [Act.put, List.getElem_toArray, List.getElem_cons_zero, List.getElem_cons_succ, List.setIfInBounds_toArray, List.set_cons_zero, List.set_cons_succ]
        refine wpAnyH_take (i := 5) (v := ?_) rfl (by kernel_rfl) (by kernel_rfl) (by kernel_rfl) (fun _ _ _ h => h) (Or.inl ⟨by rfl, ?_⟩) hS0 ?_
        rotate_left
        · intro W hSW; have hx4 : W.cell? ⟨gr, 4, none⟩ = some (.bool d7.off) := (hSW.cell (p := ⟨gr, 4, none⟩) ZR.out).trans J4.out; have hx5 : W.cell? ⟨gr, 5, none⟩ = some (.int .i64 d7.wr) := (hSW.cell (p := ⟨gr, 5, none⟩) ZR.out).trans J5.out; go_simp; try with_reducible rfl
        try simp only [Act.put, List.getElem_toArray, List.getElem_cons_zero, List.getElem_cons_succ, List.setIfInBounds_toArray, List.set_cons_zero, List.set_cons_succ]
        refine wpAnyH_ready (rs := [1]) (by kernel_rfl) (by simp) ?_
        refine AllReadyH.cons rfl (fun K hK => ?_) AllReadyH.nil
        go_simp
        refine (down_any gs d7 w8.drew (HSX.out.later (Below.drew (Below.refl _ _)))).mono ?_
        rintro e wd ⟨rfl, rfl⟩
        go_simp
        refine hK.out _ _ (hS0) (fun hS1 => ?_)
        clear hK K
        try simp only [Act.put, List.getElem_toArray, List.getElem_cons_zero, List.getElem_cons_succ, List.setIfInBounds_toArray, List.set_cons_zero, List.set_cons_succ]
        refine wpAnyH_take (i := 6) (v := ?_) rfl (by kernel_rfl) (by kernel_rfl) (by kernel_rfl) (fun _ _ _ h => h) (Or.inl ⟨by rfl, ?_⟩) hS1 ?_
        rotate_left
        · intro W _; go_simp; try with_reducible rfl
        try simp only [Act.put, List.getElem_toArray, List.getElem_cons_zero, List.getElem_cons_succ, List.setIfInBounds_toArray, List.set_cons_zero, List.set_cons_succ]
        refine wpAnyH_take (i := 7) (v := ?_) rfl (by kernel_rfl) (by kernel_rfl) (by kernel_rfl) (fun _ _ _ h => h) (Or.inl ⟨by rfl, ?_⟩) hS1 ?_
        rotate_left
        · intro W _; go_simp; try with_reducible rfl
        try simp only [Act.put, List.getElem_toArray, List.getElem_cons_zero, List.getElem_cons_succ, List.setIfInBounds_toArray, List.set_cons_zero, List.set_cons_succ]
        refine wpAnyH_take (i := 8) (v := ?_) rfl (by kernel_rfl) (by kernel_rfl) (by kernel_rfl) (fun _ _ _ h => h) (Or.inl ⟨by rfl, ?_⟩) hS1 ?_
        rotate_left
        · intro W _; go_simp; try with_reducible rfl
        try simp only [Act.put, List.getElem_toArray, List.getElem_cons_zero, List.getElem_cons_succ, List.setIfInBounds_toArray, List.set_cons_zero, List.set_cons_succ]
        refine wpAnyH_take (i := 10) (v := ?_) rfl (by kernel_rfl) (by kernel_rfl) (by kernel_rfl) (fun _ _ _ h => h) (Or.inl ⟨by rfl, ?_⟩) hS1 ?_
        rotate_left
        · intro W _; go_simp; try with_reducible rfl
        try simp only [Act.put, List.getElem_toArray, List.getElem_cons_zero, List.getElem_cons_succ, List.setIfInBounds_toArray, List.set_cons_zero, List.set_cons_succ]
        refine wpAnyH_take (i := 11) (v := ?_) rfl (by kernel_rfl) (by kernel_rfl) (by kernel_rfl) (fun _ _ _ h => h) (Or.inl ⟨by rfl, ?_⟩) hS1 ?_
        rotate_left
        · intro W _; go_simp; try with_reducible rfl
        try simp only [Act.put, List.getElem_toArray, List.getElem_cons_zero, List.getElem_cons_succ, List.setIfInBounds_toArray, List.set_cons_zero, List.set_cons_succ]
        refine wpAnyH_take (i := 12) (v := ?_) rfl (by kernel_rfl) (by kernel_rfl) (by kernel_rfl) (fun _ _ _ h => h) (Or.inl ⟨by rfl, ?_⟩) hS1 ?_
        rotate_left
        · intro W _; go_simp; try with_reducible rfl
        try simp only [Act.put, List.getElem_toArray, List.getElem_cons_zero, List.getElem_cons_succ, List.setIfInBounds_toArray, List.set_cons_zero, List.set_cons_succ]
        refine wpAnyH_take (i := 13) (v := ?_) rfl (by kernel_rfl) (by kernel_rfl) (by kernel_rfl) (fun _ _ _ h => h) (Or.inl ⟨by rfl, ?_⟩) hS1 ?_
        rotate_left
        · intro W hSW; have hx4 : W.cell? ⟨gr, 4, none⟩ = some (.bool d7.off) := (hSW.cell (p := ⟨gr, 4, none⟩) ZR.out).trans J4.out; have hx5 : W.cell? ⟨gr, 5, none⟩ = some (.int .i64 d7.wr) := (hSW.cell (p := ⟨gr, 5, none⟩) ZR.out).trans J5.out; go_simp; try with_reducible rfl
        try simp only [Act.put, List.getElem_toArray, List.getElem_cons_zero, List.getElem_cons_succ, List.setIfInBounds_toArray, List.set_cons_zero, List.set_cons_succ]
        refine wpAnyH_ready (rs := [9]) (by kernel_rfl) (by simp) ?_
        refine AllReadyH.cons rfl (fun K hK => ?_) AllReadyH.nil
        go_simp
        refine (writes_any gs d7 w8.drew (HSX.out.later (Below.drew (Below.refl _ _)))).mono ?_
        rintro e we ⟨rfl, rfl⟩
        go_simp
        refine hK.out _ _ (hS1) (fun hS2 => ?_)
        clear hK K
        try simp only [Act.put, List.getElem_toArray, List.getElem_cons_zero, List.getElem_cons_succ, List.setIfInBounds_toArray, List.set_cons_zero, List.set_cons_succ]
        refine wpAnyH_take (i := 14) (v := ?_) rfl (by kernel_rfl) (by kernel_rfl) (by kernel_rfl) (fun _ _ _ h => h) (Or.inl ⟨by rfl, ?_⟩) hS2 ?_
        rotate_left
        · intro W _; go_simp; try with_reducible rfl
        try simp only [Act.put, List.getElem_toArray, List.getElem_cons_zero, List.getElem_cons_succ, List.setIfInBounds_toArray, List.set_cons_zero, List.set_cons_succ]
        refine wpAnyH_take (i := 15) (v := ?_) rfl (by kernel_rfl) (by kernel_rfl) (by kernel_rfl) (fun _ _ _ h => h) (Or.inl ⟨by rfl, ?_⟩) hS2 ?_
        rotate_left
        · intro W _; go_simp; try with_reducible rfl
        try simp only [Act.put, List.getElem_toArray, List.getElem_cons_zero, List.getElem_cons_succ, List.setIfInBounds_toArray, List.set_cons_zero, List.set_cons_succ]
        refine wpAnyH_done (by kernel_rfl) ?_ _
        have HT2 : Hid (∃ d r, St w8.drew gs d ∧ Rs w8.drew gr gb r ∧ Sim d r ∧ Below w.heap.size w w8.drew) := ⟨d7, r7, HSX.out.later (Below.drew (Below.refl _ _)), HRX.out.later (Below.drew (Below.refl _ _)), HMX.out, HBX.out.drew⟩
        clear hS0 hS1 hS2 J4 J5 ZR
        go_wp2
        go_roundw
        case rel => exact ⟨k + 1, by omega, by go_num, HT2⟩
        case measure => simp [intOf]; omega
      case neg =>
      have c4b : ((K : Int) == 4) = false := by simp; exact c4
      clear c4
      go_wp2_with ((with_reducible refine store_bk rfl 34 (.tmp 8) (.tmp 36) rfl wr.heap.size 0 #[.int .i64 K, .int .i64 I, .int .i64 M, .string s] rfl rfl 34 #[.int .i64 0, .int .i64 0, .int .i64 0, .string ⟨#[]⟩] #[.int .i64 K, .int .i64 I, .int .i64 M, .string s] (Bk.fresh _ _ _) (by kernel_rfl) (by simp) (by kernel_rfl) rfl ?_); intro w5 hB5 hg5 hz5; have z5 : wr.heap.size < w5.heap.size := hB5.here; have q0_w5 : w5.cell? ⟨wr.heap.size, 0, none⟩ = some (.int .i64 K) := hB5.cellAt 0)
      have hb5 : Below wr.heap.size wr w5 := grown_below ((Below.refl _ _).alloc (Nat.le_refl _) _) hg5 (Nat.le_refl _)
      have HBO := Lib.hid hB5
      have HS5 := Lib.hid (HS.out.later hb5)
      have HRS5 := Lib.hid (HRS.out.later hb5)
      have HB5 := Lib.hid (HB.out.trans (hb5.mono HB.out.size))
      have G5 : Hid (gs < w5.heap.size ∧ gr < w5.heap.size) := ⟨HS5.out.bk.here, HRS5.out.bk.here⟩
      clear hB5 hg5 hz5 hb5 k1 k2 k3 k4 HS HRS HB hga
      have HSX := HS5
      have HRX := HRS5
      have HBX := HB5
      have HMX := HSIM
      have J4 : Hid (w5.cell? ⟨gr, 4, none⟩ = some (.bool d.off)) := by show _ = _; rw [HRX.out.c4, HMX.out.off]
      have J5 : Hid (w5.cell? ⟨gr, 5, none⟩ = some (.int .i64 d.wr)) := by show _ = _; rw [HRX.out.c5, HMX.out.wr]
      have ZR : Hid (gr < w5.heap.size) := HRX.out.bk.here
      skip
      refine wp_region_held_drew (S := fun W => Below w5.heap.size w5 W) (by kernel_rfl) (Below.drew (Below.refl _ _)) (fun hS0 => ?_)
      refine wpAnyH_take (i := 0) (v := ?_) rfl (by kernel_rfl) (by kernel_rfl) (by kernel_rfl) (fun _ _ _ h => h) (Or.inl ⟨by rfl, ?_⟩) hS0 ?_
      rotate_left
      · intro W _; go_simp; try with_reducible rfl
      try simp only [Act.put, List.getElem_toArray, List.getElem_cons_zero, List.setIfInBounds_toArray, List.set_cons_zero, List.set_cons_succ]
      refine wpAnyH_take (i := 2) (v := ?_) rfl (by kernel_rfl) (by kernel_rfl) (by kernel_rfl) (fun _ _ _ h => h) (Or.inl ⟨by rfl, ?_⟩) hS0 ?_
      rotate_left
      · intro W _; go_simp; try with_reducible rfl
      try simp only [Act.put, List.getElem_toArray, List.getElem_cons_zero, List.getElem_cons_succ, List.setIfInBounds_toArray, List.set_cons_zero, List.set_cons_succ]
      refine wpAnyH_take (i := 3) (v := ?_) rfl (by kernel_rfl) (by kernel_rfl) (by kernel_rfl) (fun _ _ _ h => h) (Or.inl ⟨by rfl, ?_⟩) hS0 ?_
      rotate_left
      · intro W _; go_simp; try with_reducible rfl
      try simp only [Act.put, List.getElem_toArray, List.getElem_cons_zero, List.getElem_cons_succ, List.setIfInBounds_toArray, List.set_cons_zero, List.set_cons_succ]
      refine wpAnyH_take (i := 4) (v := ?_) rfl (by kernel_rfl) (by kernel_rfl) (by kernel_rfl) (fun _ _ _ h => h) (Or.inl ⟨by rfl, ?_⟩) hS0 ?_
      rotate_left
      · intro W _; go_simp; try with_reducible rfl
      try simp only [Act.put, List.getElem_toArray, List.getElem_cons_zero, List.getElem_cons_succ, List.setIfInBounds_toArray, List.set_cons_zero, List.set_cons_succ]
      refine wpAnyH_take (i := 5) (v := ?_) rfl (by kernel_rfl) (by kernel_rfl) (by kernel_rfl) (fun _ _ _ h => h) (Or.inl ⟨by rfl, ?_⟩) hS0 ?_
      rotate_left
      · intro W hSW; have hx4 : W.cell? ⟨gr, 4, none⟩ = some (.bool d.off) := (hSW.cell (p := ⟨gr, 4, none⟩) ZR.out).trans J4.out; have hx5 : W.cell? ⟨gr, 5, none⟩ = some (.int .i64 d.wr) := (hSW.cell (p := ⟨gr, 5, none⟩) ZR.out).trans J5.out; go_simp; try with_reducible rfl
      try simp only [Act.put, List.getElem_toArray, List.getElem_cons_zero, List.getElem_cons_succ, List.setIfInBounds_toArray, List.set_cons_zero, List.set_cons_succ]
      refine wpAnyH_ready (rs := [1]) (by kernel_rfl) (by simp) ?_
      refine AllReadyH.cons rfl (fun K hK => ?_) AllReadyH.nil
      go_simp
      refine (down_any gs d w5.drew (HSX.out.later (Below.drew (Below.refl _ _)))).mono ?_
      rintro e wd ⟨rfl, rfl⟩
      go_simp
      refine hK.out _ _ (hS0) (fun hS1 => ?_)
      clear hK K
      try simp only [Act.put, List.getElem_toArray, List.getElem_cons_zero, List.getElem_cons_succ, List.setIfInBounds_toArray, List.set_cons_zero, List.set_cons_succ]
      refine wpAnyH_take (i := 6) (v := ?_) rfl (by kernel_rfl) (by kernel_rfl) (by kernel_rfl) (fun _ _ _ h => h) (Or.inl ⟨by rfl, ?_⟩) hS1 ?_
      rotate_left
      · intro W _; go_simp; try with_reducible rfl
      try simp only [Act.put, List.getElem_toArray, List.getElem_cons_zero, List.getElem_cons_succ, List.setIfInBounds_toArray, List.set_cons_zero, List.set_cons_succ]
      refine wpAnyH_take (i := 7) (v := ?_) rfl (by kernel_rfl) (by kernel_rfl) (by kernel_rfl) (fun _ _ _ h => h) (Or.inl ⟨by rfl, ?_⟩) hS1 ?_
      rotate_left
      · intro W _; go_simp; try with_reducible rfl
      try simp only [Act.put, List.getElem_toArray, List.getElem_cons_zero, List.getElem_cons_succ, List.setIfInBounds_toArray, List.set_cons_zero, List.set_cons_succ]
      refine wpAnyH_take (i := 8) (v := ?_) rfl (by kernel_rfl) (by kernel_rfl) (by kernel_rfl) (fun _ _ _ h => h) (Or.inl ⟨by rfl, ?_⟩) hS1 ?_
      rotate_left
      · intro W _; go_simp; try with_reducible rfl
      try simp only [Act.put, List.getElem_toArray, List.getElem_cons_zero, List.getElem_cons_succ, List.setIfInBounds_toArray, List.set_cons_zero, List.set_cons_succ]
      refine wpAnyH_take (i := 10) (v := ?_) rfl (by kernel_rfl) (by kernel_rfl) (by kernel_rfl) (fun _ _ _ h => h) (Or.inl ⟨by rfl, ?_⟩) hS1 ?_
      rotate_left
      · intro W _; go_simp; try with_reducible rfl
      try simp only [Act.put, List.getElem_toArray, List.getElem_cons_zero, List.getElem_cons_succ, List.setIfInBounds_toArray, List.set_cons_zero, List.set_cons_succ]
      refine wpAnyH_take (i := 11) (v := ?_) rfl (by kernel_rfl) (by kernel_rfl) (by kernel_rfl) (fun _ _ _ h => h) (Or.inl ⟨by rfl, ?_⟩) hS1 ?_
      rotate_left
      · intro W _; go_simp; try with_reducible rfl
      try simp only [Act.put, List.getElem_toArray, List.getElem_cons_zero, List.getElem_cons_succ, List.setIfInBounds_toArray, List.set_cons_zero, List.set_cons_succ]
      refine wpAnyH_take (i := 12) (v := ?_) rfl (by kernel_rfl) (by kernel_rfl) (by kernel_rfl) (fun _ _ _ h => h) (Or.inl ⟨by rfl, ?_⟩) hS1 ?_
      rotate_left
      · intro W _; go_simp; try with_reducible rfl
      try simp only [Act.put, List.getElem_toArray, List.getElem_cons_zero, List.getElem_cons_succ, List.setIfInBounds_toArray, List.set_cons_zero, List.set_cons_succ]
      refine wpAnyH_take (i := 13) (v := ?_) rfl (by kernel_rfl) (by kernel_rfl) (by kernel_rfl) (fun _ _ _ h => h) (Or.inl ⟨by rfl, ?_⟩) hS1 ?_
      rotate_left
      · intro W hSW; have hx4 : W.cell? ⟨gr, 4, none⟩ = some (.bool d.off) := (hSW.cell (p := ⟨gr, 4, none⟩) ZR.out).trans J4.out; have hx5 : W.cell? ⟨gr, 5, none⟩ = some (.int .i64 d.wr) := (hSW.cell (p := ⟨gr, 5, none⟩) ZR.out).trans J5.out; go_simp; try with_reducible rfl
      try simp only [Act.put, List.getElem_toArray, List.getElem_cons_zero, List.getElem_cons_succ, List.setIfInBounds_toArray, List.set_cons_zero, List.set_cons_succ]
      refine wpAnyH_ready (rs := [9]) (by kernel_rfl) (by simp) ?_
      refine AllReadyH.cons rfl (fun K hK => ?_) AllReadyH.nil
      go_simp
      refine (writes_any gs d w5.drew (HSX.out.later (Below.drew (Below.refl _ _)))).mono ?_
      rintro e we ⟨rfl, rfl⟩
      go_simp
      refine hK.out _ _ (hS1) (fun hS2 => ?_)
      clear hK K
      try simp only [Act.put, List.getElem_toArray, List.getElem_cons_zero, List.getElem_cons_succ, List.setIfInBounds_toArray, List.set_cons_zero, List.set_cons_succ]
      refine wpAnyH_take (i := 14) (v := ?_) rfl (by kernel_rfl) (by kernel_rfl) (by kernel_rfl) (fun _ _ _ h => h) (Or.inl ⟨by rfl, ?_⟩) hS2 ?_
      rotate_left
      · intro W _; go_simp; try with_reducible rfl
      try simp only [Act.put, List.getElem_toArray, List.getElem_cons_zero, List.getElem_cons_succ, List.setIfInBounds_toArray, List.set_cons_zero, List.set_cons_succ]
      refine wpAnyH_take (i := 15) (v := ?_) rfl (by kernel_rfl) (by kernel_rfl) (by kernel_rfl) (fun _ _ _ h => h) (Or.inl ⟨by rfl, ?_⟩) hS2 ?_
      rotate_left
      · intro W _; go_simp; try with_reducible rfl
      try simp only [Act.put, List.getElem_toArray, List.getElem_cons_zero, List.getElem_cons_succ, List.setIfInBounds_toArray, List.set_cons_zero, List.set_cons_succ]
      refine wpAnyH_done (by kernel_rfl) ?_ _
      have HT2 : Hid (∃ d r, St w5.drew gs d ∧ Rs w5.drew gr gb r ∧ Sim d r ∧ Below w.heap.size w w5.drew) := ⟨d, r, HSX.out.later (Below.drew (Below.refl _ _)), HRX.out.later (Below.drew (Below.refl _ _)), HMX.out, HBX.out.drew⟩
      clear hS0 hS1 hS2 J4 J5 ZR
      go_wp2
      go_roundw
      case rel => exact ⟨k + 1, by omega, by go_num, HT2⟩
      case measure => simp [intOf]; omega
end Go.Proofs.Ytnikhlajlhgikaa

