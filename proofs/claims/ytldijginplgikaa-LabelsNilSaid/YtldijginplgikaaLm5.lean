/- Layer 18: Put of the program's index. Condition: at most 1000 labels. -/
import Derived.Test.YtldijginplgikaaLm4
namespace Go.Proofs.Ytldijginplgikaa
open Go.RowKit
set_option linter.unusedSimpArgs false
set_option linter.unusedVariables false

theorem Pk.put {w wr w' : World} {b g k1 k2 : Nat} {p : Nat → Prop} {D : List NH} {S1 S : List SB} {T1 T : Nat → List ByteArray} {s : ByteArray} {l : List Lb} {h : Hd} (H : Pk w wr b g p k1 k2 D S1 S T1 T s l) (hbw : b ≤ w.heap.size) (hg : wr.grownBy w' (some k1)) (hm : MapG Value.string w' k1 ((D ++ [(s, h)]).map eNH)) (hh : h.Ok wr) (hlow : ∀ k, hdB h = some k → w.heap.size ≤ k ∧ k < wr.heap.size) (hgl : g < w.heap.size) :
    Pk w w' b g p k1 k2 (D ++ [(s, h)]) S1 S T1 T s l := by
  refine ⟨H.xm.more1 rfl hg hm hh (fun e => by have := (hlow g e).1; omega) (fun k hk => ⟨Nat.le_trans hbw (hlow k hk).1, (hlow k hk).2⟩), fun j hj => ?_, H.rel, H.gr.grow hg fun j e hlt => ?_⟩
  · rcases hj with h1 | h1 | h1 | h1 | ⟨q, hq, h1⟩
    · exact H.new j (.inl h1)
    · exact H.new j (.inr (.inl h1))
    · exact H.new j (.inr (.inr (.inl h1)))
    · exact H.new j (.inr (.inr (.inr (.inl h1))))
    · rcases List.mem_append.1 hq with hq | hq
      · exact H.new j (.inr (.inr (.inr (.inr ⟨q, hq, h1⟩))))
      · rw [List.mem_singleton.1 hq] at h1
        exact .inr (hlow j h1).1
  · injection e with e
    rcases H.new k1 (.inr (.inl rfl)) with h | h
    · rw [← e]; exact h
    · omega
set_option maxHeartbeats 12800000 in
set_option maxRecDepth 100000 in
/-- A name gets labels. -/
theorem put_any (b g : Nat) (o1 o2 : Option Nat) (D : List NH) (S : List SB) (T : Nat → List ByteArray) (s : ByteArray) (A : Option Addr) (n c : Nat) (l : List Lb) (w : World) (hbw : b ≤ w.heap.size) (ho : (⟨A, n, c, l⟩ : Hd).Ok w) (hn : n ≤ 1000) (hbig : (labN D s).n ≤ 1000) (hH : Hid (Xm w b g o1 o2 D S T)) (hap : ∀ W, GrP (XB g o1 o2 D S) w W → (⟨A, n, c, l⟩ : Hd).Ok W) :
    Calls Try.prog 10 #[.pointer (some ⟨g, 0, none⟩), .string s, .slice A n c] w fun e w' => e = .returned (.tuple #[]) ∧ (∃ (k1 k2 : Nat) (h : Hd) (S1 S' : List SB) (T1 T' : Nat → List ByteArray), h.l = l ∧ Xm w' b g (some k1) (some k2) (dropN D s ++ [(s, h)]) S' T' ∧ (∀ lb t, InS S1 T1 lb t ↔ InS S T lb t ∧ ¬ (t = s ∧ lb ∈ (labN D s).l)) ∧ (∀ lb t, InS S' T' lb t ↔ InS S1 T1 lb t ∨ (t = s ∧ lb ∈ l)) ∧ ∀ k, XB g (some k1) (some k2) (dropN D s ++ [(s, h)]) S' k → XB g o1 o2 D S k ∨ w.heap.size ≤ k) ∧ GrP (XB g o1 o2 D S) w w' := by
  have KD := Lib.hid (del_any b g o1 o2 D S T s w hbw hH hbig)
  have KC := Lib.hid (fun (W : World) (h : (⟨A, n, c, l⟩ : Hd).Ok W) => clone_hd ⟨A, n, c, l⟩ W h hn)
  have qT : ∀ (w : World) (r : Option Nat), (binOp .eql 32 (.map r) (.map none)).run Try.prog w = .ok (.bool r.isNone) w := fun w r => run_eql_map_nil w _ _ _ r Try.underlying32
  have qS : ∀ (w : World) (r : Option Nat), (binOp .eql 53 (.map r) (.map none)).run Try.prog w = .ok (.bool r.isNone) w := fun w r => run_eql_map_nil w _ _ _ r Try.underlying53
  have qM := @run_makeMap Try.prog
  have hl : n = l.length := ho.ln
  have HL := Lib.hid hl
  have HBIG := Lib.hid hn
  have HBW := Lib.hid hbw
  have HO := Lib.hid ho
  have HAP := Lib.hid hap
  obtain ⟨P0, hP0⟩ : ∃ P0, P0 = XB g o1 o2 D S := ⟨_, rfl⟩
  have HP0 := Lib.hid hP0
  clear hl hn hbw ho hbig hap
  go_enter Try.func10, Try.ntmps10
  go_wp2_with fail
  refine (KD.out).mono ?_
  rintro e w1 ⟨rfl, ⟨S1, T1, hx1, hsub1, hrel1⟩, hg1⟩
  have HX1 := Lib.hid hx1
  have HREL1 := Lib.hid hrel1
  have HG1 : Hid (GrP P0 w w1) := by rw [HP0.out]; exact hg1
  have HNEW1 : Hid (∀ k, XB g o1 o2 (dropN D s) S1 k → P0 k) := fun k hk => by rw [HP0.out]; exact hk.sub (fun p hp => (dropN_mem.1 hp).1) hsub1
  have HO1 : Hid ((⟨A, n, c, l⟩ : Hd).Ok w1) := HAP.out w1 (by rw [← HP0.out]; exact HG1.out)
  obtain ⟨D1, hD1⟩ : ∃ D1, D1 = dropN D s := ⟨_, rfl⟩
  have hnewD : ∀ p ∈ D1, p.1 ≠ s := fun p hp => by rw [hD1] at hp; exact (dropN_mem.1 hp).2
  have HNEWD := Lib.hid hnewD
  rw [← hD1] at HX1 HNEW1
  have HD1 := Lib.hid hD1
  have c10 : w1.cell? ⟨g, 0, none⟩ = some (.map o1) := HX1.out.bk.cellAt 0
  have c11 : w1.cell? ⟨g, 1, none⟩ = some (.map o2) := HX1.out.bk.cellAt 1
  have f10 : w1.frozen? ⟨g, 0, none⟩ = false := HX1.out.bk.free 0
  have f11 : w1.frozen? ⟨g, 1, none⟩ = false := HX1.out.bk.free 1
  have hgw : g < w1.heap.size := HX1.out.bk.here
  clear hx1 hrel1 hg1 hsub1 hD1 hnewD hP0 KD
  have HGW : Hid (g < w.heap.size) := hH.out.bk.here
  cases o1 with
  | none =>
    have ho2 : o2 = none := HX1.out.both.1 rfl
    subst ho2
    go_wp2_with fail
    obtain ⟨W1, hW1⟩ : ∃ W, W = (w1.setCell ⟨g, 0, none⟩ (.map (some w1.heap.size))).setCell ⟨g, 1, none⟩ (.map (some (w1.heap.size + 1))) := ⟨_, rfl⟩
    obtain ⟨W2, hW2⟩ : ∃ W, W = (W1.alloc (.map #[] 0)).alloc (.map #[] 0) := ⟨_, rfl⟩
    obtain ⟨k1, hk1⟩ : ∃ k, k = w1.heap.size := ⟨_, rfl⟩
    have hs1 : W1.heap.size = k1 := by rw [hW1, hk1]; simp
    rw [← hW1, ← hW2]
    have hB2 : Below W1.heap.size W1 W2 := by rw [hW2]; exact ((Below.refl _ _).alloc (Nat.le_refl _) _).alloc (by simp) _
    have hG1 : GrP (fun k => k = g) w1 W1 := by rw [hW1]; exact GrP.set (p := fun k => k = g) (GrP.set (p := fun k => k = g) (GrP.refl _ _) rfl _) rfl _
    have hbk : Bk W1 g 35 #[.map (some k1), .map (some (k1 + 1))] := by rw [hW1, ← hk1]; exact (HX1.out.bk.put 0 _).put 1 _
    have hm1 : MapG Value.string W2 k1 [] := by
      rw [hW2, ← hs1]
      exact (MapG.made W1).same ((Below.refl _ (W1.alloc (.map #[] 0))).alloc (Nat.le_refl _) (.map #[] 0) |>.block W1.heap.size (by simp))
    have hm2 : MapG encLb W2 (k1 + 1) [] := by
      have := MapG.made (enc := encLb) (W1.alloc (.map #[] 0))
      rw [World.size_alloc, hs1] at this
      rw [hW2]; exact this
    have hwk : w.heap.size ≤ k1 := by rw [hk1]; exact HG1.out.size
    have hX2 : Xm W2 b g (some k1) (some (k1 + 1)) D1 S1 T1 := HX1.out.make (hG1.trans (GrP.ofBelow hB2)) (hbk.later hB2) hm1 hm2 (by omega) (Nat.le_trans HBW.out hwk) (by have := HBW.out; omega)
    obtain ⟨k2, hk2⟩ : ∃ k, k = k1 + 1 := ⟨_, rfl⟩
    rw [← hk2] at hX2
    have HK : Hid (Pk w W2 b g P0 k1 k2 D1 S1 S1 T1 T1 s []) := ⟨hX2, fun k hk => by
      rcases hk with h | h | h | h | h
      · exact .inl (HNEW1.out k (.inl h))
      · injection h with h; right; omega
      · injection h with h; right; omega
      · exact .inl (HNEW1.out k (.inr (.inr (.inr (.inl h)))))
      · exact .inl (HNEW1.out k (.inr (.inr (.inr (.inr h))))), fun lb t => by simp, (HG1.out.trans (hG1.wide fun k _ hk => by rw [hk]; exact HNEW1.out g (.inl rfl))).trans (GrP.ofBelow hB2)⟩
    rw [← hk1, ← hk2]
    clear hW1 hW2 hk1 hs1 hB2 hG1 hbk hm1 hm2 hwk hX2 hk2 c10 c11 f10 f11 hgw
    have HO2 : Hid ((⟨A, n, c, l⟩ : Hd).Ok W2) := HAP.out W2 (by rw [← HP0.out]; exact HK.out.gr)
    have HKD := Lib.hid (HK.out.later (w' := W2.drew) (Below.drew (Below.refl _ _)))
    have HOD : Hid ((⟨A, n, c, l⟩ : Hd).Ok W2.drew) := HO2.out.later (Below.drew (Below.refl _ _))
    clear HK HO2
    refine wp_region_held_drew (S := fun W => W.cell? ⟨g, 0, none⟩ = some (.map (some k1))) (by kernel_rfl) (HKD.out.xm.bk.cellAt 0) (fun hS0 => ?_)
    refine wpAnyH_take (i := 0) (v := ?_) rfl (by kernel_rfl) (by kernel_rfl) (by kernel_rfl) (fun _ _ _ h => h) (Or.inl ⟨by rfl, ?_⟩) hS0 ?_
    rotate_left
    · intro W _; go_simp; try with_reducible rfl
    try simp only [Act.put, List.getElem_toArray, List.getElem_cons_zero, List.setIfInBounds_toArray, List.set_cons_zero, List.set_cons_succ]
    refine wpAnyH_take (i := 1) (v := ?_) rfl (by kernel_rfl) (by kernel_rfl) (by kernel_rfl) (fun _ _ _ h => h) (Or.inl ⟨by rfl, ?_⟩) hS0 ?_
    rotate_left
    · intro W _; go_simp; try with_reducible rfl
    try simp only [Act.put, List.getElem_toArray, List.getElem_cons_zero, List.getElem_cons_succ, List.setIfInBounds_toArray, List.set_cons_zero, List.set_cons_succ]
    refine wpAnyH_take (i := 2) (v := ?_) rfl (by kernel_rfl) (by kernel_rfl) (by kernel_rfl) (fun _ _ _ h => h) (Or.inl ⟨by rfl, ?_⟩) hS0 ?_
    rotate_left
    · intro W _; go_simp; try with_reducible rfl
    try simp only [Act.put, List.getElem_toArray, List.getElem_cons_zero, List.getElem_cons_succ, List.setIfInBounds_toArray, List.set_cons_zero, List.set_cons_succ]
    refine wpAnyH_take (i := 3) (v := ?_) rfl (by kernel_rfl) (by kernel_rfl) (by kernel_rfl) (fun _ _ _ h => h) (Or.inl ⟨by rfl, ?_⟩) hS0 ?_
    rotate_left
    · intro W hSW; have hx := hSW; go_simp; try with_reducible rfl
    try simp only [Act.put, List.getElem_toArray, List.getElem_cons_zero, List.getElem_cons_succ, List.setIfInBounds_toArray, List.set_cons_zero, List.set_cons_succ]
    refine wpAnyH_take (i := 4) (v := ?_) rfl (by kernel_rfl) (by kernel_rfl) (by kernel_rfl) (fun _ _ _ h => h) (Or.inl ⟨by rfl, ?_⟩) hS0 ?_
    rotate_left
    · intro W _; go_simp; try with_reducible rfl
    try simp only [Act.put, List.getElem_toArray, List.getElem_cons_zero, List.getElem_cons_succ, List.setIfInBounds_toArray, List.set_cons_zero, List.set_cons_succ]
    refine wpAnyH_take (i := 5) (v := ?_) rfl (by kernel_rfl) (by kernel_rfl) (by kernel_rfl) (fun _ _ _ h => h) (Or.inl ⟨by rfl, ?_⟩) hS0 ?_
    rotate_left
    · intro W _; go_simp; try with_reducible rfl
    try simp only [Act.put, List.getElem_toArray, List.getElem_cons_zero, List.getElem_cons_succ, List.setIfInBounds_toArray, List.set_cons_zero, List.set_cons_succ]
    refine wpAnyH_ready (rs := [6]) (by kernel_rfl) (by simp) ?_
    refine AllReadyH.cons rfl (fun K hK => ?_) AllReadyH.nil
    go_simp
    refine (KC.out _ HOD.out).mono ?_
    rintro e w4 ⟨⟨A4, n4, c4, rfl, ho4, hb4⟩, hbe4⟩
    have HK4 := Lib.hid (HKD.out.later hbe4)
    have HO4 := Lib.hid ho4
    have HB4 := Lib.hid hb4
    have HS4 : Hid (w.heap.size ≤ W2.drew.heap.size) := HKD.out.gr.size
    clear ho4 hb4 hbe4
    go_simp
    refine hK.out _ _ (HK4.out.xm.bk.cellAt 0) (fun hS1 => ?_)
    clear hK K
    try simp only [Act.put, List.getElem_toArray, List.getElem_cons_zero, List.getElem_cons_succ, List.setIfInBounds_toArray, List.set_cons_zero, List.set_cons_succ]
    refine wpAnyH_ready (rs := [7]) (by kernel_rfl) (by simp) ?_
    refine AllReadyH.cons rfl (fun K hK => ?_) AllReadyH.nil
    refine store_g_op _ _ _ 32 rfl 9 36 Try.underlying32 keyS k1 rfl (HK4.out.xm.mp1.at rfl) s rfl (.slice A4 n4 c4) rfl ?_
    intro w5 hm5 hg5 hs5
    rw [putG_new _ (getG_none.2 fun p hp e => by obtain ⟨q, hq, rfl⟩ := List.mem_map.1 hp; exact HNEWD.out q hq e)] at hm5
    have HK5 : Hid (Pk w w5 b g P0 k1 k2 (D1 ++ [(s, ⟨A4, n4, c4, l⟩)]) S1 S1 T1 T1 s []) := HK4.out.put HBW.out hg5 (by rw [List.map_append]; exact hm5) HO4.out (fun k hk => ⟨Nat.le_trans HS4.out (HB4.out k hk).1, (HB4.out k hk).2⟩) HGW.out
    clear hm5 hg5 hs5
    refine hK.out _ _ (HK5.out.xm.bk.cellAt 0) (fun hS2 => ?_)
    clear hK K
    try simp only [Act.put, List.getElem_toArray, List.getElem_cons_zero, List.getElem_cons_succ, List.setIfInBounds_toArray, List.set_cons_zero, List.set_cons_succ]
    refine wpAnyH_done (by kernel_rfl) ?_ _
    clear hS0 hS1 hS2
    obtain ⟨D2, hD2⟩ : ∃ D2, D2 = D1 ++ [(s, ⟨A4, n4, c4, l⟩)] := ⟨_, rfl⟩
    rw [← hD2] at HK5
    have HD2 := Lib.hid hD2
    clear hD2 HK4 HO4 HB4 HS4 HKD HOD KC
    go_wp2_with fail
    go_loopw [35] (fun s35 wr => ∃ (k : Nat) (S' : List SB) (T' : Nat → List ByteArray), k ≤ n ∧ s35 = .int .i64 k ∧ Hid (Pk w wr b g P0 k1 k2 D2 S1 S' T1 T' s (l.take k))) (fun s35 wr => n - (intOf s35).toNat)
    case atStart => exact ⟨0, S1, T1, Nat.zero_le _, rfl, by rw [List.take_zero]; exact HK5⟩
    case round =>
      clear HK5
      obtain ⟨k, S2, T2, hk, rfl, H⟩ := hrel
      by_cases hlt : k < n
      · have hkl : Hid (k < l.length) := by show k < l.length; rw [← HL.out]; exact hlt
        have hrd : RdL wr A l := (HAP.out wr (by rw [← HP0.out]; exact H.out.gr)).rd
        obtain ⟨g0, o0, rfl, hg0, c1, c2⟩ := hrd.at hkl.out
        obtain ⟨⟨x1, x2⟩, ex⟩ : ∃ x, x = l[k]'hkl.out := ⟨_, rfl⟩
        have HX := Lib.hid ex
        rw [← ex] at c1 c2
        have hwk : wrap64 ((k : Int) + 1) = ((k + 1 : Nat) : Int) := by have := HBIG.out; unfold wrap64; omega
        obtain ⟨w4, hw4⟩ : ∃ W, W = wr.alloc (.cells #[.string x1, .string x2] 48) := ⟨_, rfl⟩
        obtain ⟨p, hp⟩ : ∃ p, p = wr.heap.size := ⟨_, rfl⟩
        have hba : Below wr.heap.size wr w4 := by rw [hw4]; exact (Below.refl _ _).alloc (Nat.le_refl _) _
        have HPD : Hid (Bk w4.drew p 48 #[.string x1, .string x2]) := by rw [hw4, hp]; exact Bk.fresh _ _ _
        have HD1 := Lib.hid ((H.out.later hba).later (w' := w4.drew) (Below.drew (Below.refl _ _)))
        have HPL : Hid (¬ XB g (some k1) (some k2) D2 S2 p) := fun hk => by have := H.out.xm.lt p hk; rw [hp] at this; omega
        clear ex hrd hg0 hba H
        go_wp2_with fail
        rw [← hw4, ← hp]
        have HPS : Hid (p < w4.drew.drew.heap.size) := HPD.out.here
        clear hw4 hp c1 c2
        cases hf : fS S2 (x1, x2) with
        | none =>
          have HF := Lib.hid hf
          clear hf
          refine wp_region_held_drew (S := fun W => W.cell? ⟨g, 1, none⟩ = some (.map (some k2)) ∧ Bk W p 48 #[.string x1, .string x2] ∧ MapH encLb W (.map (some k2)) (S2.map eSB)) (by kernel_rfl) (⟨HD1.out.xm.bk.cellAt 1, HPD.out, HD1.out.xm.mp2⟩) (fun hS0 => ?_)
          refine wpAnyH_take (i := 0) (v := ?_) rfl (by kernel_rfl) (by kernel_rfl) (by kernel_rfl) (fun _ _ _ h => h) (Or.inl ⟨by rfl, ?_⟩) hS0 ?_
          rotate_left
          · intro W _; go_simp; try with_reducible rfl
          try simp only [Act.put, List.getElem_toArray, List.getElem_cons_zero, List.setIfInBounds_toArray, List.set_cons_zero, List.set_cons_succ]
          refine wpAnyH_take (i := 1) (v := ?_) rfl (by kernel_rfl) (by kernel_rfl) (by kernel_rfl) (fun _ _ _ h => h) (Or.inl ⟨by rfl, ?_⟩) hS0 ?_
          rotate_left
          · intro W _; go_simp; try with_reducible rfl
          try simp only [Act.put, List.getElem_toArray, List.getElem_cons_zero, List.getElem_cons_succ, List.setIfInBounds_toArray, List.set_cons_zero, List.set_cons_succ]
          refine wpAnyH_take (i := 2) (v := ?_) rfl (by kernel_rfl) (by kernel_rfl) (by kernel_rfl) (fun _ _ _ h => h) (Or.inl ⟨by rfl, ?_⟩) hS0 ?_
          rotate_left
          · intro W _; go_simp; try with_reducible rfl
          try simp only [Act.put, List.getElem_toArray, List.getElem_cons_zero, List.getElem_cons_succ, List.setIfInBounds_toArray, List.set_cons_zero, List.set_cons_succ]
          refine wpAnyH_take (i := 3) (v := ?_) rfl (by kernel_rfl) (by kernel_rfl) (by kernel_rfl) (fun _ _ _ h => h) (Or.inl ⟨by rfl, ?_⟩) hS0 ?_
          rotate_left
          · intro W hSW; have hx := hSW.1; go_simp; try with_reducible rfl
          try simp only [Act.put, List.getElem_toArray, List.getElem_cons_zero, List.getElem_cons_succ, List.setIfInBounds_toArray, List.set_cons_zero, List.set_cons_succ]
          refine wpAnyH_take (i := 4) (v := .agg #[.string x1, .string x2]) rfl (by kernel_rfl) (by kernel_rfl) (by kernel_rfl) (fun _ _ _ h => h) (yields_bk (by rfl) 48 _ rfl p 0 rfl 48 #[.string x1, .string x2] #[.string x1, .string x2] _ (fun W hW => hW.2.1) (Part.whole _) Try.underlying48 rfl (by kernel_rfl)) hS0 ?_
          try simp only [Act.put, List.getElem_toArray, List.getElem_cons_zero, List.getElem_cons_succ, List.setIfInBounds_toArray, List.set_cons_zero, List.set_cons_succ]
          refine wpAnyH_take (i := 5) (v := ?_) rfl (by kernel_rfl) (by kernel_rfl) (by kernel_rfl) (fun _ _ _ h => h) (Or.inl ⟨by rfl, ?_⟩) hS0 ?_
          rotate_left
          · intro W hSW; have hx : (Instr.lookup 33 (.map (some k2)) (.agg #[.string x1, .string x2]) false).run Try.prog W = .ok (.map none) W := look1_run (s := (x1, x2)) Try.underlying33 keyLb (zeroSE _) hSW.2.2 (by rw [getG_SB, HF.out]); go_simp; try with_reducible rfl
          try simp only [Act.put, List.getElem_toArray, List.getElem_cons_zero, List.getElem_cons_succ, List.setIfInBounds_toArray, List.set_cons_zero, List.set_cons_succ]
          refine wpAnyH_take (i := 6) (v := ?_) rfl (by kernel_rfl) (by kernel_rfl) (by kernel_rfl) (fun _ _ _ h => h) (Or.inl ⟨by rfl, ?_⟩) hS0 ?_
          rotate_left
          · intro W _; go_simp; try with_reducible rfl
          try simp only [Act.put, List.getElem_toArray, List.getElem_cons_zero, List.getElem_cons_succ, List.setIfInBounds_toArray, List.set_cons_zero, List.set_cons_succ]
          refine wpAnyH_done (by kernel_rfl) ?_ _
          clear hS0
          have HD2a := Lib.hid (HD1.out.later (w' := w4.drew.drew) (Below.drew (Below.refl _ _)))
          have HPE : Hid (Bk w4.drew.drew p 48 #[.string x1, .string x2]) := HPD.out.drewB
          clear HD1 HPD
          go_wp2_with fail
          refine wp_region_held_drew (S := fun W => W.cell? ⟨g, 1, none⟩ = some (.map (some k2)) ∧ Bk W p 48 #[.string x1, .string x2]) (by kernel_rfl) (⟨HD2a.out.xm.bk.cellAt 1, HPE.out⟩) (fun hS0 => ?_)
          refine wpAnyH_take (i := 0) (v := ?_) rfl (by kernel_rfl) (by kernel_rfl) (by kernel_rfl) (fun _ _ _ h => h) (Or.inl ⟨by rfl, ?_⟩) hS0 ?_
          rotate_left
          · intro W _; go_simp; try with_reducible rfl
          try simp only [Act.put, List.getElem_toArray, List.getElem_cons_zero, List.setIfInBounds_toArray, List.set_cons_zero, List.set_cons_succ]
          refine wpAnyH_take (i := 1) (v := ?_) rfl (by kernel_rfl) (by kernel_rfl) (by kernel_rfl) (fun _ _ _ h => h) (Or.inl ⟨by rfl, ?_⟩) hS0 ?_
          rotate_left
          · intro W _; go_simp; try with_reducible rfl
          try simp only [Act.put, List.getElem_toArray, List.getElem_cons_zero, List.getElem_cons_succ, List.setIfInBounds_toArray, List.set_cons_zero, List.set_cons_succ]
          refine wpAnyH_take (i := 2) (v := ?_) rfl (by kernel_rfl) (by kernel_rfl) (by kernel_rfl) (fun _ _ _ h => h) (Or.inl ⟨by rfl, ?_⟩) hS0 ?_
          rotate_left
          · intro W _; go_simp; try with_reducible rfl
          try simp only [Act.put, List.getElem_toArray, List.getElem_cons_zero, List.getElem_cons_succ, List.setIfInBounds_toArray, List.set_cons_zero, List.set_cons_succ]
          refine wpAnyH_take (i := 3) (v := ?_) rfl (by kernel_rfl) (by kernel_rfl) (by kernel_rfl) (fun _ _ _ h => h) (Or.inl ⟨by rfl, ?_⟩) hS0 ?_
          rotate_left
          · intro W hSW; have hx := hSW.1; go_simp; try with_reducible rfl
          try simp only [Act.put, List.getElem_toArray, List.getElem_cons_zero, List.getElem_cons_succ, List.setIfInBounds_toArray, List.set_cons_zero, List.set_cons_succ]
          refine wpAnyH_take (i := 4) (v := .agg #[.string x1, .string x2]) rfl (by kernel_rfl) (by kernel_rfl) (by kernel_rfl) (fun _ _ _ h => h) (yields_bk (by rfl) 48 _ rfl p 0 rfl 48 #[.string x1, .string x2] #[.string x1, .string x2] _ (fun W hW => hW.2) (Part.whole _) Try.underlying48 rfl (by kernel_rfl)) hS0 ?_
          try simp only [Act.put, List.getElem_toArray, List.getElem_cons_zero, List.getElem_cons_succ, List.setIfInBounds_toArray, List.set_cons_zero, List.set_cons_succ]
          refine wpAnyH_ready (rs := [5]) (by kernel_rfl) (by simp) ?_
          refine AllReadyH.cons rfl (fun K hK => ?_) AllReadyH.nil
          go_simp
          have hb6 : Below w4.drew.drew.heap.size w4.drew.drew (w4.drew.drew.alloc (.map #[] 0)) := (Below.refl _ _).alloc (Nat.le_refl _) _
          refine hK.out _ _ (⟨(HD2a.out.later hb6).xm.bk.cellAt 1, HPE.out.later hb6⟩) (fun hS1 => ?_)
          clear hK K
          try simp only [Act.put, List.getElem_toArray, List.getElem_cons_zero, List.getElem_cons_succ, List.setIfInBounds_toArray, List.set_cons_zero, List.set_cons_succ]
          refine wpAnyH_ready (rs := [6]) (by kernel_rfl) (by simp) ?_
          refine AllReadyH.cons rfl (fun K hK => ?_) AllReadyH.nil
          refine store_g_op _ _ _ 33 rfl 48 53 Try.underlying33 keyLb k2 rfl ((HD2a.out.later hb6).xm.mp2.at rfl) (x1, x2) rfl (.map (some w4.drew.drew.heap.size)) rfl ?_
          intro w7 hm7 hg7 hs7
          rw [putG_new _ (getG_SB0 HF.out)] at hm7
          have HK7 := Lib.hid (HD2a.out.more (lb := (x1, x2)) HBW.out hb6 (Nat.le_refl _) (MapG.made _) hg7 (by rw [List.map_append]; exact hm7))
          have HP7 : Hid (Bk w7 p 48 #[.string x1, .string x2]) := (HPE.out.later hb6).stays hg7 fun e => HPL.out (.inr (.inr (.inl e.symm)))
          clear hm7 hg7 hs7
          refine hK.out _ _ (⟨HK7.out.xm.bk.cellAt 1, HP7.out⟩) (fun hS2 => ?_)
          clear hK K
          try simp only [Act.put, List.getElem_toArray, List.getElem_cons_zero, List.getElem_cons_succ, List.setIfInBounds_toArray, List.set_cons_zero, List.set_cons_succ]
          refine wpAnyH_done (by kernel_rfl) ?_ _
          clear hS0 hS1 hS2 hb6
          obtain ⟨kk, hkk⟩ : ∃ kk, kk = w4.drew.drew.heap.size := ⟨_, rfl⟩
          rw [← hkk] at HK7
          obtain ⟨S3, hS3⟩ : ∃ S3, S3 = S2 ++ [((x1, x2), kk)] := ⟨_, rfl⟩
          obtain ⟨T3, hT3⟩ : ∃ T3, T3 = setT T2 (some kk) [] := ⟨_, rfl⟩
          rw [← hS3, ← hT3] at HK7
          have HF3 : Hid (fS S3 (x1, x2) = some kk) := by show _ = _; rw [hS3]; exact fS_app HF.out
          have HPL3 : Hid (¬ XB g (some k1) (some k2) D2 S3 p) := fun hk => by
            rw [hS3] at hk
            rcases hk with h | h | h | ⟨q, hq, h⟩ | h
            · exact HPL.out (.inl h)
            · exact HPL.out (.inr (.inl h))
            · exact HPL.out (.inr (.inr (.inl h)))
            · rcases List.mem_append.1 hq with hq | hq
              · exact HPL.out (.inr (.inr (.inr (.inl ⟨q, hq, h⟩))))
              · rw [List.mem_singleton.1 hq] at h
                have h2 : kk = p := h
                have := HPS.out; omega
            · exact HPL.out (.inr (.inr (.inr (.inr h))))
          clear hS3 hT3 hkk HD2a HPE HF HPS
          have HD3 := Lib.hid (HK7.out.later (w' := w7.drew) (Below.drew (Below.refl _ _)))
          have HPF : Hid (Bk w7.drew p 48 #[.string x1, .string x2]) := HP7.out.drewB
          clear HK7 HP7
          clear HPL
          go_wp2_with fail
          refine wp_region_held_drew (S := fun W => W.cell? ⟨g, 1, none⟩ = some (.map (some k2)) ∧ Bk W p 48 #[.string x1, .string x2] ∧ MapH encLb W (.map (some k2)) (S3.map eSB)) (by kernel_rfl) (⟨HD3.out.xm.bk.cellAt 1, HPF.out, HD3.out.xm.mp2⟩) (fun hS0 => ?_)
          refine wpAnyH_take (i := 0) (v := ?_) rfl (by kernel_rfl) (by kernel_rfl) (by kernel_rfl) (fun _ _ _ h => h) (Or.inl ⟨by rfl, ?_⟩) hS0 ?_
          rotate_left
          · intro W _; go_simp; try with_reducible rfl
          try simp only [Act.put, List.getElem_toArray, List.getElem_cons_zero, List.setIfInBounds_toArray, List.set_cons_zero, List.set_cons_succ]
          refine wpAnyH_take (i := 1) (v := ?_) rfl (by kernel_rfl) (by kernel_rfl) (by kernel_rfl) (fun _ _ _ h => h) (Or.inl ⟨by rfl, ?_⟩) hS0 ?_
          rotate_left
          · intro W _; go_simp; try with_reducible rfl
          try simp only [Act.put, List.getElem_toArray, List.getElem_cons_zero, List.getElem_cons_succ, List.setIfInBounds_toArray, List.set_cons_zero, List.set_cons_succ]
          refine wpAnyH_take (i := 2) (v := ?_) rfl (by kernel_rfl) (by kernel_rfl) (by kernel_rfl) (fun _ _ _ h => h) (Or.inl ⟨by rfl, ?_⟩) hS0 ?_
          rotate_left
          · intro W _; go_simp; try with_reducible rfl
          try simp only [Act.put, List.getElem_toArray, List.getElem_cons_zero, List.getElem_cons_succ, List.setIfInBounds_toArray, List.set_cons_zero, List.set_cons_succ]
          refine wpAnyH_take (i := 3) (v := ?_) rfl (by kernel_rfl) (by kernel_rfl) (by kernel_rfl) (fun _ _ _ h => h) (Or.inl ⟨by rfl, ?_⟩) hS0 ?_
          rotate_left
          · intro W hSW; have hx := hSW.1; go_simp; try with_reducible rfl
          try simp only [Act.put, List.getElem_toArray, List.getElem_cons_zero, List.getElem_cons_succ, List.setIfInBounds_toArray, List.set_cons_zero, List.set_cons_succ]
          refine wpAnyH_take (i := 4) (v := .agg #[.string x1, .string x2]) rfl (by kernel_rfl) (by kernel_rfl) (by kernel_rfl) (fun _ _ _ h => h) (yields_bk (by rfl) 48 _ rfl p 0 rfl 48 #[.string x1, .string x2] #[.string x1, .string x2] _ (fun W hW => hW.2.1) (Part.whole _) Try.underlying48 rfl (by kernel_rfl)) hS0 ?_
          try simp only [Act.put, List.getElem_toArray, List.getElem_cons_zero, List.getElem_cons_succ, List.setIfInBounds_toArray, List.set_cons_zero, List.set_cons_succ]
          refine wpAnyH_take (i := 5) (v := ?_) rfl (by kernel_rfl) (by kernel_rfl) (by kernel_rfl) (fun _ _ _ h => h) (Or.inl ⟨by rfl, ?_⟩) hS0 ?_
          rotate_left
          · intro W hSW; have hx : (Instr.lookup 33 (.map (some k2)) (.agg #[.string x1, .string x2]) false).run Try.prog W = .ok (.map (some kk)) W := look1_run (s := (x1, x2)) Try.underlying33 keyLb (zeroSE _) hSW.2.2 (by rw [getG_SB, HF3.out]); go_simp; try with_reducible rfl
          try simp only [Act.put, List.getElem_toArray, List.getElem_cons_zero, List.getElem_cons_succ, List.setIfInBounds_toArray, List.set_cons_zero, List.set_cons_succ]
          refine wpAnyH_take (i := 6) (v := ?_) rfl (by kernel_rfl) (by kernel_rfl) (by kernel_rfl) (fun _ _ _ h => h) (Or.inl ⟨by rfl, ?_⟩) hS0 ?_
          rotate_left
          · intro W _; go_simp; try with_reducible rfl
          try simp only [Act.put, List.getElem_toArray, List.getElem_cons_zero, List.getElem_cons_succ, List.setIfInBounds_toArray, List.set_cons_zero, List.set_cons_succ]
          refine wpAnyH_take (i := 7) (v := ?_) rfl (by kernel_rfl) (by kernel_rfl) (by kernel_rfl) (fun _ _ _ h => h) (Or.inl ⟨by rfl, ?_⟩) hS0 ?_
          rotate_left
          · intro W _; go_simp; try with_reducible rfl
          try simp only [Act.put, List.getElem_toArray, List.getElem_cons_zero, List.getElem_cons_succ, List.setIfInBounds_toArray, List.set_cons_zero, List.set_cons_succ]
          refine wpAnyH_ready (rs := [8]) (by kernel_rfl) (by simp) ?_
          refine AllReadyH.cons rfl (fun K hK => ?_) AllReadyH.nil
          refine store_g_op _ _ _ 53 rfl 9 _ Try.underlying53 keyS kk rfl (HD3.out.xm.st _ (fS_mem HF3.out)) s rfl (.agg #[]) rfl ?_
          intro w9 hm9 hg9 hs9
          rw [putG_Nm] at hm9
          have HK9 := Lib.hid (HD3.out.add HF3.out hg9 hm9)
          have HP9 : Hid (Bk w9 p 48 #[.string x1, .string x2]) := HPF.out.stays hg9 fun e => HPL3.out (fS_blk (HF3.out.trans e.symm))
          clear hm9 hg9 hs9
          refine hK.out _ _ (⟨HK9.out.xm.bk.cellAt 1, HP9.out, HK9.out.xm.mp2⟩) (fun hS1 => ?_)
          clear hK K
          try simp only [Act.put, List.getElem_toArray, List.getElem_cons_zero, List.getElem_cons_succ, List.setIfInBounds_toArray, List.set_cons_zero, List.set_cons_succ]
          refine wpAnyH_done (by kernel_rfl) ?_ _
          clear hS0 hS1
          have HTK : Hid (l.take (k + 1) = l.take k ++ [(x1, x2)]) := by show _ = _; rw [List.take_succ_eq_append_getElem hkl.out, ← HX.out]
          obtain ⟨T4, hT4⟩ : ∃ T4, T4 = setT T3 (fS S3 (x1, x2)) (addT (T3 kk) s) := ⟨_, rfl⟩
          have HR : Hid (Pk w w9 b g P0 k1 k2 D2 S1 S3 T1 T4 s (l.take (k + 1))) := by show Pk _ _ _ _ _ _ _ _ _ _ _ _ _ _; rw [HTK.out, hT4]; exact HK9.out
          clear hT4 HTK HK9 HP9 HF3 HD3 HPF
          go_wp2_with fail
          go_round
          case rel => exact ⟨k + 1, S3, T4, by omega, by go_num, HR⟩
          case measure =>
            rw [hwk]
            show n - ((k + 1 : Nat) : Int).toNat < n - ((k : Nat) : Int).toNat
            rw [Int.toNat_natCast, Int.toNat_natCast]; omega
        | some kk =>
          have HF := Lib.hid hf
          clear hf
          refine wp_region_held_drew (S := fun W => W.cell? ⟨g, 1, none⟩ = some (.map (some k2)) ∧ Bk W p 48 #[.string x1, .string x2] ∧ MapH encLb W (.map (some k2)) (S2.map eSB)) (by kernel_rfl) (⟨HD1.out.xm.bk.cellAt 1, HPD.out, HD1.out.xm.mp2⟩) (fun hS0 => ?_)
          refine wpAnyH_take (i := 0) (v := ?_) rfl (by kernel_rfl) (by kernel_rfl) (by kernel_rfl) (fun _ _ _ h => h) (Or.inl ⟨by rfl, ?_⟩) hS0 ?_
          rotate_left
          · intro W _; go_simp; try with_reducible rfl
          try simp only [Act.put, List.getElem_toArray, List.getElem_cons_zero, List.setIfInBounds_toArray, List.set_cons_zero, List.set_cons_succ]
          refine wpAnyH_take (i := 1) (v := ?_) rfl (by kernel_rfl) (by kernel_rfl) (by kernel_rfl) (fun _ _ _ h => h) (Or.inl ⟨by rfl, ?_⟩) hS0 ?_
          rotate_left
          · intro W _; go_simp; try with_reducible rfl
          try simp only [Act.put, List.getElem_toArray, List.getElem_cons_zero, List.getElem_cons_succ, List.setIfInBounds_toArray, List.set_cons_zero, List.set_cons_succ]
          refine wpAnyH_take (i := 2) (v := ?_) rfl (by kernel_rfl) (by kernel_rfl) (by kernel_rfl) (fun _ _ _ h => h) (Or.inl ⟨by rfl, ?_⟩) hS0 ?_
          rotate_left
          · intro W _; go_simp; try with_reducible rfl
          try simp only [Act.put, List.getElem_toArray, List.getElem_cons_zero, List.getElem_cons_succ, List.setIfInBounds_toArray, List.set_cons_zero, List.set_cons_succ]
          refine wpAnyH_take (i := 3) (v := ?_) rfl (by kernel_rfl) (by kernel_rfl) (by kernel_rfl) (fun _ _ _ h => h) (Or.inl ⟨by rfl, ?_⟩) hS0 ?_
          rotate_left
          · intro W hSW; have hx := hSW.1; go_simp; try with_reducible rfl
          try simp only [Act.put, List.getElem_toArray, List.getElem_cons_zero, List.getElem_cons_succ, List.setIfInBounds_toArray, List.set_cons_zero, List.set_cons_succ]
          refine wpAnyH_take (i := 4) (v := .agg #[.string x1, .string x2]) rfl (by kernel_rfl) (by kernel_rfl) (by kernel_rfl) (fun _ _ _ h => h) (yields_bk (by rfl) 48 _ rfl p 0 rfl 48 #[.string x1, .string x2] #[.string x1, .string x2] _ (fun W hW => hW.2.1) (Part.whole _) Try.underlying48 rfl (by kernel_rfl)) hS0 ?_
          try simp only [Act.put, List.getElem_toArray, List.getElem_cons_zero, List.getElem_cons_succ, List.setIfInBounds_toArray, List.set_cons_zero, List.set_cons_succ]
          refine wpAnyH_take (i := 5) (v := ?_) rfl (by kernel_rfl) (by kernel_rfl) (by kernel_rfl) (fun _ _ _ h => h) (Or.inl ⟨by rfl, ?_⟩) hS0 ?_
          rotate_left
          · intro W hSW; have hx : (Instr.lookup 33 (.map (some k2)) (.agg #[.string x1, .string x2]) false).run Try.prog W = .ok (.map (some kk)) W := look1_run (s := (x1, x2)) Try.underlying33 keyLb (zeroSE _) hSW.2.2 (by rw [getG_SB, HF.out]); go_simp; try with_reducible rfl
          try simp only [Act.put, List.getElem_toArray, List.getElem_cons_zero, List.getElem_cons_succ, List.setIfInBounds_toArray, List.set_cons_zero, List.set_cons_succ]
          refine wpAnyH_take (i := 6) (v := ?_) rfl (by kernel_rfl) (by kernel_rfl) (by kernel_rfl) (fun _ _ _ h => h) (Or.inl ⟨by rfl, ?_⟩) hS0 ?_
          rotate_left
          · intro W _; go_simp; try with_reducible rfl
          try simp only [Act.put, List.getElem_toArray, List.getElem_cons_zero, List.getElem_cons_succ, List.setIfInBounds_toArray, List.set_cons_zero, List.set_cons_succ]
          refine wpAnyH_done (by kernel_rfl) ?_ _
          clear hS0
          have HD3 := Lib.hid (HD1.out.later (w' := w4.drew.drew) (Below.drew (Below.refl _ _)))
          have HPF : Hid (Bk w4.drew.drew p 48 #[.string x1, .string x2]) := HPD.out.drewB
          obtain ⟨S3, hS3⟩ : ∃ S3, S3 = S2 := ⟨_, rfl⟩
          obtain ⟨T3, hT3⟩ : ∃ T3, T3 = T2 := ⟨_, rfl⟩
          rw [← hS3, ← hT3] at HD3
          have HF3 : Hid (fS S3 (x1, x2) = some kk) := by show _ = _; rw [hS3]; exact HF.out
          have HPL3 : Hid (¬ XB g (some k1) (some k2) D2 S3 p) := by rw [hS3]; exact HPL
          clear hS3 hT3 HD1 HPD HF HPS
          clear HPL
          go_wp2_with fail
          refine wp_region_held_drew (S := fun W => W.cell? ⟨g, 1, none⟩ = some (.map (some k2)) ∧ Bk W p 48 #[.string x1, .string x2] ∧ MapH encLb W (.map (some k2)) (S3.map eSB)) (by kernel_rfl) (⟨HD3.out.xm.bk.cellAt 1, HPF.out, HD3.out.xm.mp2⟩) (fun hS0 => ?_)
          refine wpAnyH_take (i := 0) (v := ?_) rfl (by kernel_rfl) (by kernel_rfl) (by kernel_rfl) (fun _ _ _ h => h) (Or.inl ⟨by rfl, ?_⟩) hS0 ?_
          rotate_left
          · intro W _; go_simp; try with_reducible rfl
          try simp only [Act.put, List.getElem_toArray, List.getElem_cons_zero, List.setIfInBounds_toArray, List.set_cons_zero, List.set_cons_succ]
          refine wpAnyH_take (i := 1) (v := ?_) rfl (by kernel_rfl) (by kernel_rfl) (by kernel_rfl) (fun _ _ _ h => h) (Or.inl ⟨by rfl, ?_⟩) hS0 ?_
          rotate_left
          · intro W _; go_simp; try with_reducible rfl
          try simp only [Act.put, List.getElem_toArray, List.getElem_cons_zero, List.getElem_cons_succ, List.setIfInBounds_toArray, List.set_cons_zero, List.set_cons_succ]
          refine wpAnyH_take (i := 2) (v := ?_) rfl (by kernel_rfl) (by kernel_rfl) (by kernel_rfl) (fun _ _ _ h => h) (Or.inl ⟨by rfl, ?_⟩) hS0 ?_
          rotate_left
          · intro W _; go_simp; try with_reducible rfl
          try simp only [Act.put, List.getElem_toArray, List.getElem_cons_zero, List.getElem_cons_succ, List.setIfInBounds_toArray, List.set_cons_zero, List.set_cons_succ]
          refine wpAnyH_take (i := 3) (v := ?_) rfl (by kernel_rfl) (by kernel_rfl) (by kernel_rfl) (fun _ _ _ h => h) (Or.inl ⟨by rfl, ?_⟩) hS0 ?_
          rotate_left
          · intro W hSW; have hx := hSW.1; go_simp; try with_reducible rfl
          try simp only [Act.put, List.getElem_toArray, List.getElem_cons_zero, List.getElem_cons_succ, List.setIfInBounds_toArray, List.set_cons_zero, List.set_cons_succ]
          refine wpAnyH_take (i := 4) (v := .agg #[.string x1, .string x2]) rfl (by kernel_rfl) (by kernel_rfl) (by kernel_rfl) (fun _ _ _ h => h) (yields_bk (by rfl) 48 _ rfl p 0 rfl 48 #[.string x1, .string x2] #[.string x1, .string x2] _ (fun W hW => hW.2.1) (Part.whole _) Try.underlying48 rfl (by kernel_rfl)) hS0 ?_
          try simp only [Act.put, List.getElem_toArray, List.getElem_cons_zero, List.getElem_cons_succ, List.setIfInBounds_toArray, List.set_cons_zero, List.set_cons_succ]
          refine wpAnyH_take (i := 5) (v := ?_) rfl (by kernel_rfl) (by kernel_rfl) (by kernel_rfl) (fun _ _ _ h => h) (Or.inl ⟨by rfl, ?_⟩) hS0 ?_
          rotate_left
          · intro W hSW; have hx : (Instr.lookup 33 (.map (some k2)) (.agg #[.string x1, .string x2]) false).run Try.prog W = .ok (.map (some kk)) W := look1_run (s := (x1, x2)) Try.underlying33 keyLb (zeroSE _) hSW.2.2 (by rw [getG_SB, HF3.out]); go_simp; try with_reducible rfl
          try simp only [Act.put, List.getElem_toArray, List.getElem_cons_zero, List.getElem_cons_succ, List.setIfInBounds_toArray, List.set_cons_zero, List.set_cons_succ]
          refine wpAnyH_take (i := 6) (v := ?_) rfl (by kernel_rfl) (by kernel_rfl) (by kernel_rfl) (fun _ _ _ h => h) (Or.inl ⟨by rfl, ?_⟩) hS0 ?_
          rotate_left
          · intro W _; go_simp; try with_reducible rfl
          try simp only [Act.put, List.getElem_toArray, List.getElem_cons_zero, List.getElem_cons_succ, List.setIfInBounds_toArray, List.set_cons_zero, List.set_cons_succ]
          refine wpAnyH_take (i := 7) (v := ?_) rfl (by kernel_rfl) (by kernel_rfl) (by kernel_rfl) (fun _ _ _ h => h) (Or.inl ⟨by rfl, ?_⟩) hS0 ?_
          rotate_left
          · intro W _; go_simp; try with_reducible rfl
          try simp only [Act.put, List.getElem_toArray, List.getElem_cons_zero, List.getElem_cons_succ, List.setIfInBounds_toArray, List.set_cons_zero, List.set_cons_succ]
          refine wpAnyH_ready (rs := [8]) (by kernel_rfl) (by simp) ?_
          refine AllReadyH.cons rfl (fun K hK => ?_) AllReadyH.nil
          refine store_g_op _ _ _ 53 rfl 9 _ Try.underlying53 keyS kk rfl (HD3.out.xm.st _ (fS_mem HF3.out)) s rfl (.agg #[]) rfl ?_
          intro w9 hm9 hg9 hs9
          rw [putG_Nm] at hm9
          have HK9 := Lib.hid (HD3.out.add HF3.out hg9 hm9)
          have HP9 : Hid (Bk w9 p 48 #[.string x1, .string x2]) := HPF.out.stays hg9 fun e => HPL3.out (fS_blk (HF3.out.trans e.symm))
          clear hm9 hg9 hs9
          refine hK.out _ _ (⟨HK9.out.xm.bk.cellAt 1, HP9.out, HK9.out.xm.mp2⟩) (fun hS1 => ?_)
          clear hK K
          try simp only [Act.put, List.getElem_toArray, List.getElem_cons_zero, List.getElem_cons_succ, List.setIfInBounds_toArray, List.set_cons_zero, List.set_cons_succ]
          refine wpAnyH_done (by kernel_rfl) ?_ _
          clear hS0 hS1
          have HTK : Hid (l.take (k + 1) = l.take k ++ [(x1, x2)]) := by show _ = _; rw [List.take_succ_eq_append_getElem hkl.out, ← HX.out]
          obtain ⟨T4, hT4⟩ : ∃ T4, T4 = setT T3 (fS S3 (x1, x2)) (addT (T3 kk) s) := ⟨_, rfl⟩
          have HR : Hid (Pk w w9 b g P0 k1 k2 D2 S1 S3 T1 T4 s (l.take (k + 1))) := by show Pk _ _ _ _ _ _ _ _ _ _ _ _ _ _; rw [HTK.out, hT4]; exact HK9.out
          clear hT4 HTK HK9 HP9 HF3 HD3 HPF
          go_wp2_with fail
          go_round
          case rel => exact ⟨k + 1, S3, T4, by omega, by go_num, HR⟩
          case measure =>
            rw [hwk]
            show n - ((k + 1 : Nat) : Int).toNat < n - ((k : Nat) : Int).toNat
            rw [Int.toNat_natCast, Int.toNat_natCast]; omega
      · have hkn : k = n := Nat.le_antisymm hk (Nat.le_of_not_lt hlt)
        subst hkn
        have HTK : Hid (l.take k = l) := List.take_of_length_le (by rw [← HL.out]; exact Nat.le_refl _)
        have HD : Hid (Pk w wr b g P0 k1 k2 D2 S1 S2 T1 T2 s l) := by have := H.out; rw [HTK.out] at this; exact this
        clear H HTK hk
        go_wp2_with fail
        first | go_end0 | refine bodyPost_ret (results_none rfl _ _ _) rfl ?_
        refine ⟨rfl, ⟨k1, k2, ⟨A4, n4, c4, l⟩, S1, S2, T1, T2, rfl, ?_, HREL1.out, HD.out.rel, ?_⟩, ?_⟩
        · rw [← HD1.out, ← HD2.out]; exact HD.out.xm
        · intro k hk
          rw [← HD1.out, ← HD2.out] at hk
          have := HD.out.new k hk
          rw [HP0.out] at this; exact this
        · have := HD.out.gr
          rw [HP0.out] at this; exact this
  | some k1 =>
    cases o2 with
    | none => exact absurd (HX1.out.both.2 rfl) (by simp)
    | some k2 =>
    have HK : Hid (Pk w w1 b g P0 k1 k2 D1 S1 S1 T1 T1 s []) := ⟨HX1.out, fun k hk => .inl (HNEW1.out k hk), fun lb t => by simp, HG1.out⟩
    obtain ⟨W2, hW2⟩ : ∃ W, W = w1 := ⟨_, rfl⟩
    rw [← hW2] at HK
    go_wp2_with fail
    rw [← hW2]
    clear hW2 c10 c11 f10 f11 hgw
    have HO2 : Hid ((⟨A, n, c, l⟩ : Hd).Ok W2) := HAP.out W2 (by rw [← HP0.out]; exact HK.out.gr)
    have HKD := Lib.hid (HK.out.later (w' := W2.drew) (Below.drew (Below.refl _ _)))
    have HOD : Hid ((⟨A, n, c, l⟩ : Hd).Ok W2.drew) := HO2.out.later (Below.drew (Below.refl _ _))
    clear HK HO2
    refine wp_region_held_drew (S := fun W => W.cell? ⟨g, 0, none⟩ = some (.map (some k1))) (by kernel_rfl) (HKD.out.xm.bk.cellAt 0) (fun hS0 => ?_)
    refine wpAnyH_take (i := 0) (v := ?_) rfl (by kernel_rfl) (by kernel_rfl) (by kernel_rfl) (fun _ _ _ h => h) (Or.inl ⟨by rfl, ?_⟩) hS0 ?_
    rotate_left
    · intro W _; go_simp; try with_reducible rfl
    try simp only [Act.put, List.getElem_toArray, List.getElem_cons_zero, List.setIfInBounds_toArray, List.set_cons_zero, List.set_cons_succ]
    refine wpAnyH_take (i := 1) (v := ?_) rfl (by kernel_rfl) (by kernel_rfl) (by kernel_rfl) (fun _ _ _ h => h) (Or.inl ⟨by rfl, ?_⟩) hS0 ?_
    rotate_left
    · intro W _; go_simp; try with_reducible rfl
    try simp only [Act.put, List.getElem_toArray, List.getElem_cons_zero, List.getElem_cons_succ, List.setIfInBounds_toArray, List.set_cons_zero, List.set_cons_succ]
    refine wpAnyH_take (i := 2) (v := ?_) rfl (by kernel_rfl) (by kernel_rfl) (by kernel_rfl) (fun _ _ _ h => h) (Or.inl ⟨by rfl, ?_⟩) hS0 ?_
    rotate_left
    · intro W _; go_simp; try with_reducible rfl
    try simp only [Act.put, List.getElem_toArray, List.getElem_cons_zero, List.getElem_cons_succ, List.setIfInBounds_toArray, List.set_cons_zero, List.set_cons_succ]
    refine wpAnyH_take (i := 3) (v := ?_) rfl (by kernel_rfl) (by kernel_rfl) (by kernel_rfl) (fun _ _ _ h => h) (Or.inl ⟨by rfl, ?_⟩) hS0 ?_
    rotate_left
    · intro W hSW; have hx := hSW; go_simp; try with_reducible rfl
    try simp only [Act.put, List.getElem_toArray, List.getElem_cons_zero, List.getElem_cons_succ, List.setIfInBounds_toArray, List.set_cons_zero, List.set_cons_succ]
    refine wpAnyH_take (i := 4) (v := ?_) rfl (by kernel_rfl) (by kernel_rfl) (by kernel_rfl) (fun _ _ _ h => h) (Or.inl ⟨by rfl, ?_⟩) hS0 ?_
    rotate_left
    · intro W _; go_simp; try with_reducible rfl
    try simp only [Act.put, List.getElem_toArray, List.getElem_cons_zero, List.getElem_cons_succ, List.setIfInBounds_toArray, List.set_cons_zero, List.set_cons_succ]
    refine wpAnyH_take (i := 5) (v := ?_) rfl (by kernel_rfl) (by kernel_rfl) (by kernel_rfl) (fun _ _ _ h => h) (Or.inl ⟨by rfl, ?_⟩) hS0 ?_
    rotate_left
    · intro W _; go_simp; try with_reducible rfl
    try simp only [Act.put, List.getElem_toArray, List.getElem_cons_zero, List.getElem_cons_succ, List.setIfInBounds_toArray, List.set_cons_zero, List.set_cons_succ]
    refine wpAnyH_ready (rs := [6]) (by kernel_rfl) (by simp) ?_
    refine AllReadyH.cons rfl (fun K hK => ?_) AllReadyH.nil
    go_simp
    refine (KC.out _ HOD.out).mono ?_
    rintro e w4 ⟨⟨A4, n4, c4, rfl, ho4, hb4⟩, hbe4⟩
    have HK4 := Lib.hid (HKD.out.later hbe4)
    have HO4 := Lib.hid ho4
    have HB4 := Lib.hid hb4
    have HS4 : Hid (w.heap.size ≤ W2.drew.heap.size) := HKD.out.gr.size
    clear ho4 hb4 hbe4
    go_simp
    refine hK.out _ _ (HK4.out.xm.bk.cellAt 0) (fun hS1 => ?_)
    clear hK K
    try simp only [Act.put, List.getElem_toArray, List.getElem_cons_zero, List.getElem_cons_succ, List.setIfInBounds_toArray, List.set_cons_zero, List.set_cons_succ]
    refine wpAnyH_ready (rs := [7]) (by kernel_rfl) (by simp) ?_
    refine AllReadyH.cons rfl (fun K hK => ?_) AllReadyH.nil
    refine store_g_op _ _ _ 32 rfl 9 36 Try.underlying32 keyS k1 rfl (HK4.out.xm.mp1.at rfl) s rfl (.slice A4 n4 c4) rfl ?_
    intro w5 hm5 hg5 hs5
    rw [putG_new _ (getG_none.2 fun p hp e => by obtain ⟨q, hq, rfl⟩ := List.mem_map.1 hp; exact HNEWD.out q hq e)] at hm5
    have HK5 : Hid (Pk w w5 b g P0 k1 k2 (D1 ++ [(s, ⟨A4, n4, c4, l⟩)]) S1 S1 T1 T1 s []) := HK4.out.put HBW.out hg5 (by rw [List.map_append]; exact hm5) HO4.out (fun k hk => ⟨Nat.le_trans HS4.out (HB4.out k hk).1, (HB4.out k hk).2⟩) HGW.out
    clear hm5 hg5 hs5
    refine hK.out _ _ (HK5.out.xm.bk.cellAt 0) (fun hS2 => ?_)
    clear hK K
    try simp only [Act.put, List.getElem_toArray, List.getElem_cons_zero, List.getElem_cons_succ, List.setIfInBounds_toArray, List.set_cons_zero, List.set_cons_succ]
    refine wpAnyH_done (by kernel_rfl) ?_ _
    clear hS0 hS1 hS2
    obtain ⟨D2, hD2⟩ : ∃ D2, D2 = D1 ++ [(s, ⟨A4, n4, c4, l⟩)] := ⟨_, rfl⟩
    rw [← hD2] at HK5
    have HD2 := Lib.hid hD2
    clear hD2 HK4 HO4 HB4 HS4 HKD HOD KC
    go_wp2_with fail
    go_loopw [35] (fun s35 wr => ∃ (k : Nat) (S' : List SB) (T' : Nat → List ByteArray), k ≤ n ∧ s35 = .int .i64 k ∧ Hid (Pk w wr b g P0 k1 k2 D2 S1 S' T1 T' s (l.take k))) (fun s35 wr => n - (intOf s35).toNat)
    case atStart => exact ⟨0, S1, T1, Nat.zero_le _, rfl, by rw [List.take_zero]; exact HK5⟩
    case round =>
      clear HK5
      obtain ⟨k, S2, T2, hk, rfl, H⟩ := hrel
      by_cases hlt : k < n
      · have hkl : Hid (k < l.length) := by show k < l.length; rw [← HL.out]; exact hlt
        have hrd : RdL wr A l := (HAP.out wr (by rw [← HP0.out]; exact H.out.gr)).rd
        obtain ⟨g0, o0, rfl, hg0, c1, c2⟩ := hrd.at hkl.out
        obtain ⟨⟨x1, x2⟩, ex⟩ : ∃ x, x = l[k]'hkl.out := ⟨_, rfl⟩
        have HX := Lib.hid ex
        rw [← ex] at c1 c2
        have hwk : wrap64 ((k : Int) + 1) = ((k + 1 : Nat) : Int) := by have := HBIG.out; unfold wrap64; omega
        obtain ⟨w4, hw4⟩ : ∃ W, W = wr.alloc (.cells #[.string x1, .string x2] 48) := ⟨_, rfl⟩
        obtain ⟨p, hp⟩ : ∃ p, p = wr.heap.size := ⟨_, rfl⟩
        have hba : Below wr.heap.size wr w4 := by rw [hw4]; exact (Below.refl _ _).alloc (Nat.le_refl _) _
        have HPD : Hid (Bk w4.drew p 48 #[.string x1, .string x2]) := by rw [hw4, hp]; exact Bk.fresh _ _ _
        have HD1 := Lib.hid ((H.out.later hba).later (w' := w4.drew) (Below.drew (Below.refl _ _)))
        have HPL : Hid (¬ XB g (some k1) (some k2) D2 S2 p) := fun hk => by have := H.out.xm.lt p hk; rw [hp] at this; omega
        clear ex hrd hg0 hba H
        go_wp2_with fail
        rw [← hw4, ← hp]
        have HPS : Hid (p < w4.drew.drew.heap.size) := HPD.out.here
        clear hw4 hp c1 c2
        cases hf : fS S2 (x1, x2) with
        | none =>
          have HF := Lib.hid hf
          clear hf
          refine wp_region_held_drew (S := fun W => W.cell? ⟨g, 1, none⟩ = some (.map (some k2)) ∧ Bk W p 48 #[.string x1, .string x2] ∧ MapH encLb W (.map (some k2)) (S2.map eSB)) (by kernel_rfl) (⟨HD1.out.xm.bk.cellAt 1, HPD.out, HD1.out.xm.mp2⟩) (fun hS0 => ?_)
          refine wpAnyH_take (i := 0) (v := ?_) rfl (by kernel_rfl) (by kernel_rfl) (by kernel_rfl) (fun _ _ _ h => h) (Or.inl ⟨by rfl, ?_⟩) hS0 ?_
          rotate_left
          · intro W _; go_simp; try with_reducible rfl
          try simp only [Act.put, List.getElem_toArray, List.getElem_cons_zero, List.setIfInBounds_toArray, List.set_cons_zero, List.set_cons_succ]
          refine wpAnyH_take (i := 1) (v := ?_) rfl (by kernel_rfl) (by kernel_rfl) (by kernel_rfl) (fun _ _ _ h => h) (Or.inl ⟨by rfl, ?_⟩) hS0 ?_
          rotate_left
          · intro W _; go_simp; try with_reducible rfl
          try simp only [Act.put, List.getElem_toArray, List.getElem_cons_zero, List.getElem_cons_succ, List.setIfInBounds_toArray, List.set_cons_zero, List.set_cons_succ]
          refine wpAnyH_take (i := 2) (v := ?_) rfl (by kernel_rfl) (by kernel_rfl) (by kernel_rfl) (fun _ _ _ h => h) (Or.inl ⟨by rfl, ?_⟩) hS0 ?_
          rotate_left
          · intro W _; go_simp; try with_reducible rfl
          try simp only [Act.put, List.getElem_toArray, List.getElem_cons_zero, List.getElem_cons_succ, List.setIfInBounds_toArray, List.set_cons_zero, List.set_cons_succ]
          refine wpAnyH_take (i := 3) (v := ?_) rfl (by kernel_rfl) (by kernel_rfl) (by kernel_rfl) (fun _ _ _ h => h) (Or.inl ⟨by rfl, ?_⟩) hS0 ?_
          rotate_left
          · intro W hSW; have hx := hSW.1; go_simp; try with_reducible rfl
          try simp only [Act.put, List.getElem_toArray, List.getElem_cons_zero, List.getElem_cons_succ, List.setIfInBounds_toArray, List.set_cons_zero, List.set_cons_succ]
          refine wpAnyH_take (i := 4) (v := .agg #[.string x1, .string x2]) rfl (by kernel_rfl) (by kernel_rfl) (by kernel_rfl) (fun _ _ _ h => h) (yields_bk (by rfl) 48 _ rfl p 0 rfl 48 #[.string x1, .string x2] #[.string x1, .string x2] _ (fun W hW => hW.2.1) (Part.whole _) Try.underlying48 rfl (by kernel_rfl)) hS0 ?_
          try simp only [Act.put, List.getElem_toArray, List.getElem_cons_zero, List.getElem_cons_succ, List.setIfInBounds_toArray, List.set_cons_zero, List.set_cons_succ]
          refine wpAnyH_take (i := 5) (v := ?_) rfl (by kernel_rfl) (by kernel_rfl) (by kernel_rfl) (fun _ _ _ h => h) (Or.inl ⟨by rfl, ?_⟩) hS0 ?_
          rotate_left
          · intro W hSW; have hx : (Instr.lookup 33 (.map (some k2)) (.agg #[.string x1, .string x2]) false).run Try.prog W = .ok (.map none) W := look1_run (s := (x1, x2)) Try.underlying33 keyLb (zeroSE _) hSW.2.2 (by rw [getG_SB, HF.out]); go_simp; try with_reducible rfl
          try simp only [Act.put, List.getElem_toArray, List.getElem_cons_zero, List.getElem_cons_succ, List.setIfInBounds_toArray, List.set_cons_zero, List.set_cons_succ]
          refine wpAnyH_take (i := 6) (v := ?_) rfl (by kernel_rfl) (by kernel_rfl) (by kernel_rfl) (fun _ _ _ h => h) (Or.inl ⟨by rfl, ?_⟩) hS0 ?_
          rotate_left
          · intro W _; go_simp; try with_reducible rfl
          try simp only [Act.put, List.getElem_toArray, List.getElem_cons_zero, List.getElem_cons_succ, List.setIfInBounds_toArray, List.set_cons_zero, List.set_cons_succ]
          refine wpAnyH_done (by kernel_rfl) ?_ _
          clear hS0
          have HD2a := Lib.hid (HD1.out.later (w' := w4.drew.drew) (Below.drew (Below.refl _ _)))
          have HPE : Hid (Bk w4.drew.drew p 48 #[.string x1, .string x2]) := HPD.out.drewB
          clear HD1 HPD
          go_wp2_with fail
          refine wp_region_held_drew (S := fun W => W.cell? ⟨g, 1, none⟩ = some (.map (some k2)) ∧ Bk W p 48 #[.string x1, .string x2]) (by kernel_rfl) (⟨HD2a.out.xm.bk.cellAt 1, HPE.out⟩) (fun hS0 => ?_)
          refine wpAnyH_take (i := 0) (v := ?_) rfl (by kernel_rfl) (by kernel_rfl) (by kernel_rfl) (fun _ _ _ h => h) (Or.inl ⟨by rfl, ?_⟩) hS0 ?_
          rotate_left
          · intro W _; go_simp; try with_reducible rfl
          try simp only [Act.put, List.getElem_toArray, List.getElem_cons_zero, List.setIfInBounds_toArray, List.set_cons_zero, List.set_cons_succ]
          refine wpAnyH_take (i := 1) (v := ?_) rfl (by kernel_rfl) (by kernel_rfl) (by kernel_rfl) (fun _ _ _ h => h) (Or.inl ⟨by rfl, ?_⟩) hS0 ?_
          rotate_left
          · intro W _; go_simp; try with_reducible rfl
          try simp only [Act.put, List.getElem_toArray, List.getElem_cons_zero, List.getElem_cons_succ, List.setIfInBounds_toArray, List.set_cons_zero, List.set_cons_succ]
          refine wpAnyH_take (i := 2) (v := ?_) rfl (by kernel_rfl) (by kernel_rfl) (by kernel_rfl) (fun _ _ _ h => h) (Or.inl ⟨by rfl, ?_⟩) hS0 ?_
          rotate_left
          · intro W _; go_simp; try with_reducible rfl
          try simp only [Act.put, List.getElem_toArray, List.getElem_cons_zero, List.getElem_cons_succ, List.setIfInBounds_toArray, List.set_cons_zero, List.set_cons_succ]
          refine wpAnyH_take (i := 3) (v := ?_) rfl (by kernel_rfl) (by kernel_rfl) (by kernel_rfl) (fun _ _ _ h => h) (Or.inl ⟨by rfl, ?_⟩) hS0 ?_
          rotate_left
          · intro W hSW; have hx := hSW.1; go_simp; try with_reducible rfl
          try simp only [Act.put, List.getElem_toArray, List.getElem_cons_zero, List.getElem_cons_succ, List.setIfInBounds_toArray, List.set_cons_zero, List.set_cons_succ]
          refine wpAnyH_take (i := 4) (v := .agg #[.string x1, .string x2]) rfl (by kernel_rfl) (by kernel_rfl) (by kernel_rfl) (fun _ _ _ h => h) (yields_bk (by rfl) 48 _ rfl p 0 rfl 48 #[.string x1, .string x2] #[.string x1, .string x2] _ (fun W hW => hW.2) (Part.whole _) Try.underlying48 rfl (by kernel_rfl)) hS0 ?_
          try simp only [Act.put, List.getElem_toArray, List.getElem_cons_zero, List.getElem_cons_succ, List.setIfInBounds_toArray, List.set_cons_zero, List.set_cons_succ]
          refine wpAnyH_ready (rs := [5]) (by kernel_rfl) (by simp) ?_
          refine AllReadyH.cons rfl (fun K hK => ?_) AllReadyH.nil
          go_simp
          have hb6 : Below w4.drew.drew.heap.size w4.drew.drew (w4.drew.drew.alloc (.map #[] 0)) := (Below.refl _ _).alloc (Nat.le_refl _) _
          refine hK.out _ _ (⟨(HD2a.out.later hb6).xm.bk.cellAt 1, HPE.out.later hb6⟩) (fun hS1 => ?_)
          clear hK K
          try simp only [Act.put, List.getElem_toArray, List.getElem_cons_zero, List.getElem_cons_succ, List.setIfInBounds_toArray, List.set_cons_zero, List.set_cons_succ]
          refine wpAnyH_ready (rs := [6]) (by kernel_rfl) (by simp) ?_
          refine AllReadyH.cons rfl (fun K hK => ?_) AllReadyH.nil
          refine store_g_op _ _ _ 33 rfl 48 53 Try.underlying33 keyLb k2 rfl ((HD2a.out.later hb6).xm.mp2.at rfl) (x1, x2) rfl (.map (some w4.drew.drew.heap.size)) rfl ?_
          intro w7 hm7 hg7 hs7
          rw [putG_new _ (getG_SB0 HF.out)] at hm7
          have HK7 := Lib.hid (HD2a.out.more (lb := (x1, x2)) HBW.out hb6 (Nat.le_refl _) (MapG.made _) hg7 (by rw [List.map_append]; exact hm7))
          have HP7 : Hid (Bk w7 p 48 #[.string x1, .string x2]) := (HPE.out.later hb6).stays hg7 fun e => HPL.out (.inr (.inr (.inl e.symm)))
          clear hm7 hg7 hs7
          refine hK.out _ _ (⟨HK7.out.xm.bk.cellAt 1, HP7.out⟩) (fun hS2 => ?_)
          clear hK K
          try simp only [Act.put, List.getElem_toArray, List.getElem_cons_zero, List.getElem_cons_succ, List.setIfInBounds_toArray, List.set_cons_zero, List.set_cons_succ]
          refine wpAnyH_done (by kernel_rfl) ?_ _
          clear hS0 hS1 hS2 hb6
          obtain ⟨kk, hkk⟩ : ∃ kk, kk = w4.drew.drew.heap.size := ⟨_, rfl⟩
          rw [← hkk] at HK7
          obtain ⟨S3, hS3⟩ : ∃ S3, S3 = S2 ++ [((x1, x2), kk)] := ⟨_, rfl⟩
          obtain ⟨T3, hT3⟩ : ∃ T3, T3 = setT T2 (some kk) [] := ⟨_, rfl⟩
          rw [← hS3, ← hT3] at HK7
          have HF3 : Hid (fS S3 (x1, x2) = some kk) := by show _ = _; rw [hS3]; exact fS_app HF.out
          have HPL3 : Hid (¬ XB g (some k1) (some k2) D2 S3 p) := fun hk => by
            rw [hS3] at hk
            rcases hk with h | h | h | ⟨q, hq, h⟩ | h
            · exact HPL.out (.inl h)
            · exact HPL.out (.inr (.inl h))
            · exact HPL.out (.inr (.inr (.inl h)))
            · rcases List.mem_append.1 hq with hq | hq
              · exact HPL.out (.inr (.inr (.inr (.inl ⟨q, hq, h⟩))))
              · rw [List.mem_singleton.1 hq] at h
                have h2 : kk = p := h
                have := HPS.out; omega
            · exact HPL.out (.inr (.inr (.inr (.inr h))))
          clear hS3 hT3 hkk HD2a HPE HF HPS
          have HD3 := Lib.hid (HK7.out.later (w' := w7.drew) (Below.drew (Below.refl _ _)))
          have HPF : Hid (Bk w7.drew p 48 #[.string x1, .string x2]) := HP7.out.drewB
          clear HK7 HP7
          clear HPL
          go_wp2_with fail
          refine wp_region_held_drew (S := fun W => W.cell? ⟨g, 1, none⟩ = some (.map (some k2)) ∧ Bk W p 48 #[.string x1, .string x2] ∧ MapH encLb W (.map (some k2)) (S3.map eSB)) (by kernel_rfl) (⟨HD3.out.xm.bk.cellAt 1, HPF.out, HD3.out.xm.mp2⟩) (fun hS0 => ?_)
          refine wpAnyH_take (i := 0) (v := ?_) rfl (by kernel_rfl) (by kernel_rfl) (by kernel_rfl) (fun _ _ _ h => h) (Or.inl ⟨by rfl, ?_⟩) hS0 ?_
          rotate_left
          · intro W _; go_simp; try with_reducible rfl
          try simp only [Act.put, List.getElem_toArray, List.getElem_cons_zero, List.setIfInBounds_toArray, List.set_cons_zero, List.set_cons_succ]
          refine wpAnyH_take (i := 1) (v := ?_) rfl (by kernel_rfl) (by kernel_rfl) (by kernel_rfl) (fun _ _ _ h => h) (Or.inl ⟨by rfl, ?_⟩) hS0 ?_
          rotate_left
          · intro W _; go_simp; try with_reducible rfl
          try simp only [Act.put, List.getElem_toArray, List.getElem_cons_zero, List.getElem_cons_succ, List.setIfInBounds_toArray, List.set_cons_zero, List.set_cons_succ]
          refine wpAnyH_take (i := 2) (v := ?_) rfl (by kernel_rfl) (by kernel_rfl) (by kernel_rfl) (fun _ _ _ h => h) (Or.inl ⟨by rfl, ?_⟩) hS0 ?_
          rotate_left
          · intro W _; go_simp; try with_reducible rfl
          try simp only [Act.put, List.getElem_toArray, List.getElem_cons_zero, List.getElem_cons_succ, List.setIfInBounds_toArray, List.set_cons_zero, List.set_cons_succ]
          refine wpAnyH_take (i := 3) (v := ?_) rfl (by kernel_rfl) (by kernel_rfl) (by kernel_rfl) (fun _ _ _ h => h) (Or.inl ⟨by rfl, ?_⟩) hS0 ?_
          rotate_left
          · intro W hSW; have hx := hSW.1; go_simp; try with_reducible rfl
          try simp only [Act.put, List.getElem_toArray, List.getElem_cons_zero, List.getElem_cons_succ, List.setIfInBounds_toArray, List.set_cons_zero, List.set_cons_succ]
          refine wpAnyH_take (i := 4) (v := .agg #[.string x1, .string x2]) rfl (by kernel_rfl) (by kernel_rfl) (by kernel_rfl) (fun _ _ _ h => h) (yields_bk (by rfl) 48 _ rfl p 0 rfl 48 #[.string x1, .string x2] #[.string x1, .string x2] _ (fun W hW => hW.2.1) (Part.whole _) Try.underlying48 rfl (by kernel_rfl)) hS0 ?_
          try simp only [Act.put, List.getElem_toArray, List.getElem_cons_zero, List.getElem_cons_succ, List.setIfInBounds_toArray, List.set_cons_zero, List.set_cons_succ]
          refine wpAnyH_take (i := 5) (v := ?_) rfl (by kernel_rfl) (by kernel_rfl) (by kernel_rfl) (fun _ _ _ h => h) (Or.inl ⟨by rfl, ?_⟩) hS0 ?_
          rotate_left
          · intro W hSW; have hx : (Instr.lookup 33 (.map (some k2)) (.agg #[.string x1, .string x2]) false).run Try.prog W = .ok (.map (some kk)) W := look1_run (s := (x1, x2)) Try.underlying33 keyLb (zeroSE _) hSW.2.2 (by rw [getG_SB, HF3.out]); go_simp; try with_reducible rfl
          try simp only [Act.put, List.getElem_toArray, List.getElem_cons_zero, List.getElem_cons_succ, List.setIfInBounds_toArray, List.set_cons_zero, List.set_cons_succ]
          refine wpAnyH_take (i := 6) (v := ?_) rfl (by kernel_rfl) (by kernel_rfl) (by kernel_rfl) (fun _ _ _ h => h) (Or.inl ⟨by rfl, ?_⟩) hS0 ?_
          rotate_left
          · intro W _; go_simp; try with_reducible rfl
          try simp only [Act.put, List.getElem_toArray, List.getElem_cons_zero, List.getElem_cons_succ, List.setIfInBounds_toArray, List.set_cons_zero, List.set_cons_succ]
          refine wpAnyH_take (i := 7) (v := ?_) rfl (by kernel_rfl) (by kernel_rfl) (by kernel_rfl) (fun _ _ _ h => h) (Or.inl ⟨by rfl, ?_⟩) hS0 ?_
          rotate_left
          · intro W _; go_simp; try with_reducible rfl
          try simp only [Act.put, List.getElem_toArray, List.getElem_cons_zero, List.getElem_cons_succ, List.setIfInBounds_toArray, List.set_cons_zero, List.set_cons_succ]
          refine wpAnyH_ready (rs := [8]) (by kernel_rfl) (by simp) ?_
          refine AllReadyH.cons rfl (fun K hK => ?_) AllReadyH.nil
          refine store_g_op _ _ _ 53 rfl 9 _ Try.underlying53 keyS kk rfl (HD3.out.xm.st _ (fS_mem HF3.out)) s rfl (.agg #[]) rfl ?_
          intro w9 hm9 hg9 hs9
          rw [putG_Nm] at hm9
          have HK9 := Lib.hid (HD3.out.add HF3.out hg9 hm9)
          have HP9 : Hid (Bk w9 p 48 #[.string x1, .string x2]) := HPF.out.stays hg9 fun e => HPL3.out (fS_blk (HF3.out.trans e.symm))
          clear hm9 hg9 hs9
          refine hK.out _ _ (⟨HK9.out.xm.bk.cellAt 1, HP9.out, HK9.out.xm.mp2⟩) (fun hS1 => ?_)
          clear hK K
          try simp only [Act.put, List.getElem_toArray, List.getElem_cons_zero, List.getElem_cons_succ, List.setIfInBounds_toArray, List.set_cons_zero, List.set_cons_succ]
          refine wpAnyH_done (by kernel_rfl) ?_ _
          clear hS0 hS1
          have HTK : Hid (l.take (k + 1) = l.take k ++ [(x1, x2)]) := by show _ = _; rw [List.take_succ_eq_append_getElem hkl.out, ← HX.out]
          obtain ⟨T4, hT4⟩ : ∃ T4, T4 = setT T3 (fS S3 (x1, x2)) (addT (T3 kk) s) := ⟨_, rfl⟩
          have HR : Hid (Pk w w9 b g P0 k1 k2 D2 S1 S3 T1 T4 s (l.take (k + 1))) := by show Pk _ _ _ _ _ _ _ _ _ _ _ _ _ _; rw [HTK.out, hT4]; exact HK9.out
          clear hT4 HTK HK9 HP9 HF3 HD3 HPF
          go_wp2_with fail
          go_round
          case rel => exact ⟨k + 1, S3, T4, by omega, by go_num, HR⟩
          case measure =>
            rw [hwk]
            show n - ((k + 1 : Nat) : Int).toNat < n - ((k : Nat) : Int).toNat
            rw [Int.toNat_natCast, Int.toNat_natCast]; omega
        | some kk =>
          have HF := Lib.hid hf
          clear hf
          refine wp_region_held_drew (S := fun W => W.cell? ⟨g, 1, none⟩ = some (.map (some k2)) ∧ Bk W p 48 #[.string x1, .string x2] ∧ MapH encLb W (.map (some k2)) (S2.map eSB)) (by kernel_rfl) (⟨HD1.out.xm.bk.cellAt 1, HPD.out, HD1.out.xm.mp2⟩) (fun hS0 => ?_)
          refine wpAnyH_take (i := 0) (v := ?_) rfl (by kernel_rfl) (by kernel_rfl) (by kernel_rfl) (fun _ _ _ h => h) (Or.inl ⟨by rfl, ?_⟩) hS0 ?_
          rotate_left
          · intro W _; go_simp; try with_reducible rfl
          try simp only [Act.put, List.getElem_toArray, List.getElem_cons_zero, List.setIfInBounds_toArray, List.set_cons_zero, List.set_cons_succ]
          refine wpAnyH_take (i := 1) (v := ?_) rfl (by kernel_rfl) (by kernel_rfl) (by kernel_rfl) (fun _ _ _ h => h) (Or.inl ⟨by rfl, ?_⟩) hS0 ?_
          rotate_left
          · intro W _; go_simp; try with_reducible rfl
          try simp only [Act.put, List.getElem_toArray, List.getElem_cons_zero, List.getElem_cons_succ, List.setIfInBounds_toArray, List.set_cons_zero, List.set_cons_succ]
          refine wpAnyH_take (i := 2) (v := ?_) rfl (by kernel_rfl) (by kernel_rfl) (by kernel_rfl) (fun _ _ _ h => h) (Or.inl ⟨by rfl, ?_⟩) hS0 ?_
          rotate_left
          · intro W _; go_simp; try with_reducible rfl
          try simp only [Act.put, List.getElem_toArray, List.getElem_cons_zero, List.getElem_cons_succ, List.setIfInBounds_toArray, List.set_cons_zero, List.set_cons_succ]
          refine wpAnyH_take (i := 3) (v := ?_) rfl (by kernel_rfl) (by kernel_rfl) (by kernel_rfl) (fun _ _ _ h => h) (Or.inl ⟨by rfl, ?_⟩) hS0 ?_
          rotate_left
          · intro W hSW; have hx := hSW.1; go_simp; try with_reducible rfl
          try simp only [Act.put, List.getElem_toArray, List.getElem_cons_zero, List.getElem_cons_succ, List.setIfInBounds_toArray, List.set_cons_zero, List.set_cons_succ]
          refine wpAnyH_take (i := 4) (v := .agg #[.string x1, .string x2]) rfl (by kernel_rfl) (by kernel_rfl) (by kernel_rfl) (fun _ _ _ h => h) (yields_bk (by rfl) 48 _ rfl p 0 rfl 48 #[.string x1, .string x2] #[.string x1, .string x2] _ (fun W hW => hW.2.1) (Part.whole _) Try.underlying48 rfl (by kernel_rfl)) hS0 ?_
          try simp only [Act.put, List.getElem_toArray, List.getElem_cons_zero, List.getElem_cons_succ, List.setIfInBounds_toArray, List.set_cons_zero, List.set_cons_succ]
          refine wpAnyH_take (i := 5) (v := ?_) rfl (by kernel_rfl) (by kernel_rfl) (by kernel_rfl) (fun _ _ _ h => h) (Or.inl ⟨by rfl, ?_⟩) hS0 ?_
          rotate_left
          · intro W hSW; have hx : (Instr.lookup 33 (.map (some k2)) (.agg #[.string x1, .string x2]) false).run Try.prog W = .ok (.map (some kk)) W := look1_run (s := (x1, x2)) Try.underlying33 keyLb (zeroSE _) hSW.2.2 (by rw [getG_SB, HF.out]); go_simp; try with_reducible rfl
          try simp only [Act.put, List.getElem_toArray, List.getElem_cons_zero, List.getElem_cons_succ, List.setIfInBounds_toArray, List.set_cons_zero, List.set_cons_succ]
          refine wpAnyH_take (i := 6) (v := ?_) rfl (by kernel_rfl) (by kernel_rfl) (by kernel_rfl) (fun _ _ _ h => h) (Or.inl ⟨by rfl, ?_⟩) hS0 ?_
          rotate_left
          · intro W _; go_simp; try with_reducible rfl
          try simp only [Act.put, List.getElem_toArray, List.getElem_cons_zero, List.getElem_cons_succ, List.setIfInBounds_toArray, List.set_cons_zero, List.set_cons_succ]
          refine wpAnyH_done (by kernel_rfl) ?_ _
          clear hS0
          have HD3 := Lib.hid (HD1.out.later (w' := w4.drew.drew) (Below.drew (Below.refl _ _)))
          have HPF : Hid (Bk w4.drew.drew p 48 #[.string x1, .string x2]) := HPD.out.drewB
          obtain ⟨S3, hS3⟩ : ∃ S3, S3 = S2 := ⟨_, rfl⟩
          obtain ⟨T3, hT3⟩ : ∃ T3, T3 = T2 := ⟨_, rfl⟩
          rw [← hS3, ← hT3] at HD3
          have HF3 : Hid (fS S3 (x1, x2) = some kk) := by show _ = _; rw [hS3]; exact HF.out
          have HPL3 : Hid (¬ XB g (some k1) (some k2) D2 S3 p) := by rw [hS3]; exact HPL
          clear hS3 hT3 HD1 HPD HF HPS
          clear HPL
          go_wp2_with fail
          refine wp_region_held_drew (S := fun W => W.cell? ⟨g, 1, none⟩ = some (.map (some k2)) ∧ Bk W p 48 #[.string x1, .string x2] ∧ MapH encLb W (.map (some k2)) (S3.map eSB)) (by kernel_rfl) (⟨HD3.out.xm.bk.cellAt 1, HPF.out, HD3.out.xm.mp2⟩) (fun hS0 => ?_)
          refine wpAnyH_take (i := 0) (v := ?_) rfl (by kernel_rfl) (by kernel_rfl) (by kernel_rfl) (fun _ _ _ h => h) (Or.inl ⟨by rfl, ?_⟩) hS0 ?_
          rotate_left
          · intro W _; go_simp; try with_reducible rfl
          try simp only [Act.put, List.getElem_toArray, List.getElem_cons_zero, List.setIfInBounds_toArray, List.set_cons_zero, List.set_cons_succ]
          refine wpAnyH_take (i := 1) (v := ?_) rfl (by kernel_rfl) (by kernel_rfl) (by kernel_rfl) (fun _ _ _ h => h) (Or.inl ⟨by rfl, ?_⟩) hS0 ?_
          rotate_left
          · intro W _; go_simp; try with_reducible rfl
          try simp only [Act.put, List.getElem_toArray, List.getElem_cons_zero, List.getElem_cons_succ, List.setIfInBounds_toArray, List.set_cons_zero, List.set_cons_succ]
          refine wpAnyH_take (i := 2) (v := ?_) rfl (by kernel_rfl) (by kernel_rfl) (by kernel_rfl) (fun _ _ _ h => h) (Or.inl ⟨by rfl, ?_⟩) hS0 ?_
          rotate_left
          · intro W _; go_simp; try with_reducible rfl
          try simp only [Act.put, List.getElem_toArray, List.getElem_cons_zero, List.getElem_cons_succ, List.setIfInBounds_toArray, List.set_cons_zero, List.set_cons_succ]
          refine wpAnyH_take (i := 3) (v := ?_) rfl (by kernel_rfl) (by kernel_rfl) (by kernel_rfl) (fun _ _ _ h => h) (Or.inl ⟨by rfl, ?_⟩) hS0 ?_
          rotate_left
          · intro W hSW; have hx := hSW.1; go_simp; try with_reducible rfl
          try simp only [Act.put, List.getElem_toArray, List.getElem_cons_zero, List.getElem_cons_succ, List.setIfInBounds_toArray, List.set_cons_zero, List.set_cons_succ]
          refine wpAnyH_take (i := 4) (v := .agg #[.string x1, .string x2]) rfl (by kernel_rfl) (by kernel_rfl) (by kernel_rfl) (fun _ _ _ h => h) (yields_bk (by rfl) 48 _ rfl p 0 rfl 48 #[.string x1, .string x2] #[.string x1, .string x2] _ (fun W hW => hW.2.1) (Part.whole _) Try.underlying48 rfl (by kernel_rfl)) hS0 ?_
          try simp only [Act.put, List.getElem_toArray, List.getElem_cons_zero, List.getElem_cons_succ, List.setIfInBounds_toArray, List.set_cons_zero, List.set_cons_succ]
          refine wpAnyH_take (i := 5) (v := ?_) rfl (by kernel_rfl) (by kernel_rfl) (by kernel_rfl) (fun _ _ _ h => h) (Or.inl ⟨by rfl, ?_⟩) hS0 ?_
          rotate_left
          · intro W hSW; have hx : (Instr.lookup 33 (.map (some k2)) (.agg #[.string x1, .string x2]) false).run Try.prog W = .ok (.map (some kk)) W := look1_run (s := (x1, x2)) Try.underlying33 keyLb (zeroSE _) hSW.2.2 (by rw [getG_SB, HF3.out]); go_simp; try with_reducible rfl
          try simp only [Act.put, List.getElem_toArray, List.getElem_cons_zero, List.getElem_cons_succ, List.setIfInBounds_toArray, List.set_cons_zero, List.set_cons_succ]
          refine wpAnyH_take (i := 6) (v := ?_) rfl (by kernel_rfl) (by kernel_rfl) (by kernel_rfl) (fun _ _ _ h => h) (Or.inl ⟨by rfl, ?_⟩) hS0 ?_
          rotate_left
          · intro W _; go_simp; try with_reducible rfl
          try simp only [Act.put, List.getElem_toArray, List.getElem_cons_zero, List.getElem_cons_succ, List.setIfInBounds_toArray, List.set_cons_zero, List.set_cons_succ]
          refine wpAnyH_take (i := 7) (v := ?_) rfl (by kernel_rfl) (by kernel_rfl) (by kernel_rfl) (fun _ _ _ h => h) (Or.inl ⟨by rfl, ?_⟩) hS0 ?_
          rotate_left
          · intro W _; go_simp; try with_reducible rfl
          try simp only [Act.put, List.getElem_toArray, List.getElem_cons_zero, List.getElem_cons_succ, List.setIfInBounds_toArray, List.set_cons_zero, List.set_cons_succ]
          refine wpAnyH_ready (rs := [8]) (by kernel_rfl) (by simp) ?_
          refine AllReadyH.cons rfl (fun K hK => ?_) AllReadyH.nil
          refine store_g_op _ _ _ 53 rfl 9 _ Try.underlying53 keyS kk rfl (HD3.out.xm.st _ (fS_mem HF3.out)) s rfl (.agg #[]) rfl ?_
          intro w9 hm9 hg9 hs9
          rw [putG_Nm] at hm9
          have HK9 := Lib.hid (HD3.out.add HF3.out hg9 hm9)
          have HP9 : Hid (Bk w9 p 48 #[.string x1, .string x2]) := HPF.out.stays hg9 fun e => HPL3.out (fS_blk (HF3.out.trans e.symm))
          clear hm9 hg9 hs9
          refine hK.out _ _ (⟨HK9.out.xm.bk.cellAt 1, HP9.out, HK9.out.xm.mp2⟩) (fun hS1 => ?_)
          clear hK K
          try simp only [Act.put, List.getElem_toArray, List.getElem_cons_zero, List.getElem_cons_succ, List.setIfInBounds_toArray, List.set_cons_zero, List.set_cons_succ]
          refine wpAnyH_done (by kernel_rfl) ?_ _
          clear hS0 hS1
          have HTK : Hid (l.take (k + 1) = l.take k ++ [(x1, x2)]) := by show _ = _; rw [List.take_succ_eq_append_getElem hkl.out, ← HX.out]
          obtain ⟨T4, hT4⟩ : ∃ T4, T4 = setT T3 (fS S3 (x1, x2)) (addT (T3 kk) s) := ⟨_, rfl⟩
          have HR : Hid (Pk w w9 b g P0 k1 k2 D2 S1 S3 T1 T4 s (l.take (k + 1))) := by show Pk _ _ _ _ _ _ _ _ _ _ _ _ _ _; rw [HTK.out, hT4]; exact HK9.out
          clear hT4 HTK HK9 HP9 HF3 HD3 HPF
          go_wp2_with fail
          go_round
          case rel => exact ⟨k + 1, S3, T4, by omega, by go_num, HR⟩
          case measure =>
            rw [hwk]
            show n - ((k + 1 : Nat) : Int).toNat < n - ((k : Nat) : Int).toNat
            rw [Int.toNat_natCast, Int.toNat_natCast]; omega
      · have hkn : k = n := Nat.le_antisymm hk (Nat.le_of_not_lt hlt)
        subst hkn
        have HTK : Hid (l.take k = l) := List.take_of_length_le (by rw [← HL.out]; exact Nat.le_refl _)
        have HD : Hid (Pk w wr b g P0 k1 k2 D2 S1 S2 T1 T2 s l) := by have := H.out; rw [HTK.out] at this; exact this
        clear H HTK hk
        go_wp2_with fail
        first | go_end0 | refine bodyPost_ret (results_none rfl _ _ _) rfl ?_
        refine ⟨rfl, ⟨k1, k2, ⟨A4, n4, c4, l⟩, S1, S2, T1, T2, rfl, ?_, HREL1.out, HD.out.rel, ?_⟩, ?_⟩
        · rw [← HD1.out, ← HD2.out]; exact HD.out.xm
        · intro k hk
          rw [← HD1.out, ← HD2.out] at hk
          have := HD.out.new k hk
          rw [HP0.out] at this; exact this
        · have := HD.out.gr
          rw [HP0.out] at this; exact this
end Go.Proofs.Ytldijginplgikaa
