/- The walk of Gen1Copies. No condition beyond the form's own. -/
import Derived.Test.YtlomeicilgfhnaaGreatGaw
import Derived.Test.YtlomeicilgfhnaaGreatGte
import Derived.Test.YtlomeicilgfhnaaGreatGsm
import Derived.Test.YtlomeicilgfhnaaGreatGmu
import Derived.Deep.DeepCutAuto
import Derived.Deep.CutRange
namespace Go.Proofs.YtlomeicilgfhnaaGreat
open Go.RowKit
set_option linter.unusedSimpArgs false
set_option linter.unusedVariables false

/-- A state that the call owns reads as its cells say. -/
theorem OwnS.rdAt {w : World} {b : Nat} {a : Sv} {S : Sg} (h : OwnS w b (.slice a.A a.N a.cA) (.slice a.B a.K a.cB) (.slice a.C a.n a.cC) S) (h1 : a.ck = S.ck) (h2 : a.nx = S.nx) : RdS w a S := by
  obtain ⟨v, hv, hr⟩ := h.rd
  obtain ⟨ck, nx, A, N, cA, B, K, cB, C, n, cC⟩ := v
  obtain ⟨ck', nx', A', N', cA', B', K', cB', C', n', cC'⟩ := a
  simp only at h1 h2
  have e1 : Value.slice A N cA = .slice A' N' cA' := congrArg (fun a : Array Value => a.getD 2 undef) hv
  have e2 : Value.slice B K cB = .slice B' K' cB' := congrArg (fun a : Array Value => a.getD 3 undef) hv
  have e3 : Value.slice C n cC = .slice C' n' cC' := congrArg (fun a : Array Value => a.getD 4 undef) hv
  injection e1 with x1 x2 x3
  injection e2 with x4 x5 x6
  injection e3 with x7 x8 x9
  subst x1 x2 x3 x4 x5 x6 x7 x8 x9
  have e4 : ck = S.ck := hr.ck
  have e5 : nx = S.nx := hr.nx
  rw [e4, ← h1, e5, ← h2] at hr
  exact hr
theorem copy2_any (v : Sv) (S : Sg) (w : World) (hS : RdS w v S) (hB : StB S) :
    Calls Tryz.prog 30 #[.agg v.arr] w fun e w' => (∃ (a : Sv) (S' : Sg), e = .returned (.agg a.arr) ∧ OwnS w' w.heap.size (.slice a.A a.N a.cA) (.slice a.B a.K a.cB) (.slice a.C a.n a.cC) S' ∧ S'.bare = S.bare ∧ a.ck = S'.ck ∧ a.nx = S'.nx) ∧ Below w.heap.size w w' := by
  have h := copy_any v S w hS (by rw [hS.N]; have := hB.M; omega) (by rw [hS.K]; have := hB.Q; omega) (by rw [hS.n]; have := hB.J; omega) (fun x hx => by have := hB.lM x hx; omega) (fun x hx => by have := hB.lJ x hx; omega)
  refine h.mono ?_
  rintro e w' ⟨⟨vM, vQ, vJ, S', rfl, hO, hb⟩, hbl⟩
  obtain ⟨⟨ck, nx, A, N, cA, B, K, cB, C, n, cC⟩, hva, hvr⟩ := hO.rd
  have hv1 : .slice A N cA = vM := congrArg (fun a : Array Value => a.getD 2 undef) hva
  have hv2 : .slice B K cB = vQ := congrArg (fun a : Array Value => a.getD 3 undef) hva
  have hv3 : .slice C n cC = vJ := congrArg (fun a : Array Value => a.getD 4 undef) hva
  subst hv1 hv2 hv3
  have e1 : S.ck = S'.ck := (congrArg Sg.ck hb : S'.bare.ck = S.bare.ck).symm
  have e2 : S.nx = S'.nx := (congrArg Sg.nx hb : S'.bare.nx = S.bare.nx).symm
  exact ⟨⟨⟨S'.ck, S'.nx, A, N, cA, B, K, cB, C, n, cC⟩, S', by rw [e1, e2], hO, hb, rfl, rfl⟩, hbl⟩
/-- Two copies, in two new cells. -/
def Two (w2 wx : World) (S : Sg) (s3 s4 : Value) : Prop := ∃ (p3 p4 m : Nat) (a b : Sv) (Sa Sb : Sg), s3 = .pointer (some ⟨p3, 0, none⟩) ∧ s4 = .pointer (some ⟨p4, 0, none⟩) ∧ Below w2.heap.size w2 wx ∧ Bk wx p3 31 a.arr ∧ Bk wx p4 31 b.arr ∧ w2.heap.size ≤ p3 ∧ w2.heap.size ≤ p4 ∧ OwnS wx w2.heap.size (.slice a.A a.N a.cA) (.slice a.B a.K a.cB) (.slice a.C a.n a.cC) Sa ∧ OwnS wx w2.heap.size (.slice b.A b.N b.cA) (.slice b.B b.K b.cB) (.slice b.C b.n b.cC) Sb ∧ Sa.bare = S.bare ∧ Sb.bare = S.bare ∧ a.ck = Sa.ck ∧ a.nx = Sa.nx ∧ b.ck = Sb.ck ∧ b.nx = Sb.nx ∧ (∀ k, blkS (.slice a.A a.N a.cA) (.slice a.B a.K a.cB) (.slice a.C a.n a.cC) Sa k → k < m) ∧ (∀ k, blkS (.slice b.A b.N b.cA) (.slice b.B b.K b.cB) (.slice b.C b.n b.cC) Sb k → m ≤ k)
section
variable {o : Oper} {a : Act} {w : World} {K : Act → World → Prop} {Q : Exit → Act → World → Prop}
theorem scell_op (ho : o.op = .alloc 31) (h : ∀ g w', g = w.heap.size → Bk w' g 31 #[.int .i64 0, .int .i64 0, .slice none 0 0, .slice none 0 0, .slice none 0 0] → Below w.heap.size w w' → K (a.put o.dst (.pointer (some ⟨g, 0, none⟩))) w') : o.wp Tryz.prog a w K Q := by
  unfold Oper.wp execOp
  simp only [ho]
  go_simp
  exact h _ _ rfl (Bk.fresh w _ _) ((Below.refl _ _).alloc (Nat.le_refl _) _)
end
namespace gen1Copies
set_option maxHeartbeats 51200000 in
set_option maxRecDepth 100000 in
theorem walk (v : Sv) (S : Sg) (w : World) (hS : RdS w v S) :
    Calls Tryz.prog 11 #[.agg v.arr] w fun r w' => r = .returned (.bool true) ∧ Below w.heap.size w w' := by
  have K1 := Lib.hid (fun W => awake15_any W)
  have K2 := Lib.hid (fun W (h : RdS W v S) => state15_any v S W h)
  have HS := Lib.hid hS; clear hS
  have HV0 : Hid (Bk (w.alloc (.cells v.arr 31)) w.heap.size 31 v.arr) := Bk.fresh _ _ _
  have hb0 : Below w.heap.size w (w.alloc (.cells v.arr 31)) := (Below.refl _ _).alloc (Nat.le_refl _) _
  go_enter Tryz.func11, Tryz.ntmps11
  go_wp2_with fail
  refine (K1.out _).mono ?_; rintro e w1 ⟨rfl, hb1⟩
  have HV1 := Lib.hid (HV0.out.later hb1)
  have hB1 : Below w.heap.size w w1 := hb0.trans (hb1.mono hb0.size)
  go_wp2_with (with_reducible refine load_bk rfl 31 _ rfl w.heap.size 0 rfl 31 v.arr v.arr _ HV1.out (Part.whole _) Tryz.underlying31 rfl (by kernel_rfl) ?_)
  refine (K2.out _ (HS.out.later hB1)).mono ?_; rintro e w2 ⟨⟨b, rfl, hbt⟩, hb2⟩
  have HV2 := Lib.hid (HV1.out.later hb2)
  have hB2 : Below w.heap.size w w2 := hB1.trans (hb2.mono hB1.size)
  clear HV0 HV1 hb0 hb1 hb2 hB1 K2
  cases b
  case false =>
    go_wp2_with fail
    refine (K1.out _).mono ?_; rintro e w3 ⟨rfl, hb3⟩
    go_wp2_with fail
    go_ret
    exact ⟨rfl, hB2.trans (hb3.mono hB2.size)⟩
  case true =>
    have HSt := Lib.hid (hbt rfl); clear hbt
    have HSr : Hid (RdS w2 v S) := HS.out.later hB2
    have KC := Lib.hid (fun W (h : RdS W v S) => copy2_any v S W h HSt.out)
    go_upto_region 3 with fail
    go_cut [3, 4] (fun s3 s4 wx => Two w2 wx S s3 s4)
    case first =>
      refine wp_region_held_drew (S := fun W => Below w2.heap.size w2 W) (by kernel_rfl) (Below.drew (Below.refl _ _)) (fun hS0 => ?_)
      refine wpAnyH_take (i := 0) (v := .agg v.arr) rfl (by kernel_rfl) (by kernel_rfl) (by kernel_rfl) (fun _ _ _ h => h) (yields_bk rfl 31 _ rfl w.heap.size 0 rfl 31 v.arr v.arr _ (fun W hW => HV2.out.later hW) (Part.whole _) Tryz.underlying31 rfl (by kernel_rfl)) hS0 ?_
      try simp only [Act.put, List.getElem_toArray, List.getElem_cons_zero, List.getElem_cons_succ, List.setIfInBounds_toArray, List.set_cons_zero, List.set_cons_succ]
      refine wpAnyH_take (i := 2) (v := .agg v.arr) rfl (by kernel_rfl) (by kernel_rfl) (by kernel_rfl) (fun _ _ _ h => h) (yields_bk rfl 31 _ rfl w.heap.size 0 rfl 31 v.arr v.arr _ (fun W hW => HV2.out.later hW) (Part.whole _) Tryz.underlying31 rfl (by kernel_rfl)) hS0 ?_
      try simp only [Act.put, List.getElem_toArray, List.getElem_cons_zero, List.getElem_cons_succ, List.setIfInBounds_toArray, List.set_cons_zero, List.set_cons_succ]
      refine wpAnyH_ready (rs := [1, 4, 5]) (by kernel_rfl) (by simp) ?_
      refine (AllReadyH.cons rfl (fun K hK => ?_) (AllReadyH.cons rfl (fun K hK => ?_) (AllReadyH.cons rfl (fun K hK => ?_) AllReadyH.nil)))
      · go_simp
        have hsz := hS0.size
        refine (KC.out _ (HSr.out.later hS0)).mono ?_
        rintro e wa ⟨⟨a, Sa, rfl, hO, hbr, hck, hnx⟩, hbl⟩
        have HOa := Lib.hid (hO.base hsz); have HBa := Lib.hid (And.intro hbr (And.intro hck hnx))
        go_simp
        refine hK.out _ _ (hS0.trans (hbl.mono hS0.size)) (fun hS1 => ?_)
        clear hK K hbl hO hbr hck hnx hsz
        try simp only [Act.put, List.getElem_toArray, List.getElem_cons_zero, List.getElem_cons_succ, List.setIfInBounds_toArray, List.set_cons_zero, List.set_cons_succ]
        refine wpAnyH_ready (rs := [3, 4, 5]) (by kernel_rfl) (by simp) ?_
        refine (AllReadyH.cons rfl (fun K hK => ?_) (AllReadyH.cons rfl (fun K hK => ?_) (AllReadyH.cons rfl (fun K hK => ?_) AllReadyH.nil)))
        · go_simp
          have hsz := hS1.size
          have hma := fun k hk => (HOa.out.blk (k := k) hk).2
          refine (KC.out _ (HSr.out.later hS1)).mono ?_
          rintro e wb ⟨⟨b, Sb, rfl, hO, hbr, hck, hnx⟩, hbl⟩
          have HM : Hid (∃ m, (∀ k, blkS (.slice a.A a.N a.cA) (.slice a.B a.K a.cB) (.slice a.C a.n a.cC) Sa k → k < m) ∧ (∀ k, blkS (.slice b.A b.N b.cA) (.slice b.B b.K b.cB) (.slice b.C b.n b.cC) Sb k → m ≤ k)) := ⟨_, hma, fun k hk => (hO.blk hk).1⟩
          have HOb := Lib.hid (hO.base hsz); have HBb := Lib.hid (And.intro hbr (And.intro hck hnx))
          have HOa' := Lib.hid (HOa.out.below hbl)
          clear HOa; have HOa := HOa'; clear HOa'
          go_simp
          refine hK.out _ _ (hS1.trans (hbl.mono hS1.size)) (fun hS2 => ?_)
          clear hK K hbl hO hbr hck hnx hsz hma
          try simp only [Act.put, List.getElem_toArray, List.getElem_cons_zero, List.getElem_cons_succ, List.setIfInBounds_toArray, List.set_cons_zero, List.set_cons_succ]
          refine wpAnyH_ready (rs := [4, 5]) (by kernel_rfl) (by simp) ?_
          refine (AllReadyH.cons rfl (fun K hK => ?_) (AllReadyH.cons rfl (fun K hK => ?_) AllReadyH.nil))
          · simp only [if_pos, Region.wanted]
            refine scell_op rfl ?_
            intro p3 z3 hp3 hZ hbl
            have hw3 : w2.heap.size ≤ p3 := by have := hS2.size; omega
            have HOa' := Lib.hid (HOa.out.below hbl)
            have HOb' := Lib.hid (HOb.out.below hbl)
            clear HOa; have HOa := HOa'; clear HOa'
            clear HOb; have HOb := HOb'; clear HOb'
            have HZ3 := Lib.hid hZ
            refine hK.out _ _ (hS2.trans (hbl.mono hS2.size)) (fun hS3 => ?_)
            clear hK K hbl hZ hp3
            try simp only [Act.put, List.getElem_toArray, List.getElem_cons_zero, List.getElem_cons_succ, List.setIfInBounds_toArray, List.set_cons_zero, List.set_cons_succ]
            refine wpAnyH_ready (rs := [5]) (by kernel_rfl) (by simp) ?_
            refine AllReadyH.cons rfl (fun K hK => ?_) AllReadyH.nil
            simp only [if_pos, Region.wanted]
            refine scell_op rfl ?_
            intro p4 z4 hp4 hZ hbl
            have hw4 : w2.heap.size ≤ p4 := by have := hS3.size; omega
            have hne : p3 ≠ p4 := by have := HZ3.out.here; omega
            have HOa' := Lib.hid (HOa.out.below hbl)
            have HOb' := Lib.hid (HOb.out.below hbl)
            have HZ3' := Lib.hid (HZ3.out.later hbl)
            clear HOa; have HOa := HOa'; clear HOa'
            clear HOb; have HOb := HOb'; clear HOb'
            clear HZ3; have HZ3 := HZ3'; clear HZ3'
            have HZ4 := Lib.hid hZ
            refine hK.out _ _ (hS3.trans (hbl.mono hS3.size)) (fun hS4 => ?_)
            clear hK K hbl hZ hp4
            try simp only [Act.put, List.getElem_toArray, List.getElem_cons_zero, List.getElem_cons_succ, List.setIfInBounds_toArray, List.set_cons_zero, List.set_cons_succ]
            refine wpAnyH_ready (rs := [6]) (by kernel_rfl) (by simp) ?_
            refine AllReadyH.cons rfl (fun K hK => ?_) AllReadyH.nil
            simp only [if_pos, Region.wanted]
            refine store_bk_op 31 (.tmp 3) (.tmp 19) rfl p3 0 a.arr rfl rfl 31 #[.int .i64 0, .int .i64 0, .slice none 0 0, .slice none 0 0, .slice none 0 0] a.arr HZ3.out (by kernel_rfl) (by simp) (by kernel_rfl) rfl ?_
            intro y3 hX hgr hs9
            have HOa' := Lib.hid (HOa.out.grp (GrP.of hgr) (fun k hk e => HOa.out.offBk HZ3.out k hk (by injection e with e; exact e.symm)))
            have HOb' := Lib.hid (HOb.out.grp (GrP.of hgr) (fun k hk e => HOb.out.offBk HZ3.out k hk (by injection e with e; exact e.symm)))
            have HZ4' := Lib.hid (HZ4.out.stays hgr (by simp; omega))
            have hbl : Below w2.heap.size _ y3 := grown_base hgr hS4.size (by intro kk ee; cases ee; exact hw3)
            clear HOa; have HOa := HOa'; clear HOa'
            clear HOb; have HOb := HOb'; clear HOb'
            clear HZ4; have HZ4 := HZ4'; clear HZ4'
            have HX3 := Lib.hid hX
            refine hK.out _ _ (hS4.trans hbl) (fun hS5 => ?_)
            clear hK K hbl hX hgr hs9 HZ3
            try simp only [Act.put, List.getElem_toArray, List.getElem_cons_zero, List.getElem_cons_succ, List.setIfInBounds_toArray, List.set_cons_zero, List.set_cons_succ]
            refine wpAnyH_ready (rs := [7]) (by kernel_rfl) (by simp) ?_
            refine AllReadyH.cons rfl (fun K hK => ?_) AllReadyH.nil
            simp only [if_pos, Region.wanted]
            refine store_bk_op 31 (.tmp 4) (.tmp 21) rfl p4 0 b.arr rfl rfl 31 #[.int .i64 0, .int .i64 0, .slice none 0 0, .slice none 0 0, .slice none 0 0] b.arr HZ4.out (by kernel_rfl) (by simp) (by kernel_rfl) rfl ?_
            intro y4 hX hgr hs9
            have HOa' := Lib.hid (HOa.out.grp (GrP.of hgr) (fun k hk e => HOa.out.offBk HZ4.out k hk (by injection e with e; exact e.symm)))
            have HOb' := Lib.hid (HOb.out.grp (GrP.of hgr) (fun k hk e => HOb.out.offBk HZ4.out k hk (by injection e with e; exact e.symm)))
            have HX3' := Lib.hid (HX3.out.stays hgr (by simp; omega))
            have hbl : Below w2.heap.size _ y4 := grown_base hgr hS5.size (by intro kk ee; cases ee; exact hw4)
            clear HOa; have HOa := HOa'; clear HOa'
            clear HOb; have HOb := HOb'; clear HOb'
            clear HX3; have HX3 := HX3'; clear HX3'
            have HX4 := Lib.hid hX
            refine hK.out _ _ (hS5.trans hbl) (fun hS6 => ?_)
            clear hK K hbl hX hgr hs9 HZ4
            try simp only [Act.put, List.getElem_toArray, List.getElem_cons_zero, List.getElem_cons_succ, List.setIfInBounds_toArray, List.set_cons_zero, List.set_cons_succ]
            refine wpAnyH_done (by kernel_rfl) ?_ _
            go_wp2_with fail
            go_meet
            obtain ⟨m, hm1, hm2⟩ := HM.out
            exact ⟨p3, p4, m, a, b, Sa, Sb, rfl, rfl, hS6, HX3.out, HX4.out, hw3, hw4, HOa.out, HOb.out, HBa.out.1, HBb.out.1, HBa.out.2.1, HBa.out.2.2, HBb.out.2.1, HBb.out.2.2, hm1, hm2⟩
          · simp only [if_pos, Region.wanted]
            refine scell_op rfl ?_
            intro p4 z4 hp4 hZ hbl
            have hw4 : w2.heap.size ≤ p4 := by have := hS2.size; omega
            have HOa' := Lib.hid (HOa.out.below hbl)
            have HOb' := Lib.hid (HOb.out.below hbl)
            clear HOa; have HOa := HOa'; clear HOa'
            clear HOb; have HOb := HOb'; clear HOb'
            have HZ4 := Lib.hid hZ
            refine hK.out _ _ (hS2.trans (hbl.mono hS2.size)) (fun hS3 => ?_)
            clear hK K hbl hZ hp4
            try simp only [Act.put, List.getElem_toArray, List.getElem_cons_zero, List.getElem_cons_succ, List.setIfInBounds_toArray, List.set_cons_zero, List.set_cons_succ]
            refine wpAnyH_ready (rs := [4]) (by kernel_rfl) (by simp) ?_
            refine AllReadyH.cons rfl (fun K hK => ?_) AllReadyH.nil
            simp only [if_pos, Region.wanted]
            refine scell_op rfl ?_
            intro p3 z3 hp3 hZ hbl
            have hw3 : w2.heap.size ≤ p3 := by have := hS3.size; omega
            have hne : p3 ≠ p4 := by have := HZ4.out.here; omega
            have HOa' := Lib.hid (HOa.out.below hbl)
            have HOb' := Lib.hid (HOb.out.below hbl)
            have HZ4' := Lib.hid (HZ4.out.later hbl)
            clear HOa; have HOa := HOa'; clear HOa'
            clear HOb; have HOb := HOb'; clear HOb'
            clear HZ4; have HZ4 := HZ4'; clear HZ4'
            have HZ3 := Lib.hid hZ
            refine hK.out _ _ (hS3.trans (hbl.mono hS3.size)) (fun hS4 => ?_)
            clear hK K hbl hZ hp3
            try simp only [Act.put, List.getElem_toArray, List.getElem_cons_zero, List.getElem_cons_succ, List.setIfInBounds_toArray, List.set_cons_zero, List.set_cons_succ]
            refine wpAnyH_ready (rs := [6]) (by kernel_rfl) (by simp) ?_
            refine AllReadyH.cons rfl (fun K hK => ?_) AllReadyH.nil
            simp only [if_pos, Region.wanted]
            refine store_bk_op 31 (.tmp 3) (.tmp 19) rfl p3 0 a.arr rfl rfl 31 #[.int .i64 0, .int .i64 0, .slice none 0 0, .slice none 0 0, .slice none 0 0] a.arr HZ3.out (by kernel_rfl) (by simp) (by kernel_rfl) rfl ?_
            intro y3 hX hgr hs9
            have HOa' := Lib.hid (HOa.out.grp (GrP.of hgr) (fun k hk e => HOa.out.offBk HZ3.out k hk (by injection e with e; exact e.symm)))
            have HOb' := Lib.hid (HOb.out.grp (GrP.of hgr) (fun k hk e => HOb.out.offBk HZ3.out k hk (by injection e with e; exact e.symm)))
            have HZ4' := Lib.hid (HZ4.out.stays hgr (by simp; omega))
            have hbl : Below w2.heap.size _ y3 := grown_base hgr hS4.size (by intro kk ee; cases ee; exact hw3)
            clear HOa; have HOa := HOa'; clear HOa'
            clear HOb; have HOb := HOb'; clear HOb'
            clear HZ4; have HZ4 := HZ4'; clear HZ4'
            have HX3 := Lib.hid hX
            refine hK.out _ _ (hS4.trans hbl) (fun hS5 => ?_)
            clear hK K hbl hX hgr hs9 HZ3
            try simp only [Act.put, List.getElem_toArray, List.getElem_cons_zero, List.getElem_cons_succ, List.setIfInBounds_toArray, List.set_cons_zero, List.set_cons_succ]
            refine wpAnyH_ready (rs := [7]) (by kernel_rfl) (by simp) ?_
            refine AllReadyH.cons rfl (fun K hK => ?_) AllReadyH.nil
            simp only [if_pos, Region.wanted]
            refine store_bk_op 31 (.tmp 4) (.tmp 21) rfl p4 0 b.arr rfl rfl 31 #[.int .i64 0, .int .i64 0, .slice none 0 0, .slice none 0 0, .slice none 0 0] b.arr HZ4.out (by kernel_rfl) (by simp) (by kernel_rfl) rfl ?_
            intro y4 hX hgr hs9
            have HOa' := Lib.hid (HOa.out.grp (GrP.of hgr) (fun k hk e => HOa.out.offBk HZ4.out k hk (by injection e with e; exact e.symm)))
            have HOb' := Lib.hid (HOb.out.grp (GrP.of hgr) (fun k hk e => HOb.out.offBk HZ4.out k hk (by injection e with e; exact e.symm)))
            have HX3' := Lib.hid (HX3.out.stays hgr (by simp; omega))
            have hbl : Below w2.heap.size _ y4 := grown_base hgr hS5.size (by intro kk ee; cases ee; exact hw4)
            clear HOa; have HOa := HOa'; clear HOa'
            clear HOb; have HOb := HOb'; clear HOb'
            clear HX3; have HX3 := HX3'; clear HX3'
            have HX4 := Lib.hid hX
            refine hK.out _ _ (hS5.trans hbl) (fun hS6 => ?_)
            clear hK K hbl hX hgr hs9 HZ4
            try simp only [Act.put, List.getElem_toArray, List.getElem_cons_zero, List.getElem_cons_succ, List.setIfInBounds_toArray, List.set_cons_zero, List.set_cons_succ]
            refine wpAnyH_done (by kernel_rfl) ?_ _
            go_wp2_with fail
            go_meet
            obtain ⟨m, hm1, hm2⟩ := HM.out
            exact ⟨p3, p4, m, a, b, Sa, Sb, rfl, rfl, hS6, HX3.out, HX4.out, hw3, hw4, HOa.out, HOb.out, HBa.out.1, HBb.out.1, HBa.out.2.1, HBa.out.2.2, HBb.out.2.1, HBb.out.2.2, hm1, hm2⟩
        · simp only [if_pos, Region.wanted]
          refine scell_op rfl ?_
          intro p3 z3 hp3 hZ hbl
          have hw3 : w2.heap.size ≤ p3 := by have := hS1.size; omega
          have HOa' := Lib.hid (HOa.out.below hbl)
          clear HOa; have HOa := HOa'; clear HOa'
          have HZ3 := Lib.hid hZ
          refine hK.out _ _ (hS1.trans (hbl.mono hS1.size)) (fun hS2 => ?_)
          clear hK K hbl hZ hp3
          try simp only [Act.put, List.getElem_toArray, List.getElem_cons_zero, List.getElem_cons_succ, List.setIfInBounds_toArray, List.set_cons_zero, List.set_cons_succ]
          refine wpAnyH_ready (rs := [3, 5]) (by kernel_rfl) (by simp) ?_
          refine (AllReadyH.cons rfl (fun K hK => ?_) (AllReadyH.cons rfl (fun K hK => ?_) AllReadyH.nil))
          · go_simp
            have hsz := hS2.size
            have hma := fun k hk => (HOa.out.blk (k := k) hk).2
            refine (KC.out _ (HSr.out.later hS2)).mono ?_
            rintro e wb ⟨⟨b, Sb, rfl, hO, hbr, hck, hnx⟩, hbl⟩
            have HM : Hid (∃ m, (∀ k, blkS (.slice a.A a.N a.cA) (.slice a.B a.K a.cB) (.slice a.C a.n a.cC) Sa k → k < m) ∧ (∀ k, blkS (.slice b.A b.N b.cA) (.slice b.B b.K b.cB) (.slice b.C b.n b.cC) Sb k → m ≤ k)) := ⟨_, hma, fun k hk => (hO.blk hk).1⟩
            have HOb := Lib.hid (hO.base hsz); have HBb := Lib.hid (And.intro hbr (And.intro hck hnx))
            have HOa' := Lib.hid (HOa.out.below hbl)
            have HZ3' := Lib.hid (HZ3.out.later hbl)
            clear HOa; have HOa := HOa'; clear HOa'
            clear HZ3; have HZ3 := HZ3'; clear HZ3'
            go_simp
            refine hK.out _ _ (hS2.trans (hbl.mono hS2.size)) (fun hS3 => ?_)
            clear hK K hbl hO hbr hck hnx hsz hma
            try simp only [Act.put, List.getElem_toArray, List.getElem_cons_zero, List.getElem_cons_succ, List.setIfInBounds_toArray, List.set_cons_zero, List.set_cons_succ]
            refine wpAnyH_ready (rs := [5]) (by kernel_rfl) (by simp) ?_
            refine AllReadyH.cons rfl (fun K hK => ?_) AllReadyH.nil
            simp only [if_pos, Region.wanted]
            refine scell_op rfl ?_
            intro p4 z4 hp4 hZ hbl
            have hw4 : w2.heap.size ≤ p4 := by have := hS3.size; omega
            have hne : p3 ≠ p4 := by have := HZ3.out.here; omega
            have HOa' := Lib.hid (HOa.out.below hbl)
            have HOb' := Lib.hid (HOb.out.below hbl)
            have HZ3' := Lib.hid (HZ3.out.later hbl)
            clear HOa; have HOa := HOa'; clear HOa'
            clear HOb; have HOb := HOb'; clear HOb'
            clear HZ3; have HZ3 := HZ3'; clear HZ3'
            have HZ4 := Lib.hid hZ
            refine hK.out _ _ (hS3.trans (hbl.mono hS3.size)) (fun hS4 => ?_)
            clear hK K hbl hZ hp4
            try simp only [Act.put, List.getElem_toArray, List.getElem_cons_zero, List.getElem_cons_succ, List.setIfInBounds_toArray, List.set_cons_zero, List.set_cons_succ]
            refine wpAnyH_ready (rs := [6]) (by kernel_rfl) (by simp) ?_
            refine AllReadyH.cons rfl (fun K hK => ?_) AllReadyH.nil
            simp only [if_pos, Region.wanted]
            refine store_bk_op 31 (.tmp 3) (.tmp 19) rfl p3 0 a.arr rfl rfl 31 #[.int .i64 0, .int .i64 0, .slice none 0 0, .slice none 0 0, .slice none 0 0] a.arr HZ3.out (by kernel_rfl) (by simp) (by kernel_rfl) rfl ?_
            intro y3 hX hgr hs9
            have HOa' := Lib.hid (HOa.out.grp (GrP.of hgr) (fun k hk e => HOa.out.offBk HZ3.out k hk (by injection e with e; exact e.symm)))
            have HOb' := Lib.hid (HOb.out.grp (GrP.of hgr) (fun k hk e => HOb.out.offBk HZ3.out k hk (by injection e with e; exact e.symm)))
            have HZ4' := Lib.hid (HZ4.out.stays hgr (by simp; omega))
            have hbl : Below w2.heap.size _ y3 := grown_base hgr hS4.size (by intro kk ee; cases ee; exact hw3)
            clear HOa; have HOa := HOa'; clear HOa'
            clear HOb; have HOb := HOb'; clear HOb'
            clear HZ4; have HZ4 := HZ4'; clear HZ4'
            have HX3 := Lib.hid hX
            refine hK.out _ _ (hS4.trans hbl) (fun hS5 => ?_)
            clear hK K hbl hX hgr hs9 HZ3
            try simp only [Act.put, List.getElem_toArray, List.getElem_cons_zero, List.getElem_cons_succ, List.setIfInBounds_toArray, List.set_cons_zero, List.set_cons_succ]
            refine wpAnyH_ready (rs := [7]) (by kernel_rfl) (by simp) ?_
            refine AllReadyH.cons rfl (fun K hK => ?_) AllReadyH.nil
            simp only [if_pos, Region.wanted]
            refine store_bk_op 31 (.tmp 4) (.tmp 21) rfl p4 0 b.arr rfl rfl 31 #[.int .i64 0, .int .i64 0, .slice none 0 0, .slice none 0 0, .slice none 0 0] b.arr HZ4.out (by kernel_rfl) (by simp) (by kernel_rfl) rfl ?_
            intro y4 hX hgr hs9
            have HOa' := Lib.hid (HOa.out.grp (GrP.of hgr) (fun k hk e => HOa.out.offBk HZ4.out k hk (by injection e with e; exact e.symm)))
            have HOb' := Lib.hid (HOb.out.grp (GrP.of hgr) (fun k hk e => HOb.out.offBk HZ4.out k hk (by injection e with e; exact e.symm)))
            have HX3' := Lib.hid (HX3.out.stays hgr (by simp; omega))
            have hbl : Below w2.heap.size _ y4 := grown_base hgr hS5.size (by intro kk ee; cases ee; exact hw4)
            clear HOa; have HOa := HOa'; clear HOa'
            clear HOb; have HOb := HOb'; clear HOb'
            clear HX3; have HX3 := HX3'; clear HX3'
            have HX4 := Lib.hid hX
            refine hK.out _ _ (hS5.trans hbl) (fun hS6 => ?_)
            clear hK K hbl hX hgr hs9 HZ4
            try simp only [Act.put, List.getElem_toArray, List.getElem_cons_zero, List.getElem_cons_succ, List.setIfInBounds_toArray, List.set_cons_zero, List.set_cons_succ]
            refine wpAnyH_done (by kernel_rfl) ?_ _
            go_wp2_with fail
            go_meet
            obtain ⟨m, hm1, hm2⟩ := HM.out
            exact ⟨p3, p4, m, a, b, Sa, Sb, rfl, rfl, hS6, HX3.out, HX4.out, hw3, hw4, HOa.out, HOb.out, HBa.out.1, HBb.out.1, HBa.out.2.1, HBa.out.2.2, HBb.out.2.1, HBb.out.2.2, hm1, hm2⟩
          · simp only [if_pos, Region.wanted]
            refine scell_op rfl ?_
            intro p4 z4 hp4 hZ hbl
            have hw4 : w2.heap.size ≤ p4 := by have := hS2.size; omega
            have hne : p3 ≠ p4 := by have := HZ3.out.here; omega
            have HOa' := Lib.hid (HOa.out.below hbl)
            have HZ3' := Lib.hid (HZ3.out.later hbl)
            clear HOa; have HOa := HOa'; clear HOa'
            clear HZ3; have HZ3 := HZ3'; clear HZ3'
            have HZ4 := Lib.hid hZ
            refine hK.out _ _ (hS2.trans (hbl.mono hS2.size)) (fun hS3 => ?_)
            clear hK K hbl hZ hp4
            try simp only [Act.put, List.getElem_toArray, List.getElem_cons_zero, List.getElem_cons_succ, List.setIfInBounds_toArray, List.set_cons_zero, List.set_cons_succ]
            refine wpAnyH_ready (rs := [3]) (by kernel_rfl) (by simp) ?_
            refine AllReadyH.cons rfl (fun K hK => ?_) AllReadyH.nil
            go_simp
            have hsz := hS3.size
            have hma := fun k hk => (HOa.out.blk (k := k) hk).2
            refine (KC.out _ (HSr.out.later hS3)).mono ?_
            rintro e wb ⟨⟨b, Sb, rfl, hO, hbr, hck, hnx⟩, hbl⟩
            have HM : Hid (∃ m, (∀ k, blkS (.slice a.A a.N a.cA) (.slice a.B a.K a.cB) (.slice a.C a.n a.cC) Sa k → k < m) ∧ (∀ k, blkS (.slice b.A b.N b.cA) (.slice b.B b.K b.cB) (.slice b.C b.n b.cC) Sb k → m ≤ k)) := ⟨_, hma, fun k hk => (hO.blk hk).1⟩
            have HOb := Lib.hid (hO.base hsz); have HBb := Lib.hid (And.intro hbr (And.intro hck hnx))
            have HOa' := Lib.hid (HOa.out.below hbl)
            have HZ3' := Lib.hid (HZ3.out.later hbl)
            have HZ4' := Lib.hid (HZ4.out.later hbl)
            clear HOa; have HOa := HOa'; clear HOa'
            clear HZ3; have HZ3 := HZ3'; clear HZ3'
            clear HZ4; have HZ4 := HZ4'; clear HZ4'
            go_simp
            refine hK.out _ _ (hS3.trans (hbl.mono hS3.size)) (fun hS4 => ?_)
            clear hK K hbl hO hbr hck hnx hsz hma
            try simp only [Act.put, List.getElem_toArray, List.getElem_cons_zero, List.getElem_cons_succ, List.setIfInBounds_toArray, List.set_cons_zero, List.set_cons_succ]
            refine wpAnyH_ready (rs := [6]) (by kernel_rfl) (by simp) ?_
            refine AllReadyH.cons rfl (fun K hK => ?_) AllReadyH.nil
            simp only [if_pos, Region.wanted]
            refine store_bk_op 31 (.tmp 3) (.tmp 19) rfl p3 0 a.arr rfl rfl 31 #[.int .i64 0, .int .i64 0, .slice none 0 0, .slice none 0 0, .slice none 0 0] a.arr HZ3.out (by kernel_rfl) (by simp) (by kernel_rfl) rfl ?_
            intro y3 hX hgr hs9
            have HOa' := Lib.hid (HOa.out.grp (GrP.of hgr) (fun k hk e => HOa.out.offBk HZ3.out k hk (by injection e with e; exact e.symm)))
            have HOb' := Lib.hid (HOb.out.grp (GrP.of hgr) (fun k hk e => HOb.out.offBk HZ3.out k hk (by injection e with e; exact e.symm)))
            have HZ4' := Lib.hid (HZ4.out.stays hgr (by simp; omega))
            have hbl : Below w2.heap.size _ y3 := grown_base hgr hS4.size (by intro kk ee; cases ee; exact hw3)
            clear HOa; have HOa := HOa'; clear HOa'
            clear HOb; have HOb := HOb'; clear HOb'
            clear HZ4; have HZ4 := HZ4'; clear HZ4'
            have HX3 := Lib.hid hX
            refine hK.out _ _ (hS4.trans hbl) (fun hS5 => ?_)
            clear hK K hbl hX hgr hs9 HZ3
            try simp only [Act.put, List.getElem_toArray, List.getElem_cons_zero, List.getElem_cons_succ, List.setIfInBounds_toArray, List.set_cons_zero, List.set_cons_succ]
            refine wpAnyH_ready (rs := [7]) (by kernel_rfl) (by simp) ?_
            refine AllReadyH.cons rfl (fun K hK => ?_) AllReadyH.nil
            simp only [if_pos, Region.wanted]
            refine store_bk_op 31 (.tmp 4) (.tmp 21) rfl p4 0 b.arr rfl rfl 31 #[.int .i64 0, .int .i64 0, .slice none 0 0, .slice none 0 0, .slice none 0 0] b.arr HZ4.out (by kernel_rfl) (by simp) (by kernel_rfl) rfl ?_
            intro y4 hX hgr hs9
            have HOa' := Lib.hid (HOa.out.grp (GrP.of hgr) (fun k hk e => HOa.out.offBk HZ4.out k hk (by injection e with e; exact e.symm)))
            have HOb' := Lib.hid (HOb.out.grp (GrP.of hgr) (fun k hk e => HOb.out.offBk HZ4.out k hk (by injection e with e; exact e.symm)))
            have HX3' := Lib.hid (HX3.out.stays hgr (by simp; omega))
            have hbl : Below w2.heap.size _ y4 := grown_base hgr hS5.size (by intro kk ee; cases ee; exact hw4)
            clear HOa; have HOa := HOa'; clear HOa'
            clear HOb; have HOb := HOb'; clear HOb'
            clear HX3; have HX3 := HX3'; clear HX3'
            have HX4 := Lib.hid hX
            refine hK.out _ _ (hS5.trans hbl) (fun hS6 => ?_)
            clear hK K hbl hX hgr hs9 HZ4
            try simp only [Act.put, List.getElem_toArray, List.getElem_cons_zero, List.getElem_cons_succ, List.setIfInBounds_toArray, List.set_cons_zero, List.set_cons_succ]
            refine wpAnyH_done (by kernel_rfl) ?_ _
            go_wp2_with fail
            go_meet
            obtain ⟨m, hm1, hm2⟩ := HM.out
            exact ⟨p3, p4, m, a, b, Sa, Sb, rfl, rfl, hS6, HX3.out, HX4.out, hw3, hw4, HOa.out, HOb.out, HBa.out.1, HBb.out.1, HBa.out.2.1, HBa.out.2.2, HBb.out.2.1, HBb.out.2.2, hm1, hm2⟩
        · simp only [if_pos, Region.wanted]
          refine scell_op rfl ?_
          intro p4 z4 hp4 hZ hbl
          have hw4 : w2.heap.size ≤ p4 := by have := hS1.size; omega
          have HOa' := Lib.hid (HOa.out.below hbl)
          clear HOa; have HOa := HOa'; clear HOa'
          have HZ4 := Lib.hid hZ
          refine hK.out _ _ (hS1.trans (hbl.mono hS1.size)) (fun hS2 => ?_)
          clear hK K hbl hZ hp4
          try simp only [Act.put, List.getElem_toArray, List.getElem_cons_zero, List.getElem_cons_succ, List.setIfInBounds_toArray, List.set_cons_zero, List.set_cons_succ]
          refine wpAnyH_ready (rs := [3, 4]) (by kernel_rfl) (by simp) ?_
          refine (AllReadyH.cons rfl (fun K hK => ?_) (AllReadyH.cons rfl (fun K hK => ?_) AllReadyH.nil))
          · go_simp
            have hsz := hS2.size
            have hma := fun k hk => (HOa.out.blk (k := k) hk).2
            refine (KC.out _ (HSr.out.later hS2)).mono ?_
            rintro e wb ⟨⟨b, Sb, rfl, hO, hbr, hck, hnx⟩, hbl⟩
            have HM : Hid (∃ m, (∀ k, blkS (.slice a.A a.N a.cA) (.slice a.B a.K a.cB) (.slice a.C a.n a.cC) Sa k → k < m) ∧ (∀ k, blkS (.slice b.A b.N b.cA) (.slice b.B b.K b.cB) (.slice b.C b.n b.cC) Sb k → m ≤ k)) := ⟨_, hma, fun k hk => (hO.blk hk).1⟩
            have HOb := Lib.hid (hO.base hsz); have HBb := Lib.hid (And.intro hbr (And.intro hck hnx))
            have HOa' := Lib.hid (HOa.out.below hbl)
            have HZ4' := Lib.hid (HZ4.out.later hbl)
            clear HOa; have HOa := HOa'; clear HOa'
            clear HZ4; have HZ4 := HZ4'; clear HZ4'
            go_simp
            refine hK.out _ _ (hS2.trans (hbl.mono hS2.size)) (fun hS3 => ?_)
            clear hK K hbl hO hbr hck hnx hsz hma
            try simp only [Act.put, List.getElem_toArray, List.getElem_cons_zero, List.getElem_cons_succ, List.setIfInBounds_toArray, List.set_cons_zero, List.set_cons_succ]
            refine wpAnyH_ready (rs := [4]) (by kernel_rfl) (by simp) ?_
            refine AllReadyH.cons rfl (fun K hK => ?_) AllReadyH.nil
            simp only [if_pos, Region.wanted]
            refine scell_op rfl ?_
            intro p3 z3 hp3 hZ hbl
            have hw3 : w2.heap.size ≤ p3 := by have := hS3.size; omega
            have hne : p3 ≠ p4 := by have := HZ4.out.here; omega
            have HOa' := Lib.hid (HOa.out.below hbl)
            have HOb' := Lib.hid (HOb.out.below hbl)
            have HZ4' := Lib.hid (HZ4.out.later hbl)
            clear HOa; have HOa := HOa'; clear HOa'
            clear HOb; have HOb := HOb'; clear HOb'
            clear HZ4; have HZ4 := HZ4'; clear HZ4'
            have HZ3 := Lib.hid hZ
            refine hK.out _ _ (hS3.trans (hbl.mono hS3.size)) (fun hS4 => ?_)
            clear hK K hbl hZ hp3
            try simp only [Act.put, List.getElem_toArray, List.getElem_cons_zero, List.getElem_cons_succ, List.setIfInBounds_toArray, List.set_cons_zero, List.set_cons_succ]
            refine wpAnyH_ready (rs := [6]) (by kernel_rfl) (by simp) ?_
            refine AllReadyH.cons rfl (fun K hK => ?_) AllReadyH.nil
            simp only [if_pos, Region.wanted]
            refine store_bk_op 31 (.tmp 3) (.tmp 19) rfl p3 0 a.arr rfl rfl 31 #[.int .i64 0, .int .i64 0, .slice none 0 0, .slice none 0 0, .slice none 0 0] a.arr HZ3.out (by kernel_rfl) (by simp) (by kernel_rfl) rfl ?_
            intro y3 hX hgr hs9
            have HOa' := Lib.hid (HOa.out.grp (GrP.of hgr) (fun k hk e => HOa.out.offBk HZ3.out k hk (by injection e with e; exact e.symm)))
            have HOb' := Lib.hid (HOb.out.grp (GrP.of hgr) (fun k hk e => HOb.out.offBk HZ3.out k hk (by injection e with e; exact e.symm)))
            have HZ4' := Lib.hid (HZ4.out.stays hgr (by simp; omega))
            have hbl : Below w2.heap.size _ y3 := grown_base hgr hS4.size (by intro kk ee; cases ee; exact hw3)
            clear HOa; have HOa := HOa'; clear HOa'
            clear HOb; have HOb := HOb'; clear HOb'
            clear HZ4; have HZ4 := HZ4'; clear HZ4'
            have HX3 := Lib.hid hX
            refine hK.out _ _ (hS4.trans hbl) (fun hS5 => ?_)
            clear hK K hbl hX hgr hs9 HZ3
            try simp only [Act.put, List.getElem_toArray, List.getElem_cons_zero, List.getElem_cons_succ, List.setIfInBounds_toArray, List.set_cons_zero, List.set_cons_succ]
            refine wpAnyH_ready (rs := [7]) (by kernel_rfl) (by simp) ?_
            refine AllReadyH.cons rfl (fun K hK => ?_) AllReadyH.nil
            simp only [if_pos, Region.wanted]
            refine store_bk_op 31 (.tmp 4) (.tmp 21) rfl p4 0 b.arr rfl rfl 31 #[.int .i64 0, .int .i64 0, .slice none 0 0, .slice none 0 0, .slice none 0 0] b.arr HZ4.out (by kernel_rfl) (by simp) (by kernel_rfl) rfl ?_
            intro y4 hX hgr hs9
            have HOa' := Lib.hid (HOa.out.grp (GrP.of hgr) (fun k hk e => HOa.out.offBk HZ4.out k hk (by injection e with e; exact e.symm)))
            have HOb' := Lib.hid (HOb.out.grp (GrP.of hgr) (fun k hk e => HOb.out.offBk HZ4.out k hk (by injection e with e; exact e.symm)))
            have HX3' := Lib.hid (HX3.out.stays hgr (by simp; omega))
            have hbl : Below w2.heap.size _ y4 := grown_base hgr hS5.size (by intro kk ee; cases ee; exact hw4)
            clear HOa; have HOa := HOa'; clear HOa'
            clear HOb; have HOb := HOb'; clear HOb'
            clear HX3; have HX3 := HX3'; clear HX3'
            have HX4 := Lib.hid hX
            refine hK.out _ _ (hS5.trans hbl) (fun hS6 => ?_)
            clear hK K hbl hX hgr hs9 HZ4
            try simp only [Act.put, List.getElem_toArray, List.getElem_cons_zero, List.getElem_cons_succ, List.setIfInBounds_toArray, List.set_cons_zero, List.set_cons_succ]
            refine wpAnyH_done (by kernel_rfl) ?_ _
            go_wp2_with fail
            go_meet
            obtain ⟨m, hm1, hm2⟩ := HM.out
            exact ⟨p3, p4, m, a, b, Sa, Sb, rfl, rfl, hS6, HX3.out, HX4.out, hw3, hw4, HOa.out, HOb.out, HBa.out.1, HBb.out.1, HBa.out.2.1, HBa.out.2.2, HBb.out.2.1, HBb.out.2.2, hm1, hm2⟩
          · simp only [if_pos, Region.wanted]
            refine scell_op rfl ?_
            intro p3 z3 hp3 hZ hbl
            have hw3 : w2.heap.size ≤ p3 := by have := hS2.size; omega
            have hne : p3 ≠ p4 := by have := HZ4.out.here; omega
            have HOa' := Lib.hid (HOa.out.below hbl)
            have HZ4' := Lib.hid (HZ4.out.later hbl)
            clear HOa; have HOa := HOa'; clear HOa'
            clear HZ4; have HZ4 := HZ4'; clear HZ4'
            have HZ3 := Lib.hid hZ
            refine hK.out _ _ (hS2.trans (hbl.mono hS2.size)) (fun hS3 => ?_)
            clear hK K hbl hZ hp3
            try simp only [Act.put, List.getElem_toArray, List.getElem_cons_zero, List.getElem_cons_succ, List.setIfInBounds_toArray, List.set_cons_zero, List.set_cons_succ]
            refine wpAnyH_ready (rs := [3]) (by kernel_rfl) (by simp) ?_
            refine AllReadyH.cons rfl (fun K hK => ?_) AllReadyH.nil
            go_simp
            have hsz := hS3.size
            have hma := fun k hk => (HOa.out.blk (k := k) hk).2
            refine (KC.out _ (HSr.out.later hS3)).mono ?_
            rintro e wb ⟨⟨b, Sb, rfl, hO, hbr, hck, hnx⟩, hbl⟩
            have HM : Hid (∃ m, (∀ k, blkS (.slice a.A a.N a.cA) (.slice a.B a.K a.cB) (.slice a.C a.n a.cC) Sa k → k < m) ∧ (∀ k, blkS (.slice b.A b.N b.cA) (.slice b.B b.K b.cB) (.slice b.C b.n b.cC) Sb k → m ≤ k)) := ⟨_, hma, fun k hk => (hO.blk hk).1⟩
            have HOb := Lib.hid (hO.base hsz); have HBb := Lib.hid (And.intro hbr (And.intro hck hnx))
            have HOa' := Lib.hid (HOa.out.below hbl)
            have HZ3' := Lib.hid (HZ3.out.later hbl)
            have HZ4' := Lib.hid (HZ4.out.later hbl)
            clear HOa; have HOa := HOa'; clear HOa'
            clear HZ3; have HZ3 := HZ3'; clear HZ3'
            clear HZ4; have HZ4 := HZ4'; clear HZ4'
            go_simp
            refine hK.out _ _ (hS3.trans (hbl.mono hS3.size)) (fun hS4 => ?_)
            clear hK K hbl hO hbr hck hnx hsz hma
            try simp only [Act.put, List.getElem_toArray, List.getElem_cons_zero, List.getElem_cons_succ, List.setIfInBounds_toArray, List.set_cons_zero, List.set_cons_succ]
            refine wpAnyH_ready (rs := [6]) (by kernel_rfl) (by simp) ?_
            refine AllReadyH.cons rfl (fun K hK => ?_) AllReadyH.nil
            simp only [if_pos, Region.wanted]
            refine store_bk_op 31 (.tmp 3) (.tmp 19) rfl p3 0 a.arr rfl rfl 31 #[.int .i64 0, .int .i64 0, .slice none 0 0, .slice none 0 0, .slice none 0 0] a.arr HZ3.out (by kernel_rfl) (by simp) (by kernel_rfl) rfl ?_
            intro y3 hX hgr hs9
            have HOa' := Lib.hid (HOa.out.grp (GrP.of hgr) (fun k hk e => HOa.out.offBk HZ3.out k hk (by injection e with e; exact e.symm)))
            have HOb' := Lib.hid (HOb.out.grp (GrP.of hgr) (fun k hk e => HOb.out.offBk HZ3.out k hk (by injection e with e; exact e.symm)))
            have HZ4' := Lib.hid (HZ4.out.stays hgr (by simp; omega))
            have hbl : Below w2.heap.size _ y3 := grown_base hgr hS4.size (by intro kk ee; cases ee; exact hw3)
            clear HOa; have HOa := HOa'; clear HOa'
            clear HOb; have HOb := HOb'; clear HOb'
            clear HZ4; have HZ4 := HZ4'; clear HZ4'
            have HX3 := Lib.hid hX
            refine hK.out _ _ (hS4.trans hbl) (fun hS5 => ?_)
            clear hK K hbl hX hgr hs9 HZ3
            try simp only [Act.put, List.getElem_toArray, List.getElem_cons_zero, List.getElem_cons_succ, List.setIfInBounds_toArray, List.set_cons_zero, List.set_cons_succ]
            refine wpAnyH_ready (rs := [7]) (by kernel_rfl) (by simp) ?_
            refine AllReadyH.cons rfl (fun K hK => ?_) AllReadyH.nil
            simp only [if_pos, Region.wanted]
            refine store_bk_op 31 (.tmp 4) (.tmp 21) rfl p4 0 b.arr rfl rfl 31 #[.int .i64 0, .int .i64 0, .slice none 0 0, .slice none 0 0, .slice none 0 0] b.arr HZ4.out (by kernel_rfl) (by simp) (by kernel_rfl) rfl ?_
            intro y4 hX hgr hs9
            have HOa' := Lib.hid (HOa.out.grp (GrP.of hgr) (fun k hk e => HOa.out.offBk HZ4.out k hk (by injection e with e; exact e.symm)))
            have HOb' := Lib.hid (HOb.out.grp (GrP.of hgr) (fun k hk e => HOb.out.offBk HZ4.out k hk (by injection e with e; exact e.symm)))
            have HX3' := Lib.hid (HX3.out.stays hgr (by simp; omega))
            have hbl : Below w2.heap.size _ y4 := grown_base hgr hS5.size (by intro kk ee; cases ee; exact hw4)
            clear HOa; have HOa := HOa'; clear HOa'
            clear HOb; have HOb := HOb'; clear HOb'
            clear HX3; have HX3 := HX3'; clear HX3'
            have HX4 := Lib.hid hX
            refine hK.out _ _ (hS5.trans hbl) (fun hS6 => ?_)
            clear hK K hbl hX hgr hs9 HZ4
            try simp only [Act.put, List.getElem_toArray, List.getElem_cons_zero, List.getElem_cons_succ, List.setIfInBounds_toArray, List.set_cons_zero, List.set_cons_succ]
            refine wpAnyH_done (by kernel_rfl) ?_ _
            go_wp2_with fail
            go_meet
            obtain ⟨m, hm1, hm2⟩ := HM.out
            exact ⟨p3, p4, m, a, b, Sa, Sb, rfl, rfl, hS6, HX3.out, HX4.out, hw3, hw4, HOa.out, HOb.out, HBa.out.1, HBb.out.1, HBa.out.2.1, HBa.out.2.2, HBb.out.2.1, HBb.out.2.2, hm1, hm2⟩
      · simp only [if_pos, Region.wanted]
        refine scell_op rfl ?_
        intro p3 z3 hp3 hZ hbl
        have hw3 : w2.heap.size ≤ p3 := by have := hS0.size; omega
        have HZ3 := Lib.hid hZ
        refine hK.out _ _ (hS0.trans (hbl.mono hS0.size)) (fun hS1 => ?_)
        clear hK K hbl hZ hp3
        try simp only [Act.put, List.getElem_toArray, List.getElem_cons_zero, List.getElem_cons_succ, List.setIfInBounds_toArray, List.set_cons_zero, List.set_cons_succ]
        refine wpAnyH_ready (rs := [1, 5]) (by kernel_rfl) (by simp) ?_
        refine (AllReadyH.cons rfl (fun K hK => ?_) (AllReadyH.cons rfl (fun K hK => ?_) AllReadyH.nil))
        · go_simp
          have hsz := hS1.size
          refine (KC.out _ (HSr.out.later hS1)).mono ?_
          rintro e wa ⟨⟨a, Sa, rfl, hO, hbr, hck, hnx⟩, hbl⟩
          have HOa := Lib.hid (hO.base hsz); have HBa := Lib.hid (And.intro hbr (And.intro hck hnx))
          have HZ3' := Lib.hid (HZ3.out.later hbl)
          clear HZ3; have HZ3 := HZ3'; clear HZ3'
          go_simp
          refine hK.out _ _ (hS1.trans (hbl.mono hS1.size)) (fun hS2 => ?_)
          clear hK K hbl hO hbr hck hnx hsz
          try simp only [Act.put, List.getElem_toArray, List.getElem_cons_zero, List.getElem_cons_succ, List.setIfInBounds_toArray, List.set_cons_zero, List.set_cons_succ]
          refine wpAnyH_ready (rs := [3, 5]) (by kernel_rfl) (by simp) ?_
          refine (AllReadyH.cons rfl (fun K hK => ?_) (AllReadyH.cons rfl (fun K hK => ?_) AllReadyH.nil))
          · go_simp
            have hsz := hS2.size
            have hma := fun k hk => (HOa.out.blk (k := k) hk).2
            refine (KC.out _ (HSr.out.later hS2)).mono ?_
            rintro e wb ⟨⟨b, Sb, rfl, hO, hbr, hck, hnx⟩, hbl⟩
            have HM : Hid (∃ m, (∀ k, blkS (.slice a.A a.N a.cA) (.slice a.B a.K a.cB) (.slice a.C a.n a.cC) Sa k → k < m) ∧ (∀ k, blkS (.slice b.A b.N b.cA) (.slice b.B b.K b.cB) (.slice b.C b.n b.cC) Sb k → m ≤ k)) := ⟨_, hma, fun k hk => (hO.blk hk).1⟩
            have HOb := Lib.hid (hO.base hsz); have HBb := Lib.hid (And.intro hbr (And.intro hck hnx))
            have HOa' := Lib.hid (HOa.out.below hbl)
            have HZ3' := Lib.hid (HZ3.out.later hbl)
            clear HOa; have HOa := HOa'; clear HOa'
            clear HZ3; have HZ3 := HZ3'; clear HZ3'
            go_simp
            refine hK.out _ _ (hS2.trans (hbl.mono hS2.size)) (fun hS3 => ?_)
            clear hK K hbl hO hbr hck hnx hsz hma
            try simp only [Act.put, List.getElem_toArray, List.getElem_cons_zero, List.getElem_cons_succ, List.setIfInBounds_toArray, List.set_cons_zero, List.set_cons_succ]
            refine wpAnyH_ready (rs := [5]) (by kernel_rfl) (by simp) ?_
            refine AllReadyH.cons rfl (fun K hK => ?_) AllReadyH.nil
            simp only [if_pos, Region.wanted]
            refine scell_op rfl ?_
            intro p4 z4 hp4 hZ hbl
            have hw4 : w2.heap.size ≤ p4 := by have := hS3.size; omega
            have hne : p3 ≠ p4 := by have := HZ3.out.here; omega
            have HOa' := Lib.hid (HOa.out.below hbl)
            have HOb' := Lib.hid (HOb.out.below hbl)
            have HZ3' := Lib.hid (HZ3.out.later hbl)
            clear HOa; have HOa := HOa'; clear HOa'
            clear HOb; have HOb := HOb'; clear HOb'
            clear HZ3; have HZ3 := HZ3'; clear HZ3'
            have HZ4 := Lib.hid hZ
            refine hK.out _ _ (hS3.trans (hbl.mono hS3.size)) (fun hS4 => ?_)
            clear hK K hbl hZ hp4
            try simp only [Act.put, List.getElem_toArray, List.getElem_cons_zero, List.getElem_cons_succ, List.setIfInBounds_toArray, List.set_cons_zero, List.set_cons_succ]
            refine wpAnyH_ready (rs := [6]) (by kernel_rfl) (by simp) ?_
            refine AllReadyH.cons rfl (fun K hK => ?_) AllReadyH.nil
            simp only [if_pos, Region.wanted]
            refine store_bk_op 31 (.tmp 3) (.tmp 19) rfl p3 0 a.arr rfl rfl 31 #[.int .i64 0, .int .i64 0, .slice none 0 0, .slice none 0 0, .slice none 0 0] a.arr HZ3.out (by kernel_rfl) (by simp) (by kernel_rfl) rfl ?_
            intro y3 hX hgr hs9
            have HOa' := Lib.hid (HOa.out.grp (GrP.of hgr) (fun k hk e => HOa.out.offBk HZ3.out k hk (by injection e with e; exact e.symm)))
            have HOb' := Lib.hid (HOb.out.grp (GrP.of hgr) (fun k hk e => HOb.out.offBk HZ3.out k hk (by injection e with e; exact e.symm)))
            have HZ4' := Lib.hid (HZ4.out.stays hgr (by simp; omega))
            have hbl : Below w2.heap.size _ y3 := grown_base hgr hS4.size (by intro kk ee; cases ee; exact hw3)
            clear HOa; have HOa := HOa'; clear HOa'
            clear HOb; have HOb := HOb'; clear HOb'
            clear HZ4; have HZ4 := HZ4'; clear HZ4'
            have HX3 := Lib.hid hX
            refine hK.out _ _ (hS4.trans hbl) (fun hS5 => ?_)
            clear hK K hbl hX hgr hs9 HZ3
            try simp only [Act.put, List.getElem_toArray, List.getElem_cons_zero, List.getElem_cons_succ, List.setIfInBounds_toArray, List.set_cons_zero, List.set_cons_succ]
            refine wpAnyH_ready (rs := [7]) (by kernel_rfl) (by simp) ?_
            refine AllReadyH.cons rfl (fun K hK => ?_) AllReadyH.nil
            simp only [if_pos, Region.wanted]
            refine store_bk_op 31 (.tmp 4) (.tmp 21) rfl p4 0 b.arr rfl rfl 31 #[.int .i64 0, .int .i64 0, .slice none 0 0, .slice none 0 0, .slice none 0 0] b.arr HZ4.out (by kernel_rfl) (by simp) (by kernel_rfl) rfl ?_
            intro y4 hX hgr hs9
            have HOa' := Lib.hid (HOa.out.grp (GrP.of hgr) (fun k hk e => HOa.out.offBk HZ4.out k hk (by injection e with e; exact e.symm)))
            have HOb' := Lib.hid (HOb.out.grp (GrP.of hgr) (fun k hk e => HOb.out.offBk HZ4.out k hk (by injection e with e; exact e.symm)))
            have HX3' := Lib.hid (HX3.out.stays hgr (by simp; omega))
            have hbl : Below w2.heap.size _ y4 := grown_base hgr hS5.size (by intro kk ee; cases ee; exact hw4)
            clear HOa; have HOa := HOa'; clear HOa'
            clear HOb; have HOb := HOb'; clear HOb'
            clear HX3; have HX3 := HX3'; clear HX3'
            have HX4 := Lib.hid hX
            refine hK.out _ _ (hS5.trans hbl) (fun hS6 => ?_)
            clear hK K hbl hX hgr hs9 HZ4
            try simp only [Act.put, List.getElem_toArray, List.getElem_cons_zero, List.getElem_cons_succ, List.setIfInBounds_toArray, List.set_cons_zero, List.set_cons_succ]
            refine wpAnyH_done (by kernel_rfl) ?_ _
            go_wp2_with fail
            go_meet
            obtain ⟨m, hm1, hm2⟩ := HM.out
            exact ⟨p3, p4, m, a, b, Sa, Sb, rfl, rfl, hS6, HX3.out, HX4.out, hw3, hw4, HOa.out, HOb.out, HBa.out.1, HBb.out.1, HBa.out.2.1, HBa.out.2.2, HBb.out.2.1, HBb.out.2.2, hm1, hm2⟩
          · simp only [if_pos, Region.wanted]
            refine scell_op rfl ?_
            intro p4 z4 hp4 hZ hbl
            have hw4 : w2.heap.size ≤ p4 := by have := hS2.size; omega
            have hne : p3 ≠ p4 := by have := HZ3.out.here; omega
            have HOa' := Lib.hid (HOa.out.below hbl)
            have HZ3' := Lib.hid (HZ3.out.later hbl)
            clear HOa; have HOa := HOa'; clear HOa'
            clear HZ3; have HZ3 := HZ3'; clear HZ3'
            have HZ4 := Lib.hid hZ
            refine hK.out _ _ (hS2.trans (hbl.mono hS2.size)) (fun hS3 => ?_)
            clear hK K hbl hZ hp4
            try simp only [Act.put, List.getElem_toArray, List.getElem_cons_zero, List.getElem_cons_succ, List.setIfInBounds_toArray, List.set_cons_zero, List.set_cons_succ]
            refine wpAnyH_ready (rs := [3]) (by kernel_rfl) (by simp) ?_
            refine AllReadyH.cons rfl (fun K hK => ?_) AllReadyH.nil
            go_simp
            have hsz := hS3.size
            have hma := fun k hk => (HOa.out.blk (k := k) hk).2
            refine (KC.out _ (HSr.out.later hS3)).mono ?_
            rintro e wb ⟨⟨b, Sb, rfl, hO, hbr, hck, hnx⟩, hbl⟩
            have HM : Hid (∃ m, (∀ k, blkS (.slice a.A a.N a.cA) (.slice a.B a.K a.cB) (.slice a.C a.n a.cC) Sa k → k < m) ∧ (∀ k, blkS (.slice b.A b.N b.cA) (.slice b.B b.K b.cB) (.slice b.C b.n b.cC) Sb k → m ≤ k)) := ⟨_, hma, fun k hk => (hO.blk hk).1⟩
            have HOb := Lib.hid (hO.base hsz); have HBb := Lib.hid (And.intro hbr (And.intro hck hnx))
            have HOa' := Lib.hid (HOa.out.below hbl)
            have HZ3' := Lib.hid (HZ3.out.later hbl)
            have HZ4' := Lib.hid (HZ4.out.later hbl)
            clear HOa; have HOa := HOa'; clear HOa'
            clear HZ3; have HZ3 := HZ3'; clear HZ3'
            clear HZ4; have HZ4 := HZ4'; clear HZ4'
            go_simp
            refine hK.out _ _ (hS3.trans (hbl.mono hS3.size)) (fun hS4 => ?_)
            clear hK K hbl hO hbr hck hnx hsz hma
            try simp only [Act.put, List.getElem_toArray, List.getElem_cons_zero, List.getElem_cons_succ, List.setIfInBounds_toArray, List.set_cons_zero, List.set_cons_succ]
            refine wpAnyH_ready (rs := [6]) (by kernel_rfl) (by simp) ?_
            refine AllReadyH.cons rfl (fun K hK => ?_) AllReadyH.nil
            simp only [if_pos, Region.wanted]
            refine store_bk_op 31 (.tmp 3) (.tmp 19) rfl p3 0 a.arr rfl rfl 31 #[.int .i64 0, .int .i64 0, .slice none 0 0, .slice none 0 0, .slice none 0 0] a.arr HZ3.out (by kernel_rfl) (by simp) (by kernel_rfl) rfl ?_
            intro y3 hX hgr hs9
            have HOa' := Lib.hid (HOa.out.grp (GrP.of hgr) (fun k hk e => HOa.out.offBk HZ3.out k hk (by injection e with e; exact e.symm)))
            have HOb' := Lib.hid (HOb.out.grp (GrP.of hgr) (fun k hk e => HOb.out.offBk HZ3.out k hk (by injection e with e; exact e.symm)))
            have HZ4' := Lib.hid (HZ4.out.stays hgr (by simp; omega))
            have hbl : Below w2.heap.size _ y3 := grown_base hgr hS4.size (by intro kk ee; cases ee; exact hw3)
            clear HOa; have HOa := HOa'; clear HOa'
            clear HOb; have HOb := HOb'; clear HOb'
            clear HZ4; have HZ4 := HZ4'; clear HZ4'
            have HX3 := Lib.hid hX
            refine hK.out _ _ (hS4.trans hbl) (fun hS5 => ?_)
            clear hK K hbl hX hgr hs9 HZ3
            try simp only [Act.put, List.getElem_toArray, List.getElem_cons_zero, List.getElem_cons_succ, List.setIfInBounds_toArray, List.set_cons_zero, List.set_cons_succ]
            refine wpAnyH_ready (rs := [7]) (by kernel_rfl) (by simp) ?_
            refine AllReadyH.cons rfl (fun K hK => ?_) AllReadyH.nil
            simp only [if_pos, Region.wanted]
            refine store_bk_op 31 (.tmp 4) (.tmp 21) rfl p4 0 b.arr rfl rfl 31 #[.int .i64 0, .int .i64 0, .slice none 0 0, .slice none 0 0, .slice none 0 0] b.arr HZ4.out (by kernel_rfl) (by simp) (by kernel_rfl) rfl ?_
            intro y4 hX hgr hs9
            have HOa' := Lib.hid (HOa.out.grp (GrP.of hgr) (fun k hk e => HOa.out.offBk HZ4.out k hk (by injection e with e; exact e.symm)))
            have HOb' := Lib.hid (HOb.out.grp (GrP.of hgr) (fun k hk e => HOb.out.offBk HZ4.out k hk (by injection e with e; exact e.symm)))
            have HX3' := Lib.hid (HX3.out.stays hgr (by simp; omega))
            have hbl : Below w2.heap.size _ y4 := grown_base hgr hS5.size (by intro kk ee; cases ee; exact hw4)
            clear HOa; have HOa := HOa'; clear HOa'
            clear HOb; have HOb := HOb'; clear HOb'
            clear HX3; have HX3 := HX3'; clear HX3'
            have HX4 := Lib.hid hX
            refine hK.out _ _ (hS5.trans hbl) (fun hS6 => ?_)
            clear hK K hbl hX hgr hs9 HZ4
            try simp only [Act.put, List.getElem_toArray, List.getElem_cons_zero, List.getElem_cons_succ, List.setIfInBounds_toArray, List.set_cons_zero, List.set_cons_succ]
            refine wpAnyH_done (by kernel_rfl) ?_ _
            go_wp2_with fail
            go_meet
            obtain ⟨m, hm1, hm2⟩ := HM.out
            exact ⟨p3, p4, m, a, b, Sa, Sb, rfl, rfl, hS6, HX3.out, HX4.out, hw3, hw4, HOa.out, HOb.out, HBa.out.1, HBb.out.1, HBa.out.2.1, HBa.out.2.2, HBb.out.2.1, HBb.out.2.2, hm1, hm2⟩
        · simp only [if_pos, Region.wanted]
          refine scell_op rfl ?_
          intro p4 z4 hp4 hZ hbl
          have hw4 : w2.heap.size ≤ p4 := by have := hS1.size; omega
          have hne : p3 ≠ p4 := by have := HZ3.out.here; omega
          have HZ3' := Lib.hid (HZ3.out.later hbl)
          clear HZ3; have HZ3 := HZ3'; clear HZ3'
          have HZ4 := Lib.hid hZ
          refine hK.out _ _ (hS1.trans (hbl.mono hS1.size)) (fun hS2 => ?_)
          clear hK K hbl hZ hp4
          try simp only [Act.put, List.getElem_toArray, List.getElem_cons_zero, List.getElem_cons_succ, List.setIfInBounds_toArray, List.set_cons_zero, List.set_cons_succ]
          refine wpAnyH_ready (rs := [1]) (by kernel_rfl) (by simp) ?_
          refine AllReadyH.cons rfl (fun K hK => ?_) AllReadyH.nil
          go_simp
          have hsz := hS2.size
          refine (KC.out _ (HSr.out.later hS2)).mono ?_
          rintro e wa ⟨⟨a, Sa, rfl, hO, hbr, hck, hnx⟩, hbl⟩
          have HOa := Lib.hid (hO.base hsz); have HBa := Lib.hid (And.intro hbr (And.intro hck hnx))
          have HZ3' := Lib.hid (HZ3.out.later hbl)
          have HZ4' := Lib.hid (HZ4.out.later hbl)
          clear HZ3; have HZ3 := HZ3'; clear HZ3'
          clear HZ4; have HZ4 := HZ4'; clear HZ4'
          go_simp
          refine hK.out _ _ (hS2.trans (hbl.mono hS2.size)) (fun hS3 => ?_)
          clear hK K hbl hO hbr hck hnx hsz
          try simp only [Act.put, List.getElem_toArray, List.getElem_cons_zero, List.getElem_cons_succ, List.setIfInBounds_toArray, List.set_cons_zero, List.set_cons_succ]
          refine wpAnyH_ready (rs := [3]) (by kernel_rfl) (by simp) ?_
          refine AllReadyH.cons rfl (fun K hK => ?_) AllReadyH.nil
          go_simp
          have hsz := hS3.size
          have hma := fun k hk => (HOa.out.blk (k := k) hk).2
          refine (KC.out _ (HSr.out.later hS3)).mono ?_
          rintro e wb ⟨⟨b, Sb, rfl, hO, hbr, hck, hnx⟩, hbl⟩
          have HM : Hid (∃ m, (∀ k, blkS (.slice a.A a.N a.cA) (.slice a.B a.K a.cB) (.slice a.C a.n a.cC) Sa k → k < m) ∧ (∀ k, blkS (.slice b.A b.N b.cA) (.slice b.B b.K b.cB) (.slice b.C b.n b.cC) Sb k → m ≤ k)) := ⟨_, hma, fun k hk => (hO.blk hk).1⟩
          have HOb := Lib.hid (hO.base hsz); have HBb := Lib.hid (And.intro hbr (And.intro hck hnx))
          have HOa' := Lib.hid (HOa.out.below hbl)
          have HZ3' := Lib.hid (HZ3.out.later hbl)
          have HZ4' := Lib.hid (HZ4.out.later hbl)
          clear HOa; have HOa := HOa'; clear HOa'
          clear HZ3; have HZ3 := HZ3'; clear HZ3'
          clear HZ4; have HZ4 := HZ4'; clear HZ4'
          go_simp
          refine hK.out _ _ (hS3.trans (hbl.mono hS3.size)) (fun hS4 => ?_)
          clear hK K hbl hO hbr hck hnx hsz hma
          try simp only [Act.put, List.getElem_toArray, List.getElem_cons_zero, List.getElem_cons_succ, List.setIfInBounds_toArray, List.set_cons_zero, List.set_cons_succ]
          refine wpAnyH_ready (rs := [6]) (by kernel_rfl) (by simp) ?_
          refine AllReadyH.cons rfl (fun K hK => ?_) AllReadyH.nil
          simp only [if_pos, Region.wanted]
          refine store_bk_op 31 (.tmp 3) (.tmp 19) rfl p3 0 a.arr rfl rfl 31 #[.int .i64 0, .int .i64 0, .slice none 0 0, .slice none 0 0, .slice none 0 0] a.arr HZ3.out (by kernel_rfl) (by simp) (by kernel_rfl) rfl ?_
          intro y3 hX hgr hs9
          have HOa' := Lib.hid (HOa.out.grp (GrP.of hgr) (fun k hk e => HOa.out.offBk HZ3.out k hk (by injection e with e; exact e.symm)))
          have HOb' := Lib.hid (HOb.out.grp (GrP.of hgr) (fun k hk e => HOb.out.offBk HZ3.out k hk (by injection e with e; exact e.symm)))
          have HZ4' := Lib.hid (HZ4.out.stays hgr (by simp; omega))
          have hbl : Below w2.heap.size _ y3 := grown_base hgr hS4.size (by intro kk ee; cases ee; exact hw3)
          clear HOa; have HOa := HOa'; clear HOa'
          clear HOb; have HOb := HOb'; clear HOb'
          clear HZ4; have HZ4 := HZ4'; clear HZ4'
          have HX3 := Lib.hid hX
          refine hK.out _ _ (hS4.trans hbl) (fun hS5 => ?_)
          clear hK K hbl hX hgr hs9 HZ3
          try simp only [Act.put, List.getElem_toArray, List.getElem_cons_zero, List.getElem_cons_succ, List.setIfInBounds_toArray, List.set_cons_zero, List.set_cons_succ]
          refine wpAnyH_ready (rs := [7]) (by kernel_rfl) (by simp) ?_
          refine AllReadyH.cons rfl (fun K hK => ?_) AllReadyH.nil
          simp only [if_pos, Region.wanted]
          refine store_bk_op 31 (.tmp 4) (.tmp 21) rfl p4 0 b.arr rfl rfl 31 #[.int .i64 0, .int .i64 0, .slice none 0 0, .slice none 0 0, .slice none 0 0] b.arr HZ4.out (by kernel_rfl) (by simp) (by kernel_rfl) rfl ?_
          intro y4 hX hgr hs9
          have HOa' := Lib.hid (HOa.out.grp (GrP.of hgr) (fun k hk e => HOa.out.offBk HZ4.out k hk (by injection e with e; exact e.symm)))
          have HOb' := Lib.hid (HOb.out.grp (GrP.of hgr) (fun k hk e => HOb.out.offBk HZ4.out k hk (by injection e with e; exact e.symm)))
          have HX3' := Lib.hid (HX3.out.stays hgr (by simp; omega))
          have hbl : Below w2.heap.size _ y4 := grown_base hgr hS5.size (by intro kk ee; cases ee; exact hw4)
          clear HOa; have HOa := HOa'; clear HOa'
          clear HOb; have HOb := HOb'; clear HOb'
          clear HX3; have HX3 := HX3'; clear HX3'
          have HX4 := Lib.hid hX
          refine hK.out _ _ (hS5.trans hbl) (fun hS6 => ?_)
          clear hK K hbl hX hgr hs9 HZ4
          try simp only [Act.put, List.getElem_toArray, List.getElem_cons_zero, List.getElem_cons_succ, List.setIfInBounds_toArray, List.set_cons_zero, List.set_cons_succ]
          refine wpAnyH_done (by kernel_rfl) ?_ _
          go_wp2_with fail
          go_meet
          obtain ⟨m, hm1, hm2⟩ := HM.out
          exact ⟨p3, p4, m, a, b, Sa, Sb, rfl, rfl, hS6, HX3.out, HX4.out, hw3, hw4, HOa.out, HOb.out, HBa.out.1, HBb.out.1, HBa.out.2.1, HBa.out.2.2, HBb.out.2.1, HBb.out.2.2, hm1, hm2⟩
      · simp only [if_pos, Region.wanted]
        refine scell_op rfl ?_
        intro p4 z4 hp4 hZ hbl
        have hw4 : w2.heap.size ≤ p4 := by have := hS0.size; omega
        have HZ4 := Lib.hid hZ
        refine hK.out _ _ (hS0.trans (hbl.mono hS0.size)) (fun hS1 => ?_)
        clear hK K hbl hZ hp4
        try simp only [Act.put, List.getElem_toArray, List.getElem_cons_zero, List.getElem_cons_succ, List.setIfInBounds_toArray, List.set_cons_zero, List.set_cons_succ]
        refine wpAnyH_ready (rs := [1, 4]) (by kernel_rfl) (by simp) ?_
        refine (AllReadyH.cons rfl (fun K hK => ?_) (AllReadyH.cons rfl (fun K hK => ?_) AllReadyH.nil))
        · go_simp
          have hsz := hS1.size
          refine (KC.out _ (HSr.out.later hS1)).mono ?_
          rintro e wa ⟨⟨a, Sa, rfl, hO, hbr, hck, hnx⟩, hbl⟩
          have HOa := Lib.hid (hO.base hsz); have HBa := Lib.hid (And.intro hbr (And.intro hck hnx))
          have HZ4' := Lib.hid (HZ4.out.later hbl)
          clear HZ4; have HZ4 := HZ4'; clear HZ4'
          go_simp
          refine hK.out _ _ (hS1.trans (hbl.mono hS1.size)) (fun hS2 => ?_)
          clear hK K hbl hO hbr hck hnx hsz
          try simp only [Act.put, List.getElem_toArray, List.getElem_cons_zero, List.getElem_cons_succ, List.setIfInBounds_toArray, List.set_cons_zero, List.set_cons_succ]
          refine wpAnyH_ready (rs := [3, 4]) (by kernel_rfl) (by simp) ?_
          refine (AllReadyH.cons rfl (fun K hK => ?_) (AllReadyH.cons rfl (fun K hK => ?_) AllReadyH.nil))
          · go_simp
            have hsz := hS2.size
            have hma := fun k hk => (HOa.out.blk (k := k) hk).2
            refine (KC.out _ (HSr.out.later hS2)).mono ?_
            rintro e wb ⟨⟨b, Sb, rfl, hO, hbr, hck, hnx⟩, hbl⟩
            have HM : Hid (∃ m, (∀ k, blkS (.slice a.A a.N a.cA) (.slice a.B a.K a.cB) (.slice a.C a.n a.cC) Sa k → k < m) ∧ (∀ k, blkS (.slice b.A b.N b.cA) (.slice b.B b.K b.cB) (.slice b.C b.n b.cC) Sb k → m ≤ k)) := ⟨_, hma, fun k hk => (hO.blk hk).1⟩
            have HOb := Lib.hid (hO.base hsz); have HBb := Lib.hid (And.intro hbr (And.intro hck hnx))
            have HOa' := Lib.hid (HOa.out.below hbl)
            have HZ4' := Lib.hid (HZ4.out.later hbl)
            clear HOa; have HOa := HOa'; clear HOa'
            clear HZ4; have HZ4 := HZ4'; clear HZ4'
            go_simp
            refine hK.out _ _ (hS2.trans (hbl.mono hS2.size)) (fun hS3 => ?_)
            clear hK K hbl hO hbr hck hnx hsz hma
            try simp only [Act.put, List.getElem_toArray, List.getElem_cons_zero, List.getElem_cons_succ, List.setIfInBounds_toArray, List.set_cons_zero, List.set_cons_succ]
            refine wpAnyH_ready (rs := [4]) (by kernel_rfl) (by simp) ?_
            refine AllReadyH.cons rfl (fun K hK => ?_) AllReadyH.nil
            simp only [if_pos, Region.wanted]
            refine scell_op rfl ?_
            intro p3 z3 hp3 hZ hbl
            have hw3 : w2.heap.size ≤ p3 := by have := hS3.size; omega
            have hne : p3 ≠ p4 := by have := HZ4.out.here; omega
            have HOa' := Lib.hid (HOa.out.below hbl)
            have HOb' := Lib.hid (HOb.out.below hbl)
            have HZ4' := Lib.hid (HZ4.out.later hbl)
            clear HOa; have HOa := HOa'; clear HOa'
            clear HOb; have HOb := HOb'; clear HOb'
            clear HZ4; have HZ4 := HZ4'; clear HZ4'
            have HZ3 := Lib.hid hZ
            refine hK.out _ _ (hS3.trans (hbl.mono hS3.size)) (fun hS4 => ?_)
            clear hK K hbl hZ hp3
            try simp only [Act.put, List.getElem_toArray, List.getElem_cons_zero, List.getElem_cons_succ, List.setIfInBounds_toArray, List.set_cons_zero, List.set_cons_succ]
            refine wpAnyH_ready (rs := [6]) (by kernel_rfl) (by simp) ?_
            refine AllReadyH.cons rfl (fun K hK => ?_) AllReadyH.nil
            simp only [if_pos, Region.wanted]
            refine store_bk_op 31 (.tmp 3) (.tmp 19) rfl p3 0 a.arr rfl rfl 31 #[.int .i64 0, .int .i64 0, .slice none 0 0, .slice none 0 0, .slice none 0 0] a.arr HZ3.out (by kernel_rfl) (by simp) (by kernel_rfl) rfl ?_
            intro y3 hX hgr hs9
            have HOa' := Lib.hid (HOa.out.grp (GrP.of hgr) (fun k hk e => HOa.out.offBk HZ3.out k hk (by injection e with e; exact e.symm)))
            have HOb' := Lib.hid (HOb.out.grp (GrP.of hgr) (fun k hk e => HOb.out.offBk HZ3.out k hk (by injection e with e; exact e.symm)))
            have HZ4' := Lib.hid (HZ4.out.stays hgr (by simp; omega))
            have hbl : Below w2.heap.size _ y3 := grown_base hgr hS4.size (by intro kk ee; cases ee; exact hw3)
            clear HOa; have HOa := HOa'; clear HOa'
            clear HOb; have HOb := HOb'; clear HOb'
            clear HZ4; have HZ4 := HZ4'; clear HZ4'
            have HX3 := Lib.hid hX
            refine hK.out _ _ (hS4.trans hbl) (fun hS5 => ?_)
            clear hK K hbl hX hgr hs9 HZ3
            try simp only [Act.put, List.getElem_toArray, List.getElem_cons_zero, List.getElem_cons_succ, List.setIfInBounds_toArray, List.set_cons_zero, List.set_cons_succ]
            refine wpAnyH_ready (rs := [7]) (by kernel_rfl) (by simp) ?_
            refine AllReadyH.cons rfl (fun K hK => ?_) AllReadyH.nil
            simp only [if_pos, Region.wanted]
            refine store_bk_op 31 (.tmp 4) (.tmp 21) rfl p4 0 b.arr rfl rfl 31 #[.int .i64 0, .int .i64 0, .slice none 0 0, .slice none 0 0, .slice none 0 0] b.arr HZ4.out (by kernel_rfl) (by simp) (by kernel_rfl) rfl ?_
            intro y4 hX hgr hs9
            have HOa' := Lib.hid (HOa.out.grp (GrP.of hgr) (fun k hk e => HOa.out.offBk HZ4.out k hk (by injection e with e; exact e.symm)))
            have HOb' := Lib.hid (HOb.out.grp (GrP.of hgr) (fun k hk e => HOb.out.offBk HZ4.out k hk (by injection e with e; exact e.symm)))
            have HX3' := Lib.hid (HX3.out.stays hgr (by simp; omega))
            have hbl : Below w2.heap.size _ y4 := grown_base hgr hS5.size (by intro kk ee; cases ee; exact hw4)
            clear HOa; have HOa := HOa'; clear HOa'
            clear HOb; have HOb := HOb'; clear HOb'
            clear HX3; have HX3 := HX3'; clear HX3'
            have HX4 := Lib.hid hX
            refine hK.out _ _ (hS5.trans hbl) (fun hS6 => ?_)
            clear hK K hbl hX hgr hs9 HZ4
            try simp only [Act.put, List.getElem_toArray, List.getElem_cons_zero, List.getElem_cons_succ, List.setIfInBounds_toArray, List.set_cons_zero, List.set_cons_succ]
            refine wpAnyH_done (by kernel_rfl) ?_ _
            go_wp2_with fail
            go_meet
            obtain ⟨m, hm1, hm2⟩ := HM.out
            exact ⟨p3, p4, m, a, b, Sa, Sb, rfl, rfl, hS6, HX3.out, HX4.out, hw3, hw4, HOa.out, HOb.out, HBa.out.1, HBb.out.1, HBa.out.2.1, HBa.out.2.2, HBb.out.2.1, HBb.out.2.2, hm1, hm2⟩
          · simp only [if_pos, Region.wanted]
            refine scell_op rfl ?_
            intro p3 z3 hp3 hZ hbl
            have hw3 : w2.heap.size ≤ p3 := by have := hS2.size; omega
            have hne : p3 ≠ p4 := by have := HZ4.out.here; omega
            have HOa' := Lib.hid (HOa.out.below hbl)
            have HZ4' := Lib.hid (HZ4.out.later hbl)
            clear HOa; have HOa := HOa'; clear HOa'
            clear HZ4; have HZ4 := HZ4'; clear HZ4'
            have HZ3 := Lib.hid hZ
            refine hK.out _ _ (hS2.trans (hbl.mono hS2.size)) (fun hS3 => ?_)
            clear hK K hbl hZ hp3
            try simp only [Act.put, List.getElem_toArray, List.getElem_cons_zero, List.getElem_cons_succ, List.setIfInBounds_toArray, List.set_cons_zero, List.set_cons_succ]
            refine wpAnyH_ready (rs := [3]) (by kernel_rfl) (by simp) ?_
            refine AllReadyH.cons rfl (fun K hK => ?_) AllReadyH.nil
            go_simp
            have hsz := hS3.size
            have hma := fun k hk => (HOa.out.blk (k := k) hk).2
            refine (KC.out _ (HSr.out.later hS3)).mono ?_
            rintro e wb ⟨⟨b, Sb, rfl, hO, hbr, hck, hnx⟩, hbl⟩
            have HM : Hid (∃ m, (∀ k, blkS (.slice a.A a.N a.cA) (.slice a.B a.K a.cB) (.slice a.C a.n a.cC) Sa k → k < m) ∧ (∀ k, blkS (.slice b.A b.N b.cA) (.slice b.B b.K b.cB) (.slice b.C b.n b.cC) Sb k → m ≤ k)) := ⟨_, hma, fun k hk => (hO.blk hk).1⟩
            have HOb := Lib.hid (hO.base hsz); have HBb := Lib.hid (And.intro hbr (And.intro hck hnx))
            have HOa' := Lib.hid (HOa.out.below hbl)
            have HZ3' := Lib.hid (HZ3.out.later hbl)
            have HZ4' := Lib.hid (HZ4.out.later hbl)
            clear HOa; have HOa := HOa'; clear HOa'
            clear HZ3; have HZ3 := HZ3'; clear HZ3'
            clear HZ4; have HZ4 := HZ4'; clear HZ4'
            go_simp
            refine hK.out _ _ (hS3.trans (hbl.mono hS3.size)) (fun hS4 => ?_)
            clear hK K hbl hO hbr hck hnx hsz hma
            try simp only [Act.put, List.getElem_toArray, List.getElem_cons_zero, List.getElem_cons_succ, List.setIfInBounds_toArray, List.set_cons_zero, List.set_cons_succ]
            refine wpAnyH_ready (rs := [6]) (by kernel_rfl) (by simp) ?_
            refine AllReadyH.cons rfl (fun K hK => ?_) AllReadyH.nil
            simp only [if_pos, Region.wanted]
            refine store_bk_op 31 (.tmp 3) (.tmp 19) rfl p3 0 a.arr rfl rfl 31 #[.int .i64 0, .int .i64 0, .slice none 0 0, .slice none 0 0, .slice none 0 0] a.arr HZ3.out (by kernel_rfl) (by simp) (by kernel_rfl) rfl ?_
            intro y3 hX hgr hs9
            have HOa' := Lib.hid (HOa.out.grp (GrP.of hgr) (fun k hk e => HOa.out.offBk HZ3.out k hk (by injection e with e; exact e.symm)))
            have HOb' := Lib.hid (HOb.out.grp (GrP.of hgr) (fun k hk e => HOb.out.offBk HZ3.out k hk (by injection e with e; exact e.symm)))
            have HZ4' := Lib.hid (HZ4.out.stays hgr (by simp; omega))
            have hbl : Below w2.heap.size _ y3 := grown_base hgr hS4.size (by intro kk ee; cases ee; exact hw3)
            clear HOa; have HOa := HOa'; clear HOa'
            clear HOb; have HOb := HOb'; clear HOb'
            clear HZ4; have HZ4 := HZ4'; clear HZ4'
            have HX3 := Lib.hid hX
            refine hK.out _ _ (hS4.trans hbl) (fun hS5 => ?_)
            clear hK K hbl hX hgr hs9 HZ3
            try simp only [Act.put, List.getElem_toArray, List.getElem_cons_zero, List.getElem_cons_succ, List.setIfInBounds_toArray, List.set_cons_zero, List.set_cons_succ]
            refine wpAnyH_ready (rs := [7]) (by kernel_rfl) (by simp) ?_
            refine AllReadyH.cons rfl (fun K hK => ?_) AllReadyH.nil
            simp only [if_pos, Region.wanted]
            refine store_bk_op 31 (.tmp 4) (.tmp 21) rfl p4 0 b.arr rfl rfl 31 #[.int .i64 0, .int .i64 0, .slice none 0 0, .slice none 0 0, .slice none 0 0] b.arr HZ4.out (by kernel_rfl) (by simp) (by kernel_rfl) rfl ?_
            intro y4 hX hgr hs9
            have HOa' := Lib.hid (HOa.out.grp (GrP.of hgr) (fun k hk e => HOa.out.offBk HZ4.out k hk (by injection e with e; exact e.symm)))
            have HOb' := Lib.hid (HOb.out.grp (GrP.of hgr) (fun k hk e => HOb.out.offBk HZ4.out k hk (by injection e with e; exact e.symm)))
            have HX3' := Lib.hid (HX3.out.stays hgr (by simp; omega))
            have hbl : Below w2.heap.size _ y4 := grown_base hgr hS5.size (by intro kk ee; cases ee; exact hw4)
            clear HOa; have HOa := HOa'; clear HOa'
            clear HOb; have HOb := HOb'; clear HOb'
            clear HX3; have HX3 := HX3'; clear HX3'
            have HX4 := Lib.hid hX
            refine hK.out _ _ (hS5.trans hbl) (fun hS6 => ?_)
            clear hK K hbl hX hgr hs9 HZ4
            try simp only [Act.put, List.getElem_toArray, List.getElem_cons_zero, List.getElem_cons_succ, List.setIfInBounds_toArray, List.set_cons_zero, List.set_cons_succ]
            refine wpAnyH_done (by kernel_rfl) ?_ _
            go_wp2_with fail
            go_meet
            obtain ⟨m, hm1, hm2⟩ := HM.out
            exact ⟨p3, p4, m, a, b, Sa, Sb, rfl, rfl, hS6, HX3.out, HX4.out, hw3, hw4, HOa.out, HOb.out, HBa.out.1, HBb.out.1, HBa.out.2.1, HBa.out.2.2, HBb.out.2.1, HBb.out.2.2, hm1, hm2⟩
        · simp only [if_pos, Region.wanted]
          refine scell_op rfl ?_
          intro p3 z3 hp3 hZ hbl
          have hw3 : w2.heap.size ≤ p3 := by have := hS1.size; omega
          have hne : p3 ≠ p4 := by have := HZ4.out.here; omega
          have HZ4' := Lib.hid (HZ4.out.later hbl)
          clear HZ4; have HZ4 := HZ4'; clear HZ4'
          have HZ3 := Lib.hid hZ
          refine hK.out _ _ (hS1.trans (hbl.mono hS1.size)) (fun hS2 => ?_)
          clear hK K hbl hZ hp3
          try simp only [Act.put, List.getElem_toArray, List.getElem_cons_zero, List.getElem_cons_succ, List.setIfInBounds_toArray, List.set_cons_zero, List.set_cons_succ]
          refine wpAnyH_ready (rs := [1]) (by kernel_rfl) (by simp) ?_
          refine AllReadyH.cons rfl (fun K hK => ?_) AllReadyH.nil
          go_simp
          have hsz := hS2.size
          refine (KC.out _ (HSr.out.later hS2)).mono ?_
          rintro e wa ⟨⟨a, Sa, rfl, hO, hbr, hck, hnx⟩, hbl⟩
          have HOa := Lib.hid (hO.base hsz); have HBa := Lib.hid (And.intro hbr (And.intro hck hnx))
          have HZ3' := Lib.hid (HZ3.out.later hbl)
          have HZ4' := Lib.hid (HZ4.out.later hbl)
          clear HZ3; have HZ3 := HZ3'; clear HZ3'
          clear HZ4; have HZ4 := HZ4'; clear HZ4'
          go_simp
          refine hK.out _ _ (hS2.trans (hbl.mono hS2.size)) (fun hS3 => ?_)
          clear hK K hbl hO hbr hck hnx hsz
          try simp only [Act.put, List.getElem_toArray, List.getElem_cons_zero, List.getElem_cons_succ, List.setIfInBounds_toArray, List.set_cons_zero, List.set_cons_succ]
          refine wpAnyH_ready (rs := [3]) (by kernel_rfl) (by simp) ?_
          refine AllReadyH.cons rfl (fun K hK => ?_) AllReadyH.nil
          go_simp
          have hsz := hS3.size
          have hma := fun k hk => (HOa.out.blk (k := k) hk).2
          refine (KC.out _ (HSr.out.later hS3)).mono ?_
          rintro e wb ⟨⟨b, Sb, rfl, hO, hbr, hck, hnx⟩, hbl⟩
          have HM : Hid (∃ m, (∀ k, blkS (.slice a.A a.N a.cA) (.slice a.B a.K a.cB) (.slice a.C a.n a.cC) Sa k → k < m) ∧ (∀ k, blkS (.slice b.A b.N b.cA) (.slice b.B b.K b.cB) (.slice b.C b.n b.cC) Sb k → m ≤ k)) := ⟨_, hma, fun k hk => (hO.blk hk).1⟩
          have HOb := Lib.hid (hO.base hsz); have HBb := Lib.hid (And.intro hbr (And.intro hck hnx))
          have HOa' := Lib.hid (HOa.out.below hbl)
          have HZ3' := Lib.hid (HZ3.out.later hbl)
          have HZ4' := Lib.hid (HZ4.out.later hbl)
          clear HOa; have HOa := HOa'; clear HOa'
          clear HZ3; have HZ3 := HZ3'; clear HZ3'
          clear HZ4; have HZ4 := HZ4'; clear HZ4'
          go_simp
          refine hK.out _ _ (hS3.trans (hbl.mono hS3.size)) (fun hS4 => ?_)
          clear hK K hbl hO hbr hck hnx hsz hma
          try simp only [Act.put, List.getElem_toArray, List.getElem_cons_zero, List.getElem_cons_succ, List.setIfInBounds_toArray, List.set_cons_zero, List.set_cons_succ]
          refine wpAnyH_ready (rs := [6]) (by kernel_rfl) (by simp) ?_
          refine AllReadyH.cons rfl (fun K hK => ?_) AllReadyH.nil
          simp only [if_pos, Region.wanted]
          refine store_bk_op 31 (.tmp 3) (.tmp 19) rfl p3 0 a.arr rfl rfl 31 #[.int .i64 0, .int .i64 0, .slice none 0 0, .slice none 0 0, .slice none 0 0] a.arr HZ3.out (by kernel_rfl) (by simp) (by kernel_rfl) rfl ?_
          intro y3 hX hgr hs9
          have HOa' := Lib.hid (HOa.out.grp (GrP.of hgr) (fun k hk e => HOa.out.offBk HZ3.out k hk (by injection e with e; exact e.symm)))
          have HOb' := Lib.hid (HOb.out.grp (GrP.of hgr) (fun k hk e => HOb.out.offBk HZ3.out k hk (by injection e with e; exact e.symm)))
          have HZ4' := Lib.hid (HZ4.out.stays hgr (by simp; omega))
          have hbl : Below w2.heap.size _ y3 := grown_base hgr hS4.size (by intro kk ee; cases ee; exact hw3)
          clear HOa; have HOa := HOa'; clear HOa'
          clear HOb; have HOb := HOb'; clear HOb'
          clear HZ4; have HZ4 := HZ4'; clear HZ4'
          have HX3 := Lib.hid hX
          refine hK.out _ _ (hS4.trans hbl) (fun hS5 => ?_)
          clear hK K hbl hX hgr hs9 HZ3
          try simp only [Act.put, List.getElem_toArray, List.getElem_cons_zero, List.getElem_cons_succ, List.setIfInBounds_toArray, List.set_cons_zero, List.set_cons_succ]
          refine wpAnyH_ready (rs := [7]) (by kernel_rfl) (by simp) ?_
          refine AllReadyH.cons rfl (fun K hK => ?_) AllReadyH.nil
          simp only [if_pos, Region.wanted]
          refine store_bk_op 31 (.tmp 4) (.tmp 21) rfl p4 0 b.arr rfl rfl 31 #[.int .i64 0, .int .i64 0, .slice none 0 0, .slice none 0 0, .slice none 0 0] b.arr HZ4.out (by kernel_rfl) (by simp) (by kernel_rfl) rfl ?_
          intro y4 hX hgr hs9
          have HOa' := Lib.hid (HOa.out.grp (GrP.of hgr) (fun k hk e => HOa.out.offBk HZ4.out k hk (by injection e with e; exact e.symm)))
          have HOb' := Lib.hid (HOb.out.grp (GrP.of hgr) (fun k hk e => HOb.out.offBk HZ4.out k hk (by injection e with e; exact e.symm)))
          have HX3' := Lib.hid (HX3.out.stays hgr (by simp; omega))
          have hbl : Below w2.heap.size _ y4 := grown_base hgr hS5.size (by intro kk ee; cases ee; exact hw4)
          clear HOa; have HOa := HOa'; clear HOa'
          clear HOb; have HOb := HOb'; clear HOb'
          clear HX3; have HX3 := HX3'; clear HX3'
          have HX4 := Lib.hid hX
          refine hK.out _ _ (hS5.trans hbl) (fun hS6 => ?_)
          clear hK K hbl hX hgr hs9 HZ4
          try simp only [Act.put, List.getElem_toArray, List.getElem_cons_zero, List.getElem_cons_succ, List.setIfInBounds_toArray, List.set_cons_zero, List.set_cons_succ]
          refine wpAnyH_done (by kernel_rfl) ?_ _
          go_wp2_with fail
          go_meet
          obtain ⟨m, hm1, hm2⟩ := HM.out
          exact ⟨p3, p4, m, a, b, Sa, Sb, rfl, rfl, hS6, HX3.out, HX4.out, hw3, hw4, HOa.out, HOb.out, HBa.out.1, HBb.out.1, HBa.out.2.1, HBa.out.2.2, HBb.out.2.1, HBb.out.2.2, hm1, hm2⟩
    case rest =>
      obtain ⟨p3, p4, m, a, b, Sa, Sb, rfl, rfl, hbc, hX3, hX4, hw3, hw4, hOa, hOb, hBa, hBb, ha1, ha2, hb1, hb2, hma, hmb⟩ := hcut
      have hsa := fun (W : World) (h1 : RdS W a Sa) (h2 : RdS W v S) => same15_yes a v Sa S W h1 h2 hBa
      have hsb := fun (W : World) (h1 : RdS W b Sb) (h2 : RdS W v S) => same15_yes b v Sb S W h1 h2 hBb
      have hra := fun (W : World) (h : Below wc.heap.size wc W) => (hOa.below h).rdAt ha1 ha2
      have hrb := fun (W : World) (h : OwnS W w2.heap.size (.slice b.A b.N b.cA) (.slice b.B b.K b.cB) (.slice b.C b.n b.cC) Sb) => h.rdAt hb1 hb2
      have KA := Lib.hid hsa; have KB := Lib.hid hsb; have RA := Lib.hid hra; have RB := Lib.hid hrb
      have HX3 := Lib.hid hX3; have HX4 := Lib.hid hX4; have HOa := Lib.hid hOa; have HOb := Lib.hid hOb; have HMa := Lib.hid hma; have HMb := Lib.hid hmb
      have HVc := Lib.hid (HV2.out.later hbc)
      clear hsa hsb hra hrb hX3 hX4 hOa hOb hBa hBb ha1 ha2 hb1 hb2 hma hmb
      go_wp2_with (first | (with_reducible refine load_bk rfl 31 _ rfl p3 0 rfl 31 a.arr a.arr _ HX3.out (Part.whole _) Tryz.underlying31 rfl (by kernel_rfl) ?_) | (with_reducible refine load_bk rfl 31 _ rfl w.heap.size 0 rfl 31 v.arr v.arr _ HVc.out (Part.whole _) Tryz.underlying31 rfl (by kernel_rfl) ?_))
      refine (KA.out wc (RA.out wc (Below.refl _ _)) (HSr.out.later hbc)).mono ?_; rintro e w5 ⟨rfl, hb5⟩
      have HX35 := Lib.hid (HX3.out.later hb5); have HX45 := Lib.hid (HX4.out.later hb5); have HV5 := Lib.hid (HVc.out.later hb5); have HOb5 := Lib.hid (HOb.out.below hb5)
      have hB5 : Below w2.heap.size w2 w5 := hbc.trans (hb5.mono hbc.size)
      go_wp2_with (first | (with_reducible refine load_bk rfl 31 _ rfl p4 0 rfl 31 b.arr b.arr _ HX45.out (Part.whole _) Tryz.underlying31 rfl (by kernel_rfl) ?_) | (with_reducible refine load_bk rfl 31 _ rfl w.heap.size 0 rfl 31 v.arr v.arr _ HV5.out (Part.whole _) Tryz.underlying31 rfl (by kernel_rfl) ?_))
      refine (KB.out w5 (RB.out w5 HOb5.out) (HSr.out.later hB5)).mono ?_; rintro e w6 ⟨rfl, hb6⟩
      have HX36 := Lib.hid (HX35.out.later hb6); have HX46 := Lib.hid (HX45.out.later hb6); have HV6 := Lib.hid (HV5.out.later hb6); have HOb6 := Lib.hid (HOb5.out.below hb6); have HOa6 := Lib.hid ((HOa.out.below hb5).below hb6)
      have hB6 : Below w2.heap.size w2 w6 := hB5.trans (hb6.mono hB5.size)
      have hRa := RA.out w6 (hb5.trans (hb6.mono hb5.size))
      clear HX3 HX4 HX35 HX45 HVc HV5 HOb HOb5 HOa hb5 hb6 hB5 hbc KA RA
      obtain ⟨ck, nx, A, N, cA, B, K, cB, C, n, cC⟩ := a
      have hNc : N ≤ cA := hRa.cA
      have hNc2 : cA ≤ 9223372036854775807 := hRa.cA2
      have hKc : K ≤ cB := hRa.cB
      have hKc2 : cB ≤ 9223372036854775807 := hRa.cB2
      have hnc : n ≤ cC := hRa.cC
      have hnc2 : cC ≤ 9223372036854775807 := hRa.cC2
      have HNl : Hid (N = Sa.M.length) := hRa.N
      have Hnl : Hid (n = Sa.J.length) := hRa.n
      have HLM : Hid (∀ x ∈ Sa.M, LbOk w6 x.1.A x.1.n x.1.cp x.2) := fun x hx => (hRa.oM x hx).lb
      have HLJ : Hid (∀ x ∈ Sa.J, LbOk w6 x.1.A x.1.n x.1.cp x.2) := fun x hx => (hRa.oJ x hx).lb
      clear hRa
      have HP3 : Hid (∀ k, blkS (.slice A N cA) (.slice B K cB) (.slice C n cC) Sa k → k ≠ p3) := HOa6.out.offBk HX36.out
      have HP4 : Hid (∀ k, blkS (.slice A N cA) (.slice B K cB) (.slice C n cC) Sa k → k ≠ p4) := HOa6.out.offBk HX46.out
      have HPb : Hid (∀ k, blkS (.slice A N cA) (.slice B K cB) (.slice C n cC) Sa k → w2.heap.size ≤ k) := fun k hk => (HOa6.out.blk hk).1
      have HMu0 := Lib.hid HOa6.out.mut
      have c3 : w6.cell? ⟨p3, 2, none⟩ = some (.slice A N cA) := HX36.out.cellAt 2
      clear HOa6
      go_wp2_with fail
      clear c3
      go_loopw [35] (fun i wr => ∃ k : Nat, k ≤ N ∧ i = .int .i64 k ∧ Hid (Mut wr w2.heap.size A N cA B K cB C n cC Sa) ∧ Hid (GrP (blkS (.slice A N cA) (.slice B K cB) (.slice C n cC) Sa) w6 wr)) (fun i wr => N - (intOf i).toNat)
      case atStart => exact ⟨0, Nat.zero_le _, rfl, HMu0, (GrP.refl _ _)⟩
      case round =>
        clear HMu0 
        obtain ⟨k, hk, rfl, HMu, HG⟩ := hrel
        have c3 : wr.cell? ⟨p3, 2, none⟩ = some (.slice A N cA) := (HX36.out.grp HG.out (fun e => HP3.out _ e rfl)).cellAt 2
        by_cases hlt : k < N
        · have hlk : k < Sa.M.length := by have := HNl.out; omega
          obtain ⟨g, hA, hgb, ⟨v0, hv0⟩, hfz, hMu1⟩ := HMu.out.setM hlt (-1)
          subst hA
          obtain ⟨x, hx⟩ : ∃ x, x = Sa.M[k] := ⟨_, rfl⟩
          have HMu1 := Lib.hid hMu1; have HX := Lib.hid hx; have HV0 := Lib.hid hv0; have HF0 := Lib.hid hfz
          clear hMu1 hx hv0 hfz
          have hF2 : GrP (blkS (.slice (some ⟨g, 0, none⟩) N cA) (.slice B K cB) (.slice C n cC) Sa) w6 (wr.setCell ⟨g, k * 7 + 6, none⟩ (.int .i64 (-1))) := HG.out.set (a := ⟨g, k * 7 + 6, none⟩) (.inl rfl) _
          have hF3 : (wr.setCell ⟨g, k * 7 + 6, none⟩ (.int .i64 (-1))).cell? ⟨p3, 2, none⟩ = some (.slice (some ⟨g, 0, none⟩) N cA) := (HX36.out.grp hF2 (fun e => HP3.out _ e rfl)).cellAt 2
          have hF4 : (wr.setCell ⟨g, k * 7 + 6, none⟩ (.int .i64 (-1))).cell? ⟨g, k * 7 + 4, none⟩ = some (.slice x.1.A x.1.n x.1.cp) := by
            obtain ⟨g', hg', hc'⟩ := HMu1.out.headM hlt hlk
            injection hg' with hg'
            injection hg' with hg'
            subst hg'
            rw [HX.out]; exact hc'
          obtain ⟨W7, hW7⟩ : ∃ W, W = wr.setCell ⟨g, k * 7 + 6, none⟩ (.int .i64 (-1)) := ⟨_, rfl⟩
          have hF1 := HMu1.out
          rw [← hW7] at hF1 hF2 hF3 hF4
          have HMu7 := Lib.hid hF1; have HG7 := Lib.hid hF2; have HC37 := Lib.hid hF3; have HC47 := Lib.hid hF4; have HW7 := Lib.hid hW7
          clear hF1 hF2 hF3 hF4 hW7 HMu1 HMu HG
          go_wp2_with ((with_reducible refine store_cell rfl _ _ _ rfl ⟨g, k * 7 + 6, none⟩ (.int .i64 (-1)) rfl rfl v0 HV0.out HF0.out (by kernel_rfl) rfl rfl ?_); intro w7 hw7; rw [← HW7.out] at hw7; subst hw7; have c37 := HC37.out; have c47 := HC47.out)
          clear c37 c47
          go_loopw [51] (fun i wr => ∃ j : Nat, j ≤ x.1.n ∧ i = .int .i64 j ∧ Hid (Mut wr w2.heap.size (some ⟨g, 0, none⟩) N cA B K cB C n cC Sa) ∧ Hid (GrP (blkS (.slice (some ⟨g, 0, none⟩) N cA) (.slice B K cB) (.slice C n cC) Sa) w6 wr)) (fun i wr => x.1.n - (intOf i).toNat)
          case atStart => exact ⟨0, Nat.zero_le _, rfl, HMu7, HG7⟩
          case round =>
            clear HMu7 HG7 HC37 HC47 HW7 HV0 HF0 c3
            obtain ⟨j, hj, rfl, HMu, HG⟩ := hrel
            by_cases hlt2 : j < x.1.n
            · have hxm : x ∈ Sa.M := by rw [HX.out]; exact List.getElem_mem hlk
              obtain ⟨gl, hxA, ⟨v1, hv1⟩, hfz, hMu1⟩ := HMu.out.setL (HMu.out.lM x hxm) hlt2 (show 0 < 2 by omega) ⟨#[111, 116, 104, 101, 114]⟩
              simp only [Nat.add_zero] at hv1 hfz hMu1
              have c3 : wr.cell? ⟨p3, 2, none⟩ = some (.slice (some ⟨g, 0, none⟩) N cA) := (HX36.out.grp HG.out (fun e => HP3.out _ e rfl)).cellAt 2
              have c4 : wr.cell? ⟨g, k * 7 + 4, none⟩ = some (.slice (some ⟨gl, 0, none⟩) x.1.n x.1.cp) := by
                obtain ⟨g', hg', hc'⟩ := HMu.out.headM hlt hlk
                injection hg' with hg'; injection hg' with hg'; subst hg'
                rw [← hxA, HX.out]; exact hc'
              have hxo := HLM.out x hxm
              have hx1 : x.1.n ≤ x.1.cp := hxo.cap
              have hx2 : x.1.cp ≤ 9223372036854775807 := hxo.cap2
              have hin : (blkS (.slice (some ⟨g, 0, none⟩) N cA) (.slice B K cB) (.slice C n cC) Sa) gl := .inr (.inr (.inr (.inl ⟨x, hxm, _, hxA, rfl⟩)))
              have HMu1 := Lib.hid hMu1; have HIN := Lib.hid hin; have HV1 := Lib.hid hv1; have HF1 := Lib.hid hfz
              clear hMu1 hxo hin hxm hv1 hfz hxA
              have hF2 : GrP (blkS (.slice (some ⟨g, 0, none⟩) N cA) (.slice B K cB) (.slice C n cC) Sa) w6 (wr.setCell ⟨gl, j * 2, none⟩ (.string ⟨#[111, 116, 104, 101, 114]⟩)) := HG.out.set (a := ⟨gl, j * 2, none⟩) HIN.out _
              obtain ⟨W8, hW8⟩ : ∃ W, W = wr.setCell ⟨gl, j * 2, none⟩ (.string ⟨#[111, 116, 104, 101, 114]⟩) := ⟨_, rfl⟩
              have hF1 := HMu1.out
              rw [← hW8] at hF1 hF2
              have HMu8 := Lib.hid hF1; have HG8 := Lib.hid hF2; have HW8 := Lib.hid hW8
              clear hF1 hF2 hW8 HMu1 HMu HG
              go_wp2_with ((with_reducible refine store_cell rfl _ _ _ rfl ⟨gl, j * 2, none⟩ (.string ⟨#[111, 116, 104, 101, 114]⟩) rfl rfl v1 HV1.out HF1.out (by kernel_rfl) rfl rfl ?_); intro w8 hw8; rw [← HW8.out] at hw8; subst hw8)
              go_round
              case rel => exact ⟨j + 1, by omega, by go_num, HMu8, HG8⟩
              case measure => simp [intOf]; omega
            · have hj' : j = x.1.n := by omega
              go_wp2_with fail
              go_round
              case rel => exact ⟨k + 1, by omega, by go_num, HMu, HG⟩
              case measure => simp [intOf]; omega
        · clear c3
          have c3 : wr.cell? ⟨p3, 3, none⟩ = some (.slice B K cB) := (HX36.out.grp HG.out (fun e => HP3.out _ e rfl)).cellAt 3
          go_wp2_with fail
          clear c3
          go_loopw [69] (fun i wr => ∃ k : Nat, k ≤ K ∧ i = .int .i64 k ∧ Hid (Mut wr w2.heap.size A N cA B K cB C n cC Sa) ∧ Hid (GrP (blkS (.slice A N cA) (.slice B K cB) (.slice C n cC) Sa) w6 wr)) (fun i wr => K - (intOf i).toNat)
          case atStart => exact ⟨0, Nat.zero_le _, rfl, HMu, HG⟩
          case round =>
            clear HMu HG
            obtain ⟨k, hk, rfl, HMu, HG⟩ := hrel
            have c3 : wr.cell? ⟨p3, 3, none⟩ = some (.slice B K cB) := (HX36.out.grp HG.out (fun e => HP3.out _ e rfl)).cellAt 3
            by_cases hlt : k < K
            · obtain ⟨g, hA, hgb, ⟨v0, hv0⟩, hfz, hMu1⟩ := HMu.out.setQ hlt ⟨#[111, 116, 104, 101, 114]⟩
              subst hA
              have HMu1 := Lib.hid hMu1; have HV0 := Lib.hid hv0; have HF0 := Lib.hid hfz; clear hMu1 hv0 hfz
              have hF2 : GrP (blkS (.slice A N cA) (.slice (some ⟨g, 0, none⟩) K cB) (.slice C n cC) Sa) w6 (wr.setCell ⟨g, k * 4, none⟩ (.string ⟨#[111, 116, 104, 101, 114]⟩)) := HG.out.set (a := ⟨g, k * 4, none⟩) (.inr (.inl rfl)) _
              obtain ⟨W7, hW7⟩ : ∃ W, W = wr.setCell ⟨g, k * 4, none⟩ (.string ⟨#[111, 116, 104, 101, 114]⟩) := ⟨_, rfl⟩
              have hF1 := HMu1.out
              rw [← hW7] at hF1 hF2
              have HMu7 := Lib.hid hF1; have HG7 := Lib.hid hF2; have HW7 := Lib.hid hW7
              clear hF1 hF2 hW7 HMu1 HMu HG
              go_wp2_with ((with_reducible refine store_cell rfl _ _ _ rfl ⟨g, k * 4, none⟩ (.string ⟨#[111, 116, 104, 101, 114]⟩) rfl rfl v0 HV0.out HF0.out (by kernel_rfl) rfl rfl ?_); intro w7 hw7; rw [← HW7.out] at hw7; subst hw7)
              go_round
              case rel => exact ⟨k + 1, by omega, by go_num, HMu7, HG7⟩
              case measure => simp [intOf]; omega
            · clear c3
              have c3 : wr.cell? ⟨p3, 4, none⟩ = some (.slice C n cC) := (HX36.out.grp HG.out (fun e => HP3.out _ e rfl)).cellAt 4
              go_wp2_with fail
              clear c3
              go_loopw [81] (fun i wr => ∃ k : Nat, k ≤ n ∧ i = .int .i64 k ∧ Hid (Mut wr w2.heap.size A N cA B K cB C n cC Sa) ∧ Hid (GrP (blkS (.slice A N cA) (.slice B K cB) (.slice C n cC) Sa) w6 wr)) (fun i wr => n - (intOf i).toNat)
              case atStart => exact ⟨0, Nat.zero_le _, rfl, HMu, HG⟩
              case round =>
                clear HMu HG
                obtain ⟨k, hk, rfl, HMu, HG⟩ := hrel
                have c3 : wr.cell? ⟨p3, 4, none⟩ = some (.slice C n cC) := (HX36.out.grp HG.out (fun e => HP3.out _ e rfl)).cellAt 4
                by_cases hlt : k < n
                · have hlk : k < Sa.J.length := by have := Hnl.out; omega
                  obtain ⟨g, hA, hgb, ⟨v0, hv0⟩, hfz, hMu1⟩ := HMu.out.setJ hlt (-1)
                  subst hA
                  obtain ⟨x, hx⟩ : ∃ x, x = Sa.J[k] := ⟨_, rfl⟩
                  have HMu1 := Lib.hid hMu1; have HX := Lib.hid hx; have HV0 := Lib.hid hv0; have HF0 := Lib.hid hfz
                  clear hMu1 hx hv0 hfz
                  have hF2 : GrP (blkS (.slice A N cA) (.slice B K cB) (.slice (some ⟨g, 0, none⟩) n cC) Sa) w6 (wr.setCell ⟨g, k * 13 + 10, none⟩ (.int .i64 (-1))) := HG.out.set (a := ⟨g, k * 13 + 10, none⟩) (.inr (.inr (.inl rfl))) _
                  have hF3 : (wr.setCell ⟨g, k * 13 + 10, none⟩ (.int .i64 (-1))).cell? ⟨p3, 4, none⟩ = some (.slice (some ⟨g, 0, none⟩) n cC) := (HX36.out.grp hF2 (fun e => HP3.out _ e rfl)).cellAt 4
                  have hF4 : (wr.setCell ⟨g, k * 13 + 10, none⟩ (.int .i64 (-1))).cell? ⟨g, k * 13 + 6, none⟩ = some (.slice x.1.A x.1.n x.1.cp) := by
                    obtain ⟨g', hg', hc'⟩ := HMu1.out.headJ hlt hlk
                    injection hg' with hg'
                    injection hg' with hg'
                    subst hg'
                    rw [HX.out]; exact hc'
                  obtain ⟨W7, hW7⟩ : ∃ W, W = wr.setCell ⟨g, k * 13 + 10, none⟩ (.int .i64 (-1)) := ⟨_, rfl⟩
                  have hF1 := HMu1.out
                  rw [← hW7] at hF1 hF2 hF3 hF4
                  have HMu7 := Lib.hid hF1; have HG7 := Lib.hid hF2; have HC37 := Lib.hid hF3; have HC47 := Lib.hid hF4; have HW7 := Lib.hid hW7
                  clear hF1 hF2 hF3 hF4 hW7 HMu1 HMu HG
                  go_wp2_with ((with_reducible refine store_cell rfl _ _ _ rfl ⟨g, k * 13 + 10, none⟩ (.int .i64 (-1)) rfl rfl v0 HV0.out HF0.out (by kernel_rfl) rfl rfl ?_); intro w7 hw7; rw [← HW7.out] at hw7; subst hw7; have c37 := HC37.out; have c47 := HC47.out)
                  clear c37 c47
                  go_loopw [97] (fun i wr => ∃ j : Nat, j ≤ x.1.n ∧ i = .int .i64 j ∧ Hid (Mut wr w2.heap.size A N cA B K cB (some ⟨g, 0, none⟩) n cC Sa) ∧ Hid (GrP (blkS (.slice A N cA) (.slice B K cB) (.slice (some ⟨g, 0, none⟩) n cC) Sa) w6 wr)) (fun i wr => x.1.n - (intOf i).toNat)
                  case atStart => exact ⟨0, Nat.zero_le _, rfl, HMu7, HG7⟩
                  case round =>
                    clear HMu7 HG7 HC37 HC47 HW7 HV0 HF0 c3
                    obtain ⟨j, hj, rfl, HMu, HG⟩ := hrel
                    by_cases hlt2 : j < x.1.n
                    · have hxm : x ∈ Sa.J := by rw [HX.out]; exact List.getElem_mem hlk
                      obtain ⟨gl, hxA, ⟨v1, hv1⟩, hfz, hMu1⟩ := HMu.out.setL (HMu.out.lJ x hxm) hlt2 (show 1 < 2 by omega) ⟨#[111, 116, 104, 101, 114]⟩
                      skip
                      have c3 : wr.cell? ⟨p3, 4, none⟩ = some (.slice (some ⟨g, 0, none⟩) n cC) := (HX36.out.grp HG.out (fun e => HP3.out _ e rfl)).cellAt 4
                      have c4 : wr.cell? ⟨g, k * 13 + 6, none⟩ = some (.slice (some ⟨gl, 0, none⟩) x.1.n x.1.cp) := by
                        obtain ⟨g', hg', hc'⟩ := HMu.out.headJ hlt hlk
                        injection hg' with hg'; injection hg' with hg'; subst hg'
                        rw [← hxA, HX.out]; exact hc'
                      have hxo := HLJ.out x hxm
                      have hx1 : x.1.n ≤ x.1.cp := hxo.cap
                      have hx2 : x.1.cp ≤ 9223372036854775807 := hxo.cap2
                      have hin : (blkS (.slice A N cA) (.slice B K cB) (.slice (some ⟨g, 0, none⟩) n cC) Sa) gl := .inr (.inr (.inr (.inr ⟨x, hxm, _, hxA, rfl⟩)))
                      have HMu1 := Lib.hid hMu1; have HIN := Lib.hid hin; have HV1 := Lib.hid hv1; have HF1 := Lib.hid hfz
                      clear hMu1 hxo hin hxm hv1 hfz hxA
                      have hF2 : GrP (blkS (.slice A N cA) (.slice B K cB) (.slice (some ⟨g, 0, none⟩) n cC) Sa) w6 (wr.setCell ⟨gl, j * 2 + 1, none⟩ (.string ⟨#[111, 116, 104, 101, 114]⟩)) := HG.out.set (a := ⟨gl, j * 2 + 1, none⟩) HIN.out _
                      obtain ⟨W8, hW8⟩ : ∃ W, W = wr.setCell ⟨gl, j * 2 + 1, none⟩ (.string ⟨#[111, 116, 104, 101, 114]⟩) := ⟨_, rfl⟩
                      have hF1 := HMu1.out
                      rw [← hW8] at hF1 hF2
                      have HMu8 := Lib.hid hF1; have HG8 := Lib.hid hF2; have HW8 := Lib.hid hW8
                      clear hF1 hF2 hW8 HMu1 HMu HG
                      go_wp2_with ((with_reducible refine store_cell rfl _ _ _ rfl ⟨gl, j * 2 + 1, none⟩ (.string ⟨#[111, 116, 104, 101, 114]⟩) rfl rfl v1 HV1.out HF1.out (by kernel_rfl) rfl rfl ?_); intro w8 hw8; rw [← HW8.out] at hw8; subst hw8)
                      go_round
                      case rel => exact ⟨j + 1, by omega, by go_num, HMu8, HG8⟩
                      case measure => simp [intOf]; omega
                    · have hj' : j = x.1.n := by omega
                      go_wp2_with fail
                      go_round
                      case rel => exact ⟨k + 1, by omega, by go_num, HMu, HG⟩
                      case measure => simp [intOf]; omega
                · clear c3
                  have HX4r := Lib.hid (HX46.out.grp HG.out (fun e => HP4.out _ e rfl))
                  have hbr : Below w2.heap.size w6 wr := HG.out.below hB6.size HPb.out
                  have hB9 : Below w2.heap.size w2 wr := hB6.trans hbr
                  have HVr : Hid (Bk wr w.heap.size 31 v.arr) := HV2.out.later hB9
                  have HObr : Hid (OwnS wr w2.heap.size (.slice b.A b.N b.cA) (.slice b.B b.K b.cB) (.slice b.C b.n b.cC) Sb) := HOb6.out.grp HG.out fun k hk e => by have h1 := HMa.out k e; have h2 := HMb.out k hk; omega
                  go_wp2_with (first | (with_reducible refine load_bk rfl 31 _ rfl p4 0 rfl 31 b.arr b.arr _ HX4r.out (Part.whole _) Tryz.underlying31 rfl (by kernel_rfl) ?_) | (with_reducible refine load_bk rfl 31 _ rfl w.heap.size 0 rfl 31 v.arr v.arr _ HVr.out (Part.whole _) Tryz.underlying31 rfl (by kernel_rfl) ?_))
                  refine (KB.out wr (RB.out wr HObr.out) (HSr.out.later hB9)).mono ?_; rintro e w9 ⟨rfl, hb9⟩
                  have hBz : Below w.heap.size w w9 := (hB2.trans (hB9.mono hB2.size)).trans (hb9.mono (hB2.trans (hB9.mono hB2.size)).size)
                  go_wp2_with fail
                  go_ret
                  exact ⟨rfl, hBz⟩
end gen1Copies
end Go.Proofs.YtlomeicilgfhnaaGreat
