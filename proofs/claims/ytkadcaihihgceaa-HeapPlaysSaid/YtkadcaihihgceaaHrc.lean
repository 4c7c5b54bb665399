/- The document's heap: Push, Remove. Condition: at most 1000 pairs. -/
import Derived.Test.YtkadcaihihgceaaHrb
namespace Go.Proofs.Ytkadcaihihgceaa
open Go.RowKit
set_option linter.unusedSimpArgs false
set_option linter.unusedVariables false

theorem append_kn {P : Program} {ops : Array Oper} {rest : List Oper} (w : World) {o : Oper} {a : Act} {Q : Exit → Act → World → Prop} (hw : Region.wanted o (yielded ops a.tmps) = true)
    (s x : Operand) (t : TypeId) (hop : o.op = Op.call { callee := Callee.builtin Builtin.append, args := #[s, x], argTypes := #[t, t] })
    (base : Nat) (e : TypeId) (z : Value) (k b : Nat) (h1 : P.underlying t = some (.slice e)) (h2 : (P.info? e).map (fun i => (i.zero, i.size, i.bytes)) = some (some z, k, b)) (hz : z.cells.size = k) (hk : 0 < k)
    (v : Value) (l : List (List Value)) (hs : a.eval s = v) (hown : OwnK w base e k v l) (A : Option Addr) (c m : Nat) (news : List (List Value))
    (hx : a.eval x = .slice A m c) (hr : RdK w k A news) (hn : ∀ y ∈ news, y.length = k) (hone : ∀ y ∈ news, ∀ u ∈ y, u.oneCell' = true) (hm : m = news.length)
    (b0 : l.length + news.length ≤ maxLen) (b1 : (l.length + news.length) * b ≤ 140737488355328) (hbase : base ≤ w.heap.size)
    (hK : ∀ v' w', OwnK w' base e k v' (l ++ news) → w.grownBy w' v.ownBlock → wpList P ops Q rest (a.put o.dst v') w') : wpList P ops Q (o :: rest) a w :=
  BigFrame.wpList_want hw fun K hKK => append_kn_op w s x t hop base e z k b h1 h2 hz hk v l hs hown A c m news hx hr hn hone hm b0 b1 hbase (fun v' w' a b => hKK _ _ (hK v' w' a b))
theorem RdK.dropk {w : World} {g o k : Nat} {l : List (List Value)} (h : RdK w k (some ⟨g, o, none⟩) l) (m : Nat) : RdK w k (some ⟨g, o + m * k, none⟩) (l.drop m) := fun i y hy => by
  rw [List.getElem?_drop] at hy
  obtain ⟨g', o', ha, hr⟩ := h (m + i) y hy
  injection ha with ha
  injection ha with e1 e2
  subst e1 e2
  refine ⟨g, o + m * k, rfl, ?_⟩
  rw [Nat.add_mul] at hr
  rwa [Nat.add_assoc]
/-- The document's heap is pushed to: its row is a new one. -/
theorem Rf.laid {w w' : World} {b r n c : Nat} {A : Option Addr} {L L' : List Px} {v : Value} (h : Rf w b r A n c L) (hb : Below w.heap.size w w') (hO : OwnK w' w.heap.size 27 2 v (L'.map eX)) (hL : L' = [] → v = .slice none 0 0) :
    ∃ A' n' c', v = .slice A' n' c' ∧ (Rf (w'.setCell ⟨r, 0, none⟩ v) b r A' n' c' L' ∧ ∀ k, RfB r A' k → RfB r A k ∨ w.heap.size ≤ k) ∧ GrP (fun k => k = r) w (w'.setCell ⟨r, 0, none⟩ v) := by
  obtain ⟨A', c', hv, hr, h1, h2, hnew⟩ := hO.sl
  rw [List.length_map] at hv h1
  have hrlt := h.bk.here
  have hg : GrP (fun k => k = r) w (w'.setCell ⟨r, 0, none⟩ v) := (GrP.ofBelow (p := fun k => k = r) hb).set (a := ⟨r, 0, none⟩) rfl _
  have hg2 : GrP (fun k => k = r) w' (w'.setCell ⟨r, 0, none⟩ v) := (GrP.refl (fun k => k = r) w').set (a := ⟨r, 0, none⟩) rfl _
  have hA : ∀ g o p, A' = some ⟨g, o, p⟩ → w.heap.size ≤ g := fun g o p e => (hnew g o p e).1
  have hne : A' = none → c' = 0 := fun e => by
    cases hl : L' with
    | nil =>
      have h0 := hL hl
      rw [hv] at h0
      injection h0
    | cons x r =>
      obtain ⟨_, _, ha, _⟩ := hr 0 _ (by rw [hl]; simp; rfl)
      rw [e] at ha; cases ha
  refine ⟨A', L'.length, c', hv, ⟨⟨?_, ⟨rfl, hr.grp (by omega) (eX_len L') hg2 fun g o p e => by have := hA g o p e; omega⟩, h.le, h1, by unfold maxLen at h2; omega, fun g o p e => ?_, hne⟩, fun k hk => ?_⟩, hg⟩
  · have := (h.bk.later hb).put 0 v
    rw [hv] at this ⊢; exact this
  · have hgr : g ≠ r := by have := hA g o p e; omega
    refine ⟨Nat.le_trans h.le (Nat.le_trans (Nat.le_of_lt hrlt) (hA g o p e)), ?_⟩
    rcases hO.2.2 with ⟨hv', h0⟩ | ⟨g', cap, cur, hv', _, hB, _⟩
    · rw [hv, e] at hv'; injection hv' with e1; cases e1
    · rw [hv, e] at hv'
      injection hv' with e1; injection e1 with e1; injection e1 with e1
      subst e1
      have hB' : Bk w' g 27 cur := hB
      exact ⟨cur, hB'.grp hg2 hgr⟩
  · rcases hk with e | ⟨o, p, e⟩
    · exact .inl (.inl e)
    · exact .inr (hA k o p e)
-- WALKS
/-- Where a slice's rest begins. -/
def tailA (A : Option Addr) (c k : Nat) : Option Addr := if c = k then A else A.map (·.add (k * 2))
section
variable {A : Option Addr} {n c k : Nat}
theorem slice_lo (hk : k ≤ n) (hn : n ≤ c) : ∀ w, (Instr.slice 30 (.slice A n c) none (some (.int .i64 k)) none).run Try.prog w = .ok (.slice A k c) w := fun w => by
  have u1 := @Try.underlying30
  have z1 := @Try.sizeOf27
  have h1 : (k : Int) ≤ (c : Int) := by omega
  simp [Instr.slice, run_underlying u1, Instr.sliceBounds, Instr.sliceBound, asIntOf, h1, z1]
  rw [if_pos (by omega)]
  cases A <;> simp [Addr.add]
theorem slice_hi (hk : k ≤ n) (hn : n ≤ c) : ∀ w, (Instr.slice 30 (.slice A n c) (some (.int .i64 k)) none none).run Try.prog w = .ok (.slice (tailA A c k) (n - k) (c - k)) w := fun w => by
  have u1 := @Try.underlying30
  have z1 := @Try.sizeOf27
  have h1 : (k : Int) ≤ (n : Int) := by omega
  simp [Instr.slice, run_underlying u1, Instr.sliceBounds, Instr.sliceBound, asIntOf, h1, z1, tailA]
  intro h; omega
end
theorem rd_tailA {w : World} {A : Option Addr} {c k : Nat} {L : List Px} (h : RdK w 2 A (L.map eX)) (hc : L.length ≤ c) : RdK w 2 (tailA A c k) ((L.drop k).map eX) := by
  unfold tailA
  by_cases e : c = k
  · rw [if_pos e, List.drop_of_length_le (by omega)]; exact RdK.nil _ _ _
  · rw [if_neg e]
    cases A with
    | none =>
      have hL : L = [] := by
        cases L with
        | nil => rfl
        | cons x r => obtain ⟨_, _, ha, _⟩ := h 0 _ (by simp; rfl); cases ha
      rw [hL, List.drop_nil]; exact RdK.nil _ _ _
    | some a =>
      by_cases hL : L = []
      · rw [hL, List.drop_nil]; exact RdK.nil _ _ _
      · obtain ⟨g, o, ha, _⟩ := h.at (i := 0) (by rw [List.length_map]; exact List.length_pos_iff.2 hL)
        injection ha with ha
        subst ha
        rw [List.map_drop]
        show RdK w 2 (some ((⟨g, o, none⟩ : Addr).add (k * 2))) _
        rw [Addr.add_lit]
        exact h.dropk k
set_option maxHeartbeats 25600000 in
set_option maxRecDepth 100000 in
theorem rpush_any (b r n c : Nat) (A : Option Addr) (x : Px) (L : List Px) (w : World) (hbig : n ≤ 900) (hR : Hid (Rf w b r A n c L)) :
    Calls Try.prog 12 #[.pointer (some ⟨r, 0, none⟩), vP x] w fun e w' => e = .returned (.tuple #[]) ∧ (∃ A' n' c', Rf w' b r A' n' c' (insR x L) ∧ ∀ k, RfB r A' k → RfB r A k ∨ w.heap.size ≤ k) ∧ GrP (fun k => k = r) w w' := by
  obtain ⟨x1, x2⟩ := x
  obtain ⟨W0, hW0⟩ : ∃ W0, W0 = w.alloc (.cells #[.int .i64 x1, .int .i64 x2] 27) := ⟨_, rfl⟩
  have hb0 : Below w.heap.size w W0 := by rw [hW0]; exact (Below.refl _ _).alloc (Nat.le_refl _) _
  have HX0 : Hid (Bk W0 w.heap.size 27 #[.int .i64 x1, .int .i64 x2]) := by rw [hW0]; exact Bk.fresh _ _ _
  have HB0 := Lib.hid hb0
  clear hb0
  have hcp := hR.out.cp
  have hcm := hR.out.cm
  have HN : Hid (n = L.length) := hR.out.rd.1
  go_enter Try.func12, Try.ntmps12
  go_wp2_with fail
  rw [← hW0]
  clear hW0
  go_loopw [4] (fun i wr => ∃ k : Nat, k ≤ n ∧ i = .int .i64 k ∧ Hid (∀ y ∈ L.take k, y.1 ≤ x1) ∧ Hid (Below w.heap.size w wr) ∧ Hid (Bk wr w.heap.size 27 #[.int .i64 x1, .int .i64 x2])) (fun i wr => n - (intOf i).toNat)
  case atStart => exact ⟨0, Nat.zero_le _, rfl, by intro y hy; simp at hy, HB0, HX0⟩
  case round =>
    clear HB0 HX0
    obtain ⟨k, hk, rfl, HF, HB, HX⟩ := hrel
    have c0 : wr.cell? ⟨r, 0, none⟩ = some (.slice A n c) := (hR.out.bk.later HB.out).cellAt 0
    have d1 : wr.cell? ⟨w.heap.size, 0, none⟩ = some (.int .i64 x1) := HX.out.cellAt 0
    by_cases hlt : k < n
    · have hkl : Hid (k < L.length) := by show k < L.length; rw [← HN.out]; exact hlt
      obtain ⟨g, o, hA, hg, hx⟩ := (hR.out.rd.later HB.out).at hkl.out
      obtain ⟨⟨y1, y2⟩, ey⟩ : ∃ y, y = L[k]'hkl.out := ⟨_, rfl⟩
      rw [← ey] at hx
      have d2 : wr.cell? ⟨g, o + k * 2, none⟩ = some (.int .i64 y1) := by simpa using hx 0 _ rfl
      have EY := Lib.hid ey
      have hw : wrap64 ((k : Int) + 1) = ((k + 1 : Nat) : Int) := by unfold wrap64; omega
      have hki : (k : Int) < (n : Int) := by omega
      subst hA
      clear ey hx
      by_cases hle : y1 ≤ x1
      · have HF2 : Hid (∀ y ∈ L.take (k + 1), y.1 ≤ x1) := fun y hy => by
          rw [List.take_succ_eq_append_getElem hkl.out] at hy
          rcases List.mem_append.1 hy with hy | hy
          · exact HF.out y hy
          · rw [List.mem_singleton.1 hy, ← EY.out]; exact hle
        go_wp2_with fail
        go_quiet (fail)
        go_wp2_with fail
        go_round
        case rel => exact ⟨k + 1, by omega, by go_num, HF2, below_drewN HB.out _, HX.out.later (below_drewN (Below.refl _ _) _)⟩
        case measure => simp [intOf]; omega
      · have HLE : Hid (∀ h : k < L.length, ¬ L[k].1 ≤ x1) := fun h => by rw [← EY.out]; exact hle
        have HG := Lib.hid hg
        clear hg EY
        go_wp2_with fail
        go_quiet (fail)
        obtain ⟨wd, hwd⟩ : ∃ W, W = wr.drewN nq := ⟨_, rfl⟩
        rw [← hwd]
        have HBd : Hid (Below w.heap.size w wd) := by rw [hwd]; exact below_drewN HB.out _
        have HXd : Hid (Bk wd w.heap.size 27 #[.int .i64 x1, .int .i64 x2]) := by rw [hwd]; exact HX.out
        have c0d : wd.cell? ⟨r, 0, none⟩ = some (.slice (some ⟨g, o, none⟩) n c) := by rw [hwd]; exact c0
        clear hwd HB HX c0 d1 d2 hki hw
        have hck : ¬ (c = k) := by omega
        have HRT : Hid (RdK wd 2 (some ⟨g, o, none⟩) ((L.take k).map eX)) := by
          show RdK wd 2 (some ⟨g, o, none⟩) _
          rw [List.map_take]; exact ((hR.out.rd.later HBd.out).2).take k
        have HLT : Hid (((L.take k).map eX).length = k) := by show _ = _; rw [List.length_map, List.length_take, ← HN.out]; omega
        have HRD3 : Hid (∀ W, Below w.heap.size w W → RdK W 2 (some ⟨g, o + k * 2, none⟩) ((L.drop k).map eX)) := by
          intro W hb
          have h := rd_tailA (c := c) (k := k) (hR.out.rd.later hb).2 (by rw [← HN.out]; omega)
          rw [tailA, if_neg hck, show Option.map (fun x : Addr => x.add (k * 2)) (some ⟨g, o, none⟩) = some ⟨g, o + k * 2, none⟩ by simp [Addr.add]] at h; exact h
        have HLD : Hid (((L.drop k).map eX).length = (n - k)) := by show _ = _; rw [List.length_map, List.length_drop]; have := HN.out; omega
        have HBB : Hid (w.heap.size ≤ wd.heap.size) := HBd.out.size
        have HB1 : Hid (([] : List (List Value)).length + ((L.take k).map eX).length ≤ maxLen) := by show _ ≤ _; rw [HLT.out, List.length_nil]; unfold maxLen; omega
        have HB2 : Hid ((([] : List (List Value)).length + ((L.take k).map eX).length) * 16 ≤ 140737488355328) := by show _ ≤ _; rw [HLT.out, List.length_nil]; omega
        have HB5 : Hid (((L.take k).map eX).length + [[Value.int .i64 x1, .int .i64 x2]].length ≤ maxLen) := by show _ ≤ _; rw [HLT.out]; show k + 1 ≤ _; unfold maxLen; omega
        have HB6 : Hid ((((L.take k).map eX).length + [[Value.int .i64 x1, .int .i64 x2]].length) * 16 ≤ 140737488355328) := by show _ ≤ _; rw [HLT.out]; show (k + 1) * 16 ≤ _; omega
        have HB7 : Hid ((((L.take k).map eX) ++ [[Value.int .i64 x1, .int .i64 x2]]).length + ((L.drop k).map eX).length ≤ maxLen) := by show _ ≤ _; rw [List.length_append, HLT.out, HLD.out]; show k + 1 + _ ≤ _; unfold maxLen; omega
        have HB8 : Hid (((((L.take k).map eX) ++ [[Value.int .i64 x1, .int .i64 x2]]).length + ((L.drop k).map eX).length) * 16 ≤ 140737488355328) := by show _ ≤ _; rw [List.length_append, HLT.out, HLD.out]; show (k + 1 + _) * 16 ≤ _; omega
        have HONE : Hid (∀ y ∈ [[Value.int .i64 x1, .int .i64 x2]], y.length = 2) := by intro y hy; simp only [List.mem_cons, List.not_mem_nil, or_false] at hy; subst hy; rfl
        have hri : insR (x1, x2) L = L.take k ++ (x1, x2) :: L.drop k := insR_at (x1, x2) L k (by rw [← HN.out]; omega) HF.out (fun h => by have := HLE.out h; show ¬ (_ ≤ x1); omega)
        have HRI := Lib.hid hri
        have HC0 : Hid (w.cell? ⟨r, 0, none⟩ = some (.slice (some ⟨g, o, none⟩) n c)) := hR.out.bk.cellAt 0
        have HRL : Hid (r < w.heap.size) := hR.out.bk.here
        clear hri
        go_wp2_with (first
          | ((with_reducible refine append_kn _ rfl (.tmp 28) (.tmp 34) 30 rfl w.heap.size 27 _ 2 16 Try.underlying30 infoXP rfl (by omega) (.slice none 0 0) [] rfl (OwnK.nil _ _ _ _) (some ⟨g, o, none⟩) c k ((L.take k).map eX) rfl HRT.out (eX_len _) (eX_one _) HLT.out.symm HB1.out HB2.out HBB.out ?_); intro v1 w1 hO1' hg1; have hO1 : OwnK w1 w.heap.size 27 2 v1 ((L.take k).map eX) := hO1'; clear hO1'; have HO1 := Lib.hid hO1; have HBL1 := Lib.hid (HBd.out.grown hg1 HBd.out.size (fun q e => by cases e)); have HX1 : Hid (Bk w1 w.heap.size 27 #[.int .i64 x1, .int .i64 x2]) := HXd.out.stays hg1 (by simp [Value.ownBlock]); obtain ⟨a1, e1, hv1, _, _, _, _⟩ := hO1.sl; generalize hnQ : ((L.take k).map eX : List (List Value)).length = n1 at hv1; subst hv1; clear hO1 hg1 hnQ)
          | (with_reducible refine load_bk rfl 27 _ rfl w.heap.size 0 rfl 27 #[.int .i64 x1, .int .i64 x2] #[.int .i64 x1, .int .i64 x2] _ HX1.out (Part.whole _) Try.underlying27 rfl (by kernel_rfl) ?_)
          | ((with_reducible refine append_kn _ rfl (.tmp 36) (.tmp 38) 30 rfl w.heap.size 27 _ 2 16 Try.underlying30 infoXP rfl (by omega) (.slice a1 n1 e1) ((L.take k).map eX) rfl (OwnK.alloc HO1.out _) (some ⟨w1.heap.size, 0, none⟩) 1 1 [[.int .i64 x1, .int .i64 x2]] rfl (RdK.of_bk (Bk.fresh _ _ _)) HONE.out oneXP rfl HB5.out HB6.out (by rw [World.size_alloc]; exact Nat.le_succ_of_le HBL1.out.size) ?_); intro v2 w2 hO2 hg2; have HO2 := Lib.hid hO2; have HBL2 := Lib.hid ((HBL1.out.alloc HBL1.out.size _).grown hg2 (by rw [World.size_alloc]; exact Nat.le_succ_of_le HBL1.out.size) (fun q e => HO1.out.block q e)); have c02 := (HBL2.out.cell (p := ⟨r, 0, none⟩) HRL.out).trans HC0.out; obtain ⟨a2, e2, hv2, _, _, _, _⟩ := hO2.sl; generalize hnQ2 : ((L.take k).map eX ++ [[Value.int .i64 x1, .int .i64 x2]]).length = n2 at hv2; subst hv2; clear hO2 hg2 hnQ2)
          | ((refine append_kn _ rfl (.tmp 41) (.tmp 47) 30 rfl w.heap.size 27 _ 2 16 Try.underlying30 infoXP rfl (by omega) (.slice a2 n2 e2) ((L.take k).map eX ++ [[.int .i64 x1, .int .i64 x2]]) ?h1b ?h2b (some ⟨g, o + k * 2, none⟩) (c - k) (n - k) ((L.drop k).map eX) ?h3b ?h4b ?h5b ?h6b ?h7b ?h8b ?h9b ?h10b ?h11b); (case h1b => rfl); (case h2b => exact HO2.out); (case h3b => rfl); (case h4b => exact HRD3.out _ HBL2.out); (case h5b => exact eX_len _); (case h6b => exact eX_one _); (case h7b => exact HLD.out.symm); (case h8b => exact HB7.out); (case h9b => exact HB8.out); (case h10b => exact HBL2.out.size); intro v3 w3 hO3 hg3; have HO3 := Lib.hid hO3; have HBL3 := Lib.hid (HBL2.out.grown hg3 HBL2.out.size (fun q e => HO2.out.block q e)); have c03 := (HBL3.out.cell (p := ⟨r, 0, none⟩) HRL.out).trans HC0.out; have f03 := (hR.out.bk.later HBL3.out).free 0; obtain ⟨a3, e3, hv3, _, _, _, _⟩ := hO3.sl; generalize hnQ3 : ((L.take k).map eX ++ [[Value.int .i64 x1, .int .i64 x2]] ++ (L.drop k).map eX).length = n3 at hv3; subst hv3; clear hO3 hg3 hnQ3))
        have hfin := hR.out.laid (L' := insR (x1, x2) L) HBL3.out (by rw [HRI.out, List.map_append, List.map_cons]; show OwnK _ _ _ _ _ ((L.take k).map eX ++ ([eX (x1, x2)] ++ (L.drop k).map eX)); rw [← List.append_assoc]; exact HO3.out) (by rw [HRI.out]; simp)
        first | go_end0 | refine bodyPost_ret (results_none rfl _ _ _) rfl ?_
        obtain ⟨A', n', c', hv', hf1, hf2⟩ := hfin
        exact ⟨rfl, ⟨A', n', c', hf1⟩, hf2⟩
    · have hkE : k = n := by omega
      subst hkE
      have HLE : Hid (∀ h : k < L.length, ¬ L[k].1 ≤ x1) := fun h => absurd h (by rw [← HN.out]; omega)
      have hki : ¬ ((k : Int) < (k : Int)) := by omega
      by_cases hck : c = k
      · subst hck
        go_wp2_with fail
        go_quiet (fail)
        obtain ⟨wd, hwd⟩ : ∃ W, W = wr.drewN nq := ⟨_, rfl⟩
        rw [← hwd]
        have HBd : Hid (Below w.heap.size w wd) := by rw [hwd]; exact below_drewN HB.out _
        have HXd : Hid (Bk wd w.heap.size 27 #[.int .i64 x1, .int .i64 x2]) := by rw [hwd]; exact HX.out
        have c0d : wd.cell? ⟨r, 0, none⟩ = some (.slice A c c) := by rw [hwd]; exact c0
        clear hwd HB HX c0 d1 hki
        have hsl1 := slice_lo (A := A) (n := c) (c := c) (k := c) (by omega) (by omega)
        have hsl2 : ∀ w, (Instr.slice 30 (.slice A c c) (some (.int .i64 c)) none none).run Try.prog w = .ok (.slice A 0 0) w := fun w => by have h := slice_hi (A := A) (n := c) (c := c) (k := c) (by omega) (by omega) w; simpa [tailA] using h
        have HRT : Hid (RdK wd 2 A ((L.take c).map eX)) := by
          show RdK wd 2 A _
          rw [List.map_take]; exact ((hR.out.rd.later HBd.out).2).take c
        have HLT : Hid (((L.take c).map eX).length = c) := by show _ = _; rw [List.length_map, List.length_take, ← HN.out]; omega
        have HRD3 : Hid (∀ W, Below w.heap.size w W → RdK W 2 A ((L.drop c).map eX)) := by
          intro W hb
          have h := rd_tailA (c := c) (k := c) (hR.out.rd.later hb).2 (by rw [← HN.out]; omega)
          rw [tailA, if_pos rfl] at h; exact h
        have HLD : Hid (((L.drop c).map eX).length = 0) := by show _ = _; rw [List.length_map, List.length_drop]; have := HN.out; omega
        have HBB : Hid (w.heap.size ≤ wd.heap.size) := HBd.out.size
        have HB1 : Hid (([] : List (List Value)).length + ((L.take c).map eX).length ≤ maxLen) := by show _ ≤ _; rw [HLT.out, List.length_nil]; unfold maxLen; omega
        have HB2 : Hid ((([] : List (List Value)).length + ((L.take c).map eX).length) * 16 ≤ 140737488355328) := by show _ ≤ _; rw [HLT.out, List.length_nil]; omega
        have HB5 : Hid (((L.take c).map eX).length + [[Value.int .i64 x1, .int .i64 x2]].length ≤ maxLen) := by show _ ≤ _; rw [HLT.out]; show c + 1 ≤ _; unfold maxLen; omega
        have HB6 : Hid ((((L.take c).map eX).length + [[Value.int .i64 x1, .int .i64 x2]].length) * 16 ≤ 140737488355328) := by show _ ≤ _; rw [HLT.out]; show (c + 1) * 16 ≤ _; omega
        have HB7 : Hid ((((L.take c).map eX) ++ [[Value.int .i64 x1, .int .i64 x2]]).length + ((L.drop c).map eX).length ≤ maxLen) := by show _ ≤ _; rw [List.length_append, HLT.out, HLD.out]; show c + 1 + _ ≤ _; unfold maxLen; omega
        have HB8 : Hid (((((L.take c).map eX) ++ [[Value.int .i64 x1, .int .i64 x2]]).length + ((L.drop c).map eX).length) * 16 ≤ 140737488355328) := by show _ ≤ _; rw [List.length_append, HLT.out, HLD.out]; show (c + 1 + _) * 16 ≤ _; omega
        have HONE : Hid (∀ y ∈ [[Value.int .i64 x1, .int .i64 x2]], y.length = 2) := by intro y hy; simp only [List.mem_cons, List.not_mem_nil, or_false] at hy; subst hy; rfl
        have hri : insR (x1, x2) L = L.take c ++ (x1, x2) :: L.drop c := insR_at (x1, x2) L c (by rw [← HN.out]; omega) HF.out (fun h => by have := HLE.out h; show ¬ (_ ≤ x1); omega)
        have HRI := Lib.hid hri
        have HC0 : Hid (w.cell? ⟨r, 0, none⟩ = some (.slice A c c)) := hR.out.bk.cellAt 0
        have HRL : Hid (r < w.heap.size) := hR.out.bk.here
        clear hri
        go_wp2_with (first
          | ((with_reducible refine append_kn _ rfl (.tmp 28) (.tmp 34) 30 rfl w.heap.size 27 _ 2 16 Try.underlying30 infoXP rfl (by omega) (.slice none 0 0) [] rfl (OwnK.nil _ _ _ _) A c c ((L.take c).map eX) rfl HRT.out (eX_len _) (eX_one _) HLT.out.symm HB1.out HB2.out HBB.out ?_); intro v1 w1 hO1' hg1; have hO1 : OwnK w1 w.heap.size 27 2 v1 ((L.take c).map eX) := hO1'; clear hO1'; have HO1 := Lib.hid hO1; have HBL1 := Lib.hid (HBd.out.grown hg1 HBd.out.size (fun q e => by cases e)); have HX1 : Hid (Bk w1 w.heap.size 27 #[.int .i64 x1, .int .i64 x2]) := HXd.out.stays hg1 (by simp [Value.ownBlock]); obtain ⟨a1, e1, hv1, _, _, _, _⟩ := hO1.sl; generalize hnQ : ((L.take c).map eX : List (List Value)).length = n1 at hv1; subst hv1; clear hO1 hg1 hnQ)
          | (with_reducible refine load_bk rfl 27 _ rfl w.heap.size 0 rfl 27 #[.int .i64 x1, .int .i64 x2] #[.int .i64 x1, .int .i64 x2] _ HX1.out (Part.whole _) Try.underlying27 rfl (by kernel_rfl) ?_)
          | ((with_reducible refine append_kn _ rfl (.tmp 36) (.tmp 38) 30 rfl w.heap.size 27 _ 2 16 Try.underlying30 infoXP rfl (by omega) (.slice a1 n1 e1) ((L.take c).map eX) rfl (OwnK.alloc HO1.out _) (some ⟨w1.heap.size, 0, none⟩) 1 1 [[.int .i64 x1, .int .i64 x2]] rfl (RdK.of_bk (Bk.fresh _ _ _)) HONE.out oneXP rfl HB5.out HB6.out (by rw [World.size_alloc]; exact Nat.le_succ_of_le HBL1.out.size) ?_); intro v2 w2 hO2 hg2; have HO2 := Lib.hid hO2; have HBL2 := Lib.hid ((HBL1.out.alloc HBL1.out.size _).grown hg2 (by rw [World.size_alloc]; exact Nat.le_succ_of_le HBL1.out.size) (fun q e => HO1.out.block q e)); have c02 := (HBL2.out.cell (p := ⟨r, 0, none⟩) HRL.out).trans HC0.out; obtain ⟨a2, e2, hv2, _, _, _, _⟩ := hO2.sl; generalize hnQ2 : ((L.take c).map eX ++ [[Value.int .i64 x1, .int .i64 x2]]).length = n2 at hv2; subst hv2; clear hO2 hg2 hnQ2)
          | ((refine append_kn _ rfl (.tmp 41) (.tmp 47) 30 rfl w.heap.size 27 _ 2 16 Try.underlying30 infoXP rfl (by omega) (.slice a2 n2 e2) ((L.take c).map eX ++ [[.int .i64 x1, .int .i64 x2]]) ?h1c ?h2c A 0 0 ((L.drop c).map eX) ?h3c ?h4c ?h5c ?h6c ?h7c ?h8c ?h9c ?h10c ?h11c); (case h1c => rfl); (case h2c => exact HO2.out); (case h3c => rfl); (case h4c => exact HRD3.out _ HBL2.out); (case h5c => exact eX_len _); (case h6c => exact eX_one _); (case h7c => exact HLD.out.symm); (case h8c => exact HB7.out); (case h9c => exact HB8.out); (case h10c => exact HBL2.out.size); intro v3 w3 hO3 hg3; have HO3 := Lib.hid hO3; have HBL3 := Lib.hid (HBL2.out.grown hg3 HBL2.out.size (fun q e => HO2.out.block q e)); have c03 := (HBL3.out.cell (p := ⟨r, 0, none⟩) HRL.out).trans HC0.out; have f03 := (hR.out.bk.later HBL3.out).free 0; obtain ⟨a3, e3, hv3, _, _, _, _⟩ := hO3.sl; generalize hnQ3 : ((L.take c).map eX ++ [[Value.int .i64 x1, .int .i64 x2]] ++ (L.drop c).map eX).length = n3 at hv3; subst hv3; clear hO3 hg3 hnQ3))
        have hfin := hR.out.laid (L' := insR (x1, x2) L) HBL3.out (by rw [HRI.out, List.map_append, List.map_cons]; show OwnK _ _ _ _ _ ((L.take c).map eX ++ ([eX (x1, x2)] ++ (L.drop c).map eX)); rw [← List.append_assoc]; exact HO3.out) (by rw [HRI.out]; simp)
        first | go_end0 | refine bodyPost_ret (results_none rfl _ _ _) rfl ?_
        obtain ⟨A', n', c', hv', hf1, hf2⟩ := hfin
        exact ⟨rfl, ⟨A', n', c', hf1⟩, hf2⟩
      · cases A with
        | none => exact absurd (hR.out.nn rfl) (by omega)
        | some a0 =>
          go_wp2_with fail
          go_quiet (fail)
          obtain ⟨wd, hwd⟩ : ∃ W, W = wr.drewN nq := ⟨_, rfl⟩
          rw [← hwd]
          have HBd : Hid (Below w.heap.size w wd) := by rw [hwd]; exact below_drewN HB.out _
          have HXd : Hid (Bk wd w.heap.size 27 #[.int .i64 x1, .int .i64 x2]) := by rw [hwd]; exact HX.out
          have c0d : wd.cell? ⟨r, 0, none⟩ = some (.slice (some a0) k c) := by rw [hwd]; exact c0
          clear hwd HB HX c0 d1 hki
          have hsl2 : ∀ w, (Instr.slice 30 (.slice (some a0) k c) (some (.int .i64 k)) none none).run Try.prog w = .ok (.slice (some (a0.add (k * 2))) 0 (c - k)) w := fun w => by have h := slice_hi (A := some a0) (n := k) (c := c) (k := k) (by omega) (by omega) w; simpa [tailA, hck] using h
          have HRT : Hid (RdK wd 2 (some a0) ((L.take k).map eX)) := by
            show RdK wd 2 (some a0) _
            rw [List.map_take]; exact ((hR.out.rd.later HBd.out).2).take k
          have HLT : Hid (((L.take k).map eX).length = k) := by show _ = _; rw [List.length_map, List.length_take, ← HN.out]; omega
          have HRD3 : Hid (∀ W, Below w.heap.size w W → RdK W 2 (some (a0.add (k * 2))) ((L.drop k).map eX)) := by
            intro W hb
            have h := rd_tailA (c := c) (k := k) (hR.out.rd.later hb).2 (by rw [← HN.out]; omega)
            rw [tailA, if_neg hck] at h; exact h
          have HLD : Hid (((L.drop k).map eX).length = 0) := by show _ = _; rw [List.length_map, List.length_drop]; have := HN.out; omega
          have HBB : Hid (w.heap.size ≤ wd.heap.size) := HBd.out.size
          have HB1 : Hid (([] : List (List Value)).length + ((L.take k).map eX).length ≤ maxLen) := by show _ ≤ _; rw [HLT.out, List.length_nil]; unfold maxLen; omega
          have HB2 : Hid ((([] : List (List Value)).length + ((L.take k).map eX).length) * 16 ≤ 140737488355328) := by show _ ≤ _; rw [HLT.out, List.length_nil]; omega
          have HB5 : Hid (((L.take k).map eX).length + [[Value.int .i64 x1, .int .i64 x2]].length ≤ maxLen) := by show _ ≤ _; rw [HLT.out]; show k + 1 ≤ _; unfold maxLen; omega
          have HB6 : Hid ((((L.take k).map eX).length + [[Value.int .i64 x1, .int .i64 x2]].length) * 16 ≤ 140737488355328) := by show _ ≤ _; rw [HLT.out]; show (k + 1) * 16 ≤ _; omega
          have HB7 : Hid ((((L.take k).map eX) ++ [[Value.int .i64 x1, .int .i64 x2]]).length + ((L.drop k).map eX).length ≤ maxLen) := by show _ ≤ _; rw [List.length_append, HLT.out, HLD.out]; show k + 1 + _ ≤ _; unfold maxLen; omega
          have HB8 : Hid (((((L.take k).map eX) ++ [[Value.int .i64 x1, .int .i64 x2]]).length + ((L.drop k).map eX).length) * 16 ≤ 140737488355328) := by show _ ≤ _; rw [List.length_append, HLT.out, HLD.out]; show (k + 1 + _) * 16 ≤ _; omega
          have HONE : Hid (∀ y ∈ [[Value.int .i64 x1, .int .i64 x2]], y.length = 2) := by intro y hy; simp only [List.mem_cons, List.not_mem_nil, or_false] at hy; subst hy; rfl
          have hri : insR (x1, x2) L = L.take k ++ (x1, x2) :: L.drop k := insR_at (x1, x2) L k (by rw [← HN.out]; omega) HF.out (fun h => by have := HLE.out h; show ¬ (_ ≤ x1); omega)
          have HRI := Lib.hid hri
          have HC0 : Hid (w.cell? ⟨r, 0, none⟩ = some (.slice (some a0) k c)) := hR.out.bk.cellAt 0
          have HRL : Hid (r < w.heap.size) := hR.out.bk.here
          clear hri
          go_wp2_with (first
            | ((with_reducible refine append_kn _ rfl (.tmp 28) (.tmp 34) 30 rfl w.heap.size 27 _ 2 16 Try.underlying30 infoXP rfl (by omega) (.slice none 0 0) [] rfl (OwnK.nil _ _ _ _) (some a0) c k ((L.take k).map eX) rfl HRT.out (eX_len _) (eX_one _) HLT.out.symm HB1.out HB2.out HBB.out ?_); intro v1 w1 hO1' hg1; have hO1 : OwnK w1 w.heap.size 27 2 v1 ((L.take k).map eX) := hO1'; clear hO1'; have HO1 := Lib.hid hO1; have HBL1 := Lib.hid (HBd.out.grown hg1 HBd.out.size (fun q e => by cases e)); have HX1 : Hid (Bk w1 w.heap.size 27 #[.int .i64 x1, .int .i64 x2]) := HXd.out.stays hg1 (by simp [Value.ownBlock]); obtain ⟨a1, e1, hv1, _, _, _, _⟩ := hO1.sl; generalize hnQ : ((L.take k).map eX : List (List Value)).length = n1 at hv1; subst hv1; clear hO1 hg1 hnQ)
            | (with_reducible refine load_bk rfl 27 _ rfl w.heap.size 0 rfl 27 #[.int .i64 x1, .int .i64 x2] #[.int .i64 x1, .int .i64 x2] _ HX1.out (Part.whole _) Try.underlying27 rfl (by kernel_rfl) ?_)
            | ((with_reducible refine append_kn _ rfl (.tmp 36) (.tmp 38) 30 rfl w.heap.size 27 _ 2 16 Try.underlying30 infoXP rfl (by omega) (.slice a1 n1 e1) ((L.take k).map eX) rfl (OwnK.alloc HO1.out _) (some ⟨w1.heap.size, 0, none⟩) 1 1 [[.int .i64 x1, .int .i64 x2]] rfl (RdK.of_bk (Bk.fresh _ _ _)) HONE.out oneXP rfl HB5.out HB6.out (by rw [World.size_alloc]; exact Nat.le_succ_of_le HBL1.out.size) ?_); intro v2 w2 hO2 hg2; have HO2 := Lib.hid hO2; have HBL2 := Lib.hid ((HBL1.out.alloc HBL1.out.size _).grown hg2 (by rw [World.size_alloc]; exact Nat.le_succ_of_le HBL1.out.size) (fun q e => HO1.out.block q e)); have c02 := (HBL2.out.cell (p := ⟨r, 0, none⟩) HRL.out).trans HC0.out; obtain ⟨a2, e2, hv2, _, _, _, _⟩ := hO2.sl; generalize hnQ2 : ((L.take k).map eX ++ [[Value.int .i64 x1, .int .i64 x2]]).length = n2 at hv2; subst hv2; clear hO2 hg2 hnQ2)
            | ((refine append_kn _ rfl (.tmp 41) (.tmp 47) 30 rfl w.heap.size 27 _ 2 16 Try.underlying30 infoXP rfl (by omega) (.slice a2 n2 e2) ((L.take k).map eX ++ [[.int .i64 x1, .int .i64 x2]]) ?h1d ?h2d (some (a0.add (k * 2))) (c - k) 0 ((L.drop k).map eX) ?h3d ?h4d ?h5d ?h6d ?h7d ?h8d ?h9d ?h10d ?h11d); (case h1d => rfl); (case h2d => exact HO2.out); (case h3d => rfl); (case h4d => exact HRD3.out _ HBL2.out); (case h5d => exact eX_len _); (case h6d => exact eX_one _); (case h7d => exact HLD.out.symm); (case h8d => exact HB7.out); (case h9d => exact HB8.out); (case h10d => exact HBL2.out.size); intro v3 w3 hO3 hg3; have HO3 := Lib.hid hO3; have HBL3 := Lib.hid (HBL2.out.grown hg3 HBL2.out.size (fun q e => HO2.out.block q e)); have c03 := (HBL3.out.cell (p := ⟨r, 0, none⟩) HRL.out).trans HC0.out; have f03 := (hR.out.bk.later HBL3.out).free 0; obtain ⟨a3, e3, hv3, _, _, _, _⟩ := hO3.sl; generalize hnQ3 : ((L.take k).map eX ++ [[Value.int .i64 x1, .int .i64 x2]] ++ (L.drop k).map eX).length = n3 at hv3; subst hv3; clear hO3 hg3 hnQ3))
          have hfin := hR.out.laid (L' := insR (x1, x2) L) HBL3.out (by rw [HRI.out, List.map_append, List.map_cons]; show OwnK _ _ _ _ _ ((L.take k).map eX ++ ([eX (x1, x2)] ++ (L.drop k).map eX)); rw [← List.append_assoc]; exact HO3.out) (by rw [HRI.out]; simp)
          first | go_end0 | refine bodyPost_ret (results_none rfl _ _ _) rfl ?_
          obtain ⟨A', n', c', hv', hf1, hf2⟩ := hfin
          exact ⟨rfl, ⟨A', n', c', hf1⟩, hf2⟩
end Go.Proofs.Ytkadcaihihgceaa
