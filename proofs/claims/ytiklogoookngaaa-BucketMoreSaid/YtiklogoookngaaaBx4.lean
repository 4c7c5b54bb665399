/- Layer 17: AtLeast of an index: the names of those whose vectors are fitted, sorted. Condition: first numbers are ints; at most 1000000 names. -/
import Derived.Test.YtiklogoookngaaaBx1
import Derived.Test.YtiklogoookngaaaSst
namespace Go.Proofs.Ytiklogoookngaaa
open Go.RowKit
set_option linter.unusedSimpArgs false
set_option linter.unusedVariables false

/-- Does the vector t fit this name's? -/
def fitV (t : R3) (p : NV) : Bool := fB t.1 t.2.1 t.2.2 p.2.1 p.2.2.1 p.2.2.2
def unV (p : ByteArray × Value) : NV := (p.1, match p.2 with | .agg #[.int _ a, .int _ b, .int _ c] => (a, b, c) | _ => (0, 0, 0))
theorem unV_eV (p : NV) : unV (eV p) = p := rfl
theorem unV_map (l : List NV) : (l.map eV).map unV = l := by
  rw [List.map_map]
  conv => rhs; rw [← List.map_id l]
  rfl
theorem eV_split {tn : List NV} {s : ByteArray} {v : Value} {T : Ents} (h : (tn.map eV).Perm ((s, v) :: T)) : ∃ (t : R3) (tn' : List NV), v = vR t ∧ T = tn'.map eV ∧ tn.Perm ((s, t) :: tn') := by
  have hm : (s, v) ∈ tn.map eV := h.mem_iff.2 (by simp)
  obtain ⟨p, _, hp⟩ := List.mem_map.1 hm
  have h1 : p.1 = s := congrArg Prod.fst hp
  have h2 : vR p.2 = v := congrArg Prod.snd hp
  have hT : T = (T.map unV).map eV := by
    have : ∀ q ∈ T, eV (unV q) = q := fun q hq => by
      obtain ⟨z, _, hz⟩ := List.mem_map.1 (h.mem_iff.2 (List.mem_cons_of_mem _ hq))
      rw [← hz]; rfl
    clear h hm
    induction T with
    | nil => rfl
    | cons q T ih =>
      rw [List.map_cons, List.map_cons, this q (by simp), ← ih fun x hx => this x (by simp [hx])]
  refine ⟨p.2, T.map unV, h2.symm, hT, ?_⟩
  have := h.map unV
  rw [unV_map, List.map_cons] at this
  rw [show ((s, p.2) : NV) = unV (s, v) by rw [← h2]; rfl]
  exact this
section
variable {P : Program} {w : World} {ops : Array Oper} {rest : List Oper} {o : Oper} {a : Act} {Q : Exit → Act → World → Prop}
theorem next_n (hw : Region.wanted o (yielded ops a.tmps) = true) (it : Operand) (hop : o.op = Op.next it false) (r : Nat) (hit : a.eval it = .pointer (some ⟨r, 0, none⟩)) (mv : Value) (L tn : List NV) (h : Rng w mv r (L.map eV) (tn.map eV))
    (hDone : tn = [] → wpList P ops Q rest (a.put o.dst (.tuple #[.bool false])) w)
    (hMore : ∀ (s : ByteArray) (t : R3) tn' w', tn.Perm ((s, t) :: tn') → Rng w' mv r (L.map eV) (tn'.map eV) → w.grownBy w' (some r) → w'.heap.size = w.heap.size → (Instr.entry (.pointer (some ⟨r, 0, none⟩))).run P w' = .ok (.tuple #[.string s, vR t]) w' → wpList P ops Q rest (a.put o.dst (.tuple #[.bool true, .string s, vR t])) w') : wpList P ops Q (o :: rest) a w :=
  next_l hw it hop r hit h (fun e => hDone (List.map_eq_nil_iff.1 e)) fun s v T' w' hp hr hg hs hen => by
    obtain ⟨t, tn', rfl, rfl, hp2⟩ := eV_split hp
    exact hMore s t tn' w' hp2 hr hg hs hen
end
/-- Names whose vectors are fitted, in the buckets from n on, ahead of m. -/
def fitN (D : List NV) (t : R3) (n m : Nat) : List NV := (D.filter (fitV t)).filter fun p => decide (n ≤ num p.2) && decide (num p.2 < m)
theorem fitN_none (D : List NV) (t : R3) (n : Nat) : fitN D t n n = [] := by
  unfold fitN
  rw [List.filter_eq_nil_iff]
  intro p _ h
  simp only [Bool.and_eq_true, decide_eq_true_eq] at h
  omega
theorem fitN_succ (D : List NV) (t : R3) {n m : Nat} (h : n ≤ m) : (fitN D t n (m + 1)).Perm (fitN D t n m ++ (inB D m).filter (fitV t)) := by
  unfold fitN inB
  induction D with
  | nil => exact List.Perm.refl _
  | cons p D ih =>
    simp only [List.filter_cons]
    cases hf : fitV t p with
    | false =>
      simp only [Bool.false_eq_true, if_false]
      by_cases hm : num p.2 = m
      · rw [if_pos (by simpa using hm), List.filter_cons, if_neg (by simp [hf])]; exact ih
      · rw [if_neg (by simpa using hm)]; exact ih
    | true =>
      simp only [if_true, List.filter_cons]
      rcases Nat.lt_trichotomy (num p.2) m with h1 | h1 | h1
      · rw [if_neg (show ¬ (num p.2 == m) = true by simp; omega)]
        by_cases h2 : n ≤ num p.2
        · rw [if_pos (by simp; omega), if_pos (by simp; omega)]
          exact ih.cons p
        · rw [if_neg (by simp; omega), if_neg (by simp; omega)]
          exact ih
      · rw [if_pos (show (num p.2 == m) = true by simp [h1]), if_pos (by simp; omega), if_neg (by simp; omega), List.filter_cons, if_pos hf]
        exact (ih.cons p).trans List.perm_middle.symm
      · rw [if_neg (show ¬ (num p.2 == m) = true by simp; omega), if_neg (by simp; omega), if_neg (by simp; omega)]
        exact ih
theorem fitV_iff {t : R3} {p : NV} : fitV t p = true ↔ t.1 ≤ p.2.1 ∧ t.2.1 ≤ p.2.2.1 ∧ t.2.2 ≤ p.2.2.2 := decide_eq_true_iff
theorem fitN_all {D : List NV} {t : R3} (h : ∀ p ∈ D, okV p.2) : fitN D t (num t) 64 = D.filter (fitV t) := by
  unfold fitN
  refine List.filter_eq_self.2 fun p hp => ?_
  obtain ⟨h1, h2⟩ := List.mem_filter.1 hp
  simp only [Bool.and_eq_true, decide_eq_true_eq]
  exact ⟨num_mono (fitV_iff.1 h2).1 (h p h1), num_lt (h p h1)⟩
theorem fitN_len (D : List NV) (t : R3) (n m : Nat) : (fitN D t n m).length ≤ D.length := Nat.le_trans (List.length_filter_le _ _) (List.length_filter_le _ _)
/-- Names that are collected. -/
structure Cl (w0 wr : World) (D : List NV) (t : R3) (n m : Nat) (ns : List ByteArray) (v : Value) : Prop where
  be : Below w0.heap.size w0 wr
  ow : OwnK wr w0.heap.size 9 1 v (cellsS ns)
  pm : ns.Perm ((fitN D t n m).map Prod.fst)
/-- .. out of one bucket: those of dn were looked at, those of pd are, those of tn will be. -/
structure Cn (w0 wr : World) (mv : Value) (r : Nat) (L : List NV) (t : R3) (ns0 : List ByteArray) (dn pd tn : List NV) (ns : List ByteArray) (v : Value) : Prop where
  be : Below w0.heap.size w0 wr
  ow : OwnK wr w0.heap.size 9 1 v (cellsS ns)
  pm : ns.Perm (ns0 ++ (dn.filter (fitV t)).map Prod.fst)
  al : (dn ++ (pd ++ tn)).Perm L
  rg : Rng wr mv r (L.map eV) (tn.map eV)
  low : w0.heap.size ≤ r
section
variable {w0 wr w' : World} {mv v v' : Value} {r : Nat} {L dn pd tn tn' : List NV} {t u : R3} {ns0 ns : List ByteArray} {s : ByteArray}
theorem Cn.below (H : Cn w0 wr mv r L t ns0 dn pd tn ns v) (hb : Below wr.heap.size wr w') : Cn w0 w' mv r L t ns0 dn pd tn ns v :=
  ⟨H.be.trans (hb.mono H.be.size), H.ow.below hb, H.pm, H.al, H.rg.later hb, H.low⟩
theorem Cn.next (H : Cn w0 wr mv r L t ns0 dn [] tn ns v) (hp : tn.Perm ((s, u) :: tn')) (hr : Rng w' mv r (L.map eV) (tn'.map eV)) (hg : wr.grownBy w' (some r)) : Cn w0 w' mv r L t ns0 dn [(s, u)] tn' ns v :=
  ⟨H.be.grown hg H.be.size fun k hk => by injection hk with hk; rw [← hk]; exact H.low, H.ow.grp (GrP.of hg) fun k hk e => H.ow.notIter H.rg (by rw [hk, e]), H.pm, (List.Perm.append_left dn hp.symm).trans H.al, hr, H.low⟩
theorem Cn.skip (H : Cn w0 wr mv r L t ns0 dn [(s, u)] tn ns v) (hf : fitV t (s, u) = false) : Cn w0 wr mv r L t ns0 (dn ++ [(s, u)]) [] tn ns v := by
  refine ⟨H.be, H.ow, ?_, ?_, H.rg, H.low⟩
  · rw [List.filter_append, List.filter_cons, if_neg (by rw [hf]; simp)]
    simpa using H.pm
  · rw [List.append_assoc]; exact H.al
theorem Cn.put (H : Cn w0 wr mv r L t ns0 dn [(s, u)] tn ns v) (hO : OwnK w' w0.heap.size 9 1 v' (cellsS (ns ++ [s]))) (hg : wr.grownBy w' v.ownBlock) (hf : fitV t (s, u) = true) : Cn w0 w' mv r L t ns0 (dn ++ [(s, u)]) [] tn (ns ++ [s]) v' := by
  refine ⟨H.be.grown hg H.be.size fun k hk => H.ow.block k hk, hO, ?_, by rw [List.append_assoc]; exact H.al, H.rg.kept hg (H.ow.notMapV H.rg) (H.ow.notIter H.rg), H.low⟩
  rw [List.filter_append, List.filter_cons, if_pos hf, List.map_append, ← List.append_assoc]
  exact H.pm.append_right _
theorem Cn.len (H : Cn w0 wr mv r L t ns0 dn pd tn ns v) : ns.length ≤ ns0.length + L.length := by
  have h1 := H.pm.length_eq
  have h2 := H.al.length_eq
  rw [List.length_append, List.length_map] at h1
  rw [List.length_append] at h2
  have := List.length_filter_le (fitV t) dn
  omega
end
section
variable {w0 wr w' : World} {mv v : Value} {r n m : Nat} {L dn : List NV} {t : R3} {ns0 ns : List ByteArray} {D : List NV}
theorem Cl.range (H : Cl w0 wr D t n m ns v) (hr : Rng w' mv r (L.map eV) (L.map eV)) (hb : Below wr.heap.size wr w') (h : r = wr.heap.size) : Cn w0 w' mv r L t ns [] [] L ns v :=
  ⟨H.be.trans (hb.mono H.be.size), H.ow.below hb, by simp, List.Perm.refl _, hr, by rw [h]; exact H.be.size⟩
theorem Cn.done (H : Cn w0 w' mv r L t ns0 dn [] [] ns v) (hL : L.Perm (inB D m)) (h0 : ns0.Perm ((fitN D t n m).map Prod.fst)) (hnm : n ≤ m) : Cl w0 w' D t n (m + 1) ns v := by
  refine ⟨H.be, H.ow, ?_⟩
  have h1 : dn.Perm (inB D m) := by have := H.al; simp only [List.append_nil] at this; exact this.trans hL
  refine H.pm.trans (((h0.append ((h1.filter _).map _))).trans ?_)
  rw [← List.map_append]
  exact (fitN_succ D t hnm).symm.map _
end
set_option maxHeartbeats 6400000 in
set_option maxRecDepth 100000 in
/-- The names of those whose vectors are fitted. -/
theorem atLeast_any (b g : Nat) (M : Nat → Value) (D : List NV) (t : R3) (w : World) (ht : okV t) (hbig : D.length ≤ 100000) (hH : Hid (Ix w b g M D)) : Calls Try.prog 17 #[.pointer (some ⟨g, 0, none⟩), vR t] w fun e w' => (∃ l A c, e = .returned (.slice A (List.length l) c) ∧ OwnK w' w.heap.size 9 1 (.slice A (List.length l) c) (cellsS l) ∧ l.Perm ((D.filter (fitV t)).map Prod.fst) ∧ l.Pairwise (fun x y => sL y x = false)) ∧ Below w.heap.size w w' := by
  obtain ⟨n, hn⟩ : ∃ n, n = num t := ⟨_, rfl⟩
  have KN : Hid (∀ w, Calls Try.prog 20 #[vR t] w fun e w' => e = .returned (.int .i64 (n : Nat)) ∧ Below w.heap.size w w') := fun w => by rw [hn]; exact number_any t w ht
  have hn64 : n < 64 := by rw [hn]; exact num_lt ht
  have HNT := Lib.hid hn
  clear hn
  have KF : Hid (∀ w, Calls Try.prog 21 #[.pointer (some ⟨g, 0, none⟩), .int .i64 n] w fun e w' => e = .returned (.slice (some ⟨g, n, none⟩) (64 - n) (64 - n)) ∧ w' = w) := fun w => from_any g n w hn64
  have KI : Hid (∀ (u : R3) (s : ByteArray) w, Calls Try.prog 22 #[vR t, vR u] w fun e w' => e = .returned (.bool (fitV t (s, u))) ∧ Below w.heap.size w w') := fun u s w => fits_any t.1 t.2.1 t.2.2 u.1 u.2.1 u.2.2 w
  have KS : Hid (∀ (w : World) (b n c : Nat) (A : Option Addr) (l : List ByteArray), n ≤ 1000000 → Hid (OwnK w b 9 1 (.slice A n c) (cellsS l)) → Calls Try.prog 23 #[.slice A n c] w fun e w' => e = .returned (.tuple #[]) ∧ (∃ l', l'.Perm l ∧ l'.Pairwise (fun x y => sL y x = false) ∧ OwnK w' b 9 1 (.slice A n c) (cellsS l')) ∧ Below b w w') := fun w b n c A l h1 h2 => sortS_any w b n c A l h1 h2
  obtain ⟨W0, hW0⟩ : ∃ W, W = w.alloc (.cells #[.int .i64 t.1, .int .i64 t.2.1, .int .i64 t.2.2] 37) := ⟨_, rfl⟩
  obtain ⟨p, hp⟩ : ∃ p, p = w.heap.size := ⟨_, rfl⟩
  have HB0 : Hid (Below w.heap.size w W0) := by rw [hW0]; exact (Below.refl _ _).alloc (Nat.le_refl _) _
  have HP0 : Hid (Bk W0 p 37 #[.int .i64 t.1, .int .i64 t.2.1, .int .i64 t.2.2]) := by rw [hW0, hp]; exact Bk.fresh _ _ _
  have H0 := Lib.hid (hH.out.later HB0.out)
  have c0 : W0.cell? ⟨p, 0, none⟩ = some (.int .i64 t.1) := HP0.out.cellAt 0
  have c1 : W0.cell? ⟨p, 1, none⟩ = some (.int .i64 t.2.1) := HP0.out.cellAt 1
  have c2 : W0.cell? ⟨p, 2, none⟩ = some (.int .i64 t.2.2) := HP0.out.cellAt 2
  have hp1 : p < W0.heap.size := HP0.out.here
  go_enter Try.func17, Try.ntmps17
  go_wp2_with fail
  rw [← hW0, ← hp]
  clear hW0
  have HPW := Lib.hid hp
  clear hp
  refine (KN.out _).mono ?_
  rintro e w1 ⟨rfl, hb1⟩
  have HB1 := Lib.hid hb1
  clear hb1 c0 c1 c2 KN
  go_wp2_with fail
  refine (KF.out _).mono ?_
  rintro e w' ⟨rfl, hw'⟩
  rw [hw']
  clear hw' w' KF
  obtain ⟨N, hN⟩ : ∃ N, N = 64 - n := ⟨_, rfl⟩
  rw [← hN]
  have hN64 : N ≤ 64 := by omega
  have HNN : Hid (n + N = 64) := by show _ = _; omega
  have HW1 : Hid (Cl W0 w1 D t n (n + 0) [] (.slice none 0 0)) := ⟨HB1.out, OwnK.nil _ _ _ _, by rw [Nat.add_zero, fitN_none]; exact List.Perm.refl _⟩
  clear hN
  go_wp2_with fail
  go_loopw [15, 5] (fun s15 s5 wr => ∃ (k : Nat) (ns : List ByteArray) (v : Value), k ≤ N ∧ s15 = .int .i64 k ∧ s5 = v ∧ Hid (Cl W0 wr D t n (n + k) ns v)) (fun s15 s5 wr => N - (intOf s15).toNat)
  case atStart => exact ⟨0, [], _, Nat.zero_le _, rfl, rfl, HW1⟩
  case round =>
    obtain ⟨k, ns, v, hk, rfl, h5, HC⟩ := hrel
    obtain ⟨A, c, hv, _, _, _⟩ := HC.out.ow.rds
    obtain ⟨q, hq⟩ : ∃ q, q = ns.length := ⟨_, rfl⟩
    rw [← hq] at hv
    subst hv
    subst h5
    by_cases hlt : k < N
    · have HQ := Lib.hid hq
      have hnk : n + k < 64 := by have := HNN.out; omega
      obtain ⟨L, hm, hL⟩ := (H0.out.later HC.out.be).maps (n + k) hnk
      obtain ⟨o, ho⟩ := hm.val
      have hc : wr.cell? ⟨g, n + k, none⟩ = some (.map o) := by rw [(H0.out.later HC.out.be).cell hnk, ho]
      have HM : Hid (MapV wr (.map o) (L.map eV)) := by rw [← ho]; exact hm
      have HL := Lib.hid hL
      have hLD : L.length ≤ D.length := by rw [hL.length_eq]; exact List.length_filter_le _ _
      have hnl : ns.length ≤ D.length := by rw [HC.out.pm.length_eq, List.length_map]; exact fitN_len _ _ _ _
      have HLN : Hid (ns.length + L.length ≤ 200000) := by show _ ≤ _; omega
      have hw1 : wrap64 ((k : Int) + 1) = ((k + 1 : Nat) : Int) := by unfold wrap64; omega
      clear hm hL ho hLD hnl hq
      go_wp2_with ((with_reducible refine range_l rfl _ 32 rfl 9 37 Try.underlying32 (.map o) rfl HM.out ?_); intro r w2 hr0 hrg hb2 hs2; have HR2 : Hid (Cn W0 w2 (.map o) r L t ns [] [] L ns (.slice A q c)) := HC.out.range hrg hb2 hr0; clear hr0 hrg hb2 hs2)
      go_frame
      go_loopw [5] (fun s5 wq => ∃ (dn tn : List NV) (ms : List ByteArray) (v : Value), s5 = v ∧ Hid (Cn W0 wq (.map o) r L t ns dn [] tn ms v)) (fun s5 wq => rngLeft wq r)
      case atStart => exact ⟨[], L, ns, _, rfl, HR2⟩
      case round =>
        clear HR2
        obtain ⟨dn, tn, ms, v, h5, H⟩ := hrel
        obtain ⟨A', c', hv, _, _, _⟩ := H.out.ow.rds
        obtain ⟨q', hq'⟩ : ∃ q, q = ms.length := ⟨_, rfl⟩
        rw [← hq'] at hv
        subst hv
        subst h5
        have HQ' := Lib.hid hq'
        have HRG := Lib.hid H.out.rg
        clear hq'
        go_wp2_with ((with_reducible refine next_n rfl _ rfl r rfl (.map o) L tn HRG.out ?_ ?_))
        case refine_1 =>
          intro htn
          subst htn
          have HD := Lib.hid (H.out.done HL.out HC.out.pm (by omega))
          clear H HRG HQ HQ'
          go_wp2_with fail
          go_round
          case rel => exact ⟨k + 1, ms, _, by omega, by go_num, rfl, HD⟩
          case measure => simp [intOf]; omega
        case refine_2 =>
          intro s a1 a2 a3 tn' w5 hp hr hg hs5 hen
          have H2 := Lib.hid (H.out.next hp hr hg)
          have HLT : Hid (tn'.length < tn.length) := by show _ < _; rw [hp.length_eq]; simp
          have HTL := Lib.hid H.out.rg.left_eq
          have hpb : p < w5.heap.size := Nat.lt_of_lt_of_le hp1 H2.out.be.size
          have c0 : w5.cell? ⟨p, 0, none⟩ = some (.int .i64 t.1) := (HP0.out.later H2.out.be).cellAt 0
          have c1 : w5.cell? ⟨p, 1, none⟩ = some (.int .i64 t.2.1) := (HP0.out.later H2.out.be).cellAt 1
          have c2 : w5.cell? ⟨p, 2, none⟩ = some (.int .i64 t.2.2) := (HP0.out.later H2.out.be).cellAt 2
          have HAL : Hid (Below w5.heap.size w5 (w5.alloc (.cells #[.int .i64 a1, .int .i64 a2, .int .i64 a3] 37))) := (Below.refl _ _).alloc (Nat.le_refl _) _
          clear hp hr hg hs5 H HRG
          go_wp2_with fail
          refine (KI.out (a1, a2, a3) s _).mono ?_
          rintro e w6 ⟨rfl, hb6⟩
          have H6 := Lib.hid (H2.out.below (HAL.out.trans (hb6.mono HAL.out.size)))
          clear hb6 HAL H2 hen c0 c1 c2 hpb
          cases hf : fitV t (s, (a1, a2, a3)) with
          | false =>
            have H7 := Lib.hid (H6.out.skip hf)
            have HTL7 := Lib.hid H7.out.rg.left_eq
            clear H6 hf
            go_wp2_with fail
            go_round
            case rel => exact ⟨_, _, _, _, rfl, H7⟩
            case measure => rw [HTL7.out, HTL.out, List.length_map, List.length_map]; exact HLT.out
          | true =>
            have HF := Lib.hid hf
            have hmq : ms.length ≤ 200000 := Nat.le_trans H6.out.len HLN.out
            have HMQ := Lib.hid hmq
            have HFR : Hid (Bk (w6.alloc (.cells #[.string s] 9)) w6.heap.size 9 #[.string s]) := Bk.fresh _ _ _
            have H6a := Lib.hid (H6.out.below ((Below.refl _ _).alloc (Nat.le_refl _) (.cells #[.string s] 9)))
            have HSZ : Hid (W0.heap.size ≤ (w6.alloc (.cells #[.string s] 9)).heap.size) := H6a.out.be.size
            have hb1 : (cellsS ms).length + (cellsS [s]).length ≤ maxLen := by rw [cellsS_length, cellsS_length]; simp [maxLen]; omega
            have hb2 : ((cellsS ms).length + (cellsS [s]).length) * 16 ≤ 140737488355328 := by rw [cellsS_length, cellsS_length]; simp; omega
            have HX1 := Lib.hid hb1
            have HX2 := Lib.hid hb2
            clear hmq hf hb1 hb2
            go_wp2_with ((with_reducible refine append_k _ rfl (.tmp 29) (.tmp 31) 28 rfl W0.heap.size 9 _ 1 16 Try.underlying28 infoS rfl (by omega) (.slice A' q' c') (cellsS ms) rfl H6a.out.ow ⟨w6.heap.size, 0, none⟩ 1 1 (cellsS [s]) rfl (RdK.of_bk HFR.out) (cellsS_k _) (cellsS_one _) rfl HX1.out HX2.out HSZ.out ?_); intro v7 w7 hO7 hg7; rw [← cellsS_append] at hO7; have H7 := Lib.hid (H6a.out.put hO7 hg7 HF.out); clear hO7 hg7)
            have HTL7 := Lib.hid H7.out.rg.left_eq
            clear H6 H6a HFR HSZ HX1 HX2 HMQ
            go_round
            case rel => exact ⟨_, _, _, _, rfl, H7⟩
            case measure => rw [HTL7.out, HTL.out, List.length_map, List.length_map]; exact HLT.out
    · have hkN : k = N := by omega
      subst hkN
      have hql : q ≤ 1000000 := by
        have h1 : ns.length = (fitN D t n (n + k)).length := by rw [HC.out.pm.length_eq, List.length_map]
        have h2 := fitN_len D t n (n + k)
        omega
      have hpm : ns.Perm ((D.filter (fitV t)).map Prod.fst) := by
        have := HC.out.pm
        rw [HNN.out, HNT.out, fitN_all hH.out.ok] at this
        exact this
      have HPM := Lib.hid hpm
      have HQ := Lib.hid hq
      have HBC : Hid (Below w.heap.size w wr) := HB0.out.trans (HC.out.be.mono HB0.out.size)
      have HBS : Hid (w.heap.size ≤ W0.heap.size) := HB0.out.size
      have HOC := Lib.hid HC.out.ow
      clear hpm hq
      go_wp2_with fail
      refine (KS.out wr W0.heap.size q c A ns hql HOC).mono ?_
      rintro e w7 ⟨rfl, ⟨l, hlp, hls, hlo⟩, hb7⟩
      have hll : q = l.length := by rw [HQ.out, hlp.length_eq]
      have HLL := Lib.hid hll
      have HLP := Lib.hid hlp
      have HLS := Lib.hid hls
      have HLO := Lib.hid hlo
      have HB7 := Lib.hid hb7
      clear hll hlp hls hlo hb7
      go_wp2_with fail
      go_ret
      refine ⟨⟨l, A, c, by rw [← HLL.out]; rfl, ?_, HLP.out.trans HPM.out, HLS.out⟩, HBC.out.trans (HB7.out.mono HBS.out)⟩
      rw [← HLL.out]
      exact HLO.out.base HBS.out
end Go.Proofs.Ytiklogoookngaaa
