/- Layer 19: Due of a wheel: the names that are due, sorted; they are out. Condition: at most 100000 names. -/
import Derived.Test.YtbegbecmnhldkaaTw1
import Derived.Test.YtbegbecmnhldkaaTwm
import Derived.Test.YtbegbecmnhldkaaSst
namespace Go.Proofs.Ytbegbecmnhldkaa
open Go.RowKit
set_option linter.unusedSimpArgs false
set_option linter.unusedVariables false

/-- Is it due? -/
def dueB (now : Int) (p : NT) : Bool := decide (p.2 < now)
def unT (p : ByteArray × Value) : NT := (p.1, match p.2 with | .int _ a => a | _ => 0)
theorem unT_eT (p : NT) : unT (eT p) = p := rfl
theorem unT_map (l : List NT) : (l.map eT).map unT = l := by
  rw [List.map_map]
  conv => rhs; rw [← List.map_id l]
  rfl
theorem eT_split {tn : List NT} {s : ByteArray} {v : Value} {T : Ents} (h : (tn.map eT).Perm ((s, v) :: T)) : ∃ (t : Int) (tn' : List NT), v = Value.int .i64 t ∧ T = tn'.map eT ∧ tn.Perm ((s, t) :: tn') := by
  have hm : (s, v) ∈ tn.map eT := h.mem_iff.2 (by simp)
  obtain ⟨p, _, hp⟩ := List.mem_map.1 hm
  have h1 : p.1 = s := congrArg Prod.fst hp
  have h2 : Value.int .i64 p.2 = v := congrArg Prod.snd hp
  have hT : T = (T.map unT).map eT := by
    have : ∀ q ∈ T, eT (unT q) = q := fun q hq => by
      obtain ⟨z, _, hz⟩ := List.mem_map.1 (h.mem_iff.2 (List.mem_cons_of_mem _ hq))
      rw [← hz]; rfl
    clear h hm
    induction T with
    | nil => rfl
    | cons q T ih =>
      rw [List.map_cons, List.map_cons, this q (by simp), ← ih fun x hx => this x (by simp [hx])]
  refine ⟨p.2, T.map unT, h2.symm, hT, ?_⟩
  have := h.map unT
  rw [unT_map, List.map_cons] at this
  rw [show ((s, p.2) : NT) = unT (s, v) by rw [← h2]; rfl]
  exact this
section
variable {P : Program} {w : World} {ops : Array Oper} {rest : List Oper} {o : Oper} {a : Act} {Q : Exit → Act → World → Prop}
theorem next_t (hw : Region.wanted o (yielded ops a.tmps) = true) (it : Operand) (hop : o.op = Op.next it false) (r : Nat) (hit : a.eval it = .pointer (some ⟨r, 0, none⟩)) (mv : Value) (L tn : List NT) (h : Rng w mv r (L.map eT) (tn.map eT))
    (hDone : tn = [] → wpList P ops Q rest (a.put o.dst (.tuple #[.bool false])) w)
    (hMore : ∀ (s : ByteArray) (t : Int) tn' w', tn.Perm ((s, t) :: tn') → Rng w' mv r (L.map eT) (tn'.map eT) → w.grownBy w' (some r) → w'.heap.size = w.heap.size → (Instr.entry (.pointer (some ⟨r, 0, none⟩))).run P w' = .ok (.tuple #[.string s, .int .i64 t]) w' → wpList P ops Q rest (a.put o.dst (.tuple #[.bool true, .string s, .int .i64 t])) w') : wpList P ops Q (o :: rest) a w :=
  next_l hw it hop r hit h (fun e => hDone (List.map_eq_nil_iff.1 e)) fun s v T' w' hp hr hg hs hen => by
    obtain ⟨t, tn', rfl, rfl, hp2⟩ := eT_split hp
    exact hMore s t tn' w' hp2 hr hg hs hen
end
theorem delT_front {D : List NT} (hn : (D.map Prod.fst).Nodup) {p : NT} (hp : p ∈ D) : D.Perm (p :: delT D p.1) := by
  induction D with
  | nil => cases hp
  | cons q D ih =>
    rw [List.map_cons, List.nodup_cons] at hn
    by_cases e : q.1 = p.1
    · have hq : p = q := by
        rcases List.mem_cons.1 hp with h | h
        · exact h
        · exact absurd (List.mem_map.2 ⟨p, h, e.symm⟩) hn.1
      subst hq
      have : delT (p :: D) p.1 = D := by
        unfold delT
        rw [List.filter_cons, if_neg (by simp), List.filter_eq_self.2]
        intro z hz
        rw [decide_eq_true_eq]
        exact fun h => hn.1 (List.mem_map.2 ⟨z, hz, h⟩)
      rw [this]
    · have hp2 : p ∈ D := (List.mem_cons.1 hp).resolve_left fun h => e (by rw [h])
      have : delT (q :: D) p.1 = q :: delT D p.1 := by
        unfold delT
        rw [List.filter_cons, if_pos (decide_eq_true e)]
      rw [this]
      exact ((ih hn.2 hp2).cons q).trans (List.Perm.swap p q _)
theorem GrP.more {p : Nat → Prop} {w0 wr w' : World} {row : Option Nat} (h : GrP p w0 wr) (hg : wr.grownBy w' row) (hn : ∀ k, row = some k → p k ∨ w0.heap.size ≤ k) : GrP p w0 w' :=
  ⟨hg.os.trans h.os, hg.tape.trans h.tape, hg.output.trans h.output, Nat.le_trans h.size hg.size, fun k hk hp => (hg.block k (Nat.lt_of_lt_of_le hk h.size) fun e => by
    rcases hn k e.symm with h1 | h1
    · exact hp h1
    · omega).trans (h.block k hk hp)⟩
/-- Those that are due are being collected: C are out, E are left; the spokes ahead of k are done. -/
structure Du (w0 wr : World) (b g : Nat) (M : Nat → Value) (D : List NT) (now : Int) (k : Nat) (C E : List NT) (xs : List ByteArray) (v : Value) : Prop where
  gr : GrP (WxB g M) w0 wr
  wx : Wx wr b g M E
  ow : OwnK wr w0.heap.size 9 1 v (cellsS (C.map Prod.fst ++ xs))
  al : (C ++ E).Perm D
  lo : ∀ p ∈ C, p.2 < now
  hi : ∀ p ∈ E, numT p.2 < k → ¬ p.2 < now
  lt : ∀ k, WxB g M k → k < w0.heap.size
/-- .. and of spoke k: those of pd are looked at, those of tn will be. -/
structure Dw (w0 wr : World) (b g : Nat) (M : Nat → Value) (D : List NT) (now : Int) (k : Nat) (C E : List NT) (xs : List ByteArray) (v mv : Value) (r : Nat) (L pd tn : List NT) : Prop where
  du : Du w0 wr b g M D now k C E xs v
  rg : Rng wr mv r (L.map eT) (tn.map eT)
  lp : L.Perm (inT E k)
  mid : ∀ p ∈ L, p ∈ pd ∨ p ∈ tn ∨ ¬ p.2 < now
  sub : ∀ p ∈ pd ++ tn, p ∈ L
  nd : ((pd ++ tn).map Prod.fst).Nodup
  low : w0.heap.size ≤ r
  mm : M k = mv
section
variable {w0 wr w' : World} {b g k r : Nat} {M : Nat → Value} {D C E L pd tn tn' : List NT} {now u : Int} {xs : List ByteArray} {v v' mv : Value} {s : ByteArray}
theorem Du.start (H : Wx w0 b g M D) : Du w0 w0 b g M D now 0 [] D [] (.slice none 0 0) :=
  ⟨GrP.refl _ _, H, OwnK.nil _ _ _ _, List.Perm.refl _, by simp, fun p _ h => absurd h (Nat.not_lt_zero _), fun k hk => (H.blk hk).2⟩
theorem Du.more (H : Du w0 wr b g M D now k C E xs v) {row : Option Nat} (hg : wr.grownBy w' row) (hn : ∀ k, row = some k → w0.heap.size ≤ k) (ho : OwnK w' w0.heap.size 9 1 v' (cellsS (C.map Prod.fst ++ xs))) : Du w0 w' b g M D now k C E xs v' :=
  ⟨H.gr.more hg fun k e => .inr (hn k e), H.wx.grp (GrP.of hg) fun k hk e => by have := H.lt k hk; have := hn k e; omega, ho, H.al, H.lo, H.hi, H.lt⟩
theorem Du.below (H : Du w0 wr b g M D now k C E xs v) (hb : Below wr.heap.size wr w') : Du w0 w' b g M D now k C E xs v :=
  ⟨H.gr.trans (GrP.ofBelow hb), H.wx.later hb, H.ow.below hb, H.al, H.lo, H.hi, H.lt⟩
theorem Du.range (H : Du w0 wr b g M D now k C E [] v) (hr : Rng w' mv r (L.map eT) (L.map eT)) (hb : Below wr.heap.size wr w') (h : r = wr.heap.size) (hL : L.Perm (inT E k)) (hm : M k = mv) : Dw w0 w' b g M D now k C E [] v mv r L [] L :=
  ⟨H.below hb, hr, hL, fun p hp => .inr (.inl hp), fun p hp => by simpa using hp, (hL.map _).nodup_iff.2 ((List.filter_sublist.map _).nodup H.wx.nodup), by rw [h]; exact H.gr.size, hm⟩
theorem Dw.below (H : Dw w0 wr b g M D now k C E xs v mv r L pd tn) (hb : Below wr.heap.size wr w') : Dw w0 w' b g M D now k C E xs v mv r L pd tn :=
  ⟨H.du.below hb, H.rg.later hb, H.lp, H.mid, H.sub, H.nd, H.low, H.mm⟩
theorem Dw.next (H : Dw w0 wr b g M D now k C E [] v mv r L [] tn) (hp : tn.Perm ((s, u) :: tn')) (hr : Rng w' mv r (L.map eT) (tn'.map eT)) (hg : wr.grownBy w' (some r)) : Dw w0 w' b g M D now k C E [] v mv r L [(s, u)] tn' :=
  ⟨H.du.more hg (fun k e => by injection e with e; rw [← e]; exact H.low) (H.du.ow.grp (GrP.of hg) fun k hk e => H.du.ow.notIter H.rg (by rw [hk, e])), hr, H.lp, fun p h => by
    rcases H.mid p h with h1 | h1 | h1
    · cases h1
    · rcases List.mem_cons.1 (hp.mem_iff.1 h1) with h2 | h2
      · exact .inl (by simp [h2])
      · exact .inr (.inl h2)
    · exact .inr (.inr h1), fun p h => H.sub p (by simpa using hp.mem_iff.2 (by simpa using h)), (by simpa using ((hp.map Prod.fst).nodup_iff.1 (by simpa using H.nd))), H.low, H.mm⟩
theorem Dw.skip (H : Dw w0 wr b g M D now k C E [] v mv r L [(s, u)] tn) (hu : ¬ u < now) : Dw w0 wr b g M D now k C E [] v mv r L [] tn :=
  ⟨H.du, H.rg, H.lp, fun p h => by
    rcases H.mid p h with h1 | h1 | h1
    · rw [List.mem_singleton.1 h1]; exact .inr (.inr hu)
    · exact .inr (.inl h1)
    · exact .inr (.inr h1), fun p h => H.sub p (by simp at h ⊢; exact .inr h), (by have := H.nd; simp at this ⊢; exact this.2), H.low, H.mm⟩
theorem Dw.put (H : Dw w0 wr b g M D now k C E [] v mv r L pd tn) (hO : OwnK w' w0.heap.size 9 1 v' (cellsS (C.map Prod.fst ++ [s]))) (hg : wr.grownBy w' v.ownBlock) : Dw w0 w' b g M D now k C E [s] v' mv r L pd tn := by
  have ho : ∀ k, v.ownBlock = some k → w0.heap.size ≤ k := fun k hk => H.du.ow.block k hk
  exact ⟨⟨H.du.gr.more hg fun k e => .inr (ho k e), H.du.wx.grp (GrP.of hg) fun k hk e => by have := H.du.lt k hk; have := ho k e; omega, hO, H.du.al, H.du.lo, H.du.hi, H.du.lt⟩, H.rg.kept hg (H.du.ow.notMapV H.rg) (H.du.ow.notIter H.rg), H.lp, H.mid, H.sub, H.nd, H.low, H.mm⟩
theorem Dw.clear_ (H : Dw w0 wr b g M D now k C E xs v mv r L [(s, u)] tn) : ∀ p ∈ tn.map eT, p.1 ≠ s := fun p hp e => by
  obtain ⟨q, hq, rfl⟩ := List.mem_map.1 hp
  have := H.nd
  simp at this
  exact this.1 q.2 (by rw [← e]; exact hq)
theorem Dw.del (H : Dw w0 wr b g M D now k C E [s] v mv r L [(s, u)] tn) (hk : k < 16) (hu : u < now) (hr : Rng w' mv r (delL (L.map eT) s) (tn.map eT)) (hm : MapV w' mv (delL (L.map eT) s)) (hg : wr.grownBy w' (mapBlock mv)) : Dw w0 w' b g M D now k (C ++ [(s, u)]) (delT E s) [] v mv r (delT L s) [] tn := by
  have hL : (s, u) ∈ L := H.sub _ (by simp)
  have hE := inT_mem.1 (H.lp.mem_iff.1 hL)
  rw [delL_T] at hr hm
  have hmm := H.mm
  have T := H.du.wx.turn (E := delT E s) (L := delT L s) hk (by rw [hmm]; exact hg) (by rw [hmm]; exact hm) (by rw [delT_inT]; exact perm_delT H.lp s) (fun j hj => by
    rw [delT_inT]
    refine delT_none fun p hp e => ?_
    have hp2 := inT_mem.1 hp
    have := nt_one H.du.wx.nodup hp2.1 hE.1 e
    rw [this] at hp2
    exact hj (by rw [← hp2.2]; exact hE.2)) (delT_nodup H.du.wx.nodup)
  refine ⟨⟨H.du.gr.trans T.2, T.1, ?_, ?_, ?_, fun p hp => H.du.hi p (delT_mem.1 hp).1, H.du.lt⟩, hr, by rw [delT_inT]; exact perm_delT H.lp s, fun p hp => ?_, fun p hp => ?_, ?_, H.low, H.mm⟩
  · have := H.du.ow.grp T.2 fun q hq e => by have h1 := H.du.ow.block q hq; have h2 := H.du.lt q e; omega
    rw [List.map_append, List.append_nil]; exact this
  · rw [List.append_assoc]
    exact (List.Perm.append_left C (delT_front H.du.wx.nodup hE.1).symm).trans H.du.al
  · intro p hp
    rcases List.mem_append.1 hp with hp | hp
    · exact H.du.lo p hp
    · rw [List.mem_singleton.1 hp]; exact hu
  · obtain ⟨h1, h2⟩ := delT_mem.1 hp
    rcases H.mid p h1 with h3 | h3 | h3
    · rw [List.mem_singleton.1 h3] at h2; exact absurd rfl h2
    · exact .inr (.inl h3)
    · exact .inr (.inr h3)
  · have hp : p ∈ tn := by simpa using hp
    exact delT_mem.2 ⟨H.sub p (by simp [hp]), H.clear_ (eT p) (List.mem_map.2 ⟨p, hp, rfl⟩)⟩
  · have := H.nd; simp at this ⊢; exact this.2
theorem Dw.done (H : Dw w0 wr b g M D now k C E [] v mv r L [] []) : Du w0 wr b g M D now (k + 1) C E [] v :=
  ⟨H.du.gr, H.du.wx, H.du.ow, H.du.al, H.du.lo, fun p hp hlt => by
    by_cases h : numT p.2 < k
    · exact H.du.hi p hp h
    · have hpL : p ∈ L := H.lp.mem_iff.2 (inT_mem.2 ⟨hp, by omega⟩)
      rcases H.mid p hpL with h1 | h1 | h1
      · cases h1
      · cases h1
      · exact h1, H.du.lt⟩
theorem Du.lens (H : Du w0 wr b g M D now k C E xs v) : C.length + E.length = D.length := by have := H.al.length_eq; rwa [List.length_append] at this
theorem Du.fin (H : Du w0 wr b g M D now 16 C E [] v) : C.Perm (D.filter (dueB now)) ∧ E.Perm (D.filter fun p => !dueB now p) := by
  have hC : ∀ p ∈ C, dueB now p = true := fun p hp => decide_eq_true (H.lo p hp)
  have hE : ∀ p ∈ E, dueB now p = false := fun p hp => decide_eq_false (H.hi p hp (numT_lt p.2))
  constructor
  · have := H.al.filter (dueB now)
    rw [List.filter_append, List.filter_eq_self.2 hC, List.filter_eq_nil_iff.2 (fun p hp => by rw [hE p hp]; simp), List.append_nil] at this
    exact this
  · have := H.al.filter fun p => !dueB now p
    rw [List.filter_append, List.filter_eq_nil_iff.2 (fun p hp => by rw [hC p hp]; simp), List.filter_eq_self.2 (fun p hp => by rw [hE p hp]; rfl), List.nil_append] at this
    exact this
theorem Wx.sorted (H : Wx wr b g M E) {B : Nat} (hb : Below B wr w') (hlt : ∀ k, WxB g M k → k < B) : Wx w' b g M E :=
  H.grp (p := fun k => B ≤ k) ⟨hb.os, hb.tape, hb.output, hb.size, fun k hk hn => hb.block k (by omega)⟩ fun k hk e => by have := hlt k hk; omega
end
set_option maxHeartbeats 6400000 in
set_option maxRecDepth 100000 in
/-- The names that are due; they are out. -/
theorem dueT_any (b g : Nat) (M : Nat → Value) (D : List NT) (now : Int) (w : World) (hbig : D.length ≤ 100000) (hH : Hid (Wx w b g M D)) : Calls Try.prog 17 #[.pointer (some ⟨g, 0, none⟩), .int .i64 now] w fun e w' => (∃ (l : List ByteArray) (A : Option Addr) (c : Nat), e = .returned (.slice A (List.length l) c) ∧ OwnK w' w.heap.size 9 1 (.slice A (List.length l) c) (cellsS l) ∧ l.Perm ((D.filter (dueB now)).map Prod.fst) ∧ l.Pairwise (fun x y => sL y x = false)) ∧ Wx w' b g M (D.filter fun p => !dueB now p) ∧ GrP (WxB g M) w w' := by
  have KF : Hid (∀ w, Calls Try.prog 21 #[.pointer (some ⟨g, 0, none⟩)] w fun e w' => e = .returned (.slice (some ⟨g, 0, none⟩) 16 16) ∧ w' = w) := fun w => allT_any g w
  have KS : Hid (∀ (w : World) (b n c : Nat) (A : Option Addr) (l : List ByteArray), n ≤ 1000000 → Hid (OwnK w b 9 1 (.slice A n c) (cellsS l)) → Calls Try.prog 22 #[.slice A n c] w fun e w' => e = .returned (.tuple #[]) ∧ (∃ l', l'.Perm l ∧ l'.Pairwise (fun x y => sL y x = false) ∧ OwnK w' b 9 1 (.slice A n c) (cellsS l')) ∧ Below b w w') := fun w b n c A l h1 h2 => sortS_any w b n c A l h1 h2
  have H0 : Hid (Du w w b g M D now 0 [] D [] (.slice none 0 0)) := Du.start hH.out
  have HBG := Lib.hid hbig
  clear hbig
  go_enter Try.func17, Try.ntmps17
  go_wp2_with fail
  refine (KF.out _).mono ?_
  rintro e w' ⟨rfl, hw'⟩
  rw [hw']
  clear hw' w' KF
  go_wp2_with fail
  go_loopw [13, 5] (fun s13 s5 wr => ∃ (k : Nat) (C E : List NT) (v : Value), k ≤ 16 ∧ s13 = .int .i64 k ∧ s5 = v ∧ Hid (Du w wr b g M D now k C E [] v)) (fun s13 s5 wr => 16 - (intOf s13).toNat)
  case atStart => exact ⟨0, [], D, _, Nat.zero_le _, rfl, rfl, H0⟩
  case round =>
    clear H0
    obtain ⟨k, C, E, v, hk, rfl, h5, H⟩ := hrel
    obtain ⟨A, c, hv, _, _, _⟩ := H.out.ow.rds
    obtain ⟨q, hq⟩ : ∃ q, q = (C.map Prod.fst ++ []).length := ⟨_, rfl⟩
    rw [← hq] at hv
    subst hv
    subst h5
    by_cases hlt : k < 16
    · have hki : (k : Int) < 16 := by omega
      have HQ := Lib.hid hq
      obtain ⟨L, hm, hL⟩ := H.out.wx.maps k hlt
      obtain ⟨o, ho⟩ := hm.val
      have hc : wr.cell? ⟨g, k, none⟩ = some (.map o) := by rw [H.out.wx.cell hlt, ho]
      have HM : Hid (MapV wr (.map o) (L.map eT)) := by rw [← ho]; exact hm
      have hw1 : wrap64 ((k : Int) + 1) = ((k + 1 : Nat) : Int) := by unfold wrap64; omega
      have HL := Lib.hid hL
      have HO := Lib.hid ho
      clear hm hL ho hq
      go_wp2_with ((with_reducible refine range_l rfl _ 32 rfl 9 3 Try.underlying32 (.map o) rfl HM.out ?_); intro r w2 hr0 hrg hb2 hs2; have HR2 : Hid (Dw w w2 b g M D now k C E [] (.slice A q c) (.map o) r L [] L) := H.out.range hrg hb2 hr0 HL.out HO.out; clear hr0 hrg hb2 hs2)
      go_frame
      go_loopw [5] (fun s5 wq => ∃ (C E L tn : List NT) (v : Value), s5 = v ∧ Hid (Dw w wq b g M D now k C E [] v (.map o) r L [] tn)) (fun s5 wq => rngLeft wq r)
      case atStart => exact ⟨C, E, L, L, _, rfl, HR2⟩
      case round =>
        clear HR2 H HM HL HQ
        obtain ⟨C, E, L, tn, v, h5, H⟩ := hrel
        obtain ⟨A', c', hv, _, _, _⟩ := H.out.du.ow.rds
        obtain ⟨q', hq'⟩ : ∃ q, q = (C.map Prod.fst ++ []).length := ⟨_, rfl⟩
        rw [← hq'] at hv
        subst hv
        subst h5
        have HQ' := Lib.hid hq'
        have HRG := Lib.hid H.out.rg
        clear hq'
        go_wp2_with ((with_reducible refine next_t rfl _ rfl r rfl (.map o) L tn HRG.out ?_ ?_))
        case refine_1 =>
          intro htn
          subst htn
          have HD := Lib.hid H.out.done
          clear H HRG HQ'
          go_wp2_with fail
          go_round
          case rel => exact ⟨k + 1, C, E, _, by omega, by go_num, rfl, HD⟩
          case measure => first | (rw [hw1]; show 16 - ((k + 1 : Nat) : Int).toNat < 16 - ((k : Nat) : Int).toNat; rw [Int.toNat_natCast, Int.toNat_natCast]; omega) | (show 16 - ((k : Int) + 1).toNat < 16 - ((k : Nat) : Int).toNat; omega)
        case refine_2 =>
          intro s u tn' w5 hp hr hg hs5 hen
          have H2 := Lib.hid (H.out.next hp hr hg)
          have HLT : Hid (tn'.length < tn.length) := by show _ < _; rw [hp.length_eq]; simp
          have HTL := Lib.hid H.out.rg.left_eq
          clear hp hr hg hs5 H HRG
          by_cases hu : u < now
          · have HU := Lib.hid hu
            have hmq : (C.map Prod.fst ++ []).length ≤ 100000 := by have h1 := H2.out.du.lens; have := HBG.out; rw [List.append_nil, List.length_map]; omega
            have HMQ := Lib.hid hmq
            have HFR : Hid (Bk (w5.alloc (.cells #[.string s] 9)) w5.heap.size 9 #[.string s]) := Bk.fresh _ _ _
            have H2a := Lib.hid (H2.out.below ((Below.refl _ _).alloc (Nat.le_refl _) (.cells #[.string s] 9)))
            have HSZ : Hid (w.heap.size ≤ (w5.alloc (.cells #[.string s] 9)).heap.size) := H2a.out.du.gr.size
            have HX1 : Hid ((cellsS (C.map Prod.fst ++ [])).length + (cellsS [s]).length ≤ maxLen) := by show _ ≤ _; rw [cellsS_length, cellsS_length]; simp [maxLen] at hmq ⊢; omega
            have HX2 : Hid (((cellsS (C.map Prod.fst ++ [])).length + (cellsS [s]).length) * 16 ≤ 140737488355328) := by show _ ≤ _; rw [cellsS_length, cellsS_length]; simp at hmq ⊢; omega
            clear hmq
            go_wp2_with (first | ((with_reducible refine append_k _ rfl (.tmp 27) (.tmp 29) 28 rfl w.heap.size 9 _ 1 16 Try.underlying28 infoS rfl (by omega) (.slice A' q' c') (cellsS (C.map Prod.fst ++ [])) rfl H2a.out.du.ow ⟨w5.heap.size, 0, none⟩ 1 1 (cellsS [s]) rfl (RdK.of_bk HFR.out) (cellsS_k _) (cellsS_one _) rfl HX1.out HX2.out HSZ.out ?_); intro v7 w7 hO7 hg7; rw [← cellsS_append, List.append_nil] at hO7; have H7 := Lib.hid (H2a.out.put hO7 hg7); have HR7 := Lib.hid H7.out.rg; clear hO7 hg7) | ((with_reducible refine delete_r rfl _ _ 32 9 rfl 3 Try.underlying32 Try.underlying9 (.map o) rfl r HR7.out s H7.out.clear_ rfl rfl ?_); intro w8 hr8 hm8 hg8 hs8; have H8 := Lib.hid (H7.out.del hlt HU.out hr8 hm8 hg8); clear hr8 hm8 hg8 hs8))
            have HTL8 := Lib.hid H8.out.rg.left_eq
            clear H2 H2a HFR HSZ HX1 HX2 HMQ H7 HR7 hen
            go_round
            case rel => exact ⟨_, _, _, _, _, rfl, H8⟩
            case measure => rw [HTL8.out, HTL.out, List.length_map, List.length_map]; exact HLT.out
          · have H7 := Lib.hid (H2.out.skip hu)
            have HTL7 := Lib.hid H7.out.rg.left_eq
            clear H2
            go_wp2_with fail
            clear hen
            go_round
            case rel => exact ⟨_, _, _, _, _, rfl, H7⟩
            case measure => rw [HTL7.out, HTL.out, List.length_map, List.length_map]; exact HLT.out
    · have hk16 : k = 16 := by omega
      subst hk16
      have hql : q ≤ 1000000 := by have h1 := H.out.lens; have := HBG.out; rw [hq, List.append_nil, List.length_map]; omega
      have HQ := Lib.hid hq
      have HO : Hid (OwnK wr w.heap.size 9 1 (.slice A q c) (cellsS (C.map Prod.fst ++ []))) := H.out.ow
      clear hq
      go_wp2_with fail
      refine (KS.out _ _ _ _ _ _ hql HO).mono ?_
      rintro e w6 ⟨rfl, ⟨l', hp, hs, ho⟩, hb6⟩
      have hF := H.out.fin
      have hlen : l'.length = q := by rw [hp.length_eq, HQ.out]
      have hwx := (H.out.wx.sorted hb6 H.out.lt).perm hF.2
      have hgr : GrP (WxB g M) w w6 := ⟨hb6.os.trans H.out.gr.os, hb6.tape.trans H.out.gr.tape, hb6.output.trans H.out.gr.output, Nat.le_trans H.out.gr.size hb6.size, fun i hi hn => (hb6.block i hi).trans (H.out.gr.block i hi hn)⟩
      have hpp : l'.Perm ((D.filter (dueB now)).map Prod.fst) := by rw [List.append_nil] at hp; exact hp.trans (hF.1.map _)
      have HF1 := Lib.hid (And.intro hpp (And.intro hs (And.intro hwx hgr)))
      have HF2 := Lib.hid ho
      have HF3 := Lib.hid hlen
      clear hp hs ho hb6 hF hlen hwx hgr hpp H HQ HO
      go_wp2_with fail
      go_ret
      refine ⟨⟨l', A, c, by rw [HF3.out]; rfl, by rw [HF3.out]; exact HF2.out, HF1.out.1, HF1.out.2.1⟩, HF1.out.2.2.1, HF1.out.2.2.2⟩
set_option maxHeartbeats 1600000 in
set_option maxRecDepth 100000 in
theorem dueT_nil (t : Int) (w : World) : Calls Try.prog 17 #[.pointer none, .int .i64 t] w fun e w' => e = .returned (.slice none 0 0) ∧ Below w.heap.size w w' := by
  have KF : Hid (∀ w, Calls Try.prog 21 #[.pointer none] w fun e w' => e = .returned (.slice none 0 0) ∧ w' = w) := fun w => allT_nil w
  have KS : Hid (∀ (w : World), Calls Try.prog 22 #[.slice none 0 0] w fun e w' => e = .returned (.tuple #[]) ∧ Below w.heap.size w w') := fun w => (sortS_any w w.heap.size 0 0 none [] (by omega) (Lib.hid (OwnK.nil _ _ _ _))).mono fun e w' h => ⟨h.1, h.2.2⟩
  go_enter Try.func17, Try.ntmps17
  go_wp2_with fail
  refine (KF.out _).mono ?_
  rintro e w' ⟨rfl, hw'⟩
  rw [hw']
  clear hw' w' KF
  go_wp2_with fail
  refine wp_loop_rounds 1 ?_
  rw [rounds_succ]
  go_wp2_with fail
  refine (KS.out _).mono ?_
  rintro e w2 ⟨rfl, hb2⟩
  have HB2 := Lib.hid hb2
  clear hb2
  go_wp2_with fail
  go_ret
  exact ⟨rfl, HB2.out⟩
end Go.Proofs.Ytbegbecmnhldkaa
