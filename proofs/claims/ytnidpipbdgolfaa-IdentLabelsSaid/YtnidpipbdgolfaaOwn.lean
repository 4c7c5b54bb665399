/- Labels in memory of the call's own: what slices.Clone leaves, how such a row is sorted, and how a label is put behind it. No condition beyond those that each lemma bears. -/
import Derived.Test.YtnidpipbdgolfaaStw
import Derived.Test.YtnidpipbdgolfaaSrt
import Derived.Test.YtnidpipbdgolfaaFew
import Derived.Lib.OwnBridge
import Derived.Lib.SliceRun
import Derived.Laws.AppendOwnNone
import Derived.Laws.OwnMore
namespace Go.Proofs.Ytnidpipbdgolfaa
open Go.Shelf Go.RowKit Go.Lib Go.Sort Go.Proofs
set_option linter.unusedSimpArgs false
set_option linter.unusedVariables false

/-- The cells of labels. -/
def cellsL (l : List Lb) : List Value := l.flatMap fun x => [.string x.1, .string x.2]
theorem cellsL_nil : cellsL [] = [] := rfl
theorem cellsL_cons (x : Lb) (l : List Lb) : cellsL (x :: l) = .string x.1 :: .string x.2 :: cellsL l := rfl
theorem cellsL_append (l m : List Lb) : cellsL (l ++ m) = cellsL l ++ cellsL m := by simp [cellsL]
theorem cellsL_one' (x : Lb) : cellsL [x] = [.string x.1, .string x.2] := rfl
theorem cellsL_length : ∀ l : List Lb, (cellsL l).length = l.length * 2
  | [] => rfl
  | x :: l => by rw [cellsL_cons, List.length_cons, List.length_cons, cellsL_length l, List.length_cons]; omega
theorem cellsL_get : ∀ (l : List Lb) (i : Nat) (x : Lb), l[i]? = some x → (cellsL l)[i * 2]? = some (.string x.1) ∧ (cellsL l)[i * 2 + 1]? = some (.string x.2)
  | [], i, x, h => by simp at h
  | y :: l, 0, x, h => by
    simp at h; subst h; simp [cellsL_cons]
  | y :: l, i + 1, x, h => by
    rw [List.getElem?_cons_succ] at h
    have := cellsL_get l i x h
    rw [cellsL_cons, show (i + 1) * 2 = i * 2 + 1 + 1 by omega, show i * 2 + 1 + 1 + 1 = (i * 2 + 1) + 1 + 1 by omega]
    exact ⟨by rw [List.getElem?_cons_succ, List.getElem?_cons_succ]; exact this.1, by rw [List.getElem?_cons_succ, List.getElem?_cons_succ]; exact this.2⟩
theorem cellsL_inv {l : List Lb} {j : Nat} {u : Value} (h : (cellsL l)[j]? = some u) : ∃ i x, l[i]? = some x ∧ ((j = i * 2 ∧ u = .string x.1) ∨ (j = i * 2 + 1 ∧ u = .string x.2)) := by
  have hj : j < l.length * 2 := by rw [← cellsL_length]; exact (List.getElem?_eq_some_iff.1 h).1
  have hi : j / 2 < l.length := by omega
  obtain ⟨h1, h2⟩ := cellsL_get l (j / 2) l[j / 2] (List.getElem?_eq_getElem hi)
  refine ⟨j / 2, l[j / 2], List.getElem?_eq_getElem hi, ?_⟩
  rcases Nat.mod_two_eq_zero_or_one j with e | e
  · left; refine ⟨by omega, ?_⟩
    rw [show j / 2 * 2 = j by omega, h] at h1; injection h1
  · right; refine ⟨by omega, ?_⟩
    rw [show j / 2 * 2 + 1 = j by omega, h] at h2; injection h2
theorem cellsL_one (l : List Lb) : ∀ u ∈ cellsL l, u.oneCell' = true := by
  intro u hu
  obtain ⟨j, hj⟩ := List.getElem?_of_mem hu
  obtain ⟨i, x, _, ⟨_, rfl⟩ | ⟨_, rfl⟩⟩ := cellsL_inv hj <;> rfl

/-- A row of labels that the call owns. -/
def OwnL (w : World) (base : Nat) (v : Value) (l : List Lb) : Prop := w.ownsRow base 33 2 v l.length (cellsL l)

theorem RdL.cells {w : World} {a : Addr} {l : List Lb} (h : RdL w (some a) l) : ∀ j u, (cellsL l)[j]? = some u → w.cell? (a.add j) = some u := by
  intro j u hu
  obtain ⟨i, x, hx, hc⟩ := cellsL_inv hu
  obtain ⟨g, o, ha, h1, h2⟩ := h i x hx
  injection ha with ha; subst ha
  rw [Addr.add_lit]
  rcases hc with ⟨rfl, rfl⟩ | ⟨rfl, rfl⟩
  · exact h1
  · exact h2

/-- What a slice that the call owns reads as. -/
structure Sl (w : World) (base : Nat) (v : Value) (l : List Lb) (A : Option Addr) (c : Nat) : Prop where
  val : v = .slice A l.length c
  rd : RdL w A l
  cap : l.length ≤ c
  cap2 : c ≤ maxLen
  new : ∀ g o p, A = some ⟨g, o, p⟩ → base ≤ g ∧ g < w.heap.size
theorem OwnL.sl {w : World} {base : Nat} {v : Value} {l : List Lb} (h : OwnL w base v l) : ∃ A c, Sl w base v l A c := by
  rcases h.2 with ⟨hv, h0⟩ | ⟨g, cap, cur, hv, hb, hg, hn, hm, _, _⟩
  · rw [List.length_eq_zero_iff] at h0
    subst h0
    exact ⟨none, 0, hv, RdL.nil _ _, Nat.le_refl _, by simp [maxLen], fun g o p e => by cases e⟩
  · refine ⟨some ⟨g, 0, none⟩, cap, hv, fun i x hx => ?_, hn, hm, fun g' o p e => ?_⟩
    · obtain ⟨h1, h2⟩ := cellsL_get l i x hx
      have c1 := World.ownsRow.cells h (g := g) (by rw [hv]; rfl) _ _ h1
      have c2 := World.ownsRow.cells h (g := g) (by rw [hv]; rfl) _ _ h2
      rw [Addr.add_lit] at c1 c2
      exact ⟨g, 0, rfl, c1, c2⟩
    · injection e with e; injection e with e1 e2; subst e1
      exact World.ownsRow.lt h g (by rw [hv]; rfl)
theorem OwnL.below {w w' : World} {base : Nat} {v : Value} {l : List Lb} (h : OwnL w base v l) (hb : Below w.heap.size w w') : OwnL w' base v l :=
  World.ownsRow.kept (row := none) h ⟨hb.os, hb.tape, hb.output, hb.size, fun k hk _ => hb.block k hk⟩ (by
    rcases h.2 with ⟨hv, _⟩ | ⟨g, cap, cur, hv, _⟩ <;> rw [hv] <;> simp [Value.ownBlock])
theorem OwnL.base {w : World} {b b' : Nat} {v : Value} {l : List Lb} (h : OwnL w b v l) (hb : b' ≤ b) : OwnL w b' v l :=
  ⟨h.1, h.2.imp id fun ⟨g, cap, cur, a, hg, c⟩ => ⟨g, cap, cur, a, Nat.le_trans hb hg, c⟩⟩
theorem OwnL.nil (w : World) (base : Nat) : OwnL w base (.slice none 0 0) [] := ⟨rfl, .inl ⟨rfl, rfl⟩⟩

theorem info33 : (Try.prog.info? 33).map (fun i => (i.zero, i.size, i.bytes)) = some (some (.agg #[.string ⟨#[]⟩, .string ⟨#[]⟩]), 2, 32) := by kernel_rfl
theorem info_partsL {P : Program} {e : TypeId} {z : Value} {s b : Nat} (h : (P.info? e).map (fun i => (i.zero, i.size, i.bytes)) = some (some z, s, b)) : ∃ i, P.info? e = some i ∧ i.zero = some z ∧ i.size = s ∧ i.bytes = b := by
  cases hi : P.info? e with
  | none => rw [hi] at h; cases h
  | some i =>
    rw [hi] at h
    simp at h
    exact ⟨i, rfl, h.1, h.2.1, h.2.2⟩

set_option maxHeartbeats 2000000 in
set_option maxRecDepth 100000 in
theorem clone_any (A : Option Addr) (n c : Nat) (l : List Lb) (w : World) (hn : Hid (n = l.length)) (hr : Hid (RdL w A l)) (hbig : n ≤ 1000) :
    Calls Try.prog 24 #[.slice A n c] w fun e w' => ∃ v, e = .returned v ∧ OwnL w' w.heap.size v l ∧ Below w.heap.size w w' := by
  have q22 : ∀ (w : World) (a : Option Addr) (n c n' c' : Nat), (binOp .eql 22 (.slice a n c) (.slice none n' c')).run Try.prog w = .ok (.bool a.isNone) w := fun w a n c n' c' => Lib.run_eql_slice_nil w _ _ a n c n' c' Try.underlying22
  cases A with
  | none =>
    have hl : l = [] := by
      cases l with
      | nil => rfl
      | cons x r => obtain ⟨_, _, ha, _⟩ := hr.out 0 x rfl; cases ha
    have HL := Lib.hid hl
    clear hl
    go_enter Try.func24, Try.ntmps24
    go_wp2
    go_ret
    exact ⟨_, rfl, by rw [HL.out]; exact OwnL.nil _ _, Below.refl _ _⟩
  | some a =>
    obtain ⟨i0, hi, hz0, hz1, hz2⟩ := info_partsL info33
    have hcells := Lib.hid hr.out.cells
    go_enter Try.func24, Try.ntmps24
    go_wp2_with (at_builtin; refine wpList_append_own _ rfl _ _ 22 rfl w.heap.size 33 i0 _ 2 32 Try.underlying22 hi hz0 hz1 hz2 rfl (by decide) _ _ _ rfl (World.ownsRow_made w #[] 0 (Nat.le_refl _) (Nat.zero_le _) (by simp)) a n c (cellsL l) rfl ?qc1 ?qc2 ?qc3 ?qc4 ?qc5 ?qc6 ?_)
    case qc1 => rw [cellsL_length, hn.out]
    case qc2 =>
      intro j u hj
      exact Lib.cell?_alloc_some _ (hcells.out j u hj)
    case qc3 => exact cellsL_one l
    case qc4 => simp only [maxLen]; omega
    case qc5 => omega
    case qc6 => simp
    intro v' w1 hown hgrow hnil
    go_wp2
    go_ret
    refine ⟨v', rfl, ?_, ?_⟩
    · unfold OwnL; rw [← hn.out]; simpa using hown
    · exact ((Below.refl _ w).alloc (Nat.le_refl _) _).grown hgrow (by simp) (by intro k hk; simp [Value.ownBlock] at hk; omega)

/-- One label in a new block. -/
theorem news_at (W : World) (x : Lb) (t : TypeId) : ∀ j u, (cellsL [x])[j]? = some u → (W.alloc (.cells #[.string x.1, .string x.2] t)).cell? ((⟨W.heap.size, 0, none⟩ : Addr).add j) = some u := by
  intro j u hj
  rw [cellsL_one'] at hj
  match j, hj with
  | 0, hj => simp at hj; subst hj; simp [Addr.add]
  | 1, hj => simp at hj; subst hj; simp [Addr.add]
  | j + 2, hj => simp at hj

/-! ### Sorting a row that the call owns -/
/-- The tagged row in memory. -/
theorem holds_tagged {w : World} {base g cap : Nat} {l : List Lb} (h : OwnL w base (.slice (some ⟨g, 0, none⟩) l.length cap) l) : HoldsK encT 2 w g 0 (tagged l) := by
  intro t ht
  rw [size_flatK, tagged_size] at ht
  have hi : t / 2 < l.length := by omega
  rw [get_flatK _ _ _ _ (by rw [tagged_size]; exact ht), tagged_get hi]
  obtain ⟨h1, h2⟩ := cellsL_get l (t / 2) l[t / 2] (List.getElem?_eq_getElem hi)
  have c := World.ownsRow.cellAt h t ht
  refine ⟨?_, World.ownsRow.frozenAt h _ |> fun f => by rw [Nat.zero_add]; exact f⟩
  rw [Nat.zero_add, c]
  rcases Nat.mod_two_eq_zero_or_one t with e | e
  · rw [show t / 2 * 2 = t by omega] at h1; rw [h1, e]; rfl
  · rw [show t / 2 * 2 + 1 = t by omega] at h2; rw [h2, e]; rfl
theorem rowT {w : World} {base g cap : Nat} {l : List Lb} (h : OwnL w base (.slice (some ⟨g, 0, none⟩) l.length cap) l) : RowK encT 2 w g 0 (tagged l) :=
  ⟨encT_len, encT_one, holds_tagged h, (World.ownsRow.lt h g rfl).2⟩
/-- What a sorted row reads as. -/
theorem rd_sorted {w : World} {g : Nat} {D : Array (Lb × Nat)} (h : HoldsK encT 2 w g 0 D) : RdL w (some ⟨g, 0, none⟩) (D.toList.map (·.1)) := by
  intro i x hx
  rw [List.getElem?_map] at hx
  have hi : i < D.size := by
    rcases Nat.lt_or_ge i D.size with h | h
    · exact h
    · rw [List.getElem?_eq_none (by simpa using h)] at hx; cases hx
  have e : D[i]!.1 = x := by
    rw [List.getElem?_eq_getElem (by simpa using hi)] at hx
    simp at hx
    rw [getElem!_pos D i hi]; exact hx
  subst e
  have c0 := (h.cell (i := i) (c := 0) hi (by omega)).1
  have c1 := (h.cell (i := i) (c := 1) hi (by omega)).1
  exact ⟨g, 0, rfl, c0, c1⟩
theorem swk_below {w W : World} {g B : Nat} {D : Array (Lb × Nat)} (h : SWK encT 2 w g 0 D W) (hB : B ≤ g) (hB2 : B ≤ w.heap.size) : Below B w W := by
  obtain ⟨n, os, rfl⟩ := h
  unfold sortWorldK putRowK
  have h1 : Below B w (putRow id (Sort.ahead w n) g 0 (flatK encT 2 D)) := Lib.below_putRow (Below.refl _ _) hB
  exact ⟨h1.os, h1.tape, h1.output, by rw [size_grow]; exact Nat.le_trans h1.size (Nat.le_add_right _ _), fun k hk => by
    rw [← h1.block k hk]
    unfold grow
    simp only []
    rw [Array.getElem?_append_left (Nat.lt_of_lt_of_le hk (Nat.le_trans hB2 h1.size))]⟩

set_option maxHeartbeats 1000000 in
theorem ins_none (A : Option Addr) (c : Nat) (w : World) : Calls Try.prog 29 #[.slice A 0 c, .int .i64 0, .int .i64 0, .func (.func 26) #[] #[]] w fun e w' => e = .returned (.tuple #[]) ∧ w = w' := by
  go_enter Try.func29, Try.ntmps29
  go_wp2
  refine wp_loop_rounds 1 ?_
  rw [rounds_succ]
  go_wp2
  go_end0
  exact ⟨rfl, rfl⟩
set_option maxHeartbeats 1000000 in
theorem stable_none (A : Option Addr) (c : Nat) (w : World) : Calls Try.prog 27 #[.slice A 0 c, .int .i64 0, .func (.func 26) #[] #[]] w fun e w' => e = .returned (.tuple #[]) ∧ w = w' := by
  go_enter Try.func27, Try.ntmps27
  go_wp2
  refine wp_loop_rounds 1 ?_
  rw [rounds_succ]
  go_wp2_with (go_at_call 29; refine (ins_none _ _ _).mono ?_; rintro e w' ⟨rfl, rfl⟩)
  refine wp_loop_rounds 1 ?_
  rw [rounds_succ]
  go_wp2
  go_end0
  exact ⟨rfl, rfl⟩
set_option maxHeartbeats 1000000 in
theorem sortStable_none (A : Option Addr) (c : Nat) (w : World) : Calls Try.prog 25 #[.slice A 0 c, .func (.func 26) #[] #[]] w fun e w' => e = .returned (.tuple #[]) ∧ w = w' := by
  go_enter Try.func25, Try.ntmps25
  go_wp2_with (go_at_call 27; refine (stable_none _ _ _).mono ?_; rintro e w' ⟨rfl, rfl⟩)
  go_end0
  exact ⟨rfl, rfl⟩
end Go.Proofs.Ytnidpipbdgolfaa
