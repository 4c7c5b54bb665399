/- Layer 18: the program's index in memory, as one predicate over plain data; what keeps it and what turns it. No condition. -/
import Derived.Test.YtldijginplgikaaLmk
namespace Go.Proofs.Ytldijginplgikaa
open Go.RowKit
set_option linter.unusedSimpArgs false
set_option linter.unusedVariables false
set_option linter.unusedSectionVars false

/-- A label's set: the label and the set's block. -/
abbrev SB := Lb × Nat
def eSB (q : SB) : Lb × Value := (q.1, .map (some q.2))
def eNm (s : ByteArray) : ByteArray × Value := (s, .agg #[])
def eNH (p : NH) : ByteArray × Value := (p.1, .slice p.2.a p.2.n p.2.c)
def hd0 : Hd := ⟨none, 0, 0, []⟩
def hdB (h : Hd) : Option Nat := h.a.map (·.block)
def findN (D : List NH) (s : ByteArray) : Option Hd := (D.find? fun p => decide (p.1 = s)).map (·.2)
/-- The labels of a name; none if it isn't there. -/
def labN (D : List NH) (s : ByteArray) : Hd := (findN D s).getD hd0
def fS (S : List SB) (lb : Lb) : Option Nat := (S.find? fun q => decide (q.1 = lb)).map (·.2)
/-- The names of a label's set. -/
def nmS (S : List SB) (T : Nat → List ByteArray) (lb : Lb) : List ByteArray := match fS S lb with | none => [] | some k => T k
def InS (S : List SB) (T : Nat → List ByteArray) (lb : Lb) (s : ByteArray) : Prop := ∃ q ∈ S, q.1 = lb ∧ s ∈ T q.2
theorem getG_NH (D : List NH) (s : ByteArray) : getG (D.map eNH) s = (findN D s).map Hd.v := by
  unfold getG findN
  induction D with
  | nil => rfl
  | cons p D ih =>
    rw [List.map_cons, List.find?_cons, List.find?_cons]
    by_cases h : p.1 = s
    · rw [show decide ((eNH p).1 = s) = true from decide_eq_true h, decide_eq_true h]; rfl
    · rw [show decide ((eNH p).1 = s) = false from decide_eq_false h, decide_eq_false h]; exact ih
theorem getG_lab (D : List NH) (s : ByteArray) : (getG (D.map eNH) s).getD (.slice none 0 0) = (labN D s).v := by
  rw [getG_NH]
  unfold labN
  cases findN D s <;> rfl
theorem hasN_find (D : List NH) (s : ByteArray) : (findN D s).isSome = hasN D s := by
  unfold findN hasN
  rw [Option.isSome_map, Bool.eq_iff_iff, List.find?_isSome, List.any_eq_true]
theorem getG_has (D : List NH) (s : ByteArray) : (getG (D.map eNH) s).isSome = hasN D s := by
  rw [getG_NH, Option.isSome_map, hasN_find]
theorem findN_mem {D : List NH} {s : ByteArray} {h : Hd} (hf : findN D s = some h) : (s, h) ∈ D := by
  unfold findN at hf
  cases hq : D.find? fun p => decide (p.1 = s) with
  | none => rw [hq] at hf; cases hf
  | some q =>
    rw [hq] at hf
    injection hf with hf
    have h1 : q.1 = s := by simpa using List.find?_some hq
    have h2 := List.mem_of_find?_eq_some hq
    rw [← h1, ← hf]; exact h2
theorem findN_none {D : List NH} {s : ByteArray} : findN D s = none ↔ ∀ p ∈ D, p.1 ≠ s := by
  unfold findN
  rw [Option.map_eq_none_iff, List.find?_eq_none]
  simp
theorem delG_NH (D : List NH) (s : ByteArray) : delG (D.map eNH) s = (dropN D s).map eNH := by
  unfold delG dropN
  rw [List.filter_map]; rfl
theorem delG_Nm (T : List ByteArray) (s : ByteArray) : delG (T.map eNm) s = (T.filter fun x => decide (x ≠ s)).map eNm := by
  unfold delG
  rw [List.filter_map]; rfl
theorem delG_SB (S : List SB) (lb : Lb) : delG (S.map eSB) lb = (S.filter fun q => decide (q.1 ≠ lb)).map eSB := by
  unfold delG
  rw [List.filter_map]; rfl
theorem fst_eNH (D : List NH) : (D.map eNH).map Prod.fst = D.map Prod.fst := by rw [List.map_map]; rfl
theorem fst_eNm (T : List ByteArray) : (T.map eNm).map Prod.fst = T := by
  rw [List.map_map]
  conv => rhs; rw [← List.map_id T]
  rfl
theorem fst_eSB (S : List SB) : (S.map eSB).map Prod.fst = S.map Prod.fst := by rw [List.map_map]; rfl
theorem getG_SB (S : List SB) (lb : Lb) : (getG (S.map eSB) lb).getD (.map none) = .map (fS S lb) := by
  unfold getG fS
  induction S with
  | nil => rfl
  | cons p D ih =>
    rw [List.map_cons, List.find?_cons, List.find?_cons]
    by_cases h : p.1 = lb
    · rw [show decide ((eSB p).1 = lb) = true from decide_eq_true h, decide_eq_true h]; rfl
    · rw [show decide ((eSB p).1 = lb) = false from decide_eq_false h, decide_eq_false h]; exact ih
theorem getG_SB0 {S : List SB} {lb : Lb} (h : fS S lb = none) : getG (S.map eSB) lb = none := by
  unfold fS at h
  rw [Option.map_eq_none_iff, List.find?_eq_none] at h
  refine getG_none.2 fun p hp e => ?_
  obtain ⟨q, hq, rfl⟩ := List.mem_map.1 hp
  exact h q hq (decide_eq_true e)
theorem fS_mem {S : List SB} {lb : Lb} {k : Nat} (h : fS S lb = some k) : (lb, k) ∈ S := by
  unfold fS at h
  cases hq : S.find? fun p => decide (p.1 = lb) with
  | none => rw [hq] at h; cases h
  | some q =>
    rw [hq] at h
    injection h with h
    have h1 : q.1 = lb := by simpa using List.find?_some hq
    have h2 := List.mem_of_find?_eq_some hq
    rw [← h1, ← h]; exact h2
theorem fS_of {S : List SB} (hn : (S.map Prod.fst).Nodup) {q : SB} (hq : q ∈ S) : fS S q.1 = some q.2 := by
  cases h : fS S q.1 with
  | none =>
    unfold fS at h
    rw [Option.map_eq_none_iff, List.find?_eq_none] at h
    exact absurd (decide_eq_true rfl) (h q hq)
  | some k =>
    have h1 := fS_mem h
    obtain ⟨i, hi, e1⟩ := List.getElem_of_mem h1
    obtain ⟨j, hj, e2⟩ := List.getElem_of_mem hq
    have : i = j := (List.getElem_inj (h₀ := by simpa using hi) (h₁ := by simpa using hj) hn).1 (by simp [e1, e2])
    subst this
    rw [e1] at e2
    rw [← e2]
theorem inS_nm {S : List SB} (hn : (S.map Prod.fst).Nodup) {T : Nat → List ByteArray} {lb : Lb} {s : ByteArray} : InS S T lb s ↔ s ∈ nmS S T lb := by
  unfold nmS
  constructor
  · rintro ⟨q, hq, rfl, hs⟩
    rw [fS_of hn hq]; exact hs
  · intro h
    cases hf : fS S lb with
    | none => rw [hf] at h; cases h
    | some k => rw [hf] at h; exact ⟨_, fS_mem hf, rfl, h⟩
/-- A set with one name more. -/
def inT (T : List ByteArray) (s : ByteArray) : Bool := T.any fun x => decide (x = s)
theorem inT_iff {T : List ByteArray} {s : ByteArray} : inT T s = true ↔ s ∈ T := by simp [inT]
def addT (T : List ByteArray) (s : ByteArray) : List ByteArray := if inT T s = true then T else T ++ [s]
theorem addT_mem {T : List ByteArray} {s t : ByteArray} : t ∈ addT T s ↔ t ∈ T ∨ t = s := by
  unfold addT
  by_cases h : inT T s = true
  · rw [if_pos h]
    exact ⟨.inl, fun h2 => h2.elim id fun e => e ▸ inT_iff.1 h⟩
  · rw [if_neg h]; simp
theorem putG_Nm (T : List ByteArray) (s : ByteArray) : putG (T.map eNm) s (.agg #[]) = (addT T s).map eNm := by
  unfold addT
  by_cases h : inT T s = true
  · rw [if_pos h]
    unfold putG
    have : (getG (T.map eNm) s).isSome = true := by
      cases hg : getG (T.map eNm) s with
      | some _ => rfl
      | none => exact absurd rfl (getG_none.1 hg (eNm s) (List.mem_map.2 ⟨s, inT_iff.1 h, rfl⟩))
    rw [this, if_pos rfl, List.map_map]
    refine List.map_congr_left fun x _ => ?_
    show (if x = s then (s, .agg #[]) else eNm x) = eNm x
    by_cases e : x = s
    · rw [if_pos e, e]; rfl
    · rw [if_neg e]
  · rw [if_neg h, putG_new, List.map_append]
    · rfl
    · refine getG_none.2 fun p hp e => ?_
      obtain ⟨q, hq, rfl⟩ := List.mem_map.1 hp
      exact h (inT_iff.2 (by rw [← show q = s from e]; exact hq))

/-! ### Rows of labels beside maps -/
section
variable {w w' : World} {h : Hd} {m : Nat}
theorem Hd.Ok.grp {p : Nat → Prop} (H : h.Ok w) (hg : GrP p w w') (hn : ∀ k, hdB h = some k → ¬ p k) : h.Ok w' :=
  ⟨H.ln, fun i x hx => by
    obtain ⟨g, o, ha, h1, h2⟩ := H.rd i x hx
    have hb := World.block_lt_of_cell? w _ h1
    have hp : ¬ p g := hn g (by unfold hdB; rw [ha]; rfl)
    exact ⟨g, o, ha, (hg.cell hb hp).trans h1, (hg.cell hb hp).trans h2⟩, H.lc, H.cm⟩
theorem Hd.Ok.turn (H : h.Ok w) (hm : ∃ es c, w.heap[m]? = some (.map es c)) (hg : w.grownBy w' (some m)) : h.Ok w' :=
  ⟨H.ln, fun i x hx => by
    obtain ⟨g, o, ha, h1, h2⟩ := H.rd i x hx
    have hb := World.block_lt_of_cell? w _ h1
    have hne : g ≠ m := fun e => by
      obtain ⟨es, c, hm⟩ := hm
      subst e
      simp [World.cell?, hm] at h1
    exact ⟨g, o, ha, (World.cell?_of_block (w := w) (hg.block g hb (fun e => hne (by injection e)))).trans h1, (World.cell?_of_block (w := w) (hg.block g hb (fun e => hne (by injection e)))).trans h2⟩, H.lc, H.cm⟩
theorem hd0_ok (w : World) : hd0.Ok w := ⟨rfl, RdL.nil _ _, Nat.le_refl _, by show 0 ≤ _; omega⟩
theorem Bk.notMapH {w : World} {g : Nat} {t : TypeId} {cs : Array Value} (H : Bk w g t cs) (hm : ∃ es c, w.heap[m]? = some (.map es c)) : g ≠ m := fun e => by
  obtain ⟨es, c, hm⟩ := hm
  subst e
  have := H.symm.trans hm
  cases this
end

/-- The blocks of an index. -/
def XB (g : Nat) (o1 o2 : Option Nat) (D : List NH) (S : List SB) (k : Nat) : Prop := k = g ∨ o1 = some k ∨ o2 = some k ∨ (∃ q ∈ S, q.2 = k) ∨ ∃ p ∈ D, hdB p.2 = some k
theorem XB.sub {g : Nat} {o1 o2 : Option Nat} {D D' : List NH} {S S' : List SB} (hD : ∀ p ∈ D', p ∈ D) (hS : ∀ q ∈ S', q ∈ S) {k : Nat} (hk : XB g o1 o2 D' S' k) : XB g o1 o2 D S k := by
  rcases hk with h | h | h | ⟨q, hq, h⟩ | ⟨q, hq, h⟩
  · exact .inl h
  · exact .inr (.inl h)
  · exact .inr (.inr (.inl h))
  · exact .inr (.inr (.inr (.inl ⟨q, hS q hq, h⟩)))
  · exact .inr (.inr (.inr (.inr ⟨q, hD q hq, h⟩)))
/-- An index at g: its two maps, its names, its sets. -/
structure Xm (w : World) (b g : Nat) (o1 o2 : Option Nat) (D : List NH) (S : List SB) (T : Nat → List ByteArray) : Prop where
  bk : Bk w g 35 #[.map o1, .map o2]
  mp1 : MapH Value.string w (.map o1) (D.map eNH)
  mp2 : MapH encLb w (.map o2) (S.map eSB)
  st : ∀ q ∈ S, MapG Value.string w q.2 ((T q.2).map eNm)
  nd : (S.map Prod.snd).Nodup
  a12 : ∀ k, o1 = some k → o2 ≠ some k
  a1 : ∀ q ∈ S, o1 ≠ some q.2
  a2 : ∀ q ∈ S, o2 ≠ some q.2
  both : o1 = none ↔ o2 = none
  rows : ∀ p ∈ D, p.2.Ok w
  rg : ∀ p ∈ D, hdB p.2 ≠ some g
  low : ∀ k, XB g o1 o2 D S k → b ≤ k
  lt : ∀ k, XB g o1 o2 D S k → k < w.heap.size
section
variable {w w' : World} {b b' g : Nat} {o1 o2 : Option Nat} {D D' : List NH} {S S' : List SB} {T : Nat → List ByteArray}
theorem Xm.later (H : Xm w b g o1 o2 D S T) (hb : Below w.heap.size w w') : Xm w' b g o1 o2 D S T :=
  ⟨H.bk.later hb, H.mp1.later hb, H.mp2.later hb, fun q hq => (H.st q hq).same (hb.block _ (H.st q hq).lt), H.nd, H.a12, H.a1, H.a2, H.both, fun p hp => (H.rows p hp).later hb, H.rg, H.low, fun k hk => Nat.lt_of_lt_of_le (H.lt k hk) hb.size⟩
theorem Xm.grp {p : Nat → Prop} (H : Xm w b g o1 o2 D S T) (hg : GrP p w w') (hn : ∀ k, XB g o1 o2 D S k → ¬ p k) : Xm w' b g o1 o2 D S T :=
  ⟨H.bk.grp hg (hn g (.inl rfl)), H.mp1.grp hg fun k hk => hn k (.inr (.inl hk)), H.mp2.grp hg fun k hk => hn k (.inr (.inr (.inl hk))), fun q hq => (H.st q hq).same (hg.block _ (H.st q hq).lt (hn _ (.inr (.inr (.inr (.inl ⟨q, hq, rfl⟩)))))), H.nd, H.a12, H.a1, H.a2, H.both,
    fun q hq => (H.rows q hq).grp hg fun k hk => hn k (.inr (.inr (.inr (.inr ⟨q, hq, hk⟩)))), H.rg, H.low, fun k hk => Nat.lt_of_lt_of_le (H.lt k hk) hg.size⟩
theorem Xm.base (H : Xm w b g o1 o2 D S T) (hb : b' ≤ b) : Xm w b' g o1 o2 D S T := { H with low := fun k hk => Nat.le_trans hb (H.low k hk) }
theorem Xm.nodup (H : Xm w b g o1 o2 D S T) : (D.map Prod.fst).Nodup := by rw [← fst_eNH]; exact H.mp1.nodup (fun a b h => by injection h)
theorem Xm.keys (H : Xm w b g o1 o2 D S T) : (S.map Prod.fst).Nodup := by rw [← fst_eSB]; exact H.mp2.nodup encLb_inj
theorem Xm.lab (H : Xm w b g o1 o2 D S T) (s : ByteArray) : (labN D s).Ok w := by
  unfold labN
  cases hf : findN D s with
  | none => exact hd0_ok w
  | some h => exact H.rows _ (findN_mem hf)
/-- A label's set. -/
theorem Xm.set (H : Xm w b g o1 o2 D S T) (lb : Lb) : MapH Value.string w (.map (fS S lb)) ((nmS S T lb).map eNm) := by
  unfold nmS
  cases hf : fS S lb with
  | none => exact .inl ⟨rfl, rfl⟩
  | some k => exact .inr ⟨k, rfl, H.st _ (fS_mem hf)⟩
theorem Xm.names (H : Xm w b g o1 o2 D S T) (lb : Lb) : (nmS S T lb).Nodup := by
  have := (H.set lb).nodup (fun a b h => by injection h)
  rwa [fst_eNm] at this
theorem fS_blk {lb : Lb} {k : Nat} (h : fS S lb = some k) : XB g o1 o2 D S k := .inr (.inr (.inr (.inl ⟨_, fS_mem h, rfl⟩)))
/-- With another text of names in one block. -/
def setT (T : Nat → List ByteArray) (o : Option Nat) (N : List ByteArray) : Nat → List ByteArray := fun k => if o = some k then N else T k
theorem Xm.turnSet (H : Xm w b g o1 o2 D S T) {lb : Lb} {N : List ByteArray} (hg : w.grownBy w' (fS S lb)) (hm : MapH Value.string w' (.map (fS S lb)) (N.map eNm)) : Xm w' b g o1 o2 D S (setT T (fS S lb) N) := by
  cases hf : fS S lb with
  | none =>
    rw [hf] at hg
    have hb : Below w.heap.size w w' := ⟨hg.os, hg.tape, hg.output, hg.size, fun i hi => hg.block i hi (by simp)⟩
    have e : setT T none N = T := by funext k; unfold setT; rw [if_neg (by simp)]
    rw [e]; exact H.later hb
  | some k =>
    rw [hf] at hg hm
    have hq := fS_mem hf
    have hk := H.st _ hq
    have hmk := hm.at (g := k) rfl
    have hgp := GrP.of hg
    refine ⟨H.bk.stays hg (fun e => H.bk.notMapH hk.here (by injection e)), H.mp1.kept hg (.inr (H.a1 _ hq)), H.mp2.kept hg (.inr (H.a2 _ hq)), fun q hq2 => ?_, H.nd, H.a12, H.a1, H.a2, H.both, fun p hp => (H.rows p hp).turn hk.here hg, H.rg, H.low, fun k hk => Nat.lt_of_lt_of_le (H.lt k hk) hg.size⟩
    unfold setT
    by_cases e : k = q.2
    · rw [if_pos (by rw [e]), ← e]; exact hmk
    · rw [if_neg (by intro e2; injection e2 with e2; exact e e2)]
      exact (H.st q hq2).kept hg (fun e2 => e (by injection e2 with e2; exact e2.symm))
theorem nmS_set {lb lb' : Lb} (hn : (S.map Prod.snd).Nodup) (N : List ByteArray) : nmS S (setT T (fS S lb) N) lb' = if (fS S lb).isSome ∧ lb' = lb then N else nmS S T lb' := by
  unfold nmS setT
  cases hf' : fS S lb' with
  | none =>
    by_cases h : (fS S lb).isSome ∧ lb' = lb
    · rw [h.2] at hf'; rw [hf'] at h; cases h.1
    · rw [if_neg h]
  | some k =>
    by_cases h : (fS S lb).isSome ∧ lb' = lb
    · rw [if_pos h]
      rw [h.2] at hf'
      show (if fS S lb = some k then N else T k) = N
      rw [if_pos hf']
    · rw [if_neg h]
      show (if fS S lb = some k then N else T k) = T k
      rw [if_neg]
      intro e
      have h1 := fS_mem e
      have h2 := fS_mem hf'
      obtain ⟨i, hi, e1⟩ := List.getElem_of_mem h1
      obtain ⟨j, hj, e2⟩ := List.getElem_of_mem h2
      have : i = j := (List.getElem_inj (h₀ := by simpa using hi) (h₁ := by simpa using hj) hn).1 (by simp [e1, e2])
      subst this
      rw [e1] at e2
      injection e2 with e2 _
      exact h ⟨by rw [e]; rfl, e2.symm⟩
/-- The map of sets has lost a label. -/
theorem Xm.turn2 (H : Xm w b g o1 o2 D S T) (hg : w.grownBy w' o2) (hm : MapH encLb w' (.map o2) (S'.map eSB)) (hS : ∀ q ∈ S', q ∈ S) (hnd : (S'.map Prod.snd).Nodup) : Xm w' b g o1 o2 D S' T := by
  cases ho : o2 with
  | none =>
    subst ho
    have hb : Below w.heap.size w w' := ⟨hg.os, hg.tape, hg.output, hg.size, fun i hi => hg.block i hi (by simp)⟩
    have H2 := H.later hb
    exact ⟨H2.bk, H2.mp1, hm, fun q hq => H2.st q (hS q hq), hnd, H2.a12, fun q hq => H2.a1 q (hS q hq), fun q hq => H2.a2 q (hS q hq), H2.both, H2.rows, H2.rg, fun k hk => H2.low k (hk.sub (fun _ h => h) hS), fun k hk => H2.lt k (hk.sub (fun _ h => h) hS)⟩
  | some k2 =>
    subst ho
    have hk := (H.mp2.at (g := k2) rfl).here
    exact ⟨H.bk.stays hg (fun e => H.bk.notMapH hk (by injection e)), H.mp1.kept hg (.inr (fun e => H.a12 _ e rfl)), hm, fun q hq => (H.st q (hS q hq)).kept hg (fun e => H.a2 q (hS q hq) e.symm), hnd, H.a12, fun q hq => H.a1 q (hS q hq), fun q hq => H.a2 q (hS q hq), H.both, fun p hp => (H.rows p hp).turn hk hg, H.rg, fun k hk => H.low k (hk.sub (fun _ h => h) hS), fun k hk => Nat.lt_of_lt_of_le (H.lt k (hk.sub (fun _ h => h) hS)) hg.size⟩
/-- The map of names has lost a name. -/
theorem Xm.turn1 (H : Xm w b g o1 o2 D S T) (hg : w.grownBy w' o1) (hm : MapH Value.string w' (.map o1) (D'.map eNH)) (hD : ∀ p ∈ D', p ∈ D) : Xm w' b g o1 o2 D' S T := by
  have key : ∀ k, XB g o1 o2 D' S k → XB g o1 o2 D S k := fun k hk => hk.sub hD (fun _ h => h)
  cases ho : o1 with
  | none =>
    subst ho
    have hb : Below w.heap.size w w' := ⟨hg.os, hg.tape, hg.output, hg.size, fun i hi => hg.block i hi (by simp)⟩
    have H2 := H.later hb
    exact ⟨H2.bk, hm, H2.mp2, H2.st, H2.nd, H2.a12, H2.a1, H2.a2, H2.both, fun p hp => H2.rows p (hD p hp), fun p hp => H2.rg p (hD p hp), fun k hk => H2.low k (key k hk), fun k hk => H2.lt k (key k hk)⟩
  | some k1 =>
    subst ho
    have hk := (H.mp1.at (g := k1) rfl).here
    exact ⟨H.bk.stays hg (fun e => H.bk.notMapH hk (by injection e)), hm, H.mp2.kept hg (.inr (fun e => H.a12 k1 rfl e)), fun q hq => (H.st q hq).kept hg (fun e => H.a1 q hq e.symm), H.nd, H.a12, H.a1, H.a2, H.both, fun p hp => (H.rows p (hD p hp)).turn hk hg, fun p hp => H.rg p (hD p hp), fun k hk => H.low k (key k hk), fun k hk => Nat.lt_of_lt_of_le (H.lt k (key k hk)) hg.size⟩
/-- The map of names has one name more. -/
theorem Xm.more1 (H : Xm w b g o1 o2 D S T) {k1 : Nat} (ho : o1 = some k1) {s : ByteArray} {h : Hd} (hg : w.grownBy w' (some k1)) (hm : MapG Value.string w' k1 ((D ++ [(s, h)]).map eNH)) (hh : h.Ok w) (hhg : hdB h ≠ some g) (hlow : ∀ k, hdB h = some k → b ≤ k ∧ k < w.heap.size) : Xm w' b g o1 o2 (D ++ [(s, h)]) S T := by
  subst ho
  have hk := (H.mp1.at (g := k1) rfl).here
  have key : ∀ k, XB g (some k1) o2 (D ++ [(s, h)]) S k → XB g (some k1) o2 D S k ∨ hdB h = some k := fun k hk => by
    rcases hk with h | h | h | h | ⟨q, hq, h⟩
    · exact .inl (.inl h)
    · exact .inl (.inr (.inl h))
    · exact .inl (.inr (.inr (.inl h)))
    · exact .inl (.inr (.inr (.inr (.inl h))))
    · rcases List.mem_append.1 hq with hq | hq
      · exact .inl (.inr (.inr (.inr (.inr ⟨q, hq, h⟩))))
      · rw [List.mem_singleton.1 hq] at h; exact .inr h
  refine ⟨H.bk.stays hg (fun e => H.bk.notMapH hk (by injection e)), .inr ⟨k1, rfl, hm⟩, H.mp2.kept hg (.inr (fun e => H.a12 k1 rfl e)), fun q hq => (H.st q hq).kept hg (fun e => H.a1 q hq e.symm), H.nd, H.a12, H.a1, H.a2, H.both, fun p hp => ?_, fun p hp => ?_, fun k hk => ?_, fun k hk => ?_⟩
  · rcases List.mem_append.1 hp with hp | hp
    · exact (H.rows p hp).turn hk hg
    · rw [List.mem_singleton.1 hp]; exact hh.turn hk hg
  · rcases List.mem_append.1 hp with hp | hp
    · exact H.rg p hp
    · rw [List.mem_singleton.1 hp]; exact hhg
  · rcases key k hk with h | h
    · exact H.low k h
    · exact (hlow k h).1
  · rcases key k hk with h | h
    · exact Nat.lt_of_lt_of_le (H.lt k h) hg.size
    · exact Nat.lt_of_lt_of_le (hlow k h).2 hg.size
/-- A new set. -/
theorem Xm.more2 (H : Xm w b g o1 o2 D S T) {k2 k : Nat} (ho : o2 = some k2) {lb : Lb} {w1 : World} (hb : Below w.heap.size w w1) (hk : w.heap.size ≤ k) (hk1 : MapG Value.string w1 k []) (hbk : b ≤ k) (hg : w1.grownBy w' (some k2)) (hm : MapG encLb w' k2 ((S ++ [(lb, k)]).map eSB)) : Xm w' b g o1 o2 D (S ++ [(lb, k)]) (setT T (some k) []) := by
  subst ho
  have H1 := H.later hb
  have hkk := (H1.mp2.at (g := k2) rfl).here
  have hne : ∀ j, XB g o1 (some k2) D S j → j ≠ k := fun j hj e => by have := H.lt j hj; omega
  have hk2 : k ≠ k2 := fun e => hne k2 (.inr (.inr (.inl rfl))) e.symm
  have hsT : ∀ q ∈ S, setT T (some k) [] q.2 = T q.2 := fun q hq => by
    unfold setT
    rw [if_neg]
    intro e
    injection e with e
    exact hne q.2 (.inr (.inr (.inr (.inl ⟨q, hq, rfl⟩)))) e.symm
  have key : ∀ j, XB g o1 (some k2) D (S ++ [(lb, k)]) j → XB g o1 (some k2) D S j ∨ j = k := fun j hj => by
    rcases hj with h | h | h | ⟨q, hq, h⟩ | h
    · exact .inl (.inl h)
    · exact .inl (.inr (.inl h))
    · exact .inl (.inr (.inr (.inl h)))
    · rcases List.mem_append.1 hq with hq | hq
      · exact .inl (.inr (.inr (.inr (.inl ⟨q, hq, h⟩))))
      · rw [List.mem_singleton.1 hq] at h; exact .inr h.symm
    · exact .inl (.inr (.inr (.inr (.inr h))))
  refine ⟨H1.bk.stays hg (fun e => H1.bk.notMapH hkk (by injection e)), H1.mp1.kept hg (.inr (fun e => H1.a12 _ e rfl)), .inr ⟨k2, rfl, hm⟩, fun q hq => ?_, ?_, H1.a12, fun q hq => ?_, fun q hq => ?_, H1.both, fun p hp => (H1.rows p hp).turn hkk hg, H1.rg, fun j hj => ?_, fun j hj => ?_⟩
  · rcases List.mem_append.1 hq with hq | hq
    · rw [hsT q hq]; exact (H1.st q hq).kept hg (fun e => H1.a2 q hq e.symm)
    · rw [List.mem_singleton.1 hq]
      have : setT T (some k) [] k = [] := by unfold setT; rw [if_pos rfl]
      show MapG _ _ k ((setT T (some k) [] k).map eNm)
      rw [this]
      exact hk1.kept hg (fun e => hk2 (by injection e))
  · rw [List.map_append, List.nodup_append]
    refine ⟨H.nd, by simp, fun a ha c hc e => ?_⟩
    obtain ⟨q, hq, rfl⟩ := List.mem_map.1 ha
    simp at hc
    exact hne q.2 (.inr (.inr (.inr (.inl ⟨q, hq, rfl⟩)))) (e.trans hc)
  · rcases List.mem_append.1 hq with hq | hq
    · exact H1.a1 q hq
    · rw [List.mem_singleton.1 hq]; exact fun e => hne k (.inr (.inl e)) rfl
  · rcases List.mem_append.1 hq with hq | hq
    · exact H1.a2 q hq
    · rw [List.mem_singleton.1 hq]; exact fun e => hne k (.inr (.inr (.inl e))) rfl
  · rcases key j hj with h | rfl
    · exact H.low j h
    · exact hbk
  · rcases key j hj with h | rfl
    · exact Nat.lt_of_lt_of_le (H1.lt j h) hg.size
    · exact Nat.lt_of_lt_of_le hk1.lt hg.size
/-- Both maps have been made. -/
theorem Xm.make (H : Xm w b g none none D S T) {k1 k2 : Nat} (hgr : GrP (fun k => k = g) w w') (hbk : Bk w' g 35 #[.map (some k1), .map (some k2)]) (h1 : MapG Value.string w' k1 []) (h2 : MapG encLb w' k2 []) (hne : k1 ≠ k2) (hk1 : b ≤ k1) (hk2 : b ≤ k2) : Xm w' b g (some k1) (some k2) D S T := by
  have hD : D = [] := by
    rcases H.mp1 with ⟨_, h⟩ | ⟨_, h, _⟩
    · exact List.map_eq_nil_iff.1 h
    · cases h
  have hS : S = [] := by
    rcases H.mp2 with ⟨_, h⟩ | ⟨_, h, _⟩
    · exact List.map_eq_nil_iff.1 h
    · cases h
  subst hD hS
  have key : ∀ k, XB g (some k1) (some k2) [] [] k → k = g ∨ k = k1 ∨ k = k2 := fun k hk => by
    rcases hk with h | h | h | ⟨q, hq, _⟩ | ⟨q, hq, _⟩
    · exact .inl h
    · injection h with h; exact .inr (.inl h.symm)
    · injection h with h; exact .inr (.inr h.symm)
    · cases hq
    · cases hq
  refine ⟨hbk, .inr ⟨k1, rfl, h1⟩, .inr ⟨k2, rfl, h2⟩, (fun q hq => by cases hq), List.nodup_nil, fun k e1 e2 => ?_, (fun q hq => by cases hq), (fun q hq => by cases hq), by simp, (fun q hq => by cases hq), (fun q hq => by cases hq), fun k hk => ?_, fun k hk => ?_⟩
  · injection e1 with e1; injection e2 with e2; exact hne (e1.trans e2.symm)
  · rcases key k hk with rfl | rfl | rfl
    · exact H.low _ (.inl rfl)
    · exact hk1
    · exact hk2
  · rcases key k hk with rfl | rfl | rfl
    · exact hbk.here
    · exact h1.lt
    · exact h2.lt
end
end Go.Proofs.Ytldijginplgikaa
