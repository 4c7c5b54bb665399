/- Sets of integers: maps of int keys and empty structs, as functions: the making, the store, the look-up with whether it is there. No condition; it serves any seat. -/
import Derived.Test.YtkadcaihihgceaaOmp
import Derived.MapViews
import Derived.Maps.Own
namespace Go.Proofs.Ytkadcaihihgceaa
open Go.RowKit
set_option linter.unusedSimpArgs false
set_option linter.unusedVariables false

section
variable {P : Program}
def keyI (e : MapEntry) (s : Int) : Bool := match e.key with | .int .i64 a => decide (a = s) | _ => false
/-- The first entry at this key, with its place. -/
def hitI (s : Int) : List MapEntry → Nat → Option (Nat × Value)
  | [], _ => none
  | e :: es, i => if keyI e s then some (i, e.val) else hitI s es (i + 1)
def IntK (es : List MapEntry) : Prop := ∀ e ∈ es, ∃ s, e.key = .int .i64 s
theorem keyI_at {e : MapEntry} {a s : Int} (h : e.key = .int .i64 a) : keyI e s = decide (a = s) := by unfold keyI; rw [h]
theorem findNow_hitI (q : IntKind) (s : Int) : ∀ (es : List MapEntry) (i : Nat), IntK es → Instr.findNow (.int q) (.int .i64 s) es i = some (hitI s es i)
  | [], _, _ => rfl
  | e :: es, i, h => by
    obtain ⟨a, ha⟩ := h e (by simp)
    unfold Instr.findNow hitI
    rw [ha, keyI_at ha]
    simp only [Instr.sameNow, if_true]
    by_cases hs : s = a
    · subst hs; simp
    · rw [beq_eq_false_iff_ne.2 hs, decide_eq_false (fun e => hs e.symm)]
      exact findNow_hitI q s es (i + 1) (fun x hx => h x (by simp [hx]))
theorem run_findI {k : TypeId} {q : IntKind} (hk : P.underlying k = some (.int q)) (w : World) (s : Int) (es : List MapEntry) (h : IntK es) : (Instr.findKey k (.int .i64 s) es).run P w = .ok (hitI s es 0) w := by
  unfold Instr.findKey
  simp [run_underlying hk, findNow_hitI q s es 0 h]
theorem run_checkI {k : TypeId} {q : IntKind} (hk : P.underlying k = some (.int q)) (w : World) (em : Bool) (s : Int) : (Instr.checkKey em 10000 k (.int .i64 s)).run P w = .ok () w := by
  unfold Instr.checkKey
  simp [run_underlying hk]
theorem hitI_some {s : Int} : ∀ {es : List MapEntry} {i j : Nat} {v : Value}, IntK es → hitI s es i = some (j, v) → ∃ m e, j = i + m ∧ es[m]? = some e ∧ e.key = .int .i64 s ∧ e.val = v
  | [], _, _, _, _, h => by cases h
  | x :: es, i, j, v, hK, h => by
    obtain ⟨a, ha⟩ := hK x (by simp)
    unfold hitI at h
    rw [keyI_at ha] at h
    by_cases hx : a = s
    · rw [if_pos (by simpa using hx)] at h
      injection h with h; injection h with h1 h2
      exact ⟨0, x, by omega, rfl, by rw [ha, hx], h2⟩
    · rw [if_neg (by simpa using hx)] at h
      obtain ⟨m, e, h1, h2, h3, h4⟩ := hitI_some (fun y hy => hK y (by simp [hy])) h
      exact ⟨m + 1, e, by omega, by simpa using h2, h3, h4⟩
/-- Is there an entry at this key? -/
def inI (es : List MapEntry) (s : Int) : Bool := es.any fun e => keyI e s
theorem hitI_in (s : Int) : ∀ (es : List MapEntry) (i : Nat), (hitI s es i).isSome = inI es s
  | [], _ => rfl
  | x :: es, i => by
    unfold hitI inI
    rw [List.any_cons]
    by_cases hx : keyI x s = true
    · rw [if_pos hx, hx]; rfl
    · rw [if_neg hx, Bool.eq_false_iff.2 hx, Bool.false_or]; exact hitI_in s es (i + 1)
/-- Block b is a set of integers. -/
def SetI (w : World) (b : Nat) (f : Int → Bool) : Prop := ∃ es clock, w.heap[b]? = some (.map es clock) ∧ IntK es.toList ∧ (∀ e ∈ es.toList, e.val = .agg #[]) ∧ ∀ s, inI es.toList s = f s
section
variable {w w' : World} {b : Nat} {f : Int → Bool} {row : Option Nat}
theorem SetI.lt (h : SetI w b f) : b < w.heap.size := by
  obtain ⟨es, clock, hb, _⟩ := h
  exact (Array.getElem?_eq_some_iff.1 hb).1
theorem SetI.kept (h : SetI w b f) (hg : w.grownBy w' row) (hne : some b ≠ row) : SetI w' b f := by
  have hlt := h.lt
  obtain ⟨es, clock, hb, h1⟩ := h
  exact ⟨es, clock, (hg.block b hlt hne).trans hb, h1⟩
theorem SetI.later (h : SetI w b f) (hg : Below w.heap.size w w') : SetI w' b f := by
  have hlt := h.lt
  obtain ⟨es, clock, hb, h1⟩ := h
  exact ⟨es, clock, (hg.block b hlt).trans hb, h1⟩
theorem SetI.made (w : World) : SetI (w.alloc (.map #[] 0)) w.heap.size fun _ => false :=
  ⟨#[], 0, (MapKept.heap_alloc w _).1, by intro e he; simp at he, by intro e he; simp at he, fun s => rfl⟩
theorem SetI.look (h : SetI w b f) {t k e : TypeId} {q : IntKind} (ht : P.underlying t = some (.map k e)) (hk : P.underlying k = some (.int q)) (hz : (zeroValue e).run P w = .ok (.agg #[]) w) (s : Int) : (Instr.lookup t (.map (some b)) (.int .i64 s) true).run P w = .ok (.tuple #[.agg #[], .bool (f s)]) w := by
  obtain ⟨es, clock, hb, h1, h2, h3⟩ := h
  have h4 := h3 s
  rw [← hitI_in s es.toList 0] at h4
  cases hh : hitI s es.toList 0 with
  | none =>
    rw [hh] at h4
    simp [Instr.lookup, run_underlying ht, MapKept.run_getObj_map hb, run_checkI hk, run_findI hk w s es.toList h1, hh, hz, Result.andThen, ← h4]
  | some x =>
    rw [hh] at h4
    obtain ⟨m, en, _, he, _, hv⟩ := hitI_some h1 (show hitI s es.toList 0 = some (x.1, x.2) from hh)
    have hx : x.2 = .agg #[] := by rw [← hv]; exact h2 en (List.mem_of_getElem? he)
    simp [Instr.lookup, run_underlying ht, MapKept.run_getObj_map hb, run_checkI hk, run_findI hk w s es.toList h1, hh, Result.andThen, ← h4, hx]
theorem SetI.store (h : SetI w b f) {t k e : TypeId} {q : IntKind} (ht : P.underlying t = some (.map k e)) (hk : P.underlying k = some (.int q)) (s : Int) : ∃ w', (Instr.mapUpdate t (.map (some b)) (.int .i64 s) (.agg #[])).run P w = .ok () w' ∧ SetI w' b (fun s' => f s' || decide (s = s')) ∧ w.grownBy w' (some b) ∧ w'.heap.size = w.heap.size := by
  obtain ⟨es, clock, hb, h1, h2, h3⟩ := h
  have hgr : ∀ o, w.grownBy (ChangeMaps.setBlock w b o) (some b) := fun o => ⟨rfl, rfl, rfl, by simp [ChangeMaps.setBlock], fun i _ hi => ChangeMaps.heap_setBlock_other hb _ (fun e => hi (by rw [e]))⟩
  cases hh : hitI s es.toList 0 with
  | none =>
    refine ⟨ChangeMaps.setBlock w b (.map (es.push ⟨.int .i64 s, .agg #[], clock⟩) (clock + 1)), ?_, ⟨es.push ⟨.int .i64 s, .agg #[], clock⟩, clock + 1, ChangeMaps.heap_setBlock_same hb _, ?_, ?_, fun s' => ?_⟩, hgr _, by simp [ChangeMaps.setBlock]⟩
    · simp [Instr.mapUpdate, run_underlying ht, MapKept.run_getObj_map hb, run_checkI hk, run_findI hk w s es.toList h1, hh, MapKept.run_setObj_map _ hb, Result.andThen, ChangeMaps.setBlock]
    · intro e he
      rw [Array.toList_push, List.mem_append] at he
      rcases he with he | he
      · exact h1 e he
      · simp at he; subst he; exact ⟨s, rfl⟩
    · intro e he
      rw [Array.toList_push, List.mem_append] at he
      rcases he with he | he
      · exact h2 e he
      · simp at he; subst he; rfl
    · rw [Array.toList_push]
      have h3' := h3 s'
      unfold inI at h3' ⊢
      rw [List.any_append, h3']
      simp [keyI]
  | some x =>
    obtain ⟨j, u⟩ := x
    obtain ⟨m, e, hj, he, hek, hev⟩ := hitI_some h1 hh
    rw [Nat.zero_add] at hj
    subst hj
    have hkeep : (Instr.keyThatStays (((es[j]?).map (·.key)).getD (.int .i64 s)) (.int .i64 s)).run P w = .ok (.int .i64 s) w := by
      rw [show es[j]? = some e by rw [← Array.getElem?_toList]; exact he]
      simp only [Option.map_some, Option.getD_some, hek]
      unfold Instr.keyThatStays
      rw [if_pos (by unfold Instr.sameBits; simp)]
      rfl
    have hmod : ∀ y ∈ (es.modify j fun e => { e with key := .int .i64 s, val := .agg #[] }).toList, ∃ s, y.key = .int .i64 s := by
      intro y hy
      rw [Array.toList_modify] at hy
      obtain ⟨i, hi, rfl⟩ := List.getElem_of_mem hy
      rw [List.getElem_modify]
      split
      · exact ⟨s, rfl⟩
      · exact h1 _ (List.getElem_mem _)
    refine ⟨ChangeMaps.setBlock w b (.map (es.modify j fun e => { e with key := .int .i64 s, val := .agg #[] }) clock), ?_, ⟨_, clock, ChangeMaps.heap_setBlock_same hb _, hmod, ?_, fun s' => ?_⟩, hgr _, by simp [ChangeMaps.setBlock]⟩
    · simp [Instr.mapUpdate, run_underlying ht, MapKept.run_getObj_map hb, run_checkI hk, run_findI hk w s es.toList h1, hh, hkeep, MapKept.run_setObj_map _ hb, Result.andThen, ChangeMaps.setBlock]
    · intro y hy
      rw [Array.toList_modify] at hy
      obtain ⟨i, hi, rfl⟩ := List.getElem_of_mem hy
      rw [List.getElem_modify]
      split
      · rfl
      · exact h2 _ (List.getElem_mem _)
    · rw [Array.toList_modify]
      have h3' := h3 s'
      have hin : inI es.toList s = true := by rw [← hitI_in s es.toList 0, hh]; rfl
      have hm : (es.toList.modify j fun e => { e with key := .int .i64 s, val := .agg #[] }).map (·.key) = es.toList.map (·.key) := by
        apply List.ext_getElem?
        intro i
        rw [List.getElem?_map, List.getElem?_map, List.getElem?_modify]
        by_cases e1 : j = i
        · subst e1
          rw [he]; simp [hek]
        · simp [e1]
      have hany : ∀ l l' : List MapEntry, l.map (·.key) = l'.map (·.key) → inI l s' = inI l' s' := by
        intro l
        induction l with
        | nil => intro l' h; cases l' with | nil => rfl | cons _ _ => simp at h
        | cons a l ih =>
          intro l' h
          cases l' with
          | nil => simp at h
          | cons c l' =>
            simp only [List.map_cons, List.cons.injEq] at h
            unfold inI
            rw [List.any_cons, List.any_cons]
            have e2 : keyI a s' = keyI c s' := by unfold keyI; rw [h.1]
            rw [e2]
            have := ih l' h.2
            unfold inI at this
            rw [this]
      rw [hany _ _ hm, h3']
      by_cases e1 : s = s'
      · subst e1; rw [← h3 s, hin]; simp
      · simp [e1]
end
end
/-- 'm[s] = struct{}{}' at the operation. -/
theorem store_seti {P : Program} {ops : Array Oper} {rest : List Oper} (w : World) {o : Oper} {a : Act} {Q : Exit → Act → World → Prop} (hw : Region.wanted o (yielded ops a.tmps) = true)
    (m x v : Operand) (t : TypeId) (hop : o.op = Op.mapUpdate t m x v) (k e : TypeId) (q : IntKind) (ht : P.underlying t = some (.map k e)) (hk : P.underlying k = some (.int q))
    (b : Nat) (f : Int → Bool) (hm : a.eval m = .map (some b)) (h : SetI w b f) (s : Int) (hx : a.eval x = .int .i64 s) (hv : a.eval v = .agg #[])
    (hK : ∀ w', SetI w' b (fun s' => f s' || decide (s = s')) → w.grownBy w' (some b) → w'.heap.size = w.heap.size → wpList P ops Q rest (a.put o.dst undef) w') : wpList P ops Q (o :: rest) a w :=
  BigFrame.wpList_want hw fun K hKK => by
    obtain ⟨w', hrun, r1, r2, r3⟩ := h.store ht hk s
    unfold Oper.wp
    simp [execOp, hop, hm, hx, hv, hrun, Result.andThen]
    exact hKK _ _ (hK w' r1 r2 r3)
theorem look_seti {P : Program} {ops : Array Oper} {rest : List Oper} (w : World) {o : Oper} {a : Act} {Q : Exit → Act → World → Prop} (hw : Region.wanted o (yielded ops a.tmps) = true)
    (m x : Operand) (t : TypeId) (hop : o.op = Op.lookup t m x true) (k e : TypeId) (q : IntKind) (ht : P.underlying t = some (.map k e)) (hk : P.underlying k = some (.int q)) (hz : (zeroValue e).run P w = .ok (.agg #[]) w)
    (b : Nat) (f : Int → Bool) (hm : a.eval m = .map (some b)) (h : SetI w b f) (s : Int) (hx : a.eval x = .int .i64 s)
    (hK : wpList P ops Q rest (a.put o.dst (.tuple #[.agg #[], .bool (f s)])) w) : wpList P ops Q (o :: rest) a w :=
  BigFrame.wpList_want hw fun K hKK => by
    have hrun := h.look ht hk hz s
    unfold Oper.wp
    simp [execOp, hop, hm, hx, hrun, Result.andThen]
    exact hKK _ _ hK
/-- A set lies in no block of cells. -/
theorem SetI.notBk {w : World} {b g : Nat} {t : TypeId} {cs : Array Value} {f : Int → Bool} (h : SetI w b f) (hB : Bk w g t cs) : b ≠ g := fun e => by
  subst e
  obtain ⟨es, clock, hb, _⟩ := h
  have := hB.symm.trans hb
  injection this with this
  cases this
theorem OwnK.notSet {w : World} {b k g : Nat} {e : TypeId} {v : Value} {l : List (List Value)} {f : Int → Bool} (h : OwnK w b e k v l) (hB : SetI w g f) : v.ownBlock ≠ some g := fun he => by
  rcases h.2.2 with ⟨rfl, _⟩ | ⟨g', cap, cur, rfl, _, hg, _⟩
  · cases he
  · injection he with he
    subst he
    obtain ⟨es, clock, hb, _⟩ := hB
    have := hg.symm.trans hb
    injection this with this
    cases this
end Go.Proofs.Ytkadcaihihgceaa
