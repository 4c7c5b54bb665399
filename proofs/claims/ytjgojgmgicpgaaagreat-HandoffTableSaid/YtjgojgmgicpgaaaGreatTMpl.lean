/- Maps that are keyed by strings, as lists of their entries: making, look-up with 'ok', a store at a new key, delete, len, and ranging over one; nil maps too. No condition; it serves any seat. -/
import Derived.Test.YtjgojgmgicpgaaaGreatTOmp
import Derived.Maps.RangeWalk
namespace Go.Proofs.YtjgojgmgicpgaaaGreat
open Go.RowKit
open Go.ChangeMaps (setBlock)
set_option linter.unusedSimpArgs false
set_option linter.unusedVariables false

/-- Entries: names and what stands there. -/
abbrev Ents := List (ByteArray × Value)
def kvE (e : MapEntry) : Value × Value := (e.key, e.val)
def kvP (p : ByteArray × Value) : Value × Value := (.string p.1, p.2)
/-- What stands at a name. -/
def getL (L : Ents) (s : ByteArray) : Option Value := (L.find? fun p => decide (p.1 = s)).map (·.2)
/-- Without a name. -/
def delL (L : Ents) (s : ByteArray) : Ents := L.filter fun p => decide (p.1 ≠ s)
/-- Block b is a map with these entries. -/
def MapL (w : World) (b : Nat) (L : Ents) : Prop := ∃ es clock, w.heap[b]? = some (.map es clock) ∧ MapKept.Stamped es clock ∧ es.toList.map kvE = L.map kvP
/-- A map, nil or not. -/
def MapV (w : World) (m : Value) (L : Ents) : Prop := (m = .map none ∧ L = []) ∨ ∃ b, m = .map (some b) ∧ MapL w b L
/-- The block of a map. -/
def mapBlock : Value → Option Nat
  | .map b => b
  | _ => none

theorem strK_of : ∀ {es : List MapEntry} {L : Ents}, es.map kvE = L.map kvP → StrK es := by
  intro es L h e he
  have : kvE e ∈ L.map kvP := by rw [← h]; exact List.mem_map.2 ⟨e, he, rfl⟩
  obtain ⟨p, _, hp⟩ := List.mem_map.1 this
  exact ⟨p.1, (congrArg Prod.fst hp).symm⟩
theorem hit_get (s : ByteArray) : ∀ (es : List MapEntry) (L : Ents) (i : Nat), es.map kvE = L.map kvP → (hitS s es i).map (·.2) = getL L s
  | [], [], _, _ => rfl
  | [], _ :: _, _, h => by cases h
  | _ :: _, [], _, h => by cases h
  | e :: es, p :: L, i, h => by
    rw [List.map_cons, List.map_cons] at h
    injection h with h1 h2
    have hk : e.key = .string p.1 := congrArg Prod.fst h1
    have hv : e.val = p.2 := congrArg Prod.snd h1
    rw [hitS_cons]
    unfold getL
    rw [List.find?_cons]
    by_cases hs : p.1 = s
    · rw [if_pos (keyB_iff.2 (by rw [hk, hs])), decide_eq_true hs]
      simp [hv]
    · rw [if_neg (fun hh => hs (by rw [keyB_iff, hk] at hh; injection hh)), decide_eq_false hs]
      exact hit_get s es L (i + 1) h2
theorem getL_none {L : Ents} {s : ByteArray} : getL L s = none ↔ ∀ p ∈ L, p.1 ≠ s := by
  unfold getL
  rw [Option.map_eq_none_iff, List.find?_eq_none]
  simp
theorem getL_some {L : Ents} (hn : (L.map Prod.fst).Nodup) {p : ByteArray × Value} (hp : p ∈ L) : getL L p.1 = some p.2 := by
  cases h : L.find? (fun q => decide (q.1 = p.1)) with
  | none =>
    rw [List.find?_eq_none] at h
    exact absurd (decide_eq_true rfl) (h p hp)
  | some q =>
    have h1 : q.1 = p.1 := by simpa using List.find?_some h
    have h2 : q ∈ L := List.mem_of_find?_eq_some h
    have : q = p := by
      obtain ⟨i, hi, e1⟩ := List.getElem_of_mem hp
      obtain ⟨j, hj, e2⟩ := List.getElem_of_mem h2
      have : i = j := (List.getElem_inj (h₀ := by simpa using hi) (h₁ := by simpa using hj) hn).1 (by simp [e1, e2, h1])
      subst this
      rw [← e1, ← e2]
    unfold getL
    rw [h, this]; rfl
theorem eraseIdx_del : ∀ (L : Ents) (j : Nat) (s : ByteArray), (L.map Prod.fst).Nodup → (L[j]?).map Prod.fst = some s → L.eraseIdx j = delL L s
  | [], j, s, _, h => by simp at h
  | p :: L, 0, s, hn, h => by
    simp at h
    subst h
    rw [List.map_cons, List.nodup_cons] at hn
    unfold delL
    rw [List.filter_cons, if_neg (by simp), List.eraseIdx_cons_zero, List.filter_eq_self.2]
    intro q hq
    rw [decide_eq_true_eq]
    exact fun e => hn.1 (List.mem_map.2 ⟨q, hq, e⟩)
  | p :: L, j + 1, s, hn, h => by
    rw [List.map_cons, List.nodup_cons] at hn
    rw [List.getElem?_cons_succ] at h
    have hne : p.1 ≠ s := fun e => hn.1 (by
      cases hq : L[j]? with
      | none => rw [hq] at h; cases h
      | some q =>
        rw [hq] at h
        simp at h
        exact List.mem_map.2 ⟨q, List.mem_of_getElem? hq, by rw [h, e]⟩)
    unfold delL
    rw [List.filter_cons, if_pos (decide_eq_true hne), List.eraseIdx_cons_succ, eraseIdx_del L j s hn.2 h]
    rfl
theorem delL_none {L : Ents} {s : ByteArray} (h : ∀ p ∈ L, p.1 ≠ s) : delL L s = L := List.filter_eq_self.2 fun p hp => decide_eq_true (h p hp)

section
variable {P : Program} {w w' : World} {b : Nat} {m : Value} {L : Ents} {row : Option Nat}
theorem MapL.lt (h : MapL w b L) : b < w.heap.size := by
  obtain ⟨es, clock, hb, _⟩ := h
  exact (Array.getElem?_eq_some_iff.1 hb).1
theorem MapL.here (h : MapL w b L) : ∃ es clock, w.heap[b]? = some (.map es clock) := by obtain ⟨es, clock, hb, _⟩ := h; exact ⟨es, clock, hb⟩
theorem MapL.same (h : MapL w b L) (hb : w'.heap[b]? = w.heap[b]?) : MapL w' b L := by
  obtain ⟨es, clock, h0, h1, h2⟩ := h
  exact ⟨es, clock, hb.trans h0, h1, h2⟩
theorem MapL.nodup (h : MapL w b L) : (L.map Prod.fst).Nodup := by
  obtain ⟨es, clock, hb, h1, h2⟩ := h
  have h3 : (es.toList.map (·.key)).Nodup := h1.2.2
  have h4 : es.toList.map (·.key) = (L.map Prod.fst).map Value.string := by
    have := congrArg (List.map Prod.fst) h2
    rw [List.map_map, List.map_map] at this
    rw [List.map_map]
    exact this
  rw [h4, List.Nodup, List.pairwise_map] at h3
  exact h3.imp fun h e => h (by rw [e])
theorem MapL.made (w : World) : MapL (w.alloc (.map #[] 0)) w.heap.size [] := ⟨#[], 0, (MapKept.heap_alloc w _).1, MapKept.stamped_empty 0, rfl⟩
theorem MapL.find (h : MapL w b L) {k : TypeId} (hk : P.underlying k = some .string) (s : ByteArray) : ∃ es clock, w.heap[b]? = some (.map es clock) ∧ MapKept.Stamped es clock ∧ es.toList.map kvE = L.map kvP ∧ (Instr.findKey k (.string s) es.toList).run P w = .ok (hitS s es.toList 0) w ∧ (hitS s es.toList 0).map (·.2) = getL L s := by
  obtain ⟨es, clock, hb, h1, h2⟩ := h
  exact ⟨es, clock, hb, h1, h2, run_findKey hk w s es.toList (strK_of h2), hit_get s es.toList L 0 h2⟩
theorem MapL.store (h : MapL w b L) {t k e : TypeId} (ht : P.underlying t = some (.map k e)) (hk : P.underlying k = some .string) (s : ByteArray) (v : Value) (hs : getL L s = none) : ∃ w', (Instr.mapUpdate t (.map (some b)) (.string s) v).run P w = .ok () w' ∧ MapL w' b (L ++ [(s, v)]) ∧ w.grownBy w' (some b) ∧ w'.heap.size = w.heap.size := by
  obtain ⟨es, clock, hb, h1, h2, h3, h4⟩ := h.find hk s
  have hh : hitS s es.toList 0 = none := by rw [hs] at h4; simpa using h4
  refine ⟨setBlock w b (.map (es.push ⟨.string s, v, clock⟩) (clock + 1)), ?_, ⟨es.push ⟨.string s, v, clock⟩, clock + 1, ChangeMaps.heap_setBlock_same hb _, MapKept.stamped_push h1 (hitS_none hh), ?_⟩, ⟨rfl, rfl, rfl, by simp [setBlock], fun i _ hi => ChangeMaps.heap_setBlock_other hb _ (fun e => hi (by rw [e]))⟩, by simp [setBlock]⟩
  · simp [Instr.mapUpdate, run_underlying ht, MapKept.run_getObj_map hb, run_checkKey hk, h3, hh, MapKept.run_setObj_map _ hb, Result.andThen, setBlock]
  · rw [Array.toList_push, List.map_append, List.map_append, h2]; rfl
theorem MapV.look (h : MapV w m L) {t k e : TypeId} {z : Value} (ht : P.underlying t = some (.map k e)) (hk : P.underlying k = some .string) (hz : (zeroValue e).run P w = .ok z w) (s : ByteArray) :
    (Instr.lookup t m (.string s) true).run P w = .ok (.tuple #[(getL L s).getD z, .bool (getL L s).isSome]) w := by
  rcases h with ⟨rfl, rfl⟩ | ⟨b, rfl, h⟩
  · simp [Instr.lookup, run_underlying ht, run_checkKey hk, run_findKey hk w s [] (by intro e he; cases he), hitS, hz, Result.andThen, getL]
  · obtain ⟨es, clock, hb, h1, h2, h3, h4⟩ := h.find hk s
    rw [← h4]
    cases hh : hitS s es.toList 0 with
    | none => simp [Instr.lookup, run_underlying ht, MapKept.run_getObj_map hb, run_checkKey hk, h3, hh, hz, Result.andThen]
    | some x => simp [Instr.lookup, run_underlying ht, MapKept.run_getObj_map hb, run_checkKey hk, h3, hh, Result.andThen]
theorem MapV.len (h : MapV w m L) {t k e : TypeId} (ht : P.underlying t = some (.map k e)) (ty : TypeId) : (Builtin.len_ #[t] ty #[m]).run P w = .ok (.int .i64 L.length) w := by
  rcases h with ⟨rfl, rfl⟩ | ⟨b, rfl, es, clock, hb, h1, h2⟩
  · simp [Builtin.len_, run_underlying ht, goInt, Result.andThen]
  · have hl : es.size = L.length := by
      have := congrArg List.length h2
      simpa using this
    simp [Builtin.len_, run_underlying ht, MapKept.run_getObj_map hb, goInt, Result.andThen, hl]
theorem MapV.del (h : MapV w m L) {t k e : TypeId} (ht : P.underlying t = some (.map k e)) (hk : P.underlying k = some .string) (s : ByteArray) (ty : TypeId) :
    ∃ w', (Builtin.delete_ #[t, k] ty #[m, .string s]).run P w = .ok (.tuple #[]) w' ∧ MapV w' m (delL L s) ∧ w.grownBy w' (mapBlock m) ∧ w'.heap.size = w.heap.size := by
  rcases h with ⟨rfl, rfl⟩ | ⟨b, rfl, h⟩
  · exact ⟨w, by simp [Builtin.delete_, run_underlying ht, run_checkKey hk, Result.andThen], .inl ⟨rfl, rfl⟩, ⟨rfl, rfl, rfl, Nat.le_refl _, fun _ _ _ => rfl⟩, rfl⟩
  · have hnd := h.nodup
    obtain ⟨es, clock, hb, h1, h2, h3, h4⟩ := h.find hk s
    have hgr : ∀ o, w.grownBy (setBlock w b o) (mapBlock (.map (some b))) := fun o => ⟨rfl, rfl, rfl, by simp [setBlock], fun i _ hi => ChangeMaps.heap_setBlock_other hb _ (fun e => hi (by rw [e]; rfl))⟩
    cases hh : hitS s es.toList 0 with
    | none =>
      refine ⟨setBlock w b (.map es clock), ?_, .inr ⟨b, rfl, es, clock, ChangeMaps.heap_setBlock_same hb _, h1, ?_⟩, hgr _, by simp [setBlock]⟩
      · simp [Builtin.delete_, run_underlying ht, MapKept.run_getObj_map hb, run_checkKey hk, h3, hh, MapKept.run_setObj_map _ hb, Result.andThen, setBlock]
      · rw [h2, delL_none (getL_none.1 (by rw [← h4, hh]; rfl))]
    | some x =>
      obtain ⟨j, u⟩ := x
      obtain ⟨q, e, hj, he, hek, hev⟩ := hitS_some hh
      rw [Nat.zero_add] at hj
      subst hj
      have hjs : j < es.size := by have := (List.getElem?_eq_some_iff.1 he).1; simpa using this
      refine ⟨setBlock w b (.map (es.eraseIdxIfInBounds j) clock), ?_, .inr ⟨b, rfl, _, clock, ChangeMaps.heap_setBlock_same hb _, MapKept.stamped_erase h1 j, ?_⟩, hgr _, by simp [setBlock]⟩
      · simp [Builtin.delete_, run_underlying ht, MapKept.run_getObj_map hb, run_checkKey hk, h3, hh, MapKept.run_setObj_map _ hb, Result.andThen, setBlock]
      · have hsub : (es.eraseIdxIfInBounds j).toList = es.toList.eraseIdx j := by
          unfold Array.eraseIdxIfInBounds
          rw [dif_pos hjs]
          simp
        have hLj : (L[j]?).map Prod.fst = some s := by
          have h5 : (es.toList.map kvE)[j]? = (L.map kvP)[j]? := by rw [h2]
          rw [List.getElem?_map, List.getElem?_map, he] at h5
          cases hq : L[j]? with
          | none => rw [hq] at h5; cases h5
          | some p =>
            rw [hq] at h5
            simp only [Option.map_some, Option.some.injEq] at h5
            have h6 : e.key = .string p.1 := congrArg Prod.fst h5
            rw [hek] at h6
            injection h6 with h6
            simp [h6]
        rw [hsub, ChangeMaps.map_eraseIdx, h2, ← ChangeMaps.map_eraseIdx, eraseIdx_del L j s hnd hLj]

/-- 'for name, v := range m' under way: the map's entries L; T are still to come. -/
def Rng (w : World) (m : Value) (r : Nat) (L T : Ents) : Prop :=
  (m = .map none ∧ L = [] ∧ T = [] ∧ ∃ s a c, w.heap[r]? = some (.mapIter none s a c)) ∨
  ∃ b es clock since seen c0, m = .map (some b) ∧ w.heap[b]? = some (.map es clock) ∧ MapKept.Stamped es clock ∧ es.toList.map kvE = L.map kvP ∧ w.heap[r]? = some (.mapIter (some b) since seen c0) ∧ (∀ x ∈ es.toList, x.born < since) ∧ (leftOf es seen).toList.map kvE = T.map kvP ∧ since ≤ c0 ∧ since ≤ clock
theorem kv_back {es fs : List MapEntry} {L : Ents} (h : es.map kvE = L.map kvP) (hs : ∀ x ∈ fs, x ∈ es) : ∃ T : Ents, fs.map kvE = T.map kvP := by
  induction fs with
  | nil => exact ⟨[], rfl⟩
  | cons f fs ih =>
    obtain ⟨T, hT⟩ := ih fun x hx => hs x (by simp [hx])
    have : kvE f ∈ L.map kvP := by rw [← h]; exact List.mem_map.2 ⟨f, hs f (by simp), rfl⟩
    obtain ⟨p, _, hp⟩ := List.mem_map.1 this
    exact ⟨p :: T, by rw [List.map_cons, List.map_cons, hp, hT]⟩
def unP (p : Value × Value) : ByteArray × Value := (match p.1 with | .string s => s | _ => ByteArray.empty, p.2)
theorem unP_kv (l : Ents) : (l.map kvP).map unP = l := by
  rw [List.map_map]
  conv => rhs; rw [← List.map_id l]
  rfl
theorem kv_perm {l m : Ents} (h : (l.map kvP).Perm (m.map kvP)) : l.Perm m := by
  have := h.map unP
  rwa [unP_kv, unP_kv] at this
theorem MapV.range (h : MapV w m L) {t k e : TypeId} (ht : P.underlying t = some (.map k e)) : ∃ w', (Instr.range t m).run P w = .ok (.pointer (some ⟨w.heap.size, 0, none⟩)) w' ∧ Rng w' m w.heap.size L L ∧ Below w.heap.size w w' ∧ w'.heap.size = w.heap.size + 1 := by
  rcases h with ⟨rfl, rfl⟩ | ⟨b, rfl, h⟩
  · exact ⟨_, run_range_nilMap w t k e ht, .inl ⟨rfl, rfl, rfl, _, _, _, (MapKept.heap_alloc w _).1⟩, (Below.refl _ _).alloc (Nat.le_refl _) _, by simp⟩
  · have hlt := h.lt
    obtain ⟨es, clock, hb, h1, h2⟩ := h
    exact ⟨_, run_range_map w t k e b es clock ht hb, .inr ⟨b, es, clock, clock, #[], clock, rfl, ((MapKept.heap_alloc w _).2 b hlt).trans hb, h1, h2, (MapKept.heap_alloc w _).1, h1.1, by rw [show leftOf es #[] = es by unfold leftOf; simp]; exact h2, Nat.le_refl _, Nat.le_refl _⟩, (Below.refl _ _).alloc (Nat.le_refl _) _, by simp⟩
theorem left_perm {es : Array MapEntry} {seen : Array Nat} {e : MapEntry} (hn : (es.toList.map (·.born)).Nodup) (he : e ∈ (leftOf es seen).toList) : (leftOf es seen).toList.Perm (e :: (leftOf es (seen.push e.born)).toList) := by
  have e1 : ∀ s : Array Nat, (leftOf es s).toList = es.toList.filter fun x => !s.contains x.born := fun s => by unfold leftOf; rw [Array.toList_filter]
  have hf : (leftOf es (seen.push e.born)).toList = (leftOf es seen).toList.filter fun x => decide (x.born ≠ e.born) := by
    rw [e1, e1, List.filter_filter]
    refine List.filter_congr fun x _ => ?_
    rw [contains_push]
    cases seen.contains x.born <;> by_cases hb : x.born = e.born <;> simp [hb]
  rw [hf]
  have hnl : ((leftOf es seen).toList.map (·.born)).Nodup := by
    rw [e1]
    exact (List.filter_sublist.map _).nodup hn
  generalize (leftOf es seen).toList = l at he hnl ⊢
  clear hf e1 hn
  induction l with
  | nil => cases he
  | cons x l ih =>
    rw [List.map_cons, List.nodup_cons] at hnl
    rcases List.mem_cons.1 he with rfl | he
    · rw [List.filter_cons, if_neg (by simp), List.filter_eq_self.2]
      intro y hy
      rw [decide_eq_true_eq]
      exact fun h => hnl.1 (List.mem_map.2 ⟨y, hy, h⟩)
    · have hx : x.born ≠ e.born := fun h => hnl.1 (List.mem_map.2 ⟨e, he, h.symm⟩)
      rw [List.filter_cons, if_pos (decide_eq_true hx)]
      exact ((ih he hnl.2).cons x).trans (List.Perm.swap e x _)
theorem Rng.lt {r : Nat} {T : Ents} (h : Rng w m r L T) : r < w.heap.size := by
  rcases h with ⟨_, _, _, _, _, _, hr⟩ | ⟨_, _, _, _, _, _, _, _, _, _, hr, _⟩ <;> exact (Array.getElem?_eq_some_iff.1 hr).1
/-- The step. -/
theorem Rng.next {r : Nat} {T : Ents} (h : Rng w m r L T) (ty : TypeId) :
    (T = [] ∧ (Instr.next (.pointer (some ⟨r, 0, none⟩)) false ty).run P w = .ok (.tuple #[.bool false]) w) ∨
    ∃ p T' w', T.Perm (p :: T') ∧ (Instr.next (.pointer (some ⟨r, 0, none⟩)) false ty).run P w = .ok (.tuple #[.bool true, .string p.1, p.2]) w' ∧ Rng w' m r L T' ∧ w.grownBy w' (some r) ∧ w'.heap.size = w.heap.size ∧ (Instr.entry (.pointer (some ⟨r, 0, none⟩))).run P w' = .ok (.tuple #[.string p.1, p.2]) w' := by
  rcases h with ⟨rfl, rfl, rfl, s, a, c, hr⟩ | ⟨b, es, clock, since, seen, c0, rfl, hb, h1, h2, hr, hold, hT, hsc, hsk⟩
  · left
    refine ⟨rfl, ?_⟩
    simp only [Instr.next, getObj, Sem.run_bind, Sem.run, hr, Result.andThen]
    rfl
  · have hne : r ≠ b := fun e => by rw [e, hb] at hr; cases hr
    rcases run_next_at (P := P) w ty r b since c0 seen es clock hr hb hold hsc with ⟨h0, hrun⟩ | ⟨e, he, w1, hal, hrun⟩
    · left
      refine ⟨?_, hrun⟩
      have := congrArg List.length hT
      rw [List.length_map, List.length_map, Array.length_toList, h0] at this
      exact List.length_eq_zero_iff.1 this.symm
    · right
      have hem := (mem_left he).1
      have hp := left_perm h1.2.1 he
      have hk : kvE e ∈ L.map kvP := by rw [← h2]; exact List.mem_map.2 ⟨e, hem, rfl⟩
      obtain ⟨p, _, hpe⟩ := List.mem_map.1 hk
      have ek : e.key = .string p.1 := (congrArg Prod.fst hpe).symm
      have ev : e.val = p.2 := (congrArg Prod.snd hpe).symm
      obtain ⟨T', hT'⟩ := kv_back (fs := (leftOf es (seen.push e.born)).toList) h2 fun x hx => (mem_left hx).1
      have hr1 : w1.heap[r]? = some (.mapIter (some b) since seen c0) := by rcases hal with rfl | rfl <;> exact hr
      have hb1 : w1.heap[b]? = some (.map es clock) := by rcases hal with rfl | rfl <;> exact hb
      have hset := MapKept.heap_set (o' := .mapIter (some b) since (seen.push e.born) clock) hr1
      have hb' : (setBlock w1 r (.mapIter (some b) since (seen.push e.born) clock)).heap[b]? = some (.map es clock) := (hset.2 b (fun e1 => hne e1.symm)).trans hb1
      refine ⟨p, T', setBlock w1 r (.mapIter (some b) since (seen.push e.born) clock), ?_, by rw [hrun, ek, ev], .inr ⟨b, es, clock, since, seen.push e.born, clock, rfl, hb', h1, h2, hset.1, hold, hT', hsk, hsk⟩, ?_, ?_, ?_⟩
      · refine kv_perm ?_
        rw [← hT, List.map_cons, hpe, ← hT', ← List.map_cons]
        exact hp.map _
      · rcases hal with rfl | rfl <;> exact ⟨rfl, rfl, rfl, by simp [setBlock], fun i _ hi => hset.2 i (fun e1 => hi (by rw [e1]))⟩
      · rcases hal with rfl | rfl <;> simp [setBlock]
      · have := run_entry_at (P := P) _ r b since seen es clock e hset.1 hb' hem h1.2.1
        rw [this, ek, ev]
theorem MapL.kept (h : MapL w b L) (hg : w.grownBy w' row) (hne : some b ≠ row) : MapL w' b L := h.same (hg.block b h.lt hne)
theorem MapV.kept (h : MapV w m L) (hg : w.grownBy w' row) (hne : mapBlock m = none ∨ mapBlock m ≠ row) : MapV w' m L := by
  rcases h with h | ⟨b, rfl, h⟩
  · exact .inl h
  · exact .inr ⟨b, rfl, h.kept hg (hne.elim (fun e => by cases e) id)⟩
theorem MapV.later (h : MapV w m L) (hg : Below w.heap.size w w') : MapV w' m L := by
  rcases h with h | ⟨b, rfl, h⟩
  · exact .inl h
  · exact .inr ⟨b, rfl, h.same (hg.block b h.lt)⟩
theorem MapV.lt (h : MapV w m L) {g : Nat} (hg : mapBlock m = some g) : g < w.heap.size := by
  rcases h with ⟨rfl, _⟩ | ⟨b, rfl, h⟩
  · cases hg
  · injection hg with hg; subst hg; exact h.lt
theorem MapV.nodup (h : MapV w m L) : (L.map Prod.fst).Nodup := by
  rcases h with ⟨_, rfl⟩ | ⟨b, rfl, h⟩
  · exact List.nodup_nil
  · exact h.nodup
theorem MapV.val (h : MapV w m L) : ∃ o, m = .map o := by
  rcases h with ⟨rfl, _⟩ | ⟨b, rfl, h⟩ <;> exact ⟨_, rfl⟩
theorem Rng.kept {r : Nat} {T : Ents} (h : Rng w m r L T) (hg : w.grownBy w' row) (h1 : mapBlock m = none ∨ mapBlock m ≠ row) (h2 : some r ≠ row) : Rng w' m r L T := by
  have hlt := h.lt
  rcases h with ⟨rfl, rfl, rfl, s, a, c, hr⟩ | ⟨b, es, clock, since, seen, c0, rfl, hb, h3, h4, hr, hold, hT, hsc, hsk⟩
  · exact .inl ⟨rfl, rfl, rfl, s, a, c, (hg.block r hlt h2).trans hr⟩
  · exact .inr ⟨b, es, clock, since, seen, c0, rfl, (hg.block b (Array.getElem?_eq_some_iff.1 hb).1 (h1.elim (fun e => by cases e) id)).trans hb, h3, h4, (hg.block r hlt h2).trans hr, hold, hT, hsc, hsk⟩
theorem Rng.later {r : Nat} {T : Ents} (h : Rng w m r L T) (hg : Below w.heap.size w w') : Rng w' m r L T := h.kept (row := none) ⟨hg.os, hg.tape, hg.output, hg.size, fun i hi _ => hg.block i hi⟩ (by
  cases hm : mapBlock m with
  | none => exact .inl rfl
  | some b => exact .inr (by simp)) (by simp)
end

/-- How many entries are still to come. -/
def rngLeft (w : World) (r : Nat) : Nat :=
  match w.heap[r]? with
  | some (.mapIter (some b) _ seen _) => (match w.heap[b]? with | some (.map es _) => (leftOf es seen).size | _ => 0)
  | _ => 0
theorem Rng.left_eq {w : World} {m : Value} {r : Nat} {L T : Ents} (h : Rng w m r L T) : rngLeft w r = T.length := by
  rcases h with ⟨rfl, rfl, rfl, s, a, c, hr⟩ | ⟨b, es, clock, since, seen, c0, rfl, hb, h3, h4, hr, hold, hT, hsc, hsk⟩
  · simp [rngLeft, hr]
  · have := congrArg List.length hT
    rw [List.length_map, List.length_map, Array.length_toList] at this
    simp only [rngLeft, hr, hb]
    exact this
theorem OwnK.notIter {w : World} {b k : Nat} {e : TypeId} {v m : Value} {l : List (List Value)} {r : Nat} {L T : Ents} (h : OwnK w b e k v l) (hr : Rng w m r L T) : some r ≠ v.ownBlock := fun he => by
  rcases h.2.2 with ⟨rfl, _⟩ | ⟨g', cap, cur, rfl, _, hg, _⟩
  · cases he
  · injection he with he
    subst he
    rcases hr with ⟨_, _, _, _, _, _, hr⟩ | ⟨_, _, _, _, _, _, _, _, _, _, hr, _⟩ <;> (have := hg.symm.trans hr; injection this with this; cases this)
theorem OwnK.notMapV {w : World} {b k : Nat} {e : TypeId} {v m : Value} {l : List (List Value)} {r : Nat} {L T : Ents} (h : OwnK w b e k v l) (hr : Rng w m r L T) : mapBlock m = none ∨ mapBlock m ≠ v.ownBlock := by
  rcases hr with ⟨rfl, _⟩ | ⟨b, es, clock, _, _, _, rfl, hb, _⟩
  · exact .inl rfl
  · refine .inr fun he => ?_
    rcases h.2.2 with ⟨rfl, _⟩ | ⟨g', cap, cur, rfl, _, hg, _⟩
    · cases he
    · injection he with he
      subst he
      have := hg.symm.trans hb
      injection this with this
      cases this
section
variable {P : Program} {w : World} {ops : Array Oper} {rest : List Oper} {o : Oper} {a : Act} {Q : Exit → Act → World → Prop} {L T : Ents}
/-- 'v, ok := m[s]' at the operation. -/
theorem look_l (hw : Region.wanted o (yielded ops a.tmps) = true) (m x : Operand) (t : TypeId) (hop : o.op = Op.lookup t m x true) (k e : TypeId) (ht : P.underlying t = some (.map k e)) (hk : P.underlying k = some .string) (z : Value) (hz : (zeroValue e).run P w = .ok z w)
    (mv : Value) (hm : a.eval m = mv) (h : MapV w mv L) (s : ByteArray) (hx : a.eval x = .string s) (v : Value) (hv : (getL L s).getD z = v) (ok : Bool) (hok : (getL L s).isSome = ok)
    (hK : wpList P ops Q rest (a.put o.dst (.tuple #[v, .bool ok])) w) : wpList P ops Q (o :: rest) a w :=
  BigFrame.wpList_want hw fun K hKK => by
    have hrun := h.look ht hk hz s
    unfold Oper.wp
    simp [execOp, hop, hm, hx, hrun, Result.andThen]
    rw [hv, hok]
    exact hKK _ _ hK
/-- 'm[s] = v' at the operation, where s is new. -/
theorem store_l (hw : Region.wanted o (yielded ops a.tmps) = true) (m x v : Operand) (t : TypeId) (hop : o.op = Op.mapUpdate t m x v) (k e : TypeId) (ht : P.underlying t = some (.map k e)) (hk : P.underlying k = some .string)
    (b : Nat) (hm : a.eval m = .map (some b)) (h : MapL w b L) (s : ByteArray) (hx : a.eval x = .string s) (hs : getL L s = none) (val : Value) (hv : a.eval v = val)
    (hK : ∀ w', MapL w' b (L ++ [(s, val)]) → w.grownBy w' (some b) → w'.heap.size = w.heap.size → wpList P ops Q rest (a.put o.dst undef) w') : wpList P ops Q (o :: rest) a w :=
  BigFrame.wpList_want hw fun K hKK => by
    obtain ⟨w', hrun, r1, r2, r3⟩ := h.store ht hk s val hs
    unfold Oper.wp
    simp [execOp, hop, hm, hx, hv, hrun, Result.andThen]
    exact hKK _ _ (hK w' r1 r2 r3)
theorem store_l_op {K : Act → World → Prop} (m x v : Operand) (t : TypeId) (hop : o.op = Op.mapUpdate t m x v) (k e : TypeId) (ht : P.underlying t = some (.map k e)) (hk : P.underlying k = some .string)
    (b : Nat) (hm : a.eval m = .map (some b)) (h : MapL w b L) (s : ByteArray) (hx : a.eval x = .string s) (hs : getL L s = none) (val : Value) (hv : a.eval v = val)
    (hK : ∀ w', MapL w' b (L ++ [(s, val)]) → w.grownBy w' (some b) → w'.heap.size = w.heap.size → K (a.put o.dst undef) w') : o.wp P a w K Q := by
  obtain ⟨w', hrun, r1, r2, r3⟩ := h.store ht hk s val hs
  unfold Oper.wp
  simp [execOp, hop, hm, hx, hv, hrun, Result.andThen]
  exact hK w' r1 r2 r3
/-- 'delete(m, s)' at the operation. -/
theorem delete_l (hw : Region.wanted o (yielded ops a.tmps) = true) (m x : Operand) (t k : TypeId) (hop : o.op = Op.call { callee := Callee.builtin Builtin.delete, args := #[m, x], argTypes := #[t, k] }) (e : TypeId) (ht : P.underlying t = some (.map k e)) (hk : P.underlying k = some .string)
    (mv : Value) (hm : a.eval m = mv) (h : MapV w mv L) (s : ByteArray) (hx : a.eval x = .string s)
    (hK : ∀ w', MapV w' mv (delL L s) → w.grownBy w' (mapBlock mv) → w'.heap.size = w.heap.size → wpList P ops Q rest (a.put o.dst (.tuple #[])) w') : wpList P ops Q (o :: rest) a w :=
  BigFrame.wpList_want hw fun K hKK => by
    obtain ⟨w', hrun, r1, r2, r3⟩ := h.del ht hk s o.type
    unfold Oper.wp
    simp [execOp, hop, resolve, invoke, builtin, hm, hx, hrun, Result.andThen]
    exact hKK _ _ (hK w' r1 r2 r3)
/-- 'len(m)' at the operation. -/
theorem len_l (hw : Region.wanted o (yielded ops a.tmps) = true) (m : Operand) (t : TypeId) (hop : o.op = Op.call { callee := Callee.builtin Builtin.len, args := #[m], argTypes := #[t] }) (k e : TypeId) (ht : P.underlying t = some (.map k e))
    (mv : Value) (hm : a.eval m = mv) (h : MapV w mv L) (hK : wpList P ops Q rest (a.put o.dst (.int .i64 L.length)) w) : wpList P ops Q (o :: rest) a w :=
  BigFrame.wpList_want hw fun K hKK => by
    have hrun := h.len ht o.type
    unfold Oper.wp
    simp [execOp, hop, resolve, invoke, builtin, hm, hrun, Result.andThen]
    exact hKK _ _ hK
/-- 'range m' at the operation. -/
theorem range_l (hw : Region.wanted o (yielded ops a.tmps) = true) (m : Operand) (t : TypeId) (hop : o.op = Op.range t m) (k e : TypeId) (ht : P.underlying t = some (.map k e)) (mv : Value) (hm : a.eval m = mv) (h : MapV w mv L)
    (hK : ∀ r w', r = w.heap.size → Rng w' mv r L L → Below w.heap.size w w' → w'.heap.size = w.heap.size + 1 → wpList P ops Q rest (a.put o.dst (.pointer (some ⟨r, 0, none⟩))) w') : wpList P ops Q (o :: rest) a w :=
  BigFrame.wpList_want hw fun K hKK => by
    obtain ⟨w', hrun, r1, r2, r3⟩ := h.range ht
    unfold Oper.wp
    simp [execOp, hop, hm, hrun, Result.andThen]
    exact hKK _ _ (hK _ w' rfl r1 r2 r3)
/-- A range loop's step at the operation. -/
theorem next_l {mv : Value} (hw : Region.wanted o (yielded ops a.tmps) = true) (it : Operand) (hop : o.op = Op.next it false) (r : Nat) (hit : a.eval it = .pointer (some ⟨r, 0, none⟩)) (h : Rng w mv r L T)
    (hDone : T = [] → wpList P ops Q rest (a.put o.dst (.tuple #[.bool false])) w)
    (hMore : ∀ s v T' w', T.Perm ((s, v) :: T') → Rng w' mv r L T' → w.grownBy w' (some r) → w'.heap.size = w.heap.size → (Instr.entry (.pointer (some ⟨r, 0, none⟩))).run P w' = .ok (.tuple #[.string s, v]) w' → wpList P ops Q rest (a.put o.dst (.tuple #[.bool true, .string s, v])) w') : wpList P ops Q (o :: rest) a w :=
  BigFrame.wpList_want hw fun K hKK => by
    unfold Oper.wp
    rcases h.next (P := P) o.type with ⟨h0, hrun⟩ | ⟨p, T', w', hp, hrun, hr, hg, hs, hen⟩
    · simp [execOp, hop, hit, hrun, Result.andThen]
      exact hKK _ _ (hDone h0)
    · simp [execOp, hop, hit, hrun, Result.andThen]
      exact hKK _ _ (hMore p.1 p.2 T' w' hp hr hg hs hen)
end
end Go.Proofs.YtjgojgmgicpgaaaGreat
