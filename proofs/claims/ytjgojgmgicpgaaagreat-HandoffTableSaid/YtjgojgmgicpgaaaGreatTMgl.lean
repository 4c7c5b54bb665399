/- Maps as lists of their entries, over keys of any kind (a text, a struct of two texts): making, look-up, a store at any key, delete, len, and ranging over one; nil maps too. No condition; it serves any seat. -/
import Derived.Test.YtjgojgmgicpgaaaGreatTMpl
import Derived.Test.YtjgojgmgicpgaaaGreatTGs0
import Derived.Maps.RangeWalk
import Derived.WideKeyRuns
import Derived.RangeFuncSeq
namespace Go.Proofs.YtjgojgmgicpgaaaGreat
open Go.RowKit
open Go.ChangeMaps (setBlock)
set_option linter.unusedSimpArgs false
set_option linter.unusedVariables false
set_option linter.unusedSectionVars false

/-- What a kind of keys bears in a program. -/
structure KeyK (P : Program) (k : TypeId) {κ : Type} (enc : κ → Value) : Prop where
  inj : ∀ a b, enc a = enc b → a = b
  chk : ∀ (w : World) (em : Bool) s, (Instr.checkKey em 10000 k (enc s)).run P w = .ok () w
  stays : ∀ (w : World) s, (Instr.keyThatStays (enc s) (enc s)).run P w = .ok (enc s) w
  find : ∀ (w : World) s (es : List MapEntry), (∀ e ∈ es, ∃ t, e.key = enc t) → ((Instr.findKey k (enc s) es).run P w = .ok none w ∧ ∀ e ∈ es, e.key ≠ enc s) ∨ ∃ j e0, (Instr.findKey k (enc s) es).run P w = .ok (some (j, e0.val)) w ∧ es[j]? = some e0 ∧ e0.key = enc s
theorem keyStr {P : Program} {k : TypeId} (hk : P.underlying k = some .string) : KeyK P k Value.string where
  inj := fun a b h => by injection h
  chk := fun w em s => run_checkKey hk w em s
  stays := fun w s => by
    have : Instr.sameBits 10000 (.string s) (.string s) = true := by show Instr.sameBits (9999 + 1) _ _ = true; simp [Instr.sameBits, ba_eq]
    simp [Instr.keyThatStays, this]
  find := fun w s es h => by
    have hr := run_findKey hk w s es h
    cases hh : hitS s es 0 with
    | none => exact .inl ⟨by rw [hr, hh], hitS_none hh⟩
    | some x =>
      obtain ⟨j, v⟩ := x
      obtain ⟨m, e, h1, h2, h3, h4⟩ := hitS_some hh
      rw [Nat.zero_add] at h1
      subst h1
      exact .inr ⟨j, e, by rw [hr, hh, h4], h2, h3⟩

section
variable {κ : Type} [DecidableEq κ] {enc : κ → Value}
abbrev EntG (κ : Type) := List (κ × Value)
def kvG (enc : κ → Value) (p : κ × Value) : Value × Value := (enc p.1, p.2)
def getG (L : EntG κ) (s : κ) : Option Value := (L.find? fun p => decide (p.1 = s)).map (·.2)
def delG (L : EntG κ) (s : κ) : EntG κ := L.filter fun p => decide (p.1 ≠ s)
/-- With this value at this key. -/
def putG (L : EntG κ) (s : κ) (v : Value) : EntG κ := if (getG L s).isSome then L.map fun p => if p.1 = s then (s, v) else p else L ++ [(s, v)]
def MapG (enc : κ → Value) (w : World) (b : Nat) (L : EntG κ) : Prop := ∃ es clock, w.heap[b]? = some (.map es clock) ∧ MapKept.Stamped es clock ∧ es.toList.map kvE = L.map (kvG enc)
def MapH (enc : κ → Value) (w : World) (m : Value) (L : EntG κ) : Prop := (m = .map none ∧ L = []) ∨ ∃ b, m = .map (some b) ∧ MapG enc w b L
theorem keyG_of {es : List MapEntry} {L : EntG κ} (h : es.map kvE = L.map (kvG enc)) : ∀ e ∈ es, ∃ t, e.key = enc t := by
  intro e he
  have : kvE e ∈ L.map (kvG enc) := by rw [← h]; exact List.mem_map.2 ⟨e, he, rfl⟩
  obtain ⟨p, _, hp⟩ := List.mem_map.1 this
  exact ⟨p.1, (congrArg Prod.fst hp).symm⟩
theorem getG_none {L : EntG κ} {s : κ} : getG L s = none ↔ ∀ p ∈ L, p.1 ≠ s := by
  unfold getG
  rw [Option.map_eq_none_iff, List.find?_eq_none]
  simp
theorem getG_mem {L : EntG κ} {s : κ} {v : Value} (h : getG L s = some v) : (s, v) ∈ L := by
  unfold getG at h
  cases hf : L.find? fun p => decide (p.1 = s) with
  | none => rw [hf] at h; cases h
  | some q =>
    rw [hf] at h
    injection h with h
    have h1 : q.1 = s := by simpa using List.find?_some hf
    have h2 := List.mem_of_find?_eq_some hf
    rw [← h1, ← h]; exact h2
theorem entG_one {L : EntG κ} (hn : (L.map Prod.fst).Nodup) {p q : κ × Value} (hp : p ∈ L) (hq : q ∈ L) (h : p.1 = q.1) : p = q := by
  obtain ⟨i, hi, e1⟩ := List.getElem_of_mem hp
  obtain ⟨j, hj, e2⟩ := List.getElem_of_mem hq
  have : i = j := (List.getElem_inj (h₀ := by simpa using hi) (h₁ := by simpa using hj) hn).1 (by simp [e1, e2, h])
  subst this
  rw [← e1, ← e2]
theorem getG_some {L : EntG κ} (hn : (L.map Prod.fst).Nodup) {p : κ × Value} (hp : p ∈ L) : getG L p.1 = some p.2 := by
  cases h : getG L p.1 with
  | none => exact absurd rfl (getG_none.1 h p hp)
  | some t =>
    have h1 := getG_mem h
    have h2 := entG_one hn h1 hp rfl
    rw [← h2]
theorem eraseIdx_delG : ∀ (L : EntG κ) (j : Nat) (s : κ), (L.map Prod.fst).Nodup → (L[j]?).map Prod.fst = some s → L.eraseIdx j = delG L s
  | [], j, s, _, h => by simp at h
  | p :: L, 0, s, hn, h => by
    simp at h
    subst h
    rw [List.map_cons, List.nodup_cons] at hn
    unfold delG
    rw [List.filter_cons, if_neg (by simp), List.eraseIdx_cons_zero, List.filter_eq_self.2]
    intro q hq
    rw [decide_eq_true_eq]
    exact fun e => hn.1 (List.mem_map.2 ⟨q, hq, e⟩)
  | p :: L, j + 1, s, hn, h => by
    rw [List.map_cons, List.nodup_cons] at hn
    rw [List.getElem?_cons_succ] at h
    have hne : p.1 ≠ s := fun e => hn.1 (by
      cases hq : L[j]? with
      | none => rw [hq] at h; cases h
      | some q =>
        rw [hq] at h
        simp at h
        exact List.mem_map.2 ⟨q, List.mem_of_getElem? hq, by rw [h, e]⟩)
    unfold delG
    rw [List.filter_cons, if_pos (decide_eq_true hne), List.eraseIdx_cons_succ, eraseIdx_delG L j s hn.2 h]
    rfl
theorem delG_none {L : EntG κ} {s : κ} (h : ∀ p ∈ L, p.1 ≠ s) : delG L s = L := List.filter_eq_self.2 fun p hp => decide_eq_true (h p hp)
theorem delG_mem {L : EntG κ} {s : κ} {p : κ × Value} : p ∈ delG L s ↔ p ∈ L ∧ p.1 ≠ s := by simp [delG]
theorem putG_new {L : EntG κ} {s : κ} (v : Value) (h : getG L s = none) : putG L s v = L ++ [(s, v)] := by unfold putG; rw [h]; rfl
theorem putG_mem {L : EntG κ} {s : κ} {v : Value} {p : κ × Value} : p ∈ putG L s v ↔ (p ∈ L ∧ p.1 ≠ s) ∨ p = (s, v) := by
  unfold putG
  cases hg : getG L s with
  | none =>
    have := getG_none.1 hg
    simp only [Option.isSome_none, Bool.false_eq_true, if_false, List.mem_append, List.mem_singleton]
    constructor
    · rintro (h | h)
      · exact .inl ⟨h, this p h⟩
      · exact .inr h
    · rintro (h | h)
      · exact .inl h.1
      · exact .inr h
  | some u =>
    have hm := getG_mem hg
    simp only [Option.isSome_some, if_true, List.mem_map]
    constructor
    · rintro ⟨q, hq, rfl⟩
      by_cases e : q.1 = s
      · rw [if_pos e]; exact .inr rfl
      · rw [if_neg e]; exact .inl ⟨hq, e⟩
    · rintro (⟨h, e⟩ | rfl)
      · exact ⟨p, h, if_neg e⟩
      · exact ⟨(s, u), hm, if_pos rfl⟩
theorem putG_fst {L : EntG κ} {s : κ} {v : Value} (h : (getG L s).isSome = true) : (putG L s v).map Prod.fst = L.map Prod.fst := by
  unfold putG
  rw [h, if_pos rfl, List.map_map]
  refine List.map_congr_left fun p _ => ?_
  show (if p.1 = s then (s, v) else p).1 = p.1
  by_cases e : p.1 = s
  · rw [if_pos e, e]
  · rw [if_neg e]

section
variable {P : Program} {w w' : World} {b : Nat} {m : Value} {L : EntG κ} {row : Option Nat}
theorem MapG.lt (h : MapG enc w b L) : b < w.heap.size := by
  obtain ⟨es, clock, hb, _⟩ := h
  exact (Array.getElem?_eq_some_iff.1 hb).1
theorem MapG.here (h : MapG enc w b L) : ∃ es clock, w.heap[b]? = some (.map es clock) := by obtain ⟨es, clock, hb, _⟩ := h; exact ⟨es, clock, hb⟩
theorem MapG.same (h : MapG enc w b L) (hb : w'.heap[b]? = w.heap[b]?) : MapG enc w' b L := by
  obtain ⟨es, clock, h0, h1, h2⟩ := h
  exact ⟨es, clock, hb.trans h0, h1, h2⟩
theorem MapG.walks (h : MapG enc w b L) (hk : KeepsWalks w w') : MapG enc w' b L := by
  obtain ⟨es, clock, h0, h1, h2⟩ := h
  exact ⟨es, clock, hk.same b _ h0 rfl, h1, h2⟩
theorem MapG.nodup (hi : ∀ a b, enc a = enc b → a = b) (h : MapG enc w b L) : (L.map Prod.fst).Nodup := by
  obtain ⟨es, clock, hb, h1, h2⟩ := h
  have h3 : (es.toList.map (·.key)).Nodup := h1.2.2
  have h4 : es.toList.map (·.key) = (L.map Prod.fst).map enc := by
    have := congrArg (List.map Prod.fst) h2
    rw [List.map_map, List.map_map] at this
    rw [List.map_map]
    exact this
  rw [h4, List.Nodup, List.pairwise_map] at h3
  exact h3.imp fun h e => h (by rw [e])
theorem MapG.made (w : World) : MapG enc (w.alloc (.map #[] 0)) w.heap.size [] := ⟨#[], 0, (MapKept.heap_alloc w _).1, MapKept.stamped_empty 0, rfl⟩
/-- What the look for a key finds. -/
theorem MapG.find (h : MapG enc w b L) {k : TypeId} (hk : KeyK P k enc) (s : κ) : ∃ es clock, w.heap[b]? = some (.map es clock) ∧ MapKept.Stamped es clock ∧ es.toList.map kvE = L.map (kvG enc) ∧
    (((Instr.findKey k (enc s) es.toList).run P w = .ok none w ∧ getG L s = none ∧ ∀ e ∈ es.toList, e.key ≠ enc s) ∨
     ∃ j e0 v, (Instr.findKey k (enc s) es.toList).run P w = .ok (some (j, v)) w ∧ getG L s = some v ∧ es.toList[j]? = some e0 ∧ e0.key = enc s ∧ e0.val = v ∧ L[j]? = some (s, v)) := by
  have hnd := h.nodup hk.inj
  obtain ⟨es, clock, hb, h1, h2⟩ := h
  refine ⟨es, clock, hb, h1, h2, ?_⟩
  rcases hk.find w s es.toList (keyG_of h2) with ⟨hr, hn⟩ | ⟨j, e0, hr, hj, he⟩
  · refine .inl ⟨hr, getG_none.2 fun p hp e => ?_, hn⟩
    have : kvG enc p ∈ es.toList.map kvE := by rw [h2]; exact List.mem_map.2 ⟨p, hp, rfl⟩
    obtain ⟨x, hx, hxe⟩ := List.mem_map.1 this
    have hxk : x.key = enc p.1 := congrArg Prod.fst hxe
    exact hn x hx (by rw [hxk, e])
  · right
    have h5 : (es.toList.map kvE)[j]? = (L.map (kvG enc))[j]? := by rw [h2]
    rw [List.getElem?_map, List.getElem?_map, hj] at h5
    cases hq : L[j]? with
    | none => rw [hq] at h5; cases h5
    | some p =>
      rw [hq] at h5
      simp only [Option.map_some, Option.some.injEq] at h5
      have h6 : e0.key = enc p.1 := congrArg Prod.fst h5
      have h7 : e0.val = p.2 := congrArg Prod.snd h5
      have h8 : p.1 = s := hk.inj _ _ (by rw [← h6, he])
      have h9 : p = (s, e0.val) := by rw [← h8, h7]
      have hg := getG_some hnd (List.mem_of_getElem? hq)
      rw [h8, ← h7] at hg
      exact ⟨j, e0, e0.val, hr, hg, hj, he, rfl, by rw [hq, h9]⟩
theorem kv_modify (enc : κ → Value) (s : κ) (v : Value) : ∀ (L : EntG κ) (es : List MapEntry) (j : Nat), (L.map Prod.fst).Nodup → es.map kvE = L.map (kvG enc) → (∃ u, L[j]? = some (s, u)) → (es.modify j fun e => { e with key := enc s, val := v }).map kvE = (L.map fun p => if p.1 = s then (s, v) else p).map (kvG enc)
  | [], _, j, _, _, ⟨u, h⟩ => by simp at h
  | p :: L, [], _, _, h, _ => by cases h
  | p :: L, e :: es, 0, hn, h, ⟨u, hj⟩ => by
    rw [List.getElem?_cons_zero, Option.some.injEq] at hj
    subst hj
    rw [List.map_cons, List.nodup_cons] at hn
    rw [List.map_cons, List.map_cons] at h
    injection h with _ h2
    rw [List.modify_zero_cons, List.map_cons, List.map_cons, List.map_cons, if_pos rfl]
    congr 1
    rw [h2]
    congr 1
    conv => lhs; rw [← List.map_id L]
    refine List.map_congr_left fun q hq => ?_
    show q = if q.1 = s then (s, v) else q
    rw [if_neg fun e2 => hn.1 (List.mem_map.2 ⟨q, hq, e2⟩)]
  | p :: L, e :: es, j + 1, hn, h, ⟨u, hj⟩ => by
    rw [List.getElem?_cons_succ] at hj
    rw [List.map_cons, List.nodup_cons] at hn
    rw [List.map_cons, List.map_cons] at h
    injection h with h1 h2
    rw [List.modify_succ_cons, List.map_cons, List.map_cons, List.map_cons, kv_modify enc s v L es j hn.2 h2 ⟨u, hj⟩, h1]
    congr 1
    rw [if_neg fun e2 => hn.1 (List.mem_map.2 ⟨(s, u), List.mem_of_getElem? hj, e2.symm⟩)]
theorem MapG.store (h : MapG enc w b L) {t k e : TypeId} (ht : P.underlying t = some (.map k e)) (hk : KeyK P k enc) (s : κ) (v : Value) : ∃ w', (Instr.mapUpdate t (.map (some b)) (enc s) v).run P w = .ok () w' ∧ MapG enc w' b (putG L s v) ∧ w.grownBy w' (some b) ∧ w'.heap.size = w.heap.size := by
  have hnd := h.nodup hk.inj
  obtain ⟨es, clock, hb, h1, h2, h3⟩ := h.find hk s
  rcases h3 with ⟨h3, h4, h5⟩ | ⟨j, e0, u, h3, h4, h5, h6, h7, h8⟩
  · refine ⟨setBlock w b (.map (es.push ⟨enc s, v, clock⟩) (clock + 1)), ?_, ⟨es.push ⟨enc s, v, clock⟩, clock + 1, ChangeMaps.heap_setBlock_same hb _, MapKept.stamped_push h1 h5, ?_⟩, ⟨rfl, rfl, rfl, by simp [setBlock], fun i _ hi => ChangeMaps.heap_setBlock_other hb _ (fun e => hi (by rw [e]))⟩, by simp [setBlock]⟩
    · simp [Instr.mapUpdate, run_underlying ht, MapKept.run_getObj_map hb, hk.chk, h3, MapKept.run_setObj_map _ hb, Result.andThen, setBlock]
    · rw [putG_new v h4, Array.toList_push, List.map_append, List.map_append, h2]; rfl
  · refine ⟨setBlock w b (.map (es.modify j fun e => { e with key := enc s, val := v }) clock), ?_, ⟨es.modify j fun e => { e with key := enc s, val := v }, clock, ChangeMaps.heap_setBlock_same hb _, MapKept.stamped_modify h1 j _ (fun _ _ => rfl) (fun e he hj => ?_), ?_⟩, ⟨rfl, rfl, rfl, by simp [setBlock], fun i _ hi => ChangeMaps.heap_setBlock_other hb _ (fun e => hi (by rw [e]))⟩, by simp [setBlock]⟩
    · have hst : (Instr.keyThatStays (((es[j]?).map (·.key)).getD (enc s)) (enc s)).run P w = .ok (enc s) w := by
        rw [← Array.getElem?_toList, h5]
        show (Instr.keyThatStays e0.key (enc s)).run P w = _
        rw [h6]; exact hk.stays w s
      simp [Instr.mapUpdate, run_underlying ht, MapKept.run_getObj_map hb, hk.chk, h3, hst, MapKept.run_setObj_map _ hb, Result.andThen, setBlock]
    · have : es.toList[j]? = some e := by rw [Array.getElem?_toList]; exact hj
      rw [h5] at this
      injection this with this
      rw [← this, h6]
    · unfold putG
      rw [h4, Option.isSome_some, if_pos rfl, Array.toList_modify]
      exact kv_modify enc s v L es.toList j hnd h2 ⟨u, h8⟩
theorem MapH.look (h : MapH enc w m L) {t k e : TypeId} {z : Value} (ht : P.underlying t = some (.map k e)) (hk : KeyK P k enc) (hz : (zeroValue e).run P w = .ok z w) (s : κ) (c : Bool) :
    (Instr.lookup t m (enc s) c).run P w = .ok (if c then .tuple #[(getG L s).getD z, .bool (getG L s).isSome] else (getG L s).getD z) w := by
  rcases h with ⟨rfl, rfl⟩ | ⟨b, rfl, h⟩
  · rcases hk.find w s [] (by simp) with ⟨hf, _⟩ | ⟨j, e0, _, h5, _⟩
    · simp [Instr.lookup, run_underlying ht, hk.chk, hf, hz, Result.andThen, getG]
    · simp at h5
  · obtain ⟨es, clock, hb, h1, h2, h3⟩ := h.find hk s
    rcases h3 with ⟨h3, h4, _⟩ | ⟨j, e0, u, h3, h4, _⟩
    · rw [h4]; simp [Instr.lookup, run_underlying ht, MapKept.run_getObj_map hb, hk.chk, h3, hz, Result.andThen]
    · rw [h4]; simp [Instr.lookup, run_underlying ht, MapKept.run_getObj_map hb, hk.chk, h3, Result.andThen]
theorem MapH.len (h : MapH enc w m L) {t k e : TypeId} (ht : P.underlying t = some (.map k e)) (ty : TypeId) : (Builtin.len_ #[t] ty #[m]).run P w = .ok (.int .i64 L.length) w := by
  rcases h with ⟨rfl, rfl⟩ | ⟨b, rfl, es, clock, hb, h1, h2⟩
  · simp [Builtin.len_, run_underlying ht, goInt, Result.andThen]
  · have hl : es.size = L.length := by
      have := congrArg List.length h2
      simpa using this
    simp [Builtin.len_, run_underlying ht, MapKept.run_getObj_map hb, goInt, Result.andThen, hl]
theorem MapH.del (h : MapH enc w m L) {t k e : TypeId} (ht : P.underlying t = some (.map k e)) (hk : KeyK P k enc) (s : κ) (ty : TypeId) :
    ∃ w', (Builtin.delete_ #[t, k] ty #[m, enc s]).run P w = .ok (.tuple #[]) w' ∧ MapH enc w' m (delG L s) ∧ w.grownBy w' (mapBlock m) ∧ w'.heap.size = w.heap.size := by
  rcases h with ⟨rfl, rfl⟩ | ⟨b, rfl, h⟩
  · exact ⟨w, by simp [Builtin.delete_, run_underlying ht, hk.chk, Result.andThen], .inl ⟨rfl, rfl⟩, ⟨rfl, rfl, rfl, Nat.le_refl _, fun _ _ _ => rfl⟩, rfl⟩
  · have hnd := h.nodup hk.inj
    obtain ⟨es, clock, hb, h1, h2, h3⟩ := h.find hk s
    have hgr : ∀ o, w.grownBy (setBlock w b o) (mapBlock (.map (some b))) := fun o => ⟨rfl, rfl, rfl, by simp [setBlock], fun i _ hi => ChangeMaps.heap_setBlock_other hb _ (fun e => hi (by rw [e]; rfl))⟩
    rcases h3 with ⟨h3, h4, h5⟩ | ⟨j, e0, u, h3, h4, h5, h6, h7, h8⟩
    · refine ⟨setBlock w b (.map es clock), ?_, .inr ⟨b, rfl, es, clock, ChangeMaps.heap_setBlock_same hb _, h1, ?_⟩, hgr _, by simp [setBlock]⟩
      · simp [Builtin.delete_, run_underlying ht, MapKept.run_getObj_map hb, hk.chk, h3, MapKept.run_setObj_map _ hb, Result.andThen, setBlock]
      · rw [h2, delG_none (getG_none.1 h4)]
    · have hjs : j < es.size := by have := (List.getElem?_eq_some_iff.1 h5).1; simpa using this
      refine ⟨setBlock w b (.map (es.eraseIdxIfInBounds j) clock), ?_, .inr ⟨b, rfl, _, clock, ChangeMaps.heap_setBlock_same hb _, MapKept.stamped_erase h1 j, ?_⟩, hgr _, by simp [setBlock]⟩
      · simp [Builtin.delete_, run_underlying ht, MapKept.run_getObj_map hb, hk.chk, h3, MapKept.run_setObj_map _ hb, Result.andThen, setBlock]
      · have hsub : (es.eraseIdxIfInBounds j).toList = es.toList.eraseIdx j := by
          unfold Array.eraseIdxIfInBounds
          rw [dif_pos hjs]
          simp
        rw [hsub, ChangeMaps.map_eraseIdx, h2, ← ChangeMaps.map_eraseIdx, eraseIdx_delG L j s hnd (by rw [h8]; rfl)]

/-- 'for k, v := range m' under way: the map's entries L; T are still to come. -/
def RngG (enc : κ → Value) (w : World) (m : Value) (r : Nat) (L T : EntG κ) : Prop :=
  (m = .map none ∧ L = [] ∧ T = [] ∧ ∃ s a c, w.heap[r]? = some (.mapIter none s a c)) ∨
  ∃ b es clock since seen c0, m = .map (some b) ∧ w.heap[b]? = some (.map es clock) ∧ MapKept.Stamped es clock ∧ es.toList.map kvE = L.map (kvG enc) ∧ w.heap[r]? = some (.mapIter (some b) since seen c0) ∧ (∀ x ∈ es.toList, x.born < since) ∧ (leftOf es seen).toList.map kvE = T.map (kvG enc) ∧ since ≤ c0 ∧ since ≤ clock
theorem kv_backG {es fs : List MapEntry} {L : EntG κ} (h : es.map kvE = L.map (kvG enc)) (hs : ∀ x ∈ fs, x ∈ es) : ∃ T : EntG κ, fs.map kvE = T.map (kvG enc) := by
  induction fs with
  | nil => exact ⟨[], rfl⟩
  | cons f fs ih =>
    obtain ⟨T, hT⟩ := ih fun x hx => hs x (by simp [hx])
    have : kvE f ∈ L.map (kvG enc) := by rw [← h]; exact List.mem_map.2 ⟨f, hs f (by simp), rfl⟩
    obtain ⟨p, _, hp⟩ := List.mem_map.1 this
    exact ⟨p :: T, by rw [List.map_cons, List.map_cons, hp, hT]⟩
theorem perm_inj {α β : Type} (f : α → β) (hf : ∀ a b, f a = f b → a = b) : ∀ {l m : List α}, (l.map f).Perm (m.map f) → l.Perm m
  | [], m, h => by
    have := h.length_eq
    simp at this
    rw [List.eq_nil_of_length_eq_zero this.symm]
  | a :: l, m, h => by
    have ha : f a ∈ m.map f := h.mem_iff.1 (by simp)
    obtain ⟨x, hx, e⟩ := List.mem_map.1 ha
    have hxa := hf _ _ e
    subst hxa
    obtain ⟨m1, m2, rfl⟩ := List.append_of_mem hx
    have h2 : (f x :: l.map f).Perm (f x :: (m1 ++ m2).map f) := by
      refine (show ((x :: l).map f).Perm _ from h).trans ?_
      rw [List.map_append, List.map_cons, List.map_append]
      exact List.perm_middle
    exact ((perm_inj f hf (List.Perm.cons_inv h2)).cons x).trans List.perm_middle.symm
theorem kvG_inj (hi : ∀ a b, enc a = enc b → a = b) (p q : κ × Value) (h : kvG enc p = kvG enc q) : p = q := by
  obtain ⟨a, b⟩ := p
  obtain ⟨c, d⟩ := q
  have h1 : enc a = enc c := congrArg Prod.fst h
  have h2 : b = d := congrArg Prod.snd h
  rw [hi _ _ h1, h2]
theorem MapH.range (h : MapH enc w m L) {t k e : TypeId} (ht : P.underlying t = some (.map k e)) : ∃ w', (Instr.range t m).run P w = .ok (.pointer (some ⟨w.heap.size, 0, none⟩)) w' ∧ RngG enc w' m w.heap.size L L ∧ Below w.heap.size w w' ∧ w'.heap.size = w.heap.size + 1 ∧ KeepsWalks w w' := by
  rcases h with ⟨rfl, rfl⟩ | ⟨b, rfl, h⟩
  · exact ⟨_, run_range_nilMap w t k e ht, .inl ⟨rfl, rfl, rfl, _, _, _, (MapKept.heap_alloc w _).1⟩, (Below.refl _ _).alloc (Nat.le_refl _) _, by simp, KeepsWalks.alloc _ _⟩
  · have hlt := h.lt
    obtain ⟨es, clock, hb, h1, h2⟩ := h
    exact ⟨_, run_range_map w t k e b es clock ht hb, .inr ⟨b, es, clock, clock, #[], clock, rfl, ((MapKept.heap_alloc w _).2 b hlt).trans hb, h1, h2, (MapKept.heap_alloc w _).1, h1.1, by rw [show leftOf es #[] = es by unfold leftOf; simp]; exact h2, Nat.le_refl _, Nat.le_refl _⟩, (Below.refl _ _).alloc (Nat.le_refl _) _, by simp, KeepsWalks.alloc _ _⟩
theorem RngG.lt {r : Nat} {T : EntG κ} (h : RngG enc w m r L T) : r < w.heap.size := by
  rcases h with ⟨_, _, _, _, _, _, hr⟩ | ⟨_, _, _, _, _, _, _, _, _, _, hr, _⟩ <;> exact (Array.getElem?_eq_some_iff.1 hr).1
theorem RngG.iter {r : Nat} {T : EntG κ} (h : RngG enc w m r L T) : ∃ o : Obj, w.heap[r]? = some o ∧ o.isWalk = true := by
  rcases h with ⟨_, _, _, _, _, _, hr⟩ | ⟨_, _, _, _, _, _, _, _, _, _, hr, _⟩ <;> exact ⟨_, hr, rfl⟩
theorem RngG.walks {r : Nat} {T : EntG κ} (h : RngG enc w m r L T) (hk : KeepsWalks w w') : RngG enc w' m r L T := by
  rcases h with ⟨rfl, rfl, rfl, s, a, c, hr⟩ | ⟨b, es, clock, since, seen, c0, rfl, hb, h3, h4, hr, hold, hT, hsc, hsk⟩
  · exact .inl ⟨rfl, rfl, rfl, s, a, c, hk.same r _ hr rfl⟩
  · exact .inr ⟨b, es, clock, since, seen, c0, rfl, hk.same b _ hb rfl, h3, h4, hk.same r _ hr rfl, hold, hT, hsc, hsk⟩
/-- The step. -/
theorem RngG.next {r : Nat} {T : EntG κ} (hi : ∀ a b, enc a = enc b → a = b) (h : RngG enc w m r L T) (ty : TypeId) :
    (T = [] ∧ (Instr.next (.pointer (some ⟨r, 0, none⟩)) false ty).run P w = .ok (.tuple #[.bool false]) w) ∨
    ∃ p T' w', T.Perm (p :: T') ∧ (Instr.next (.pointer (some ⟨r, 0, none⟩)) false ty).run P w = .ok (.tuple #[.bool true, enc p.1, p.2]) w' ∧ RngG enc w' m r L T' ∧ w.grownBy w' (some r) ∧ w'.heap.size = w.heap.size ∧ (Instr.entry (.pointer (some ⟨r, 0, none⟩))).run P w' = .ok (.tuple #[enc p.1, p.2]) w' := by
  rcases h with ⟨rfl, rfl, rfl, s, a, c, hr⟩ | ⟨b, es, clock, since, seen, c0, rfl, hb, h1, h2, hr, hold, hT, hsc, hsk⟩
  · left
    refine ⟨rfl, ?_⟩
    simp only [Instr.next, getObj, Sem.run_bind, Sem.run, hr, Result.andThen]
    rfl
  · have hne : r ≠ b := fun e => by rw [e, hb] at hr; cases hr
    rcases run_next_at (P := P) w ty r b since c0 seen es clock hr hb hold hsc with ⟨h0, hrun⟩ | ⟨e, he, w1, hal, hrun⟩
    · left
      refine ⟨?_, hrun⟩
      have := congrArg List.length hT
      rw [List.length_map, List.length_map, Array.length_toList, h0] at this
      exact List.length_eq_zero_iff.1 this.symm
    · right
      have hem := (mem_left he).1
      have hp := left_perm h1.2.1 he
      have hk : kvE e ∈ L.map (kvG enc) := by rw [← h2]; exact List.mem_map.2 ⟨e, hem, rfl⟩
      obtain ⟨p, _, hpe⟩ := List.mem_map.1 hk
      have ek : e.key = enc p.1 := (congrArg Prod.fst hpe).symm
      have ev : e.val = p.2 := (congrArg Prod.snd hpe).symm
      obtain ⟨T', hT'⟩ := kv_backG (fs := (leftOf es (seen.push e.born)).toList) h2 fun x hx => (mem_left hx).1
      have hr1 : w1.heap[r]? = some (.mapIter (some b) since seen c0) := by rcases hal with rfl | rfl <;> exact hr
      have hb1 : w1.heap[b]? = some (.map es clock) := by rcases hal with rfl | rfl <;> exact hb
      have hset := MapKept.heap_set (o' := .mapIter (some b) since (seen.push e.born) clock) hr1
      have hb' : (setBlock w1 r (.mapIter (some b) since (seen.push e.born) clock)).heap[b]? = some (.map es clock) := (hset.2 b (fun e1 => hne e1.symm)).trans hb1
      refine ⟨p, T', setBlock w1 r (.mapIter (some b) since (seen.push e.born) clock), ?_, by rw [hrun, ek, ev], .inr ⟨b, es, clock, since, seen.push e.born, clock, rfl, hb', h1, h2, hset.1, hold, hT', hsk, hsk⟩, ?_, ?_, ?_⟩
      · refine perm_inj (kvG enc) (kvG_inj hi) ?_
        rw [← hT, List.map_cons, hpe, ← hT', ← List.map_cons]
        exact hp.map _
      · rcases hal with rfl | rfl <;> exact ⟨rfl, rfl, rfl, by simp [setBlock], fun i _ hi => hset.2 i (fun e1 => hi (by rw [e1]))⟩
      · rcases hal with rfl | rfl <;> simp [setBlock]
      · have := run_entry_at (P := P) _ r b since seen es clock e hset.1 hb' hem h1.2.1
        rw [this, ek, ev]
theorem MapG.kept (h : MapG enc w b L) (hg : w.grownBy w' row) (hne : some b ≠ row) : MapG enc w' b L := h.same (hg.block b h.lt hne)
theorem MapH.kept (h : MapH enc w m L) (hg : w.grownBy w' row) (hne : mapBlock m = none ∨ mapBlock m ≠ row) : MapH enc w' m L := by
  rcases h with h | ⟨b, rfl, h⟩
  · exact .inl h
  · exact .inr ⟨b, rfl, h.kept hg (hne.elim (fun e => by cases e) id)⟩
theorem MapH.walks (h : MapH enc w m L) (hk : KeepsWalks w w') : MapH enc w' m L := by
  rcases h with h | ⟨b, rfl, h⟩
  · exact .inl h
  · exact .inr ⟨b, rfl, h.walks hk⟩
theorem MapH.later (h : MapH enc w m L) (hg : Below w.heap.size w w') : MapH enc w' m L := by
  rcases h with h | ⟨b, rfl, h⟩
  · exact .inl h
  · exact .inr ⟨b, rfl, h.same (hg.block b h.lt)⟩
theorem MapH.lt (h : MapH enc w m L) {g : Nat} (hg : mapBlock m = some g) : g < w.heap.size := by
  rcases h with ⟨rfl, _⟩ | ⟨b, rfl, h⟩
  · cases hg
  · injection hg with hg; subst hg; exact h.lt
theorem MapH.nodup (hi : ∀ a b, enc a = enc b → a = b) (h : MapH enc w m L) : (L.map Prod.fst).Nodup := by
  rcases h with ⟨_, rfl⟩ | ⟨b, rfl, h⟩
  · exact List.nodup_nil
  · exact h.nodup hi
theorem MapH.val (h : MapH enc w m L) : ∃ o, m = .map o := by
  rcases h with ⟨rfl, _⟩ | ⟨b, rfl, h⟩ <;> exact ⟨_, rfl⟩
theorem MapH.at (h : MapH enc w m L) {g : Nat} (hg : mapBlock m = some g) : MapG enc w g L := by
  rcases h with ⟨rfl, _⟩ | ⟨b, rfl, h⟩
  · cases hg
  · injection hg with hg; subst hg; exact h
theorem RngG.kept {r : Nat} {T : EntG κ} (h : RngG enc w m r L T) (hg : w.grownBy w' row) (h1 : mapBlock m = none ∨ mapBlock m ≠ row) (h2 : some r ≠ row) : RngG enc w' m r L T := by
  have hlt := h.lt
  rcases h with ⟨rfl, rfl, rfl, s, a, c, hr⟩ | ⟨b, es, clock, since, seen, c0, rfl, hb, h3, h4, hr, hold, hT, hsc, hsk⟩
  · exact .inl ⟨rfl, rfl, rfl, s, a, c, (hg.block r hlt h2).trans hr⟩
  · exact .inr ⟨b, es, clock, since, seen, c0, rfl, (hg.block b (Array.getElem?_eq_some_iff.1 hb).1 (h1.elim (fun e => by cases e) id)).trans hb, h3, h4, (hg.block r hlt h2).trans hr, hold, hT, hsc, hsk⟩
theorem RngG.later {r : Nat} {T : EntG κ} (h : RngG enc w m r L T) (hg : Below w.heap.size w w') : RngG enc w' m r L T := h.kept (row := none) ⟨hg.os, hg.tape, hg.output, hg.size, fun i hi _ => hg.block i hi⟩ (by
  cases hm : mapBlock m with
  | none => exact .inl rfl
  | some b => exact .inr (by simp)) (by simp)
theorem RngG.left_eq {w : World} {m : Value} {r : Nat} {L T : EntG κ} (h : RngG enc w m r L T) : rngLeft w r = T.length := by
  rcases h with ⟨rfl, rfl, rfl, s, a, c, hr⟩ | ⟨b, es, clock, since, seen, c0, rfl, hb, h3, h4, hr, hold, hT, hsc, hsk⟩
  · simp [rngLeft, hr]
  · have := congrArg List.length hT
    rw [List.length_map, List.length_map, Array.length_toList] at this
    simp only [rngLeft, hr, hb]
    exact this
theorem OwnK.notIterG {w : World} {b k : Nat} {e : TypeId} {v m : Value} {l : List (List Value)} {r : Nat} {L T : EntG κ} (h : OwnK w b e k v l) (hr : RngG enc w m r L T) : some r ≠ v.ownBlock := fun he => by
  rcases h.2.2 with ⟨rfl, _⟩ | ⟨g', cap, cur, rfl, _, hg, _⟩
  · cases he
  · injection he with he
    subst he
    rcases hr with ⟨_, _, _, _, _, _, hr⟩ | ⟨_, _, _, _, _, _, _, _, _, _, hr, _⟩ <;> (have := hg.symm.trans hr; injection this with this; cases this)
theorem OwnK.notMapG {w : World} {b k : Nat} {e : TypeId} {v m : Value} {l : List (List Value)} {r : Nat} {L T : EntG κ} (h : OwnK w b e k v l) (hr : RngG enc w m r L T) : mapBlock m = none ∨ mapBlock m ≠ v.ownBlock := by
  rcases hr with ⟨rfl, _⟩ | ⟨b, es, clock, _, _, _, rfl, hb, _⟩
  · exact .inl rfl
  · refine .inr fun he => ?_
    rcases h.2.2 with ⟨rfl, _⟩ | ⟨g', cap, cur, rfl, _, hg, _⟩
    · cases he
    · injection he with he
      subst he
      have := hg.symm.trans hb
      injection this with this
      cases this
theorem MapH.grp {p : Nat → Prop} (h : MapH enc w m L) (hg : GrP p w w') (hn : ∀ k, mapBlock m = some k → ¬ p k) : MapH enc w' m L := by
  rcases h with h | ⟨b, rfl, h⟩
  · exact .inl h
  · exact .inr ⟨b, rfl, h.same (hg.block b h.lt (hn b rfl))⟩
end
section
variable {P : Program} {w : World} {ops : Array Oper} {rest : List Oper} {o : Oper} {a : Act} {Q : Exit → Act → World → Prop} {L T : EntG κ}
/-- 'v, ok := m[s]' at the operation. -/
theorem look_g (hw : Region.wanted o (yielded ops a.tmps) = true) (m x : Operand) (t : TypeId) (hop : o.op = Op.lookup t m x true) (k e : TypeId) (ht : P.underlying t = some (.map k e)) (hk : KeyK P k enc) (z : Value) (hz : (zeroValue e).run P w = .ok z w)
    (mv : Value) (hm : a.eval m = mv) (h : MapH enc w mv L) (s : κ) (hx : a.eval x = enc s) (v : Value) (hv : (getG L s).getD z = v) (ok : Bool) (hok : (getG L s).isSome = ok)
    (hK : wpList P ops Q rest (a.put o.dst (.tuple #[v, .bool ok])) w) : wpList P ops Q (o :: rest) a w :=
  BigFrame.wpList_want hw fun K hKK => by
    have hrun := h.look ht hk hz s true
    unfold Oper.wp
    simp [execOp, hop, hm, hx, hrun, Result.andThen]
    rw [hv, hok]
    exact hKK _ _ hK
/-- 'v := m[s]': what it yields. -/
theorem look1_run {mv : Value} {s : κ} {z v : Value} {t k e : TypeId} (ht : P.underlying t = some (.map k e)) (hk : KeyK P k enc) (hz : (zeroValue e).run P w = .ok z w) (h : MapH enc w mv L) (hv : (getG L s).getD z = v) : (Instr.lookup t mv (enc s) false).run P w = .ok v w := by
  have := h.look ht hk hz s false
  rw [this, hv]; rfl
/-- 'm[s] = v' at the operation. -/
theorem store_g_op {K : Act → World → Prop} (m x v : Operand) (t : TypeId) (hop : o.op = Op.mapUpdate t m x v) (k e : TypeId) (ht : P.underlying t = some (.map k e)) (hk : KeyK P k enc)
    (b : Nat) (hm : a.eval m = .map (some b)) (h : MapG enc w b L) (s : κ) (hx : a.eval x = enc s) (val : Value) (hv : a.eval v = val)
    (hK : ∀ w', MapG enc w' b (putG L s val) → w.grownBy w' (some b) → w'.heap.size = w.heap.size → K (a.put o.dst undef) w') : o.wp P a w K Q := by
  obtain ⟨w', hrun, r1, r2, r3⟩ := h.store ht hk s val
  unfold Oper.wp
  simp [execOp, hop, hm, hx, hv, hrun, Result.andThen]
  exact hK w' r1 r2 r3
theorem store_g (hw : Region.wanted o (yielded ops a.tmps) = true) (m x v : Operand) (t : TypeId) (hop : o.op = Op.mapUpdate t m x v) (k e : TypeId) (ht : P.underlying t = some (.map k e)) (hk : KeyK P k enc)
    (b : Nat) (hm : a.eval m = .map (some b)) (h : MapG enc w b L) (s : κ) (hx : a.eval x = enc s) (val : Value) (hv : a.eval v = val)
    (hK : ∀ w', MapG enc w' b (putG L s val) → w.grownBy w' (some b) → w'.heap.size = w.heap.size → wpList P ops Q rest (a.put o.dst undef) w') : wpList P ops Q (o :: rest) a w :=
  BigFrame.wpList_want hw fun K hKK => store_g_op m x v t hop k e ht hk b hm h s hx val hv fun w' h1 h2 h3 => hKK _ _ (hK w' h1 h2 h3)
/-- 'delete(m, s)' at the operation. -/
theorem delete_g_op {K : Act → World → Prop} (m x : Operand) (t k : TypeId) (hop : o.op = Op.call { callee := Callee.builtin Builtin.delete, args := #[m, x], argTypes := #[t, k] }) (e : TypeId) (ht : P.underlying t = some (.map k e)) (hk : KeyK P k enc)
    (mv : Value) (hm : a.eval m = mv) (h : MapH enc w mv L) (s : κ) (hx : a.eval x = enc s)
    (hK : ∀ w', MapH enc w' mv (delG L s) → w.grownBy w' (mapBlock mv) → w'.heap.size = w.heap.size → K (a.put o.dst (.tuple #[])) w') : o.wp P a w K Q := by
  obtain ⟨w', hrun, r1, r2, r3⟩ := h.del ht hk s o.type
  unfold Oper.wp
  simp [execOp, hop, resolve, invoke, builtin, hm, hx, hrun, Result.andThen]
  exact hK w' r1 r2 r3
theorem delete_g (hw : Region.wanted o (yielded ops a.tmps) = true) (m x : Operand) (t k : TypeId) (hop : o.op = Op.call { callee := Callee.builtin Builtin.delete, args := #[m, x], argTypes := #[t, k] }) (e : TypeId) (ht : P.underlying t = some (.map k e)) (hk : KeyK P k enc)
    (mv : Value) (hm : a.eval m = mv) (h : MapH enc w mv L) (s : κ) (hx : a.eval x = enc s)
    (hK : ∀ w', MapH enc w' mv (delG L s) → w.grownBy w' (mapBlock mv) → w'.heap.size = w.heap.size → wpList P ops Q rest (a.put o.dst (.tuple #[])) w') : wpList P ops Q (o :: rest) a w :=
  BigFrame.wpList_want hw fun K hKK => delete_g_op m x t k hop e ht hk mv hm h s hx fun w' h1 h2 h3 => hKK _ _ (hK w' h1 h2 h3)
/-- 'len(m)' at the operation. -/
theorem len_g (hw : Region.wanted o (yielded ops a.tmps) = true) (m : Operand) (t : TypeId) (hop : o.op = Op.call { callee := Callee.builtin Builtin.len, args := #[m], argTypes := #[t] }) (k e : TypeId) (ht : P.underlying t = some (.map k e))
    (mv : Value) (hm : a.eval m = mv) (h : MapH enc w mv L) (hK : wpList P ops Q rest (a.put o.dst (.int .i64 L.length)) w) : wpList P ops Q (o :: rest) a w :=
  BigFrame.wpList_want hw fun K hKK => by
    have hrun := h.len ht o.type
    unfold Oper.wp
    simp [execOp, hop, resolve, invoke, builtin, hm, hrun, Result.andThen]
    exact hKK _ _ hK
theorem len_g_op {K : Act → World → Prop} (m : Operand) (t : TypeId) (hop : o.op = Op.call { callee := Callee.builtin Builtin.len, args := #[m], argTypes := #[t] }) (k e : TypeId) (ht : P.underlying t = some (.map k e))
    (mv : Value) (hm : a.eval m = mv) (h : MapH enc w mv L) (hK : K (a.put o.dst (.int .i64 L.length)) w) : o.wp P a w K Q := by
  have hrun := h.len ht o.type
  unfold Oper.wp
  simp [execOp, hop, resolve, invoke, builtin, hm, hrun, Result.andThen]
  exact hK
/-- 'range m' at the operation. -/
theorem range_g (hw : Region.wanted o (yielded ops a.tmps) = true) (m : Operand) (t : TypeId) (hop : o.op = Op.range t m) (k e : TypeId) (ht : P.underlying t = some (.map k e)) (mv : Value) (hm : a.eval m = mv) (h : MapH enc w mv L)
    (hK : ∀ r w', r = w.heap.size → RngG enc w' mv r L L → Below w.heap.size w w' → w'.heap.size = w.heap.size + 1 → wpList P ops Q rest (a.put o.dst (.pointer (some ⟨r, 0, none⟩))) w') : wpList P ops Q (o :: rest) a w :=
  BigFrame.wpList_want hw fun K hKK => by
    obtain ⟨w', hrun, r1, r2, r3, -⟩ := h.range ht
    unfold Oper.wp
    simp [execOp, hop, hm, hrun, Result.andThen]
    exact hKK _ _ (hK _ w' rfl r1 r2 r3)
/-- A range loop's step at the operation. -/
theorem next_g {mv : Value} (hi : ∀ a b, enc a = enc b → a = b) (hw : Region.wanted o (yielded ops a.tmps) = true) (it : Operand) (hop : o.op = Op.next it false) (r : Nat) (hit : a.eval it = .pointer (some ⟨r, 0, none⟩)) (h : RngG enc w mv r L T)
    (hDone : T = [] → wpList P ops Q rest (a.put o.dst (.tuple #[.bool false])) w)
    (hMore : ∀ s v T' w', T.Perm ((s, v) :: T') → RngG enc w' mv r L T' → w.grownBy w' (some r) → w'.heap.size = w.heap.size → (Instr.entry (.pointer (some ⟨r, 0, none⟩))).run P w' = .ok (.tuple #[enc s, v]) w' → wpList P ops Q rest (a.put o.dst (.tuple #[.bool true, enc s, v])) w') : wpList P ops Q (o :: rest) a w :=
  BigFrame.wpList_want hw fun K hKK => by
    unfold Oper.wp
    rcases h.next (P := P) hi o.type with ⟨h0, hrun⟩ | ⟨p, T', w', hp, hrun, hr, hg, hs, hen⟩
    · simp [execOp, hop, hit, hrun, Result.andThen]
      exact hKK _ _ (hDone h0)
    · simp [execOp, hop, hit, hrun, Result.andThen]
      exact hKK _ _ (hMore p.1 p.2 T' w' hp hr hg hs hen)
end
end
end Go.Proofs.YtjgojgmgicpgaaaGreat
