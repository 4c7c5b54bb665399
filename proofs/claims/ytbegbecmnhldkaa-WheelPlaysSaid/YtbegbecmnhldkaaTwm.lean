/- Maps keyed by strings: an entry that has been ranged over is struck while the range goes on. No condition; it serves any seat. -/
import Derived.Test.YtbegbecmnhldkaaMpl
namespace Go.Proofs.Ytbegbecmnhldkaa
open Go.RowKit
open Go.ChangeMaps (setBlock)
set_option linter.unusedSimpArgs false
set_option linter.unusedVariables false
section
variable {P : Program} {w w' : World} {b : Nat} {m : Value} {L T : Ents} {r : Nat}
theorem left_erase {es : Array MapEntry} {seen : Array Nat} {j : Nat} (hj : j < es.size) (hs : seen.contains es[j].born = true) : (leftOf (es.eraseIdxIfInBounds j) seen).toList = (leftOf es seen).toList := by
  unfold leftOf
  rw [Array.toList_filter, Array.toList_filter]
  have hsub : (es.eraseIdxIfInBounds j).toList = es.toList.eraseIdx j := by
    unfold Array.eraseIdxIfInBounds
    rw [dif_pos hj]
    simp
  rw [hsub]
  have hl : j < es.toList.length := by simpa using hj
  have h0 : es.toList = es.toList.take j ++ es.toList[j] :: es.toList.drop (j + 1) := by rw [List.getElem_cons_drop, List.take_append_drop]
  have h1 : es.toList.eraseIdx j = es.toList.take j ++ es.toList.drop (j + 1) := List.eraseIdx_eq_take_drop_succ _ _
  rw [h1]
  conv => rhs; rw [h0]
  rw [List.filter_append, List.filter_append, List.filter_cons, if_neg]
  simpa using hs
/-- The range goes on behind the strike of what it has passed. -/
theorem Rng.del (h : Rng w m r L T) {t k e : TypeId} (ht : P.underlying t = some (.map k e)) (hk : P.underlying k = some .string) (s : ByteArray) (hs : ∀ p ∈ T, p.1 ≠ s) (ty : TypeId) :
    ∃ w', (Builtin.delete_ #[t, k] ty #[m, .string s]).run P w = .ok (.tuple #[]) w' ∧ Rng w' m r (delL L s) T ∧ MapV w' m (delL L s) ∧ w.grownBy w' (mapBlock m) ∧ w'.heap.size = w.heap.size := by
  rcases h with ⟨rfl, rfl, rfl, hr⟩ | ⟨b, es, clock, since, seen, c0, rfl, hb, h1, h2, hr, hold, hT, hsc, hsk⟩
  · exact ⟨w, by simp [Builtin.delete_, run_underlying ht, run_checkKey hk, Result.andThen], .inl ⟨rfl, rfl, rfl, hr⟩, .inl ⟨rfl, rfl⟩, ⟨rfl, rfl, rfl, Nat.le_refl _, fun _ _ _ => rfl⟩, rfl⟩
  · have hM : MapL w b L := ⟨es, clock, hb, h1, h2⟩
    have hnd := hM.nodup
    have hne : r ≠ b := fun e => by rw [e, hb] at hr; cases hr
    have h3 := run_findKey (P := P) hk w s es.toList (strK_of h2)
    have h4 := hit_get s es.toList L 0 h2
    have hgr : ∀ o, w.grownBy (setBlock w b o) (mapBlock (.map (some b))) := fun o => ⟨rfl, rfl, rfl, by simp [setBlock], fun i _ hi => ChangeMaps.heap_setBlock_other hb _ (fun e => hi (by rw [e]; rfl))⟩
    have hr2 : ∀ o, (setBlock w b o).heap[r]? = some (.mapIter (some b) since seen c0) := fun o => (ChangeMaps.heap_setBlock_other hb o hne).trans hr
    cases hh : hitS s es.toList 0 with
    | none =>
      have e0 : delL L s = L := delL_none (getL_none.1 (by rw [← h4, hh]; rfl))
      have hset := ChangeMaps.heap_setBlock_same hb (.map es clock)
      refine ⟨setBlock w b (.map es clock), ?_, .inr ⟨b, es, clock, since, seen, c0, rfl, hset, h1, by rw [e0]; exact h2, hr2 _, hold, hT, hsc, hsk⟩, .inr ⟨b, rfl, es, clock, hset, h1, by rw [e0]; exact h2⟩, hgr _, by simp [setBlock]⟩
      simp [Builtin.delete_, run_underlying ht, MapKept.run_getObj_map hb, run_checkKey hk, h3, hh, MapKept.run_setObj_map _ hb, Result.andThen, setBlock]
    | some x =>
      obtain ⟨j, u⟩ := x
      obtain ⟨q, e, hj, he, hek, hev⟩ := hitS_some hh
      rw [Nat.zero_add] at hj
      subst hj
      have hjs : j < es.size := by have := (List.getElem?_eq_some_iff.1 he).1; simpa using this
      have hsub : (es.eraseIdxIfInBounds j).toList = es.toList.eraseIdx j := by
        unfold Array.eraseIdxIfInBounds
        rw [dif_pos hjs]
        simp
      have hLj : (L[j]?).map Prod.fst = some s := by
        have h5 : (es.toList.map kvE)[j]? = (L.map kvP)[j]? := by rw [h2]
        rw [List.getElem?_map, List.getElem?_map, he] at h5
        cases hq : L[j]? with
        | none => rw [hq] at h5; cases h5
        | some p =>
          rw [hq] at h5
          simp only [Option.map_some, Option.some.injEq] at h5
          have h6 : e.key = .string p.1 := congrArg Prod.fst h5
          rw [hek] at h6
          injection h6 with h6
          simp [h6]
      have h7 : (es.eraseIdxIfInBounds j).toList.map kvE = (delL L s).map kvP := by rw [hsub, ChangeMaps.map_eraseIdx, h2, ← ChangeMaps.map_eraseIdx, eraseIdx_del L j s hnd hLj]
      have hej : es[j] = e := by
        have := (List.getElem?_eq_some_iff.1 he).2
        simpa using this
      have hseen : seen.contains es[j].born = true := by
        cases hc : seen.contains es[j].born with
        | true => rfl
        | false =>
          have hmem : e ∈ (leftOf es seen).toList := by
            unfold leftOf
            rw [Array.toList_filter, List.mem_filter]
            exact ⟨List.mem_of_getElem? he, by rw [← hej, hc]; rfl⟩
          have : kvE e ∈ T.map kvP := by rw [← hT]; exact List.mem_map.2 ⟨e, hmem, rfl⟩
          obtain ⟨p, hp, hpe⟩ := List.mem_map.1 this
          have h8 : Value.string p.1 = e.key := congrArg Prod.fst hpe
          rw [hek] at h8
          injection h8 with h8
          exact absurd h8 (hs p hp)
      have hset := ChangeMaps.heap_setBlock_same hb (.map (es.eraseIdxIfInBounds j) clock)
      have hst := MapKept.stamped_erase h1 j
      refine ⟨setBlock w b (.map (es.eraseIdxIfInBounds j) clock), ?_, .inr ⟨b, _, clock, since, seen, c0, rfl, hset, hst, h7, hr2 _, fun x hx => hold x ?_, by rw [left_erase hjs hseen]; exact hT, hsc, hsk⟩, .inr ⟨b, rfl, _, clock, hset, hst, h7⟩, hgr _, by simp [setBlock]⟩
      · simp [Builtin.delete_, run_underlying ht, MapKept.run_getObj_map hb, run_checkKey hk, h3, hh, MapKept.run_setObj_map _ hb, Result.andThen, setBlock]
      · rw [hsub] at hx
        exact (List.eraseIdx_sublist _ _).mem hx
end
section
variable {P : Program} {w : World} {ops : Array Oper} {rest : List Oper} {o : Oper} {a : Act} {K : Act → World → Prop} {Q : Exit → Act → World → Prop} {L T : Ents}
/-- 'delete(m, s)' at the operation, while m is ranged over. -/
theorem delete_r (hw : Region.wanted o (yielded ops a.tmps) = true) (m x : Operand) (t k : TypeId) (hop : o.op = Op.call { callee := Callee.builtin Builtin.delete, args := #[m, x], argTypes := #[t, k] }) (e : TypeId) (ht : P.underlying t = some (.map k e)) (hk : P.underlying k = some .string)
    (mv : Value) (hm : a.eval m = mv) (r : Nat) (h : Rng w mv r L T) (s : ByteArray) (hs : ∀ p ∈ T, p.1 ≠ s) (hx : a.eval x = .string s) (hd : o.dst = none)
    (hK : ∀ w', Rng w' mv r (delL L s) T → MapV w' mv (delL L s) → w.grownBy w' (mapBlock mv) → w'.heap.size = w.heap.size → wpList P ops Q rest a w') : wpList P ops Q (o :: rest) a w :=
  BigFrame.wpList_want hw fun K hKK => by
    obtain ⟨w', hrun, r1, r2, r3, r4⟩ := h.del ht hk s hs o.type
    unfold Oper.wp
    simp [execOp, hop, resolve, invoke, builtin, hm, hx, hrun, Result.andThen, hd, Act.put]
    exact hKK _ _ (by rw [hd]; exact hK w' r1 r2 r3 r4)
/-- 'm[s] = v' at the operation, where s is new; the operation has no result. -/
theorem store_t (hw : Region.wanted o (yielded ops a.tmps) = true) (m x v : Operand) (t : TypeId) (hop : o.op = Op.mapUpdate t m x v) (k e : TypeId) (ht : P.underlying t = some (.map k e)) (hk : P.underlying k = some .string)
    (b : Nat) (hm : a.eval m = .map (some b)) (h : MapL w b L) (s : ByteArray) (hx : a.eval x = .string s) (hs : getL L s = none) (val : Value) (hv : a.eval v = val) (hd : o.dst = none)
    (hK : ∀ w', MapL w' b (L ++ [(s, val)]) → w.grownBy w' (some b) → w'.heap.size = w.heap.size → wpList P ops Q rest a w') : wpList P ops Q (o :: rest) a w :=
  store_l hw m x v t hop k e ht hk b hm h s hx hs val hv fun w' h1 h2 h3 => by
    have : a.put o.dst undef = a := by rw [hd]; rfl
    rw [this]; exact hK w' h1 h2 h3
theorem delete_r_op (m x : Operand) (t k : TypeId) (hop : o.op = Op.call { callee := Callee.builtin Builtin.delete, args := #[m, x], argTypes := #[t, k] }) (e : TypeId) (ht : P.underlying t = some (.map k e)) (hk : P.underlying k = some .string)
    (mv : Value) (hm : a.eval m = mv) (r : Nat) (h : Rng w mv r L T) (s : ByteArray) (hs : ∀ p ∈ T, p.1 ≠ s) (hx : a.eval x = .string s)
    (hK : ∀ w', Rng w' mv r (delL L s) T → MapV w' mv (delL L s) → w.grownBy w' (mapBlock mv) → w'.heap.size = w.heap.size → K (a.put o.dst (.tuple #[])) w') : o.wp P a w K Q := by
  obtain ⟨w', hrun, r1, r2, r3, r4⟩ := h.del ht hk s hs o.type
  unfold Oper.wp
  simp [execOp, hop, resolve, invoke, builtin, hm, hx, hrun, Result.andThen]
  exact hK w' r1 r2 r3 r4
end
end Go.Proofs.Ytbegbecmnhldkaa
