/- Single cells that are stored into a row that the call owns, and loads out of one. No condition; it serves any seat. -/
import Derived.Test.YtlomeicilgfhnaaGreatGs0
import Derived.Deep.RegionHeld3
namespace Go.Proofs.YtlomeicilgfhnaaGreat
open Go.RowKit
set_option linter.unusedSimpArgs false
set_option linter.unusedVariables false

theorem flat_set {k : Nat} : ∀ {l : List (List Value)}, (∀ x ∈ l, x.length = k) → ∀ {p j : Nat} {u : Value} (hp : p < l.length), j < k → (l.set p (l[p].set j u)).flatten = l.flatten.set (p * k + j) u
  | [], _, p, j, u, hp, _ => by simp at hp
  | y :: l, hk, 0, j, u, hp, hj => by
    have hy : y.length = k := hk y (by simp)
    simp only [List.set_cons_zero, List.flatten_cons, List.getElem_cons_zero, Nat.zero_mul, Nat.zero_add]
    rw [List.set_append_left _ _ (by omega)]
  | y :: l, hk, p + 1, j, u, hp, hj => by
    have hy : y.length = k := hk y (by simp)
    simp only [List.set_cons_succ, List.flatten_cons, List.getElem_cons_succ]
    rw [flat_set (fun z hz => hk z (by simp [hz])) (by simpa using hp) hj, List.set_append_right _ _ (by rw [hy, Nat.add_mul]; omega)]
    congr 2
    rw [hy, Nat.add_mul]; omega

section
variable {P : Program} {w : World} {base k g n c p j : Nat} {e : TypeId} {l : List (List Value)} {u : Value}
/-- A cell of such a row is stored. -/
theorem OwnK.put (h : OwnK w base e k (.slice (some ⟨g, 0, none⟩) n c) l) (hp : p < l.length) (hj : j < k) (u : Value) :
    OwnK (w.setCell ⟨g, p * k + j, none⟩ u) base e k (.slice (some ⟨g, 0, none⟩) n c) (l.set p (l[p].set j u)) ∧ (w.cell? ⟨g, p * k + j, none⟩).isSome ∧ w.frozen? ⟨g, p * k + j, none⟩ = false := by
  obtain ⟨hk, hlen, hr⟩ := h
  rcases hr with ⟨h1, _⟩ | ⟨g', cap, cur, h1, hb, hg, hn, hm, hc, ht⟩
  · cases h1
  · injection h1 with e1 e2 e3
    injection e1 with e1
    injection e1 with e1
    subst e1 e3
    have hlt : p * k + j < l.length * k := by
      have := Nat.mul_le_mul_right k (show p + 1 ≤ l.length from hp)
      rw [Nat.add_mul] at this; omega
    have hsz : p * k + j < cur.size := by rw [hc]; exact Nat.lt_of_lt_of_le hlt (Nat.mul_le_mul_right k hn)
    refine ⟨⟨fun x hx => ?_, ?_, .inr ⟨g, c, cur.setIfInBounds (p * k + j) u, by rw [List.length_set, e2], hb, heap_setCell_same w g _ cur e u hg, by rw [List.length_set]; exact hn, hm, by simpa using hc, ?_⟩⟩, ?_, ?_⟩
    · rcases List.mem_or_eq_of_mem_set hx with hx | rfl
      · exact hk x hx
      · rw [List.length_set]; exact hk _ (List.getElem_mem hp)
    · rw [flat_set hk hp hj, List.length_set, List.length_set]; exact hlen
    · rw [flat_set hk hp hj, List.length_set, Array.toList_setIfInBounds, List.take_set, ht]
    · rw [cell_of_row w g _ cur e (0, 0) hg]; simp [hsz]
    · exact Bk.free hg _
/-- A whole element of such a row is loaded: its cells lie there. -/
theorem OwnK.range (h : OwnK w base e k (.slice (some ⟨g, 0, none⟩) n c) l) (hp : p < l.length) : w.rangeAt g (p * k) l[p] := by
  obtain ⟨A, c', hv, hr, _⟩ := h.sl
  injection hv with e1
  subst e1
  obtain ⟨g', o, ha, hx⟩ := hr.at hp
  injection ha with ha
  injection ha with e1 e2
  subst e1 e2
  simpa using hx
/-- A single cell is stored into a row that the call owns. -/
theorem store_own {ops : Array Oper} {rest : List Oper} {o : Oper} {a : Act} {Q : Exit → Act → World → Prop} (hw : Region.wanted o (yielded ops a.tmps) = true) (ty : TypeId) (x y : Operand) (ho : o.op = .store ty x y)
    (off : Nat) (u : Value) (hx : a.eval x = .pointer (some ⟨g, off, none⟩)) (hy : a.eval y = u) (hown : OwnK w base e k (.slice (some ⟨g, 0, none⟩) n c) l) (p j : Nat) (hoff : off = p * k + j) (hp : p < l.length) (hj : j < k)
    (hi : (P.info? ty).map (·.size) = some 1) (h1 : u.oneCell' = true) (hu : u.cells = #[u])
    (h : ∀ w', OwnK w' base e k (.slice (some ⟨g, 0, none⟩) n c) (l.set p (l[p].set j u)) → w.grownBy w' (some g) → w'.heap.size = w.heap.size → wpList P ops Q rest (a.put o.dst undef) w') : wpList P ops Q (o :: rest) a w :=
  BigFrame.wpList_want hw fun K hKK => by
    subst hoff
    obtain ⟨q1, q2, q3⟩ := hown.put hp hj u
    have hsv : (storeVar ty ⟨g, p * k + j, none⟩ u).run P w = .ok () (w.setCell ⟨g, p * k + j, none⟩ u) := by
      cases hq : P.info? ty with
      | none => simp [hq] at hi
      | some i =>
        have hs : i.size = 1 := by simpa [hq] using hi
        obtain ⟨v, hv⟩ := Option.isSome_iff_exists.1 q2
        simp [storeVar, sizeOf, typeInfo, hq, hu, hs, storeCells]
        rw [run_store P w _ _ _ h1]
        simp [stored, hv, q3, Addr.add]
    unfold Oper.wp execOp
    simp only [ho, hx, hy, Instr.storeAt, Instr.sureAddr, Sem.run_bind, Sem.run_pure, Result.andThen_ok, hsv]
    exact hKK _ _ (h _ q1 ⟨rfl, rfl, rfl, by simp, fun i hi hne => Below.heap_setCell w _ u i (fun e => hne (by rw [e]))⟩ (by simp))
end
section
variable {P : Program}
/-- A single struct that is handed back out of a cell. -/
theorem results_bk1 {fn : Func} {p : Tmp} {ty : TypeId} (h : fn.results = #[.cell p ty]) (tmps : Array Value) (w : World) (g : Nat) (t : TypeId) (cs : Array Value) (d : TypeDesc)
    (hp : tmps.getD p undef = .pointer (some ⟨g, 0, none⟩)) (hg : Bk w g t cs) (hu : P.underlying ty = some d) (hd : d.isRow = true) (hi : (P.info? ty).map (·.size) = some cs.size) :
    (results fn tmps).run P w = .ok (.agg cs) w := by
  have hp' : tmps[p]?.getD undef = .pointer (some ⟨g, 0, none⟩) := by simpa using hp
  simp [results, h, hp', asAddr, loadVar_bk hg hu hd hi]
end
/-- A row of another type stays where a row turns. -/
theorem OwnK.beside {w w' : World} {b b' k k' g : Nat} {e e' : TypeId} {v v' : Value} {l l' : List (List Value)} (h : OwnK w b e k v l) (h' : OwnK w b' e' k' v' l') (hne : e ≠ e') (hv : v'.ownBlock = some g) (hg : w.grownBy w' (some g)) : OwnK w' b e k v l :=
  h.grp (GrP.of hg) fun i hi e => by injection e with e; subst e; exact h.parted h' hne hi hv
theorem LbNew.beside {w w' : World} {b b' n cp k' g : Nat} {A : Option Addr} {l : List Lb} {e' : TypeId} {v' : Value} {l' : List (List Value)} (h : LbNew w b A n cp l) (h' : OwnK w b' e' k' v' l') (hne : 70 ≠ e') (hv : v'.ownBlock = some g) (hg : w.grownBy w' (some g)) : LbNew w' b A n cp l := ⟨h.own.beside h' hne hv hg, h.sz⟩
/-- Labels lie in no row of another type. -/
theorem LbNew.off {w : World} {b b' n cp k' g : Nat} {A : Option Addr} {l : List Lb} {e' : TypeId} {v' : Value} {l' : List (List Value)} (h : LbNew w b A n cp l) (h' : OwnK w b' e' k' v' l') (hne : 70 ≠ e') (hg : blkA A g) (hv : v'.ownBlock = some g) : False := by
  obtain ⟨a, rfl, rfl⟩ := hg
  exact h.own.parted h' hne rfl hv
/-- A row stays where a cell of an elder block is stored. -/
theorem OwnK.far {w : World} {b k : Nat} {e : TypeId} {v : Value} {l : List (List Value)} (h : OwnK w b e k v l) {p : Addr} (hp : p.block < b) (u : Value) : OwnK (w.setCell p u) b e k v l :=
  h.grp (p := fun k => k = p.block) ⟨rfl, rfl, rfl, by simp, fun k _ hn => Below.heap_setCell w p u k hn⟩ fun i hi e => by have := h.block i hi; omega
theorem Bk.set {w : World} {g : Nat} {t : TypeId} {cs : Array Value} (h : Bk w g t cs) {p : Addr} (hp : g ≠ p.block) (u : Value) : Bk (w.setCell p u) g t cs := h.other hp u
end Go.Proofs.YtlomeicilgfhnaaGreat
