/- Rows and worlds, for any seat: a world that grew but for some blocks; a row that is known whole; single cells, whole elements stored into a row; copies, clears. (Put together out of texts of layer 15.) No condition. -/
import Derived.Test.YtbegbecmnhldkaaRko
import Derived.Test.YtbegbecmnhldkaaOmp
import Derived.Test.YtbegbecmnhldkaaRge
import Derived.Deep.RegionHeld3
import Derived.Laws.CopyRow
import Derived.Lib.AppendZerosOnto
import Derived.Lib.Overlaps
namespace Go.Proofs.Ytbegbecmnhldkaa
open Go.RowKit
set_option linter.unusedSimpArgs false
set_option linter.unusedVariables false

/-- The world grew but for blocks that meet p. -/
structure GrP (p : Nat → Prop) (w w' : World) : Prop where
  os : w'.os = w.os
  tape : w'.tape = w.tape
  output : w'.output = w.output
  size : w.heap.size ≤ w'.heap.size
  block : ∀ k, k < w.heap.size → ¬ p k → w'.heap[k]? = w.heap[k]?
theorem GrP.refl (p : Nat → Prop) (w : World) : GrP p w w := ⟨rfl, rfl, rfl, Nat.le_refl _, fun _ _ _ => rfl⟩
theorem GrP.trans {p : Nat → Prop} {a b c : World} (h : GrP p a b) (k : GrP p b c) : GrP p a c :=
  ⟨k.os.trans h.os, k.tape.trans h.tape, k.output.trans h.output, Nat.le_trans h.size k.size, fun i hi hn => (k.block i (Nat.lt_of_lt_of_le hi h.size) hn).trans (h.block i hi hn)⟩
theorem GrP.wide {p q : Nat → Prop} {w w' : World} (h : GrP p w w') (hs : ∀ k, k < w.heap.size → p k → q k) : GrP q w w' := ⟨h.os, h.tape, h.output, h.size, fun k hk hn => h.block k hk (fun e => hn (hs k hk e))⟩
theorem GrP.ofBelow {p : Nat → Prop} {w w' : World} (h : Below w.heap.size w w') : GrP p w w' := ⟨h.os, h.tape, h.output, h.size, fun k hk _ => h.block k hk⟩
theorem GrP.of {w w' : World} {row : Option Nat} (h : w.grownBy w' row) : GrP (fun k => row = some k) w w' := ⟨h.os, h.tape, h.output, h.size, fun k hk hn => h.block k hk (fun e => hn e.symm)⟩
theorem GrP.below {p : Nat → Prop} {w w' : World} {B : Nat} (h : GrP p w w') (hB : B ≤ w.heap.size) (hp : ∀ k, p k → B ≤ k) : Below B w w' :=
  ⟨h.os, h.tape, h.output, h.size, fun k hk => h.block k (by omega) (fun e => by have := hp k e; omega)⟩
theorem GrP.cell {p : Nat → Prop} {w w' : World} (h : GrP p w w') {b o : Nat} (hb : b < w.heap.size) (hn : ¬ p b) : w'.cell? ⟨b, o, none⟩ = w.cell? ⟨b, o, none⟩ := World.cell?_of_block (w := w) (h.block b hb hn)
theorem GrP.set {p : Nat → Prop} {w w' : World} (h : GrP p w w') {a : Addr} (ha : p a.block) (u : Value) : GrP p w (w'.setCell a u) :=
  ⟨h.os, h.tape, h.output, by simpa using h.size, fun k hk hn => (Below.heap_setCell w' a u k (fun e => hn (by rw [e]; exact ha))).trans (h.block k hk hn)⟩
theorem Bk.grp {w w' : World} {g : Nat} {t : TypeId} {cs : Array Value} {p : Nat → Prop} (h : Bk w g t cs) (hb : GrP p w w') (hg : ¬ p g) : Bk w' g t cs := (hb.block g h.here hg).trans h

/-- A row stays where only other blocks turn. -/
theorem OwnK.grp {w w' : World} {b k : Nat} {e : TypeId} {v : Value} {l : List (List Value)} {p : Nat → Prop} (h : OwnK w b e k v l) (hg : GrP p w w') (hp : ∀ g, v.ownBlock = some g → ¬ p g) : OwnK w' b e k v l := by
  obtain ⟨hk, hl, h⟩ := h
  refine ⟨hk, hl, ?_⟩
  rcases h with h | ⟨g, cap, cur, rfl, h1, h2, h3⟩
  · exact .inl h
  · exact .inr ⟨g, cap, cur, rfl, h1, (hg.block g (by
      by_cases hh : g < w.heap.size
      · exact hh
      · rw [Array.getElem?_eq_none_iff.2 (by omega)] at h2; cases h2) (hp g rfl)).trans h2, h3⟩
/-- Rows of two types lie in two blocks. -/
theorem OwnK.parted {w : World} {b b' k k' g : Nat} {e e' : TypeId} {v v' : Value} {l l' : List (List Value)} (h : OwnK w b e k v l) (h' : OwnK w b' e' k' v' l') (hne : e ≠ e') (hg : v.ownBlock = some g) (hg' : v'.ownBlock = some g) : False := by
  rcases h.2.2 with ⟨rfl, _⟩ | ⟨g1, cap, cur, rfl, _, h2, _⟩
  · cases hg
  · rcases h'.2.2 with ⟨rfl, _⟩ | ⟨g2, cap', cur', rfl, _, h2', _⟩
    · cases hg'
    · have e1 : g1 = g := by injection hg
      have e2 : g2 = g := by injection hg'
      subst e1
      subst e2
      have := h2.symm.trans h2'
      injection this with this
      injection this with _ this
      exact hne this

theorem flat_set {k : Nat} : ∀ {l : List (List Value)}, (∀ x ∈ l, x.length = k) → ∀ {p j : Nat} {u : Value} (hp : p < l.length), j < k → (l.set p (l[p].set j u)).flatten = l.flatten.set (p * k + j) u
  | [], _, p, j, u, hp, _ => by simp at hp
  | y :: l, hk, 0, j, u, hp, hj => by
    have hy : y.length = k := hk y (by simp)
    simp only [List.set_cons_zero, List.flatten_cons, List.getElem_cons_zero, Nat.zero_mul, Nat.zero_add]
    rw [List.set_append_left _ _ (by omega)]
  | y :: l, hk, p + 1, j, u, hp, hj => by
    have hy : y.length = k := hk y (by simp)
    simp only [List.set_cons_succ, List.flatten_cons, List.getElem_cons_succ]
    rw [flat_set (fun z hz => hk z (by simp [hz])) (by simpa using hp) hj, List.set_append_right _ _ (by rw [hy, Nat.add_mul]; omega)]
    congr 2
    rw [hy, Nat.add_mul]; omega

section
variable {P : Program} {w : World} {base k g n c p j : Nat} {e : TypeId} {l : List (List Value)} {u : Value}
/-- A cell of such a row is stored. -/
theorem OwnK.put (h : OwnK w base e k (.slice (some ⟨g, 0, none⟩) n c) l) (hp : p < l.length) (hj : j < k) (u : Value) :
    OwnK (w.setCell ⟨g, p * k + j, none⟩ u) base e k (.slice (some ⟨g, 0, none⟩) n c) (l.set p (l[p].set j u)) ∧ (w.cell? ⟨g, p * k + j, none⟩).isSome ∧ w.frozen? ⟨g, p * k + j, none⟩ = false := by
  obtain ⟨hk, hlen, hr⟩ := h
  rcases hr with ⟨h1, _⟩ | ⟨g', cap, cur, h1, hb, hg, hn, hm, hc, ht⟩
  · cases h1
  · injection h1 with e1 e2 e3
    injection e1 with e1
    injection e1 with e1
    subst e1 e3
    have hlt : p * k + j < l.length * k := by
      have := Nat.mul_le_mul_right k (show p + 1 ≤ l.length from hp)
      rw [Nat.add_mul] at this; omega
    have hsz : p * k + j < cur.size := by rw [hc]; exact Nat.lt_of_lt_of_le hlt (Nat.mul_le_mul_right k hn)
    refine ⟨⟨fun x hx => ?_, ?_, .inr ⟨g, c, cur.setIfInBounds (p * k + j) u, by rw [List.length_set, e2], hb, heap_setCell_same w g _ cur e u hg, by rw [List.length_set]; exact hn, hm, by simpa using hc, ?_⟩⟩, ?_, ?_⟩
    · rcases List.mem_or_eq_of_mem_set hx with hx | rfl
      · exact hk x hx
      · rw [List.length_set]; exact hk _ (List.getElem_mem hp)
    · rw [flat_set hk hp hj, List.length_set, List.length_set]; exact hlen
    · rw [flat_set hk hp hj, List.length_set, Array.toList_setIfInBounds, List.take_set, ht]
    · rw [cell_of_row w g _ cur e (0, 0) hg]; simp [hsz]
    · exact Bk.free hg _
/-- A whole element of such a row is loaded: its cells lie there. -/
theorem OwnK.range (h : OwnK w base e k (.slice (some ⟨g, 0, none⟩) n c) l) (hp : p < l.length) : w.rangeAt g (p * k) l[p] := by
  obtain ⟨A, c', hv, hr, _⟩ := h.sl
  injection hv with e1
  subst e1
  obtain ⟨g', o, ha, hx⟩ := hr.at hp
  injection ha with ha
  injection ha with e1 e2
  subst e1 e2
  simpa using hx
/-- A single cell is stored into a row that the call owns. -/
theorem store_own {ops : Array Oper} {rest : List Oper} {o : Oper} {a : Act} {Q : Exit → Act → World → Prop} (hw : Region.wanted o (yielded ops a.tmps) = true) (ty : TypeId) (x y : Operand) (ho : o.op = .store ty x y)
    (off : Nat) (u : Value) (hx : a.eval x = .pointer (some ⟨g, off, none⟩)) (hy : a.eval y = u) (hown : OwnK w base e k (.slice (some ⟨g, 0, none⟩) n c) l) (p j : Nat) (hoff : off = p * k + j) (hp : p < l.length) (hj : j < k)
    (hi : (P.info? ty).map (·.size) = some 1) (h1 : u.oneCell' = true) (hu : u.cells = #[u])
    (h : ∀ w', OwnK w' base e k (.slice (some ⟨g, 0, none⟩) n c) (l.set p (l[p].set j u)) → w.grownBy w' (some g) → w'.heap.size = w.heap.size → wpList P ops Q rest (a.put o.dst undef) w') : wpList P ops Q (o :: rest) a w :=
  BigFrame.wpList_want hw fun K hKK => by
    subst hoff
    obtain ⟨q1, q2, q3⟩ := hown.put hp hj u
    have hsv : (storeVar ty ⟨g, p * k + j, none⟩ u).run P w = .ok () (w.setCell ⟨g, p * k + j, none⟩ u) := by
      cases hq : P.info? ty with
      | none => simp [hq] at hi
      | some i =>
        have hs : i.size = 1 := by simpa [hq] using hi
        obtain ⟨v, hv⟩ := Option.isSome_iff_exists.1 q2
        simp [storeVar, sizeOf, typeInfo, hq, hu, hs, storeCells]
        rw [run_store P w _ _ _ h1]
        simp [stored, hv, q3, Addr.add]
    unfold Oper.wp execOp
    simp only [ho, hx, hy, Instr.storeAt, Instr.sureAddr, Sem.run_bind, Sem.run_pure, Result.andThen_ok, hsv]
    exact hKK _ _ (h _ q1 ⟨rfl, rfl, rfl, by simp, fun i hi hne => Below.heap_setCell w _ u i (fun e => hne (by rw [e]))⟩ (by simp))
end
section
variable {P : Program}
/-- A single struct that is handed back out of a cell. -/
theorem results_bk1 {fn : Func} {p : Tmp} {ty : TypeId} (h : fn.results = #[.cell p ty]) (tmps : Array Value) (w : World) (g : Nat) (t : TypeId) (cs : Array Value) (d : TypeDesc)
    (hp : tmps.getD p undef = .pointer (some ⟨g, 0, none⟩)) (hg : Bk w g t cs) (hu : P.underlying ty = some d) (hd : d.isRow = true) (hi : (P.info? ty).map (·.size) = some cs.size) :
    (results fn tmps).run P w = .ok (.agg cs) w := by
  have hp' : tmps[p]?.getD undef = .pointer (some ⟨g, 0, none⟩) := by simpa using hp
  simp [results, h, hp', asAddr, loadVar_bk hg hu hd hi]
end

/-- A row whose elements are known, the spare ones too. -/
structure RowK (w : World) (g : Nat) (e : TypeId) (k : Nat) (L : List (List Value)) : Prop where
  row : w.heap[g]? = some (.cells L.flatten.toArray e (0, 0))
  each : ∀ x ∈ L, x.length = k

theorem chunks (k : Nat) : ∀ (m : Nat) (l : List Value), l.length = m * k → ∃ S : List (List Value), S.length = m ∧ S.flatten = l ∧ ∀ x ∈ S, x.length = k
  | 0, l, h => by
    have : l = [] := List.length_eq_zero_iff.1 (by simpa using h)
    subst this
    exact ⟨[], rfl, rfl, by simp⟩
  | m + 1, l, h => by
    rw [Nat.add_mul, Nat.one_mul] at h
    obtain ⟨S, h1, h2, h3⟩ := chunks k m (l.drop k) (by rw [List.length_drop]; omega)
    refine ⟨l.take k :: S, by simp [h1], by rw [List.flatten_cons, h2, List.take_append_drop], fun x hx => ?_⟩
    rcases List.mem_cons.1 hx with rfl | hx
    · rw [List.length_take]; omega
    · exact h3 x hx
theorem flat_take {k : Nat} : ∀ {L : List (List Value)}, (∀ x ∈ L, x.length = k) → ∀ n, (L.take n).flatten = L.flatten.take (n * k)
  | [], _, n => by simp
  | x :: L, h, 0 => by simp
  | x :: L, h, n + 1 => by
    have hx : x.length = k := h x (by simp)
    have ht : x.take ((n + 1) * k) = x := List.take_of_length_le (by rw [hx, Nat.add_mul]; omega)
    rw [List.take_succ_cons, List.flatten_cons, List.flatten_cons, flat_take (fun y hy => h y (by simp [hy])) n, List.take_append, ht, hx, show (n + 1) * k - k = n * k by rw [Nat.add_mul]; omega]
theorem flat_drop {k : Nat} : ∀ {L : List (List Value)}, (∀ x ∈ L, x.length = k) → ∀ n, (L.drop n).flatten = L.flatten.drop (n * k)
  | [], _, n => by simp
  | x :: L, h, 0 => by simp
  | x :: L, h, n + 1 => by
    have hx : x.length = k := h x (by simp)
    have ht : x.drop ((n + 1) * k) = [] := List.drop_of_length_le (by rw [hx, Nat.add_mul]; omega)
    rw [List.drop_succ_cons, List.flatten_cons, flat_drop (fun y hy => h y (by simp [hy])) n, List.drop_append, ht, List.nil_append, hx, show (n + 1) * k - k = n * k by rw [Nat.add_mul]; omega]

section
variable {w w' : World} {g k base n c : Nat} {e : TypeId} {l L : List (List Value)}
theorem OwnK.whole (h : OwnK w base e k (.slice (some ⟨g, 0, none⟩) n c) l) : ∃ S : List (List Value), RowK w g e k (l ++ S) ∧ l.length + S.length = c ∧ n = l.length ∧ c ≤ maxLen ∧ base ≤ g := by
  obtain ⟨hk, hlen, hr⟩ := h
  rcases hr with ⟨h1, _⟩ | ⟨g', cap, cur, h1, hb, hg, hn, hm, hc, ht⟩
  · cases h1
  · injection h1 with e1 e2 e3
    injection e1 with e1
    injection e1 with e1
    subst e1 e3
    obtain ⟨S, s1, s2, s3⟩ := chunks k (c - l.length) (cur.toList.drop (l.length * k)) (by rw [List.length_drop, Array.length_toList, hc, Nat.sub_mul])
    refine ⟨S, ⟨?_, fun x hx => (List.mem_append.1 hx).elim (hk x) (s3 x)⟩, by omega, e2, hm, hb⟩
    rw [List.flatten_append, s2, ← ht, List.take_append_drop, Array.toArray_toList]
    exact hg
theorem RowK.own (h : RowK w g e k L) (hb : base ≤ g) (hc : L.length = c) (hm : c ≤ maxLen) (hn : n ≤ c) : OwnK w base e k (.slice (some ⟨g, 0, none⟩) n c) (L.take n) := by
  have hl : (L.take n).length = n := by rw [List.length_take]; omega
  refine ⟨fun x hx => h.each x (List.mem_of_mem_take hx), by rw [hl, flat_length (fun x hx => h.each x (List.mem_of_mem_take hx)), hl], .inr ⟨g, c, L.flatten.toArray, by rw [hl], hb, h.row, by rw [hl]; exact hn, hm, ?_, ?_⟩⟩
  · rw [List.size_toArray, flat_length h.each, hc]
  · rw [hl, flat_take h.each]
theorem RowK.cell (h : RowK w g e k L) {i j : Nat} {x : List Value} {u : Value} (hx : L[i]? = some x) (hu : x[j]? = some u) : w.cell? ⟨g, i * k + j, none⟩ = some u := by
  rw [cell_of_row w g _ _ e (0, 0) h.row]
  simpa using flat_get h.each hx hu
/-- A part of such a row reads, from its own place on. -/
theorem RowK.part (h : RowK w g e k L) (o m : Nat) : ∀ j u, ((L.drop o).take m).flatten[j]? = some u → w.cell? ((⟨g, o * k, none⟩ : Addr).add j) = some u := fun j u hu => by
  rw [flat_take (fun x hx => h.each x (List.mem_of_mem_drop hx)), flat_drop h.each, List.getElem?_take] at hu
  split at hu
  · rw [List.getElem?_drop] at hu
    rw [Addr.add_lit, cell_of_row w g _ _ e (0, 0) h.row]
    simpa using hu
  · cases hu
theorem RowK.kept (h : RowK w g e k L) {p : Nat → Prop} (hg : GrP p w w') (hp : ¬ p g) : RowK w' g e k L :=
  ⟨(hg.block g (Array.getElem?_eq_some_iff.1 h.row).1 hp).trans h.row, h.each⟩
end

theorem RowK.drew {w : World} {g k : Nat} {e : TypeId} {L : List (List Value)} (h : RowK w g e k L) : RowK w.drew g e k L := ⟨h.row, h.each⟩
theorem drew_grown {w w' : World} {row : Option Nat} (h : w.drew.grownBy w' row) : w.grownBy w' row := ⟨h.os, h.tape, h.output, h.size, h.block⟩
theorem grown_setRow (w : World) (g : Nat) (cs : Array Value) : w.grownBy (w.setRow g cs) (some g) :=
  ⟨rfl, rfl, rfl, by simp, fun i _ hne => setRow_other w g i cs (fun e => hne (by rw [e]))⟩

section
variable {P : Program}
/-- Elements go over into such a row. -/
theorem run_copy_k (w : World) (dT sT ty e : TypeId) (k : Nat) (hu : P.underlying dT = some (.slice e)) (hs : (P.info? e).map (·.size) = some k)
    (g d dLen dCap : Nat) (L : List (List Value)) (hr : RowK w g e k L) (a : Addr) (sLen sCap : Nat) (X : List (List Value)) (hX : ∀ x ∈ X, x.length = k) (h1 : ∀ x ∈ X, ∀ u ∈ x, u.oneCell' = true)
    (hn : X.length = Nat.min sLen dLen) (hsrc : ∀ j u, X.flatten[j]? = some u → w.cell? (a.add j) = some u) (hfit : d + X.length ≤ L.length) :
    ∃ w', (Builtin.copy_ #[dT, sT] ty #[.slice (some ⟨g, d * k, none⟩) dLen dCap, .slice (some a) sLen sCap]).run P w = .ok (goInt X.length) w' ∧ RowK w' g e k (L.take d ++ X ++ L.drop (d + X.length)) ∧ w.grownBy w' (some g) ∧ w'.heap.size = w.heap.size := by
  have hXl : X.flatten.length = X.length * k := flat_length hX
  have hLl : L.flatten.length = L.length * k := flat_length hr.each
  have hle : d * k + X.flatten.length ≤ L.flatten.toArray.size := by
    rw [List.size_toArray, hXl, hLl, ← Nat.add_mul]
    exact Nat.mul_le_mul_right k hfit
  have hl := run_loadCells_list (P := P) w a X.flatten hsrc
  have hst := run_storeCells_at P g (d * k) e X.flatten 0 L.flatten.toArray w hr.row (by simpa using hle) (fun u hu' => by
    obtain ⟨y, hy, hu''⟩ := List.mem_flatten.1 hu'
    exact h1 y hy u hu'')
  refine ⟨w.setRow g (L.flatten.take (d * k) ++ X.flatten ++ L.flatten.drop (d * k + X.flatten.length)).toArray, ?_, ⟨?_, ?_⟩, grown_setRow _ _ _, by simp⟩
  · cases hq : P.info? e with
    | none => simp [hq] at hs
    | some i =>
      have hi : i.size = k := by simpa [hq] using hs
      rw [hXl] at hl hst
      simp only [Nat.add_zero] at hst
      simp [Builtin.copy_, run_underlying hu, Builtin.lenOf, Builtin.firstCells, sizeOf, typeInfo, hq, hi, ← hn, hl, hst, hXl]
  · rw [setRow_heap w g _ _ e (0, 0) hr.row]
    congr 3
    rw [List.flatten_append, List.flatten_append, flat_take hr.each, flat_drop hr.each, Nat.add_mul, hXl]
  · intro x hx
    rcases List.mem_append.1 hx with hx | hx
    · rcases List.mem_append.1 hx with hx | hx
      · exact hr.each x (List.mem_of_mem_take hx)
      · exact hX x hx
    · exact hr.each x (List.mem_of_mem_drop hx)
/-- Room is made behind elements that read anywhere: a new row. -/
theorem run_made_k (w : World) (t tn ty e : TypeId) (z : Value) (k b : Nat) (kn kq : IntKind) (ht : P.underlying t = some (.slice e)) (htn : P.underlying tn = some (.int kn)) (h2 : (P.info? e).map (fun i => (i.zero, i.size, i.bytes)) = some (some z, k, b)) (hz : z.cells.size = k) (hk : 0 < k)
    (a : Addr) (n c m : Nat) (l : List (List Value)) (hl : ∀ x ∈ l, x.length = k) (hn : n = l.length) (hsrc : ∀ j u, l.flatten[j]? = some u → w.cell? (a.add j) = some u)
    (h0 : 0 < m) (hroom : c < n + m) (hmax : n + m ≤ maxLen) (hbig : (n + m) * b ≤ 140737488355328) :
    ∃ w' G S, (Builtin.append_ #[t, tn] ty #[.slice (some a) n c, .int kq (m : Int)]).run P w = .ok (.slice (some ⟨w.heap.size, 0, none⟩) (n + m) G) w' ∧ RowK w' w.heap.size e k (l ++ S) ∧ n + S.length = G ∧ n + m ≤ G ∧ G ≤ maxLen ∧ w.grownBy w' none ∧ w'.heap.size = w.heap.size + 1 := by
  obtain ⟨i, hi, hiz, his, hib⟩ := info_partsK h2
  subst his hib
  have hold : (Builtin.firstCells i.size n (.slice (some a) n c)).run P w.drew = .ok l.flatten.toArray w.drew :=
    run_firstCells_some w.drew i.size n a n c l.flatten (by rw [flat_length hl, hn]) (fun j u hj => hsrc j u hj)
  have hrun := Lib.run_append_grow_zeros w t tn ty e i z kq kn ht htn hi hiz (some a) n c l.flatten hold m h0 hk hroom (by unfold maxLen at hmax; omega)
    (Nat.le_trans (Nat.mul_le_mul_right _ (Nat.le_add_left m n)) (by omega)) (growslice_fits hroom hbig)
  have hge := grownCap_ge w (n + m) c e
  have hle := grownCap_le_maxLen w (n + m) c e hmax
  obtain ⟨S, s1, s2, s3⟩ := chunks i.size (grownCap w (n + m) c e - n) (Builtin.zeroCells z.cells m ++ Builtin.zeroCells z.cells (grownCap w (n + m) c e - (n + m))).toList (by
    rw [Array.toList_append, List.length_append, Array.length_toList, Array.length_toList, size_zeroCells, size_zeroCells, hz, ← Nat.add_mul]
    congr 1; omega)
  refine ⟨_, grownCap w (n + m) c e, S, hrun, ⟨?_, fun x hx => (List.mem_append.1 hx).elim (hl x) (s3 x)⟩, by omega, hge, hle, ?_, by simp⟩
  · have h := heap_alloc_new w.drew (.cells (l.flatten.toArray ++ Builtin.zeroCells z.cells m ++ Builtin.zeroCells z.cells (grownCap w (n + m) c e - (n + m))) e)
    refine h.trans ?_
    congr 2
    rw [List.flatten_append, s2]
    apply Array.toList_inj.1
    simp
  · exact ⟨rfl, rfl, rfl, by simp, fun j hj _ => heap_alloc_old w.drew _ hj⟩
theorem copy_k_op (w : World) {o : Oper} {a : Act} {K : Act → World → Prop} {Q : Exit → Act → World → Prop} (d x : Operand) (t : TypeId) (hop : o.op = Op.call { callee := Callee.builtin Builtin.copy, args := #[d, x], argTypes := #[t, t] })
    (e : TypeId) (k : Nat) (hu : P.underlying t = some (.slice e)) (hs : (P.info? e).map (·.size) = some k) (g dd dk dLen dCap : Nat) (L : List (List Value)) (hr : RowK w g e k L) (hd : a.eval d = .slice (some ⟨g, dk, none⟩) dLen dCap) (hdk : dk = dd * k)
    (A : Addr) (sLen sCap : Nat) (hx : a.eval x = .slice (some A) sLen sCap) (X : List (List Value)) (hX : ∀ x ∈ X, x.length = k) (h1 : ∀ x ∈ X, ∀ u ∈ x, u.oneCell' = true)
    (hn : X.length = Nat.min sLen dLen) (hsrc : ∀ j u, X.flatten[j]? = some u → w.cell? (A.add j) = some u) (hfit : dd + X.length ≤ L.length)
    (hK : ∀ w', RowK w' g e k (L.take dd ++ X ++ L.drop (dd + X.length)) → w.grownBy w' (some g) → w'.heap.size = w.heap.size → K (a.put o.dst (goInt X.length)) w') : o.wp P a w K Q := by
  subst hdk
  obtain ⟨w', hrun, r1, r2, r3⟩ := run_copy_k (P := P) w t t o.type e k hu hs g dd dLen dCap L hr A sLen sCap X hX h1 hn hsrc hfit
  unfold Oper.wp
  simp [execOp, hop, resolve, invoke, builtin, hd, hx, hrun, Result.andThen]
  exact hK w' r1 r2 r3
theorem copy_k {ops : Array Oper} {rest : List Oper} (w : World) {o : Oper} {a : Act} {Q : Exit → Act → World → Prop} (hw : Region.wanted o (yielded ops a.tmps) = true) (d x : Operand) (t : TypeId) (hop : o.op = Op.call { callee := Callee.builtin Builtin.copy, args := #[d, x], argTypes := #[t, t] })
    (e : TypeId) (k : Nat) (hu : P.underlying t = some (.slice e)) (hs : (P.info? e).map (·.size) = some k) (g dd dk dLen dCap : Nat) (L : List (List Value)) (hr : RowK w g e k L) (hd : a.eval d = .slice (some ⟨g, dk, none⟩) dLen dCap) (hdk : dk = dd * k)
    (A : Addr) (sLen sCap : Nat) (hx : a.eval x = .slice (some A) sLen sCap) (X : List (List Value)) (hX : ∀ x ∈ X, x.length = k) (h1 : ∀ x ∈ X, ∀ u ∈ x, u.oneCell' = true)
    (hn : X.length = Nat.min sLen dLen) (hsrc : ∀ j u, X.flatten[j]? = some u → w.cell? (A.add j) = some u) (hfit : dd + X.length ≤ L.length)
    (hK : ∀ w', RowK w' g e k (L.take dd ++ X ++ L.drop (dd + X.length)) → w.grownBy w' (some g) → w'.heap.size = w.heap.size → wpList P ops Q rest (a.put o.dst (goInt X.length)) w') : wpList P ops Q (o :: rest) a w :=
  BigFrame.wpList_want hw fun K hKK => copy_k_op w d x t hop e k hu hs g dd dk dLen dCap L hr hd hdk A sLen sCap hx X hX h1 hn hsrc hfit (fun w' a b c => hKK _ _ (hK w' a b c))
theorem step_copy_k {ops : Array Oper} {o : Oper} {a : Act} {w : World} {K : Act → World → Prop} {Q : Exit → Act → World → Prop} {E : Prop} (hg : o.guard = none) (d x : Operand) (t : TypeId) (hop : o.op = Op.call { callee := Callee.builtin Builtin.copy, args := #[d, x], argTypes := #[t, t] })
    (e : TypeId) (k : Nat) (hu : P.underlying t = some (.slice e)) (hs : (P.info? e).map (·.size) = some k) (g dd dk dLen dCap : Nat) (L : List (List Value)) (hr : RowK w g e k L) (hd : a.eval d = .slice (some ⟨g, dk, none⟩) dLen dCap) (hdk : dk = dd * k)
    (A : Addr) (sLen sCap : Nat) (hx : a.eval x = .slice (some A) sLen sCap) (X : List (List Value)) (hX : ∀ x ∈ X, x.length = k) (h1 : ∀ x ∈ X, ∀ u ∈ x, u.oneCell' = true)
    (hn : X.length = Nat.min sLen dLen) (hsrc : ∀ j u, X.flatten[j]? = some u → w.cell? (A.add j) = some u) (hfit : dd + X.length ≤ L.length)
    (hK : ∀ w', RowK w' g e k (L.take dd ++ X ++ L.drop (dd + X.length)) → w.grownBy w' (some g) → w'.heap.size = w.heap.size → K (a.put o.dst (goInt X.length)) w') :
    if Region.wanted o (yielded ops a.tmps) = true then Oper.wp P o a w K Q else E := by
  rw [if_pos (by simp [Region.wanted, hg])]
  exact copy_k_op w d x t hop e k hu hs g dd dk dLen dCap L hr hd hdk A sLen sCap hx X hX h1 hn hsrc hfit hK
theorem made_k {ops : Array Oper} {rest : List Oper} (w : World) {o : Oper} {a : Act} {Q : Exit → Act → World → Prop} (hw : Region.wanted o (yielded ops a.tmps) = true) (s x : Operand) (t tn : TypeId) (hop : o.op = Op.call { callee := Callee.builtin Builtin.append, args := #[s, x], argTypes := #[t, tn] })
    (e : TypeId) (z : Value) (k b : Nat) (kn kq : IntKind) (ht : P.underlying t = some (.slice e)) (htn : P.underlying tn = some (.int kn)) (h2 : (P.info? e).map (fun i => (i.zero, i.size, i.bytes)) = some (some z, k, b)) (hz : z.cells.size = k) (hk : 0 < k)
    (A : Addr) (n c m : Nat) (l : List (List Value)) (hs : a.eval s = .slice (some A) n c) (M : Int) (hx : a.eval x = .int kq M) (hM : M = (m : Int)) (hl : ∀ x ∈ l, x.length = k) (hn : n = l.length) (hsrc : ∀ j u, l.flatten[j]? = some u → w.cell? (A.add j) = some u)
    (nm : Nat) (hnm : n + m = nm) (h0 : 0 < m) (hroom : c < n + m) (hmax : n + m ≤ maxLen) (hbig : (n + m) * b ≤ 140737488355328)
    (hK : ∀ w' G S, RowK w' w.heap.size e k (l ++ S) → n + S.length = G → nm ≤ G → G ≤ maxLen → w.grownBy w' none → w'.heap.size = w.heap.size + 1 → wpList P ops Q rest (a.put o.dst (.slice (some ⟨w.heap.size, 0, none⟩) nm G)) w') : wpList P ops Q (o :: rest) a w :=
  BigFrame.wpList_want hw fun K hKK => by
    subst hM hnm
    obtain ⟨w', G, S, hrun, r1, r2, r3, r4, r5, r6⟩ := run_made_k (P := P) w t tn o.type e z k b kn kq ht htn h2 hz hk A n c m l hl hn hsrc h0 hroom hmax hbig
    unfold Oper.wp
    simp [execOp, hop, resolve, invoke, builtin, hs, hx, hrun, Result.andThen]
    exact hKK _ _ (hK w' G S r1 r2 r3 r4 r5 r6)
end

section
variable {P : Program}
theorem room_k_op (w : World) {o : Oper} {a : Act} {K : Act → World → Prop} {Q : Exit → Act → World → Prop} (s x : Operand) (t : TypeId) (hop : o.op = Op.call { callee := Callee.builtin Builtin.append, args := #[s, x], argTypes := #[t, t] })
    (e : TypeId) (k : Nat) (hu : P.underlying t = some (.slice e)) (hs : (P.info? e).map (·.size) = some k) (g d c : Nat) (L : List (List Value)) (hr : RowK w g e k L) (hd : a.eval s = .slice (some ⟨g, 0, none⟩) d c)
    (A : Addr) (m cm : Nat) (hx : a.eval x = .slice (some A) m cm) (X : List (List Value)) (hX : ∀ x ∈ X, x.length = k) (h1 : ∀ x ∈ X, ∀ u ∈ x, u.oneCell' = true) (hm : m = X.length)
    (hsrc : ∀ j u, X.flatten[j]? = some u → w.cell? (A.add j) = some u) (nm : Nat) (hnm : d + m = nm) (hroom : nm ≤ c) (hfit : nm ≤ L.length)
    (hK : ∀ w', RowK w' g e k (L.take d ++ X ++ L.drop nm) → w.grownBy w' (some g) → w'.heap.size = w.heap.size → K (a.put o.dst (.slice (some ⟨g, 0, none⟩) nm c)) w') : o.wp P a w K Q := by
  subst hnm hm
  have hXl : X.flatten.length = X.length * k := flat_length hX
  have hLl : L.flatten.length = L.length * k := flat_length hr.each
  cases hq : P.info? e with
  | none => simp [hq] at hs
  | some i =>
    have hi : i.size = k := by simpa [hq] using hs
    subst hi
    have hle : d * i.size + X.flatten.length ≤ L.flatten.toArray.size := by
      rw [List.size_toArray, hXl, hLl, ← Nat.add_mul]
      exact Nat.mul_le_mul_right _ hfit
    have hrun := run_append_room (P := P) w t o.type e i hu hq g d c L.flatten.toArray hr.row A X.length cm X.flatten hXl hsrc (fun u hu' => by
      obtain ⟨y, hy, hu''⟩ := List.mem_flatten.1 hu'
      exact h1 y hy u hu'') hroom hle
    unfold Oper.wp
    simp [execOp, hop, resolve, invoke, builtin, hd, hx, Result.andThen]
    simp [hrun, Result.andThen]
    refine hK _ ⟨?_, fun x hx => ?_⟩ (grown_setRow _ _ _) (by simp)
    · have h := setRow_heap w g _ (L.flatten.take (d * i.size) ++ (X.flatten ++ L.flatten.drop (d * i.size + X.flatten.length))).toArray e (0, 0) hr.row
      rw [List.flatten_append, List.flatten_append, flat_take hr.each, flat_drop hr.each, Nat.add_mul, ← hXl, List.append_assoc]
      simpa using h
    · rcases List.mem_append.1 hx with hx | hx
      · rcases List.mem_append.1 hx with hx | hx
        · exact hr.each x (List.mem_of_mem_take hx)
        · exact hX x hx
      · exact hr.each x (List.mem_of_mem_drop hx)
theorem step_room_k {ops : Array Oper} {o : Oper} {a : Act} {w : World} {K : Act → World → Prop} {Q : Exit → Act → World → Prop} {E : Prop} (hg : o.guard = none) (s x : Operand) (t : TypeId) (hop : o.op = Op.call { callee := Callee.builtin Builtin.append, args := #[s, x], argTypes := #[t, t] })
    (e : TypeId) (k : Nat) (hu : P.underlying t = some (.slice e)) (hs : (P.info? e).map (·.size) = some k) (g d c : Nat) (L : List (List Value)) (hr : RowK w g e k L) (hd : a.eval s = .slice (some ⟨g, 0, none⟩) d c)
    (A : Addr) (m cm : Nat) (hx : a.eval x = .slice (some A) m cm) (X : List (List Value)) (hX : ∀ x ∈ X, x.length = k) (h1 : ∀ x ∈ X, ∀ u ∈ x, u.oneCell' = true) (hm : m = X.length)
    (hsrc : ∀ j u, X.flatten[j]? = some u → w.cell? (A.add j) = some u) (nm : Nat) (hnm : d + m = nm) (hroom : nm ≤ c) (hfit : nm ≤ L.length)
    (hK : ∀ w', RowK w' g e k (L.take d ++ X ++ L.drop nm) → w.grownBy w' (some g) → w'.heap.size = w.heap.size → K (a.put o.dst (.slice (some ⟨g, 0, none⟩) nm c)) w') :
    if Region.wanted o (yielded ops a.tmps) = true then Oper.wp P o a w K Q else E := by
  rw [if_pos (by simp [Region.wanted, hg])]
  exact room_k_op w s x t hop e k hu hs g d c L hr hd A m cm hx X hX h1 hm hsrc nm hnm hroom hfit hK
/-- One element is cleared. -/
theorem clear1_k {ops : Array Oper} {rest : List Oper} (w : World) {o : Oper} {a : Act} {Q : Exit → Act → World → Prop} (hw : Region.wanted o (yielded ops a.tmps) = true) (x : Operand) (t : TypeId) (hop : o.op = Op.call { callee := Callee.builtin Builtin.clear, args := #[x], argTypes := #[t] })
    (e : TypeId) (z : Value) (k b : Nat) (hu : P.underlying t = some (.slice e)) (h2 : (P.info? e).map (fun i => (i.zero, i.size, i.bytes)) = some (some z, k, b)) (hz : z.cells.size = k) (hk : 0 < k) (h1 : ∀ u ∈ z.cells.toList, u.oneCell' = true)
    (g d dk cm : Nat) (hdk : dk = d * k) (L : List (List Value)) (hr : RowK w g e k L) (on : Nat) (hx : a.eval x = .slice (some ⟨g, dk, none⟩) on cm) (hon : on = 1) (hfit : d + 1 ≤ L.length)
    (hK : ∀ w' zx, RowK w' g e k (L.take d ++ [zx] ++ L.drop (d + 1)) → w.grownBy w' (some g) → w'.heap.size = w.heap.size → wpList P ops Q rest (a.put o.dst (.tuple #[])) w') : wpList P ops Q (o :: rest) a w :=
  BigFrame.wpList_want hw fun K hKK => by
    subst hdk hon
    obtain ⟨i, hi, hiz, his, hib⟩ := info_partsK h2
    have hLl : L.flatten.length = L.length * k := flat_length hr.each
    have hzc : (Builtin.zeroCells z.cells 1).toList = z.cells.toList := by
      apply List.ext_getElem
      · simp [Builtin.zeroCells]
      · intro j h1 h2
        have hj : j < z.cells.size := by simpa using h2
        simp [Builtin.zeroCells, Nat.mod_eq_of_lt hj, hj]
    have hzl : z.cells.toList.length = k := by simpa using hz
    have hst := run_storeCells_at P g (d * k) e z.cells.toList 0 L.flatten.toArray w hr.row (by
      rw [List.size_toArray, hLl, hzl, Nat.add_zero]
      have := Nat.mul_le_mul_right k hfit
      rw [Nat.add_mul] at this; omega) h1
    unfold Oper.wp
    simp only [Nat.add_zero] at hst
    have hrun : (Builtin.clear_ #[t] o.type #[.slice (some ⟨g, d * k, none⟩) 1 cm]).run P w = .ok (.tuple #[]) (w.setRow g (L.flatten.take (d * k) ++ z.cells.toList ++ L.flatten.drop (d * k + z.cells.toList.length)).toArray) := by
      simp [Builtin.clear_, run_underlying hu, zeroValue, typeInfo, hi, hiz, hzc, hst]
    simp [execOp, hop, resolve, invoke, builtin, hx, Result.andThen]
    simp only [hrun]
    refine hKK _ _ (hK _ z.cells.toList ⟨?_, fun y hy => ?_⟩ (grown_setRow _ _ _) (by simp))
    · rw [setRow_heap w g _ _ e (0, 0) hr.row]
      congr 3
      rw [List.flatten_append, List.flatten_append, flat_take hr.each, flat_drop hr.each, Nat.add_mul, hzl]
      simp
    · rcases List.mem_append.1 hy with hy | hy
      · rcases List.mem_append.1 hy with hy | hy
        · exact hr.each y (List.mem_of_mem_take hy)
        · rw [List.mem_singleton.1 hy]; exact hzl
      · exact hr.each y (List.mem_of_mem_drop hy)
end

/-! ### Drawn regions: operations that read no memory, while S is given up at k0 -/
section
variable {P : Program} {ops : Array Oper} {Q : Exit → Act → World → Prop} {md : Region.Mode} {S : World → Prop} {k0 : Nat}
theorem wpAnyE_free {i : Nat} {oi : Oper} {v : Value} (hi : ops[i]? = some oi) (hsel : ∀ (j : Nat) (o : Oper) cs b, ops[j]? = some o → o.op ≠ .select cs b)
    (hQ : ∀ c a w, Q (.panic c) (a.put oi.dst v) w → Q (.panic c) a w) (hk : k0 ≠ i) :
    ∀ (fuel : Nat) (listed : Array Bool) (a : Act) (w : World), (listed.getD k0 false = true ∨ S w) →
      (∀ j oj, ops[j]? = some oj → j ≠ i → listed.getD j true = false → (∀ e ∈ oj.after, Region.binds md e = true → e.on ≠ i) → oi.apart ops oj = true) →
      i ∈ Region.ready md ops listed → YieldsIf P ops (fun _ => True) oi v a →
      wpAnyE P md ops Q S k0 fuel (listed.setIfInBounds i true) (a.put oi.dst v) w → wpAnyE P md ops Q S k0 (fuel + 1) listed a w := by
  intro fuel
  induction fuel with
  | zero =>
    intro listed a w hS hfree hr hy H
    refine ⟨fun h => (by rw [h] at hr; cases hr), fun j hj => ?_⟩
    by_cases hji : j = i
    · subst hji; exact hy.wpOp hi trivial ⟨hS.imp (fun h => by rw [getD_other (Ne.symm hk)]; exact h) id, H⟩
    · have := ready_mono hj hji
      rw [H.1] at this
      cases this
  | succ fuel ih =>
    intro listed a w hS hfree hr hy H
    refine ⟨fun h => (by rw [h] at hr; cases hr), fun j hj => ?_⟩
    by_cases hji : j = i
    · subst hji; exact hy.wpOp hi trivial ⟨hS.imp (fun h => by rw [getD_other (Ne.symm hk)]; exact h) id, H⟩
    · have h1 := H.2 j (ready_mono hj hji)
      obtain ⟨hjun, oj, hoj, hall⟩ := mem_ready.1 hj
      have hnot : ∀ e ∈ oj.after, Region.binds md e = true → e.on ≠ i := fun e he hb heq => by
        have h1 := hall e he hb
        have h0 := (mem_ready.1 hr).1
        rw [heq] at h1
        rcases Nat.lt_or_ge i listed.size with h' | h'
        · simp [h'] at h0 h1; rw [h0] at h1; cases h1
        · simp [Array.getElem?_eq_none h'] at h1
      have h2 := wpOp_putIf hoj (hfree j oj hoj hji hjun hnot) (fun cs b => hsel i oi cs b hi) (fun cs b => hsel j oj cs b hoj) hQ hy h1
      have hfree' : ∀ k ok, ops[k]? = some ok → k ≠ i → (listed.setIfInBounds j true).getD k true = false →
          (∀ e ∈ ok.after, Region.binds md e = true → e.on ≠ i) → oi.apart ops ok = true := fun k ok hk hki hun hno => by
        refine hfree k ok hk hki ?_ hno
        by_cases hjk : j = k
        · subst hjk; exact hjun
        · rw [getD_setE true hjk] at hun; exact hun
      refine wpOp_mono (fun a' w' h3 => ?_) h2
      have e : ((listed.setIfInBounds i true).setIfInBounds j true).getD k0 false = (listed.setIfInBounds j true).getD k0 false := by
        rw [← Array.setIfInBounds_comm _ _ hji, getD_other (Ne.symm hk)]
      have hS' : (listed.setIfInBounds j true).getD k0 false = true ∨ S w' := by rw [← e]; exact h3.2.1
      refine ⟨hS', ih (listed.setIfInBounds j true) a' w' hS' hfree' (ready_mono hr (Ne.symm hji)) h3.1 ?_⟩
      rw [Array.setIfInBounds_comm _ _ hji]
      exact h3.2.2
/-- Take number i first, which reads no memory. -/
theorem wpAnyE_takeF {i : Nat} {oi : Oper} {v : Value} {fuel : Nat} {listed : Array Bool} {a : Act} {w : World} (hi : ops[i]? = some oi)
    (hs : Region.noSelect ops = true) (hf : Region.free md ops listed i = true) (hr : (Region.ready md ops listed).contains i = true) (hk : (k0 != i) = true)
    (hQ : ∀ c a w, Q (.panic c) (a.put oi.dst v) w → Q (.panic c) a w) (hy : YieldsIf P ops (fun _ => True) oi v a) (hS : S w)
    (h : wpAnyE P md ops Q S k0 fuel (listed.setIfInBounds i true) (a.put oi.dst v) w) : wpAnyE P md ops Q S k0 (fuel + 1) listed a w :=
  wpAnyE_free hi (Region.noSelect_spec hs) hQ (by simpa using hk) fuel listed a w (.inr hS) (Region.free_spec hi hf) (by simpa using hr) hy h
end

/-! ### A whole element is stored into a row that the call owns -/
theorem flat_setE {k : Nat} {L : List (List Value)} (h : ∀ x ∈ L, x.length = k) {p : Nat} (hp : p < L.length) (x : List Value) : (L.set p x).flatten = L.flatten.take (p * k) ++ x ++ L.flatten.drop (p * k + k) := by
  rw [List.set_eq_take_append_cons_drop, if_pos hp, List.flatten_append, List.flatten_cons, flat_take h, flat_drop h, Nat.add_mul, Nat.one_mul, List.append_assoc]
section
variable {P : Program} {w : World} {base k g n c p : Nat} {e : TypeId} {l : List (List Value)}
theorem store_elem_op {o : Oper} {a : Act} {K : Act → World → Prop} {Q : Exit → Act → World → Prop} (ty : TypeId) (x y : Operand) (ho : o.op = .store ty x y)
    (off : Nat) (v : Array Value) (hx : a.eval x = .pointer (some ⟨g, off, none⟩)) (hy : a.eval y = .agg v) (hown : OwnK w base e k (.slice (some ⟨g, 0, none⟩) n c) l) (p : Nat) (hoff : off = p * k) (hp : p < l.length) (hv : v.size = k)
    (hi : (P.info? ty).map (·.size) = some k) (h1 : v.all (·.oneCell') = true)
    (h : ∀ w', OwnK w' base e k (.slice (some ⟨g, 0, none⟩) n c) (l.set p v.toList) → w.grownBy w' (some g) → w'.heap.size = w.heap.size → K (a.put o.dst undef) w') : o.wp P a w K Q := by
  subst hoff
  obtain ⟨S, hR, hS, hn, hm, hb⟩ := hown.whole
  have hLl : (l ++ S).flatten.length = (l ++ S).length * k := flat_length hR.each
  have hfit : p * k + k ≤ (l ++ S).length * k := by
    have := Nat.mul_le_mul_right k (show p + 1 ≤ (l ++ S).length by rw [List.length_append]; omega)
    rw [Nat.add_mul] at this; omega
  have hsz : (l ++ S).flatten.toArray.size = (l ++ S).length * k := (List.size_toArray).trans hLl
  refine store_bk_op (cs' := putPart _ (p * k) v) ty x y ho g (p * k) v hx hy e (l ++ S).flatten.toArray hR.row (by rw [hv]; exact hi) (by rw [hsz, hv]; exact hfit) h1 rfl ?_
  intro w' hB hg hs
  refine h w' ?_ hg hs
  have hR' : RowK w' g e k ((l ++ S).set p v.toList) := by
    refine ⟨?_, fun y hy => ?_⟩
    · rw [flat_setE hR.each (by rw [List.length_append]; omega)]
      have h2 : w'.heap[g]? = _ := hB
      rw [h2]
      unfold putPart
      rw [hv]
    · rcases List.mem_or_eq_of_mem_set hy with hy | rfl
      · exact hR.each y hy
      · simpa using hv
  have := hR'.own (n := n) (c := c) hb (by rw [List.length_set, List.length_append]; omega) hm (by omega)
  rw [List.set_append_left _ _ hp, List.take_append_of_le_length (by rw [List.length_set]; omega), List.take_of_length_le (by rw [List.length_set]; omega)] at this
  exact this
end
end Go.Proofs.Ytbegbecmnhldkaa
