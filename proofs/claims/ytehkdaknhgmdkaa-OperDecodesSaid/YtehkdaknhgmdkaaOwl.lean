/- Labels in memory of the call's own, and how labels are put behind them. No condition beyond those that each lemma bears. -/
import Derived.Test.YtehkdaknhgmdkaaLab
import Derived.Laws.OwnMore
import Derived.Laws.AppendOwn
import Derived.OwnWalk
namespace Go.Proofs.Ytehkdaknhgmdkaa
open Go.RowKit
set_option linter.unusedSimpArgs false
set_option linter.unusedVariables false

/-- The cells of labels. -/
def cellsL (l : List Lb) : List Value := l.flatMap fun x => [.string x.1, .string x.2]
theorem cellsL_nil : cellsL [] = [] := rfl
theorem cellsL_cons (x : Lb) (l : List Lb) : cellsL (x :: l) = .string x.1 :: .string x.2 :: cellsL l := rfl
theorem cellsL_append (l m : List Lb) : cellsL (l ++ m) = cellsL l ++ cellsL m := by simp [cellsL]
theorem cellsL_one' (x : Lb) : cellsL [x] = [.string x.1, .string x.2] := rfl
theorem cellsL_length : ∀ l : List Lb, (cellsL l).length = l.length * 2
  | [] => rfl
  | x :: l => by rw [cellsL_cons, List.length_cons, List.length_cons, cellsL_length l, List.length_cons]; omega
theorem cellsL_get : ∀ (l : List Lb) (i : Nat) (x : Lb), l[i]? = some x → (cellsL l)[i * 2]? = some (.string x.1) ∧ (cellsL l)[i * 2 + 1]? = some (.string x.2)
  | [], i, x, h => by simp at h
  | y :: l, 0, x, h => by
    simp at h; subst h; simp [cellsL_cons]
  | y :: l, i + 1, x, h => by
    rw [List.getElem?_cons_succ] at h
    have := cellsL_get l i x h
    rw [cellsL_cons, show (i + 1) * 2 = i * 2 + 1 + 1 by omega, show i * 2 + 1 + 1 + 1 = (i * 2 + 1) + 1 + 1 by omega]
    exact ⟨by rw [List.getElem?_cons_succ, List.getElem?_cons_succ]; exact this.1, by rw [List.getElem?_cons_succ, List.getElem?_cons_succ]; exact this.2⟩
theorem cellsL_inv {l : List Lb} {j : Nat} {u : Value} (h : (cellsL l)[j]? = some u) : ∃ i x, l[i]? = some x ∧ ((j = i * 2 ∧ u = .string x.1) ∨ (j = i * 2 + 1 ∧ u = .string x.2)) := by
  have hj : j < l.length * 2 := by rw [← cellsL_length]; exact (List.getElem?_eq_some_iff.1 h).1
  have hi : j / 2 < l.length := by omega
  obtain ⟨h1, h2⟩ := cellsL_get l (j / 2) l[j / 2] (List.getElem?_eq_getElem hi)
  refine ⟨j / 2, l[j / 2], List.getElem?_eq_getElem hi, ?_⟩
  rcases Nat.mod_two_eq_zero_or_one j with e | e
  · left; refine ⟨by omega, ?_⟩
    rw [show j / 2 * 2 = j by omega, h] at h1; injection h1
  · right; refine ⟨by omega, ?_⟩
    rw [show j / 2 * 2 + 1 = j by omega, h] at h2; injection h2
theorem cellsL_one (l : List Lb) : ∀ u ∈ cellsL l, u.oneCell' = true := by
  intro u hu
  obtain ⟨j, hj⟩ := List.getElem?_of_mem hu
  obtain ⟨i, x, _, ⟨_, rfl⟩ | ⟨_, rfl⟩⟩ := cellsL_inv hj <;> rfl

/-- A row of labels that the call owns. -/
def OwnL (w : World) (base : Nat) (v : Value) (l : List Lb) : Prop := w.ownsRow base 58 2 v l.length (cellsL l)

theorem RdL.cells {w : World} {a : Addr} {l : List Lb} (h : RdL w (some a) l) : ∀ j u, (cellsL l)[j]? = some u → w.cell? (a.add j) = some u := by
  intro j u hu
  obtain ⟨i, x, hx, hc⟩ := cellsL_inv hu
  obtain ⟨g, o, ha, h1, h2⟩ := h i x hx
  injection ha with ha; subst ha
  rw [Addr.add_lit]
  rcases hc with ⟨rfl, rfl⟩ | ⟨rfl, rfl⟩
  · exact h1
  · exact h2

/-- What a slice that the call owns reads as. -/
structure Sl (w : World) (base : Nat) (v : Value) (l : List Lb) (A : Option Addr) (c : Nat) : Prop where
  val : v = .slice A l.length c
  rd : RdL w A l
  cap : l.length ≤ c
  cap2 : c ≤ maxLen
  new : ∀ g o p, A = some ⟨g, o, p⟩ → base ≤ g ∧ g < w.heap.size
theorem OwnL.sl {w : World} {base : Nat} {v : Value} {l : List Lb} (h : OwnL w base v l) : ∃ A c, Sl w base v l A c := by
  rcases h.2 with ⟨hv, h0⟩ | ⟨g, cap, cur, hv, hb, hg, hn, hm, _, _⟩
  · rw [List.length_eq_zero_iff] at h0
    subst h0
    exact ⟨none, 0, hv, RdL.nil _ _, Nat.le_refl _, by simp [maxLen], fun g o p e => by cases e⟩
  · refine ⟨some ⟨g, 0, none⟩, cap, hv, fun i x hx => ?_, hn, hm, fun g' o p e => ?_⟩
    · obtain ⟨h1, h2⟩ := cellsL_get l i x hx
      have c1 := World.ownsRow.cells h (g := g) (by rw [hv]; rfl) _ _ h1
      have c2 := World.ownsRow.cells h (g := g) (by rw [hv]; rfl) _ _ h2
      rw [Addr.add_lit] at c1 c2
      exact ⟨g, 0, rfl, c1, c2⟩
    · injection e with e; injection e with e1 e2; subst e1
      exact World.ownsRow.lt h g (by rw [hv]; rfl)
theorem OwnL.below {w w' : World} {base : Nat} {v : Value} {l : List Lb} (h : OwnL w base v l) (hb : Below w.heap.size w w') : OwnL w' base v l :=
  World.ownsRow.kept (row := none) h ⟨hb.os, hb.tape, hb.output, hb.size, fun k hk _ => hb.block k hk⟩ (by
    rcases h.2 with ⟨hv, _⟩ | ⟨g, cap, cur, hv, _⟩ <;> rw [hv] <;> simp [Value.ownBlock])
theorem OwnL.base {w : World} {b b' : Nat} {v : Value} {l : List Lb} (h : OwnL w b v l) (hb : b' ≤ b) : OwnL w b' v l :=
  ⟨h.1, h.2.imp id fun ⟨g, cap, cur, a, hg, c⟩ => ⟨g, cap, cur, a, Nat.le_trans hb hg, c⟩⟩
theorem OwnL.nil (w : World) (base : Nat) : OwnL w base (.slice none 0 0) [] := ⟨rfl, .inl ⟨rfl, rfl⟩⟩

theorem info33 : (Try.prog.info? 58).map (fun i => (i.zero, i.size, i.bytes)) = some (some (.agg #[.string ⟨#[]⟩, .string ⟨#[]⟩]), 2, 32) := by kernel_rfl
theorem info_partsL {P : Program} {e : TypeId} {z : Value} {s b : Nat} (h : (P.info? e).map (fun i => (i.zero, i.size, i.bytes)) = some (some z, s, b)) : ∃ i, P.info? e = some i ∧ i.zero = some z ∧ i.size = s ∧ i.bytes = b := by
  cases hi : P.info? e with
  | none => rw [hi] at h; cases h
  | some i =>
    rw [hi] at h
    simp at h
    exact ⟨i, rfl, h.1, h.2.1, h.2.2⟩

/-- One label in a new block. -/
theorem news_at (W : World) (x : Lb) (t : TypeId) : ∀ j u, (cellsL [x])[j]? = some u → (W.alloc (.cells #[.string x.1, .string x.2] t)).cell? ((⟨W.heap.size, 0, none⟩ : Addr).add j) = some u := by
  intro j u hj
  rw [cellsL_one'] at hj
  match j, hj with
  | 0, hj => simp at hj; subst hj; simp [Addr.add]
  | 1, hj => simp at hj; subst hj; simp [Addr.add]
  | j + 2, hj => simp at hj

theorem RdL.fresh (W : World) (a b : ByteArray) (t : TypeId) : RdL (W.alloc (.cells #[.string a, .string b] t)) (some ⟨W.heap.size, 0, none⟩) [(a, b)] := by
  intro i x hx
  match i, hx with
  | 0, hx => simp at hx; subst hx; exact ⟨_, _, rfl, by simp, by simp⟩
  | i + 1, hx => simp at hx

theorem RdL.freshAt (W : World) {g : Nat} (a b : ByteArray) (t : TypeId) (h : g = W.heap.size) : RdL (W.alloc (.cells #[.string a, .string b] t)) (some ⟨g, 0, none⟩) [(a, b)] := h ▸ RdL.fresh W a b t
theorem OwnL.alloc {w : World} {base : Nat} {v : Value} {l : List Lb} (h : OwnL w base v l) (o : Obj) : OwnL (w.alloc o) base v l := World.ownsRow.alloc h o

/-- Putting labels that read anywhere behind a row that the call owns. -/
theorem wpList_append_l {P : Program} (w : World) {ops : Array Oper} {rest : List Oper} {o : Oper} {a : Act} {Q : Exit → Act → World → Prop}
    (hg : o.guard = none) (s x : Operand) (t : TypeId) (hop : o.op = Op.call { callee := Callee.builtin Builtin.append, args := #[s, x], argTypes := #[t, t] })
    (base : Nat) (i : TypeInfo) (h1 : P.underlying t = some (.slice 58)) (h2 : P.info? 58 = some i) (h3 : i.zero = some (.agg #[.string ⟨#[]⟩, .string ⟨#[]⟩])) (h4 : i.size = 2) (h5 : i.bytes = 32)
    (v : Value) (l : List Lb) (hs : a.eval s = v) (hown : OwnL w base v l) (ad : Addr) (c m : Nat) (news : List Lb)
    (hx : a.eval x = .slice (some ad) m c) (hr : RdL w (some ad) news) (hm : m = news.length) (b1 : l.length + news.length ≤ 1000000) (hbase : base ≤ w.heap.size)
    (hK : ∀ v' w', OwnL w' base v' (l ++ news) → w.grownBy w' v.ownBlock → wpList P ops Q rest (a.put o.dst v') w') :
    wpList P ops Q (o :: rest) a w := by
  subst hm
  refine wpList_plain hg fun K hK' => ?_
  obtain ⟨v', w', hrun, r1, r2, r3⟩ := run_append_own (P := P) w base t o.type 58 i _ 2 32 h1 h2 h3 h4 h5 rfl (by decide) v l.length (cellsL l) hown ad news.length c (cellsL news) (cellsL_length news) hr.cells (cellsL_one _) (by simp only [maxLen]; omega) (by omega) hbase
  unfold Oper.wp
  simp [execOp, hop, resolve, invoke, builtin, hs, hx, hrun, Result.andThen]
  exact hK' _ _ (hK v' w' (by unfold OwnL; rw [List.length_append, cellsL_append]; exact r1) r2)
theorem OwnL.block {w : World} {base : Nat} {v : Value} {l : List Lb} (h : OwnL w base v l) : ∀ k, v.ownBlock = some k → base ≤ k := fun k hk => (World.ownsRow.lt h k hk).1
end Go.Proofs.Ytehkdaknhgmdkaa
