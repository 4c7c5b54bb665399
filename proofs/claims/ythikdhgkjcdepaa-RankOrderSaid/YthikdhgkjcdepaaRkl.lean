/- append onto a row of elements of k cells, and where the new row lies; rows that lie apart. No condition; it serves any seat. -/
import Derived.Test.YthikdhgkjcdepaaRk
import Derived.Maps.AppendAt
namespace Go.Proofs.Ythikdhgkjcdepaa
open Go.RowKit
set_option linter.unusedSimpArgs false
set_option linter.unusedVariables false

/-- Two values own no block together. -/
def Apart (v u : Value) : Prop := ∀ g, v.ownBlock = some g → u.ownBlock = some g → False
theorem Apart.nil_left (u : Value) : Apart (.slice none 0 0) u := fun g h => by cases h
theorem Apart.nil_right (u : Value) : Apart u (.slice none 0 0) := fun g _ h => by cases h
theorem Apart.symm {v u : Value} (h : Apart v u) : Apart u v := fun g a b => h g b a
theorem Apart.step {v u v' : Value} {H : Nat} (h : Apart v u) (hv : v'.ownBlock = v.ownBlock ∨ v'.ownBlock = some H) (hu : ∀ g, u.ownBlock = some g → g < H) : Apart v' u := fun g a b => by
  rcases hv with e | e
  · rw [e] at a; exact h g a b
  · rw [e] at a; injection a with a; subst a
    exact absurd (hu _ b) (Nat.lt_irrefl _)
section
variable {w w' : World} {b0 k : Nat} {e : TypeId} {v u : Value} {l : List (List Value)}
theorem OwnK.lt (h : OwnK w b0 e k v l) : ∀ g, v.ownBlock = some g → g < w.heap.size := fun g hg => (World.ownsRow.lt h.2 g hg).2
theorem OwnK.kept (h : OwnK w b0 e k v l) (hg : w.grownBy w' u.ownBlock) (ha : Apart u v) : OwnK w' b0 e k v l :=
  ⟨h.1, World.ownsRow.kept h.2 hg (by
    cases hv : v.ownBlock with
    | none => exact .inl rfl
    | some g => exact .inr fun e => ha g e.symm hv)⟩
end
section
variable {P : Program}
theorem append_kl {ops : Array Oper} {rest : List Oper} (w : World) {o : Oper} {a : Act} {Q : Exit → Act → World → Prop} (hw : Region.wanted o (yielded ops a.tmps) = true)
    (s x : Operand) (t : TypeId) (hop : o.op = Op.call { callee := Callee.builtin Builtin.append, args := #[s, x], argTypes := #[t, t] })
    (base : Nat) (e : TypeId) (z : Value) (k b : Nat) (h1 : P.underlying t = some (.slice e)) (h2 : (P.info? e).map (fun i => (i.zero, i.size, i.bytes)) = some (some z, k, b)) (hz : z.cells.size = k) (hk : 0 < k)
    (v : Value) (l : List (List Value)) (hs : a.eval s = v) (hown : OwnK w base e k v l) (ad : Addr) (c m : Nat) (news : List (List Value))
    (hx : a.eval x = .slice (some ad) m c) (hr : RdK w k (some ad) news) (hn : ∀ y ∈ news, y.length = k) (hone : ∀ y ∈ news, ∀ u ∈ y, u.oneCell' = true) (hm : m = news.length)
    (b0 : l.length + news.length ≤ maxLen) (b1 : (l.length + news.length) * b ≤ 140737488355328) (hbase : base ≤ w.heap.size)
    (hK : ∀ v' w', OwnK w' base e k v' (l ++ news) → w.grownBy w' v.ownBlock → (v'.ownBlock = v.ownBlock ∨ v'.ownBlock = some w.heap.size) → wpList P ops Q rest (a.put o.dst v') w') : wpList P ops Q (o :: rest) a w :=
  BigFrame.wpList_want hw fun K hKK => by
    subst hm
    obtain ⟨i, hi, hiz, his, hib⟩ := info_partsK h2
    obtain ⟨v', w', hrun, r1, r2, _, r4⟩ := run_append_own_at (P := P) w base t o.type e i z k b h1 hi hiz his hib hz hk v l.length l.flatten hown.2 ad news.length c news.flatten (flat_length hn) (hr.cells hn)
      (fun u hu => by obtain ⟨y, hy, hu'⟩ := List.mem_flatten.1 hu; exact hone y hy u hu') b0 b1 hbase
    unfold Oper.wp
    simp [execOp, hop, resolve, invoke, builtin, hs, hx, hrun, Result.andThen]
    exact hKK _ _ (hK v' w' ⟨fun y hy => (List.mem_append.1 hy).elim (hown.1 y) (hn y), by rw [List.length_append, List.flatten_append]; exact r1⟩ r2 r4)
end
end Go.Proofs.Ythikdhgkjcdepaa
