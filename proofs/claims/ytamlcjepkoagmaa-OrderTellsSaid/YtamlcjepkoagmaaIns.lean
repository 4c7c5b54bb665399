/- Places put into an order one by one, each behind all that it doesn't go ahead of: plainly. And append where what is put may be nothing. No condition. -/
import Derived.Test.YtamlcjepkoagmaaSt
import Derived.Test.YtamlcjepkoagmaaJbo
namespace Go.Proofs.Ytamlcjepkoagmaa
open Go.RowKit
set_option linter.unusedSimpArgs false
set_option linter.unusedVariables false

section
variable {P : Program}
theorem append_kn {ops : Array Oper} {rest : List Oper} (w : World) {o : Oper} {a : Act} {Q : Exit → Act → World → Prop} (hw : Region.wanted o (yielded ops a.tmps) = true)
    (s x : Operand) (t : TypeId) (hop : o.op = Op.call { callee := Callee.builtin Builtin.append, args := #[s, x], argTypes := #[t, t] })
    (base : Nat) (e : TypeId) (z : Value) (k b : Nat) (h1 : P.underlying t = some (.slice e)) (h2 : (P.info? e).map (fun i => (i.zero, i.size, i.bytes)) = some (some z, k, b)) (hz : z.cells.size = k) (hk : 0 < k)
    (v : Value) (l : List (List Value)) (hs : a.eval s = v) (hown : OwnK w base e k v l) (A : Option Addr) (c m : Nat) (news : List (List Value))
    (hx : a.eval x = .slice A m c) (hr : RdK w k A news) (hn : ∀ y ∈ news, y.length = k) (hone : ∀ y ∈ news, ∀ u ∈ y, u.oneCell' = true) (hm : m = news.length)
    (b0 : l.length + news.length ≤ maxLen) (b1 : (l.length + news.length) * b ≤ 140737488355328) (hbase : base ≤ w.heap.size)
    (hK : ∀ v' w', OwnK w' base e k v' (l ++ news) → w.grownBy w' v.ownBlock → wpList P ops Q rest (a.put o.dst v') w') : wpList P ops Q (o :: rest) a w :=
  BigFrame.wpList_want hw fun K hKK => append_kn_op w s x t hop base e z k b h1 h2 hz hk v l hs hown A c m news hx hr hn hone hm b0 b1 hbase (fun v' w' h1 h2 => hKK _ _ (hK v' w' h1 h2))
end

/-- Put ahead of all at the end that it goes ahead of (p). -/
def insB (p : Nat → Bool) (x : Nat) (l : List Nat) : List Nat := (l.reverse.dropWhile p).reverse ++ x :: (l.reverse.takeWhile p).reverse
theorem insB_len (p : Nat → Bool) (x : Nat) (l : List Nat) : (insB p x l).length = l.length + 1 := by
  have h : (l.reverse.takeWhile p).length + (l.reverse.dropWhile p).length = l.length := by rw [← List.length_append, List.takeWhile_append_dropWhile, List.length_reverse]
  unfold insB
  rw [List.length_append, List.length_cons, List.length_reverse, List.length_reverse]; omega
theorem insB_mem {p : Nat → Bool} {x y : Nat} {l : List Nat} (h : y ∈ insB p x l) : y = x ∨ y ∈ l := by
  unfold insB at h
  rw [List.mem_append, List.mem_cons, List.mem_reverse, List.mem_reverse] at h
  rcases h with h | h | h
  · exact .inr (List.mem_reverse.1 ((List.dropWhile_sublist _).subset h))
  · exact .inl h
  · exact .inr (List.mem_reverse.1 ((List.takeWhile_sublist _).subset h))
/-- Where its place is found: it goes ahead of all behind, and not of the one ahead (or there is none). -/
theorem place_back {p : Nat → Bool} {x : Nat} {l : List Nat} {a : Nat} (h1 : (l.drop a).all p = true) (h2 : a = 0 ∨ ∃ h : a - 1 < l.length, p l[a - 1] = false) (ha : a ≤ l.length) : insB p x l = l.take a ++ x :: l.drop a := by
  have hr : l.reverse = (l.drop a).reverse ++ (l.take a).reverse := by rw [← List.reverse_append, List.take_append_drop]
  have h1' : ∀ y ∈ (l.drop a).reverse, p y = true := fun y hy => List.all_eq_true.1 h1 y (List.mem_reverse.1 hy)
  have hd : ∀ m : List Nat, m.takeWhile p = [] ∧ m.dropWhile p = m → ∀ n : List Nat, (∀ y ∈ n, p y = true) → (n ++ m).takeWhile p = n ∧ (n ++ m).dropWhile p = m := by
    intro m hm n
    induction n with
    | nil => intro _; exact hm
    | cons y n ih =>
      intro hn
      obtain ⟨i1, i2⟩ := ih fun z hz => hn z (by simp [hz])
      rw [List.cons_append, List.takeWhile_cons, List.dropWhile_cons, hn y (by simp)]
      exact ⟨by simp [i1], by simp [i2]⟩
  have ht : (l.take a).reverse.takeWhile p = [] ∧ (l.take a).reverse.dropWhile p = (l.take a).reverse := by
    rcases h2 with rfl | ⟨hl, hp⟩
    · simp
    · cases a with
      | zero => simp
      | succ b =>
        have hl' : b < l.length := hl
        have hp' : p l[b] = false := hp
        rw [List.take_succ_eq_append_getElem hl', List.reverse_append, List.reverse_singleton, List.singleton_append, List.takeWhile_cons, List.dropWhile_cons, hp']
        exact ⟨rfl, rfl⟩
  obtain ⟨i1, i2⟩ := hd _ ht _ h1'
  unfold insB
  rw [hr, i1, i2, List.reverse_reverse, List.reverse_reverse]
/-- The places below k that are wanted, in their order. -/
def wk (c : Nat → Bool) (ah : Nat → Nat → Bool) (k : Nat) : List Nat := (List.range k).foldl (fun out i => if c i then insB (ah i) i out else out) []
section
variable {c : Nat → Bool} {ah : Nat → Nat → Bool} {k : Nat}
theorem wk_zero : wk c ah 0 = [] := rfl
theorem wk_succ : wk c ah (k + 1) = if c k then insB (ah k) k (wk c ah k) else wk c ah k := by
  unfold wk; rw [List.range_succ, List.foldl_append]; rfl
theorem wk_no (h : c k = false) : wk c ah (k + 1) = wk c ah k := by rw [wk_succ, h]; rfl
theorem wk_yes (h : c k = true) : wk c ah (k + 1) = insB (ah k) k (wk c ah k) := by rw [wk_succ, h]; rfl
theorem wk_len : ∀ k, (wk c ah k).length ≤ k
  | 0 => by simp [wk_zero]
  | k + 1 => by
    have := wk_len k
    rw [wk_succ]
    split
    · rw [insB_len]; omega
    · omega
theorem wk_lt : ∀ k, ∀ y ∈ wk c ah k, y < k
  | 0 => by simp [wk_zero]
  | k + 1 => fun y hy => by
    rw [wk_succ] at hy
    split at hy
    · rcases insB_mem hy with rfl | h
      · omega
      · have := wk_lt k y h; omega
    · have := wk_lt k y hy; omega
theorem wk_ok : ∀ k, ∀ y ∈ wk c ah k, c y = true
  | 0 => by simp [wk_zero]
  | k + 1 => fun y hy => by
    rw [wk_succ] at hy
    split at hy
    · rename_i h
      rcases insB_mem hy with rfl | h'
      · exact h
      · exact wk_ok k y h'
    · exact wk_ok k y hy
end
instance : Inhabited Jb := ⟨⟨⟨#[]⟩, ⟨#[]⟩, 0, 0, 0, 0, none, 0, 0, ⟨#[]⟩, ⟨#[]⟩, 0, 0, ⟨#[]⟩, 0⟩⟩
/-- The job at this place. -/
abbrev jat (l : List Jb) (i : Nat) : Jb := l.getD i default
theorem jat_at {l : List Jb} {i : Nat} (h : i < l.length) : jat l i = l[i] := by simp [jat, List.getD, List.getElem?_eq_getElem h]
/-- Places as integers. -/
abbrev ints (l : List Nat) : List Int := l.map fun (n : Nat) => (n : Int)
end Go.Proofs.Ytamlcjepkoagmaa
