/- States of layer 15: what one is, what its slices read as, and a state that the call owns. No condition; it serves any seat with the types of package api. -/
import Derived.Test.YtjgojgmgicpgaaaGreatTQ03
import Derived.Test.YtjgojgmgicpgaaaGreatTOac
import Derived.Test.YtjgojgmgicpgaaaGreatTQ02
import Derived.Test.YtjgojgmgicpgaaaGreatTOmp
namespace Go.Proofs.YtjgojgmgicpgaaaGreat
open Go.RowKit
set_option linter.unusedSimpArgs false
set_option linter.unusedVariables false

/-- A job with the labels that its task wants. -/
abbrev Jl := Jb × List Lb
/-- A queue: its name, its quota. -/
abbrev Qx := ByteArray × Int × Int × Int
abbrev jbs (J : List Jl) : List Jb := J.map Prod.fst
/-- A state, with the places of its labels. -/
structure Sg where
  ck : Int
  nx : Int
  M : List Ml
  Q : List Qx
  J : List Jl
def Sg.new : Sg := ⟨0, 1, [], [], []⟩
/-- An answer: the error, the acts. -/
abbrev An := Int × List Ac

/-! ### Without the places of labels -/
def Jb.bare (j : Jb) : Jb := { j with A := none, n := 0, cp := 0 }
def Mc.bare (m : Mc) : Mc := { m with A := none, n := 0, cp := 0 }
def Kt.bare (t : Kt) : Kt := { t with A := none, n := 0, cp := 0 }
abbrev bJ (l : List Jb) : List Jb := l.map Jb.bare
def bX (x : Ml) : Ml := (x.1.bare, x.2)
abbrev bM (L : List Ml) : List Ml := L.map bX
def bY (x : Jl) : Jl := (x.1.bare, x.2)
abbrev bL (J : List Jl) : List Jl := J.map bY
def Sg.bare (S : Sg) : Sg := { S with M := bM S.M, J := bL S.J }

/-! ### Queues as elements -/
def Qx.cells (q : Qx) : List Value := [.string q.1, .int .i64 q.2.1, .int .i64 q.2.2.1, .int .i64 q.2.2.2]
abbrev Qx.arr (q : Qx) : Array Value := #[.string q.1, .int .i64 q.2.1, .int .i64 q.2.2.1, .int .i64 q.2.2.2]
def cellsQ (l : List Qx) : List (List Value) := l.map Qx.cells
theorem cellsQ_length (l : List Qx) : (cellsQ l).length = l.length := by simp [cellsQ]
theorem cellsQ_append (l m : List Qx) : cellsQ (l ++ m) = cellsQ l ++ cellsQ m := by simp [cellsQ]
theorem cellsQ_k (l : List Qx) : ∀ x ∈ cellsQ l, x.length = 4 := by
  intro x hx
  simp only [cellsQ, List.mem_map] at hx
  obtain ⟨j, _, rfl⟩ := hx
  rfl
theorem cellsQ_one (l : List Qx) : ∀ y ∈ cellsQ l, ∀ u ∈ y, u.oneCell' = true := by
  intro x hx u hu
  simp only [cellsQ, List.mem_map] at hx
  obtain ⟨j, _, rfl⟩ := hx
  simp only [Qx.cells, List.mem_cons, List.not_mem_nil, or_false] at hu
  rcases hu with rfl | rfl | rfl | rfl <;> rfl
theorem cellsM_one (l : List Mc) : ∀ y ∈ cellsM l, ∀ u ∈ y, u.oneCell' = true := by
  intro x hx
  simp only [cellsM, List.mem_map] at hx
  obtain ⟨j, _, rfl⟩ := hx
  exact j.cells_one
def RdQ (w : World) (A : Option Addr) (l : List Qx) : Prop := RdK w 4 A (cellsQ l)
theorem RdQ.nil (w : World) (A : Option Addr) : RdQ w A [] := RdK.nil _ _ _
theorem RdQ.later {w w' : World} {A : Option Addr} {l : List Qx} (h : RdQ w A l) (hb : Below w.heap.size w w') : RdQ w' A l := RdK.later h hb
/-- The cells of a queue lie here. -/
structure QAt (w : World) (g o : Nat) (q : Qx) : Prop where
  rg : w.rangeAt g o q.arr.toList
section
variable {w w' : World} {g o : Nat} {q : Qx}
theorem QAt.lt (h : QAt w g o q) : g < w.heap.size := range_lt h.rg (by show 0 < 4; omega)
theorem QAt.later (h : QAt w g o q) (hb : Below w.heap.size w w') : QAt w' g o q := ⟨range_keep h.rg hb⟩
theorem QAt.nm (h : QAt w g o q) : w.cell? ⟨g, o, none⟩ = some (.string q.1) := h.rg 0 _ rfl
theorem QAt.a (h : QAt w g o q) : w.cell? ⟨g, o + 1, none⟩ = some (.int .i64 q.2.1) := h.rg 1 _ rfl
theorem QAt.b (h : QAt w g o q) : w.cell? ⟨g, o + 1 + 1, none⟩ = some (.int .i64 q.2.2.1) := h.rg 2 _ rfl
theorem QAt.c (h : QAt w g o q) : w.cell? ⟨g, o + 1 + 2, none⟩ = some (.int .i64 q.2.2.2) := h.rg 3 _ rfl
end
theorem RdQ.at {w : World} {A : Option Addr} {l : List Qx} (h : RdQ w A l) {i : Nat} (hi : i < l.length) : ∃ g o, A = some ⟨g, o, none⟩ ∧ g < w.heap.size ∧ QAt w g (o + i * 4) l[i] := by
  obtain ⟨g, o, ha, hr⟩ := RdK.at h (i := i) (by rw [cellsQ_length]; exact hi)
  have hr' : w.rangeAt g (o + i * 4) l[i].arr.toList := by have h2 := hr; simp only [cellsQ, List.getElem_map] at h2; exact h2
  exact ⟨g, o, ha, range_lt hr' (by show 0 < 4; omega), ⟨hr'⟩⟩
/-- All of these are queues that Go can have. -/
def QsOk (Q : List Qx) : Prop := ∀ q ∈ Q, q.1.size ≤ 140737488351232
/-- All of these are jobs that Go can have. -/
def JsOk (w : World) (J : List Jl) : Prop := ∀ x ∈ J, KtOk w x.1.tk x.2
theorem JsOk.later {w w' : World} {J : List Jl} (h : JsOk w J) (hb : Below w.heap.size w w') : JsOk w' J := fun x hx => (h x hx).later hb
theorem JsOk.at {w : World} {J : List Jl} (h : JsOk w J) {i : Nat} (hi : i < J.length) : KtOk w J[i].1.tk J[i].2 := h _ (List.getElem_mem hi)
theorem jbs_at {J : List Jl} {i : Nat} (hi : i < J.length) : (jbs J)[i]'(by simpa using hi) = J[i].1 := by simp [jbs]
theorem jbs_length (J : List Jl) : (jbs J).length = J.length := by simp

/-! ### Labels as elements -/
def cellsLb (l : List Lb) : List (List Value) := l.map fun x => [.string x.1, .string x.2]
theorem cellsLb_length (l : List Lb) : (cellsLb l).length = l.length := by simp [cellsLb]
theorem cellsLb_k (l : List Lb) : ∀ x ∈ cellsLb l, x.length = 2 := by
  intro x hx
  simp only [cellsLb, List.mem_map] at hx
  obtain ⟨j, _, rfl⟩ := hx
  rfl
theorem cellsLb_one (l : List Lb) : ∀ y ∈ cellsLb l, ∀ u ∈ y, u.oneCell' = true := by
  intro x hx u hu
  simp only [cellsLb, List.mem_map] at hx
  obtain ⟨j, _, rfl⟩ := hx
  simp only [List.mem_cons, List.not_mem_nil, or_false] at hu
  rcases hu with rfl | rfl <;> rfl
theorem RdL.rdk {w : World} {A : Option Addr} {l : List Lb} (h : RdL w A l) : RdK w 2 A (cellsLb l) := fun i x hx => by
  simp only [cellsLb, List.getElem?_map, Option.map_eq_some_iff] at hx
  obtain ⟨y, hy, rfl⟩ := hx
  obtain ⟨g, o, ha, h1, h2⟩ := h i y hy
  refine ⟨g, o, ha, fun j v hv => ?_⟩
  match j, hv with
  | 0, hv => simp at hv; subst hv; exact h1
  | 1, hv => simp at hv; subst hv; exact h2
  | j + 2, hv => simp at hv
theorem RdK.labs {w : World} {A : Option Addr} {l : List Lb} (h : RdK w 2 A (cellsLb l)) : RdL w A l := fun i x hx => by
  obtain ⟨g, o, ha, hr⟩ := h i [.string x.1, .string x.2] (by simp [cellsLb, hx])
  exact ⟨g, o, ha, by simpa using hr 0 _ rfl, hr 1 _ rfl⟩

/-! ### States -/
/-- A state, as its cells hold it. -/
structure Sv where
  ck : Int
  nx : Int
  A : Option Addr
  N : Nat
  cA : Nat
  B : Option Addr
  K : Nat
  cB : Nat
  C : Option Addr
  n : Nat
  cC : Nat
abbrev Sv.arr (v : Sv) : Array Value := #[.int .i64 v.ck, .int .i64 v.nx, .slice v.A v.N v.cA, .slice v.B v.K v.cB, .slice v.C v.n v.cC]
/-- A state in memory reads as this one. -/
structure RdSt (w : World) (v : Sv) (S : Sg) : Prop where
  ck : v.ck = S.ck
  nx : v.nx = S.nx
  N : v.N = S.M.length
  M : RdM w v.A (mcs S.M)
  oM : MsOk w S.M
  cA : v.N ≤ v.cA
  cA2 : v.cA ≤ 9223372036854775807
  K : v.K = S.Q.length
  Q : RdQ w v.B S.Q
  oQ : QsOk S.Q
  cB : v.K ≤ v.cB
  cB2 : v.cB ≤ 9223372036854775807
  n : v.n = S.J.length
  J : RdJ w v.C (jbs S.J)
  oJ : JsOk w S.J
  oN : ∀ x ∈ S.J, x.1.nd.size ≤ 140737488351232
  cC : v.n ≤ v.cC
  cC2 : v.cC ≤ 9223372036854775807
theorem RdSt.later {w w' : World} {v : Sv} {S : Sg} (h : RdSt w v S) (hb : Below w.heap.size w w') : RdSt w' v S :=
  ⟨h.ck, h.nx, h.N, h.M.later hb, h.oM.later hb, h.cA, h.cA2, h.K, h.Q.later hb, h.oQ, h.cB, h.cB2, h.n, h.J.later hb, h.oJ.later hb, h.oN, h.cC, h.cC2⟩

/-! ### What changes in a world: only such blocks -/
/-- The world grew but for blocks that meet p. -/
structure GrP (p : Nat → Prop) (w w' : World) : Prop where
  os : w'.os = w.os
  tape : w'.tape = w.tape
  output : w'.output = w.output
  size : w.heap.size ≤ w'.heap.size
  block : ∀ k, k < w.heap.size → ¬ p k → w'.heap[k]? = w.heap[k]?
theorem GrP.refl (p : Nat → Prop) (w : World) : GrP p w w := ⟨rfl, rfl, rfl, Nat.le_refl _, fun _ _ _ => rfl⟩
theorem GrP.trans {p : Nat → Prop} {a b c : World} (h : GrP p a b) (k : GrP p b c) : GrP p a c :=
  ⟨k.os.trans h.os, k.tape.trans h.tape, k.output.trans h.output, Nat.le_trans h.size k.size, fun i hi hn => (k.block i (Nat.lt_of_lt_of_le hi h.size) hn).trans (h.block i hi hn)⟩
theorem GrP.wide {p q : Nat → Prop} {w w' : World} (h : GrP p w w') (hs : ∀ k, k < w.heap.size → p k → q k) : GrP q w w' := ⟨h.os, h.tape, h.output, h.size, fun k hk hn => h.block k hk (fun e => hn (hs k hk e))⟩
theorem GrP.ofBelow {p : Nat → Prop} {w w' : World} (h : Below w.heap.size w w') : GrP p w w' := ⟨h.os, h.tape, h.output, h.size, fun k hk _ => h.block k hk⟩
theorem GrP.of {w w' : World} {row : Option Nat} (h : w.grownBy w' row) : GrP (fun k => row = some k) w w' := ⟨h.os, h.tape, h.output, h.size, fun k hk hn => h.block k hk (fun e => hn e.symm)⟩
theorem GrP.below {p : Nat → Prop} {w w' : World} {B : Nat} (h : GrP p w w') (hB : B ≤ w.heap.size) (hp : ∀ k, p k → B ≤ k) : Below B w w' :=
  ⟨h.os, h.tape, h.output, h.size, fun k hk => h.block k (by omega) (fun e => by have := hp k e; omega)⟩
theorem GrP.cell {p : Nat → Prop} {w w' : World} (h : GrP p w w') {b o : Nat} (hb : b < w.heap.size) (hn : ¬ p b) : w'.cell? ⟨b, o, none⟩ = w.cell? ⟨b, o, none⟩ := World.cell?_of_block (w := w) (h.block b hb hn)
theorem GrP.set {p : Nat → Prop} {w w' : World} (h : GrP p w w') {a : Addr} (ha : p a.block) (u : Value) : GrP p w (w'.setCell a u) :=
  ⟨h.os, h.tape, h.output, by simpa using h.size, fun k hk hn => (Below.heap_setCell w' a u k (fun e => hn (by rw [e]; exact ha))).trans (h.block k hk hn)⟩
theorem Bk.grp {w w' : World} {g : Nat} {t : TypeId} {cs : Array Value} {p : Nat → Prop} (h : Bk w g t cs) (hb : GrP p w w') (hg : ¬ p g) : Bk w' g t cs := (hb.block g h.here hg).trans h

/-! ### A state that the call owns -/
/-- A row stays where only other blocks turn. -/
theorem OwnK.grp {w w' : World} {b k : Nat} {e : TypeId} {v : Value} {l : List (List Value)} {p : Nat → Prop} (h : OwnK w b e k v l) (hg : GrP p w w') (hp : ∀ g, v.ownBlock = some g → ¬ p g) : OwnK w' b e k v l := by
  obtain ⟨hk, hl, h⟩ := h
  refine ⟨hk, hl, ?_⟩
  rcases h with h | ⟨g, cap, cur, rfl, h1, h2, h3⟩
  · exact .inl h
  · exact .inr ⟨g, cap, cur, rfl, h1, (hg.block g (by
      by_cases hh : g < w.heap.size
      · exact hh
      · rw [Array.getElem?_eq_none_iff.2 (by omega)] at h2; cases h2) (hp g rfl)).trans h2, h3⟩
/-- Rows of two types lie in two blocks. -/
theorem OwnK.parted {w : World} {b b' k k' g : Nat} {e e' : TypeId} {v v' : Value} {l l' : List (List Value)} (h : OwnK w b e k v l) (h' : OwnK w b' e' k' v' l') (hne : e ≠ e') (hg : v.ownBlock = some g) (hg' : v'.ownBlock = some g) : False := by
  rcases h.2.2 with ⟨rfl, _⟩ | ⟨g1, cap, cur, rfl, _, h2, _⟩
  · cases hg
  · rcases h'.2.2 with ⟨rfl, _⟩ | ⟨g2, cap', cur', rfl, _, h2', _⟩
    · cases hg'
    · have e1 : g1 = g := by injection hg
      have e2 : g2 = g := by injection hg'
      subst e1
      subst e2
      have := h2.symm.trans h2'
      injection this with this
      injection this with _ this
      exact hne this
/-- Labels that the call owns. -/
structure LbNew (w : World) (b : Nat) (A : Option Addr) (n cp : Nat) (l : List Lb) : Prop where
  own : OwnK w b 220 2 (.slice A n cp) (cellsLb l)
  sz : Sz l
theorem LbNew.ok {w : World} {b : Nat} {A : Option Addr} {n cp : Nat} {l : List Lb} (h : LbNew w b A n cp l) : LbOk w A n cp l := by
  obtain ⟨B, c, hv, hr, hc, hc2, _⟩ := h.own.sl
  injection hv with h1 h2 h3
  subst h1 h3
  rw [cellsLb_length] at h2 hc
  exact ⟨h2, hr.labs, by omega, by unfold maxLen at hc2; omega, h.sz⟩
/-- A state that the call owns: its three slices, its labels. -/
structure OwnS (w : World) (b : Nat) (vM vQ vJ : Value) (S : Sg) : Prop where
  M : OwnK w b 93 7 vM (cellsM (mcs S.M))
  Q : OwnK w b 55 4 vQ (cellsQ S.Q)
  J : OwnK w b 95 13 vJ (cellsJ (jbs S.J))
  lM : ∀ x ∈ S.M, LbNew w b x.1.A x.1.n x.1.cp x.2
  lJ : ∀ x ∈ S.J, LbNew w b x.1.A x.1.n x.1.cp x.2
  zM : ∀ x ∈ S.M, x.1.nm.size ≤ 140737488351232
  zQ : QsOk S.Q
  zJ : ∀ x ∈ S.J, x.1.nm.size ≤ 140737488351232 ∧ x.1.qu.size ≤ 140737488351232 ∧ x.1.ap.size ≤ 140737488351232 ∧ x.1.ga.size ≤ 140737488351232 ∧ x.1.nd.size ≤ 140737488351232
/-- The block of an address. -/
def blkA (A : Option Addr) (k : Nat) : Prop := ∃ a, A = some a ∧ a.block = k
/-- The blocks of a state that the call owns. -/
def blkS (vM vQ vJ : Value) (S : Sg) (k : Nat) : Prop :=
  vM.ownBlock = some k ∨ vQ.ownBlock = some k ∨ vJ.ownBlock = some k ∨ (∃ x ∈ S.M, blkA x.1.A k) ∨ ∃ x ∈ S.J, blkA x.1.A k
theorem blkA_own {A : Option Addr} {n c k : Nat} (h : (Value.slice A n c).ownBlock = some k) : blkA A k := by
  cases A with
  | none => cases h
  | some a => exact ⟨a, rfl, by injection h⟩
section
variable {w w' : World} {b b' : Nat} {vM vQ vJ : Value} {S : Sg}
theorem LbNew.grp {A : Option Addr} {n cp : Nat} {l : List Lb} {p : Nat → Prop} (h : LbNew w b A n cp l) (hg : GrP p w w') (hp : ∀ k, blkA A k → ¬ p k) : LbNew w' b A n cp l := ⟨h.own.grp hg fun g hg => hp g (blkA_own hg), h.sz⟩
theorem OwnS.grp {p : Nat → Prop} (h : OwnS w b vM vQ vJ S) (hg : GrP p w w') (hp : ∀ k, blkS vM vQ vJ S k → ¬ p k) : OwnS w' b vM vQ vJ S :=
  ⟨h.M.grp hg fun g e => hp g (.inl e), h.Q.grp hg fun g e => hp g (.inr (.inl e)), h.J.grp hg fun g e => hp g (.inr (.inr (.inl e))),
    fun x hx => (h.lM x hx).grp hg fun k hk => hp k (.inr (.inr (.inr (.inl ⟨x, hx, hk⟩)))), fun x hx => (h.lJ x hx).grp hg fun k hk => hp k (.inr (.inr (.inr (.inr ⟨x, hx, hk⟩)))), h.zM, h.zQ, h.zJ⟩
theorem LbNew.base {A : Option Addr} {n cp : Nat} {l : List Lb} (h : LbNew w b A n cp l) (hb : b' ≤ b) : LbNew w b' A n cp l := ⟨h.own.base hb, h.sz⟩
theorem OwnS.base (h : OwnS w b vM vQ vJ S) (hb : b' ≤ b) : OwnS w b' vM vQ vJ S :=
  ⟨h.M.base hb, h.Q.base hb, h.J.base hb, fun x hx => (h.lM x hx).base hb, fun x hx => (h.lJ x hx).base hb, h.zM, h.zQ, h.zJ⟩
theorem LbNew.blk {A : Option Addr} {n cp k : Nat} {l : List Lb} (h : LbNew w b A n cp l) (hk : blkA A k) : b ≤ k ∧ k < w.heap.size := by
  obtain ⟨B, c, hv, _, _, _, hn⟩ := h.own.sl
  injection hv with h1 h2 h3
  subst h1
  obtain ⟨⟨g, o, pp⟩, rfl, rfl⟩ := hk
  exact hn _ _ _ rfl
/-- The blocks of a state that the call owns are its own. -/
theorem OwnS.blk (h : OwnS w b vM vQ vJ S) {k : Nat} (hk : blkS vM vQ vJ S k) : b ≤ k ∧ k < w.heap.size := by
  rcases hk with e | e | e | ⟨x, hx, e⟩ | ⟨x, hx, e⟩
  · exact ⟨h.M.block _ e, h.M.lt e⟩
  · exact ⟨h.Q.block _ e, h.Q.lt e⟩
  · exact ⟨h.J.block _ e, h.J.lt e⟩
  · exact (h.lM x hx).blk e
  · exact (h.lJ x hx).blk e
theorem OwnS.below (h : OwnS w b vM vQ vJ S) (hb : Below w.heap.size w w') : OwnS w' b vM vQ vJ S := h.grp (GrP.ofBelow (p := fun _ => False) hb) fun _ _ e => e
/-- What a state that the call owns reads as. -/
theorem OwnS.rd (h : OwnS w b vM vQ vJ S) : ∃ v : Sv, v.arr = #[.int .i64 S.ck, .int .i64 S.nx, vM, vQ, vJ] ∧ RdSt w v S := by
  obtain ⟨A, cA, a1, a2, a3, a4, _⟩ := h.M.sl
  obtain ⟨B, cB, b1, b2, b3, b4, _⟩ := h.Q.sl
  obtain ⟨C, cC, c1, c2, c3, c4, _⟩ := h.J.sl
  rw [cellsM_length, List.length_map] at a1 a3
  rw [cellsQ_length] at b1 b3
  rw [cellsJ_length, List.length_map] at c1 c3
  unfold maxLen at a4 b4 c4
  exact ⟨⟨S.ck, S.nx, A, S.M.length, cA, B, S.Q.length, cB, C, S.J.length, cC⟩, by rw [a1, b1, c1], ⟨rfl, rfl, rfl, a2, fun x hx => ⟨h.zM x hx, (h.lM x hx).ok⟩, a3, by omega, rfl, b2, h.zQ, b3, by omega, rfl, c2, fun x hx => ⟨(h.zJ x hx).1, (h.zJ x hx).2.1, (h.zJ x hx).2.2.1, (h.zJ x hx).2.2.2.1, (h.lJ x hx).ok⟩, fun x hx => (h.zJ x hx).2.2.2.2, c3, by omega⟩⟩
end

/-! ### Acts as elements -/
def cellsA (l : List Ac) : List (List Value) := l.map fun x => [.int .i64 x.1, .string x.2.1, .string x.2.2]
theorem cellsA_length (l : List Ac) : (cellsA l).length = l.length := by simp [cellsA]
theorem cellsA_append (l m : List Ac) : cellsA (l ++ m) = cellsA l ++ cellsA m := by simp [cellsA]
theorem cellsA_k (l : List Ac) : ∀ x ∈ cellsA l, x.length = 3 := by
  intro x hx
  simp only [cellsA, List.mem_map] at hx
  obtain ⟨j, _, rfl⟩ := hx
  rfl
theorem cellsA_one (l : List Ac) : ∀ y ∈ cellsA l, ∀ u ∈ y, u.oneCell' = true := by
  intro x hx u hu
  simp only [cellsA, List.mem_map] at hx
  obtain ⟨j, _, rfl⟩ := hx
  simp only [List.mem_cons, List.not_mem_nil, or_false] at hu
  rcases hu with rfl | rfl | rfl <;> rfl
theorem RdK.acts {w : World} {A : Option Addr} {l : List Ac} (h : RdK w 3 A (cellsA l)) : RdA w A l := fun i x hx => by
  obtain ⟨g, o, ha, hr⟩ := h i [.int .i64 x.1, .string x.2.1, .string x.2.2] (by simp [cellsA, hx])
  exact ⟨g, o, ha, by simpa using hr 0 _ rfl, hr 1 _ rfl, hr 2 _ rfl⟩
/-- A row of acts that the call owns. -/
theorem OwnK.acts {w : World} {b : Nat} {e : TypeId} {v : Value} {l : List Ac} (h : OwnK w b e 3 v (cellsA l)) : ∃ A c, v = .slice A l.length c ∧ RdA w A l ∧ l.length ≤ c ∧ c ≤ 9223372036854775807 := by
  obtain ⟨A, c, hv, hr, h1, h2, _⟩ := h.sl
  rw [cellsA_length] at hv h1
  refine ⟨A, c, hv, hr.acts, h1, ?_⟩
  unfold maxLen at h2; omega
end Go.Proofs.YtjgojgmgicpgaaaGreat
