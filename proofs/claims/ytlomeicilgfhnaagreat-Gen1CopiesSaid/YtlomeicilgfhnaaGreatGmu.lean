/- A copy of a state whose cells are written over: what stays known of it. No condition; it serves any seat. -/
import Derived.Test.YtlomeicilgfhnaaGreatGsa
namespace Go.Proofs.YtlomeicilgfhnaaGreat
open Go.RowKit
set_option linter.unusedSimpArgs false
set_option linter.unusedVariables false

/-- Labels lie here, whatever they say. -/
def RowF (w : World) (A : Option Addr) (n : Nat) : Prop := n = 0 ∨ ∃ g cur, A = some ⟨g, 0, none⟩ ∧ Bk w g 70 cur ∧ n * 2 ≤ cur.size
theorem LbNew.rowF {w : World} {b : Nat} {A : Option Addr} {n cp : Nat} {l : List Lb} (h : LbNew w b A n cp l) : RowF w A n := by
  obtain ⟨hk, hl, h⟩ := h.own
  rcases h with ⟨hv, h0⟩ | ⟨g, cap, cur, hv, h1, h2, h3, h4, h5, h6⟩
  · injection hv with e1 e2 e3; exact .inl e2
  · injection hv with e1 e2 e3
    refine .inr ⟨g, cur, e1, h2, ?_⟩
    rw [h5, e2]; exact Nat.mul_le_mul_right 2 h3
theorem RowF.set {w : World} {A : Option Addr} {n : Nat} (h : RowF w A n) (g o : Nat) (u : Value) : RowF (w.setCell ⟨g, o, none⟩ u) A n := by
  rcases h with h | ⟨g', cur, hA, hB, hs⟩
  · exact .inl h
  · by_cases e : g' = g
    · subst e; exact .inr ⟨g', _, hA, hB.put o u, by simpa using hs⟩
    · exact .inr ⟨g', cur, hA, hB.other e u, hs⟩
/-- What stays known of such a state. -/
structure Mut (w : World) (b : Nat) (A : Option Addr) (N cA : Nat) (B : Option Addr) (K cB : Nat) (C : Option Addr) (n cC : Nat) (S : Sg) : Prop where
  M : ∃ L : List Mc, L.length = N ∧ (∀ i (h1 : i < L.length) (h2 : i < S.M.length), L[i].A = S.M[i].1.A ∧ L[i].n = S.M[i].1.n ∧ L[i].cp = S.M[i].1.cp) ∧ OwnK w b 60 7 (.slice A N cA) (cellsM L)
  Q : ∃ L : List Qx, L.length = K ∧ OwnK w b 45 4 (.slice B K cB) (cellsQ L)
  J : ∃ L : List Jb, L.length = n ∧ (∀ i (h1 : i < L.length) (h2 : i < S.J.length), L[i].A = S.J[i].1.A ∧ L[i].n = S.J[i].1.n ∧ L[i].cp = S.J[i].1.cp) ∧ OwnK w b 66 13 (.slice C n cC) (cellsJ L)
  lM : ∀ x ∈ S.M, RowF w x.1.A x.1.n
  lJ : ∀ x ∈ S.J, RowF w x.1.A x.1.n
section
variable {w : World} {b : Nat} {A : Option Addr} {N cA : Nat} {B : Option Addr} {K cB : Nat} {C : Option Addr} {n cC : Nat} {S : Sg}
theorem OwnS.mut (h : OwnS w b (.slice A N cA) (.slice B K cB) (.slice C n cC) S) : Mut w b A N cA B K cB C n cC S := by
  obtain ⟨_, _, a1, _⟩ := h.M.sl
  obtain ⟨_, _, b1, _⟩ := h.Q.sl
  obtain ⟨_, _, c1, _⟩ := h.J.sl
  injection a1 with _ a1; injection b1 with _ b1; injection c1 with _ c1
  rw [cellsM_length] at a1; rw [cellsQ_length] at b1; rw [cellsJ_length] at c1
  exact ⟨⟨mcs S.M, a1.symm, fun i h1 h2 => by simp [mcs], h.M⟩, ⟨S.Q, b1.symm, h.Q⟩, ⟨jbs S.J, c1.symm, fun i h1 h2 => by simp [jbs], h.J⟩, fun x hx => (h.lM x hx).rowF, fun x hx => (h.lJ x hx).rowF⟩
/-- A row stays where a cell of another row is stored. -/
theorem OwnK.aside {w : World} {b b' k k' g o : Nat} {e e' : TypeId} {v v' : Value} {l l' : List (List Value)} (h : OwnK w b e k v l) (h' : OwnK w b' e' k' v' l') (hne : e ≠ e') (hv : v'.ownBlock = some g) (u : Value) : OwnK (w.setCell ⟨g, o, none⟩ u) b e k v l :=
  h.grp (p := fun k => k = g) ((GrP.refl (fun k => k = g) w).set (a := ⟨g, o, none⟩) rfl u) fun i hi e => by subst e; exact h.parted h' hne hi hv
theorem OwnK.asideL {w : World} {b k g o : Nat} {e : TypeId} {v : Value} {l : List (List Value)} {cur : Array Value} (h : OwnK w b e k v l) (hB : Bk w g 70 cur) (hne : e ≠ 70) (u : Value) : OwnK (w.setCell ⟨g, o, none⟩ u) b e k v l :=
  h.grp (p := fun k => k = g) ((GrP.refl (fun k => k = g) w).set (a := ⟨g, o, none⟩) rfl u) fun i hi e => by
    subst e
    rcases h.notBk hB hne with h1 | h1
    · rw [h1] at hi; cases hi
    · exact h1 hi
theorem Mut.setM (h : Mut w b A N cA B K cB C n cC S) {k : Nat} (hk : k < N) (u : Int) : ∃ g, A = some ⟨g, 0, none⟩ ∧ b ≤ g ∧ (∃ v, w.cell? ⟨g, k * 7 + 6, none⟩ = some v) ∧ w.frozen? ⟨g, k * 7 + 6, none⟩ = false ∧ Mut (w.setCell ⟨g, k * 7 + 6, none⟩ (.int .i64 u)) b A N cA B K cB C n cC S := by
  obtain ⟨L, hL, hh, hO⟩ := h.M
  obtain ⟨LQ, hLQ, hOQ⟩ := h.Q
  obtain ⟨LJ, hLJ, hhJ, hOJ⟩ := h.J
  have hkl : k < (cellsM L).length := by rw [cellsM_length, hL]; exact hk
  obtain ⟨g, c, hv, hg1, hg2, _, _⟩ := hO.somes (by omega)
  injection hv with e1 e2 e3
  subst e1
  obtain ⟨q1, q2, q3⟩ := hO.put (j := 6) hkl (by omega) (.int .i64 u)
  refine ⟨g, rfl, hg1, Option.isSome_iff_exists.1 q2, q3, ⟨L.set k { L[k]'(by omega) with un := u }, by rw [List.length_set, hL], fun i h1 h2 => ?_, ?_⟩, ⟨LQ, hLQ, hOQ.aside hO (by decide) rfl _⟩, ⟨LJ, hLJ, hhJ, hOJ.aside hO (by decide) rfl _⟩, fun x hx => (h.lM x hx).set _ _ _, fun x hx => (h.lJ x hx).set _ _ _⟩
  · rw [List.getElem_set]
    split
    · rename_i e; subst e; exact hh k (by omega) h2
    · exact hh i (by simpa using h1) h2
  · have e : cellsM (L.set k { L[k]'(by omega) with un := u }) = (cellsM L).set k ((cellsM L)[k].set 6 (.int .i64 u)) := by
      have hget : (cellsM L)[k] = (L[k]'(by omega)).cells := by simp [cellsM]
      rw [hget]; unfold cellsM; rw [List.map_set]; rfl
    rw [e]; exact q1
theorem Mut.setQ (h : Mut w b A N cA B K cB C n cC S) {k : Nat} (hk : k < K) (u : ByteArray) : ∃ g, B = some ⟨g, 0, none⟩ ∧ b ≤ g ∧ (∃ v, w.cell? ⟨g, k * 4, none⟩ = some v) ∧ w.frozen? ⟨g, k * 4, none⟩ = false ∧ Mut (w.setCell ⟨g, k * 4, none⟩ (.string u)) b A N cA B K cB C n cC S := by
  obtain ⟨L, hL, hh, hO⟩ := h.M
  obtain ⟨LQ, hLQ, hOQ⟩ := h.Q
  obtain ⟨LJ, hLJ, hhJ, hOJ⟩ := h.J
  have hkl : k < (cellsQ LQ).length := by rw [cellsQ_length, hLQ]; exact hk
  obtain ⟨g, c, hv, hg1, hg2, _, _⟩ := hOQ.somes (by omega)
  injection hv with e1 e2 e3
  subst e1
  obtain ⟨q1, q2, q3⟩ := hOQ.put (j := 0) hkl (by omega) (.string u)
  simp only [Nat.add_zero] at q1 q2 q3
  refine ⟨g, rfl, hg1, Option.isSome_iff_exists.1 q2, q3, ⟨L, hL, hh, hO.aside hOQ (by decide) rfl _⟩, ⟨LQ.set k (u, (LQ[k]'(by omega)).2), by rw [List.length_set, hLQ], ?_⟩, ⟨LJ, hLJ, hhJ, hOJ.aside hOQ (by decide) rfl _⟩, fun x hx => (h.lM x hx).set _ _ _, fun x hx => (h.lJ x hx).set _ _ _⟩
  have e : cellsQ (LQ.set k (u, (LQ[k]'(by omega)).2)) = (cellsQ LQ).set k ((cellsQ LQ)[k].set 0 (.string u)) := by
    have hget : (cellsQ LQ)[k] = (LQ[k]'(by omega)).cells := by simp [cellsQ]
    rw [hget]; unfold cellsQ; rw [List.map_set]; rfl
  rw [e]; exact q1
theorem Mut.setJ (h : Mut w b A N cA B K cB C n cC S) {k : Nat} (hk : k < n) (u : Int) : ∃ g, C = some ⟨g, 0, none⟩ ∧ b ≤ g ∧ (∃ v, w.cell? ⟨g, k * 13 + 10, none⟩ = some v) ∧ w.frozen? ⟨g, k * 13 + 10, none⟩ = false ∧ Mut (w.setCell ⟨g, k * 13 + 10, none⟩ (.int .i64 u)) b A N cA B K cB C n cC S := by
  obtain ⟨L, hL, hh, hO⟩ := h.M
  obtain ⟨LQ, hLQ, hOQ⟩ := h.Q
  obtain ⟨LJ, hLJ, hhJ, hOJ⟩ := h.J
  have hkl : k < (cellsJ LJ).length := by rw [cellsJ_length, hLJ]; exact hk
  obtain ⟨g, c, hv, hg1, hg2, _, _⟩ := hOJ.somes (by omega)
  injection hv with e1 e2 e3
  subst e1
  obtain ⟨q1, q2, q3⟩ := hOJ.put (j := 10) hkl (by omega) (.int .i64 u)
  refine ⟨g, rfl, hg1, Option.isSome_iff_exists.1 q2, q3, ⟨L, hL, hh, hO.aside hOJ (by decide) rfl _⟩, ⟨LQ, hLQ, hOQ.aside hOJ (by decide) rfl _⟩, ⟨LJ.set k { LJ[k]'(by omega) with sq := u }, by rw [List.length_set, hLJ], fun i h1 h2 => ?_, ?_⟩, fun x hx => (h.lM x hx).set _ _ _, fun x hx => (h.lJ x hx).set _ _ _⟩
  · rw [List.getElem_set]
    split
    · rename_i e; subst e; exact hhJ k (by omega) h2
    · exact hhJ i (by simpa using h1) h2
  · have e : cellsJ (LJ.set k { LJ[k]'(by omega) with sq := u }) = (cellsJ LJ).set k ((cellsJ LJ)[k].set 10 (.int .i64 u)) := by
      have hget : (cellsJ LJ)[k] = (LJ[k]'(by omega)).cells := by simp [cellsJ]
      rw [hget]; unfold cellsJ; rw [List.map_set]; rfl
    rw [e]; exact q1
theorem Mut.setL (h : Mut w b A N cA B K cB C n cC S) {A' : Option Addr} {m i j : Nat} (hr : RowF w A' m) (hi : i < m) (hj : j < 2) (u : ByteArray) : ∃ g, A' = some ⟨g, 0, none⟩ ∧ (∃ v, w.cell? ⟨g, i * 2 + j, none⟩ = some v) ∧ w.frozen? ⟨g, i * 2 + j, none⟩ = false ∧ Mut (w.setCell ⟨g, i * 2 + j, none⟩ (.string u)) b A N cA B K cB C n cC S := by
  obtain ⟨L, hL, hh, hO⟩ := h.M
  obtain ⟨LQ, hLQ, hOQ⟩ := h.Q
  obtain ⟨LJ, hLJ, hhJ, hOJ⟩ := h.J
  rcases hr with hr | ⟨g, cur, hA, hB, hs⟩
  · omega
  · refine ⟨g, hA, ⟨cur[i * 2 + j]'(by omega), by rw [hB.cellAt]; exact Array.getElem?_eq_getElem _⟩, hB.free _, ⟨L, hL, hh, hO.asideL hB (by decide) _⟩, ⟨LQ, hLQ, hOQ.asideL hB (by decide) _⟩, ⟨LJ, hLJ, hhJ, hOJ.asideL hB (by decide) _⟩, fun x hx => (h.lM x hx).set _ _ _, fun x hx => (h.lJ x hx).set _ _ _⟩
theorem Mut.headM (h : Mut w b A N cA B K cB C n cC S) {k : Nat} (hk : k < N) (hk2 : k < S.M.length) : ∃ g, A = some ⟨g, 0, none⟩ ∧ w.cell? ⟨g, k * 7 + 4, none⟩ = some (.slice S.M[k].1.A S.M[k].1.n S.M[k].1.cp) := by
  obtain ⟨L, hL, hh, hO⟩ := h.M
  have hkl : k < (cellsM L).length := by rw [cellsM_length, hL]; exact hk
  obtain ⟨g, c, hv, _⟩ := hO.somes (by omega)
  injection hv with e1 e2 e3
  subst e1 e3
  refine ⟨g, rfl, ?_⟩
  have hr := hO.range hkl 4 (.slice L[k].A L[k].n L[k].cp) (by simp [cellsM, Mc.cells])
  obtain ⟨q1, q2, q3⟩ := hh k (by omega) hk2
  rw [q1, q2, q3] at hr
  exact hr
theorem Mut.headJ (h : Mut w b A N cA B K cB C n cC S) {k : Nat} (hk : k < n) (hk2 : k < S.J.length) : ∃ g, C = some ⟨g, 0, none⟩ ∧ w.cell? ⟨g, k * 13 + 6, none⟩ = some (.slice S.J[k].1.A S.J[k].1.n S.J[k].1.cp) := by
  obtain ⟨L, hL, hh, hO⟩ := h.J
  have hkl : k < (cellsJ L).length := by rw [cellsJ_length, hL]; exact hk
  obtain ⟨g, c, hv, _⟩ := hO.somes (by omega)
  injection hv with e1 e2 e3
  subst e1 e3
  refine ⟨g, rfl, ?_⟩
  have hr := hO.range hkl 6 (.slice L[k].A L[k].n L[k].cp) (by simp [cellsJ, Jb.cells])
  obtain ⟨q1, q2, q3⟩ := hh k (by omega) hk2
  rw [q1, q2, q3] at hr
  exact hr
end
/-- A single cell is stored. -/
theorem store_cell {P : Program} {w : World} {ops : Array Oper} {rest : List Oper} {o : Oper} {a : Act} {Q : Exit → Act → World → Prop} (hw : Region.wanted o (yielded ops a.tmps) = true) (ty : TypeId) (x y : Operand) (ho : o.op = .store ty x y)
    (p : Addr) (u : Value) (hx : a.eval x = .pointer (some p)) (hy : a.eval y = u) (v0 : Value) (hc : w.cell? p = some v0) (hf : w.frozen? p = false)
    (hi : (P.info? ty).map (·.size) = some 1) (h1 : u.oneCell' = true) (hu : u.cells = #[u])
    (h : ∀ w', w' = w.setCell p u → wpList P ops Q rest (a.put o.dst undef) w') : wpList P ops Q (o :: rest) a w :=
  BigFrame.wpList_want hw fun K hKK => by
    have hsv : (storeVar ty p u).run P w = .ok () (w.setCell p u) := by
      cases hq : P.info? ty with
      | none => simp [hq] at hi
      | some i =>
        have hs : i.size = 1 := by simpa [hq] using hi
        have hp : p.add 0 = p := by cases p; rfl
        simp [storeVar, sizeOf, typeInfo, hq, hu, hs, storeCells]
        rw [hp, run_store P w _ _ _ h1]
        simp [stored, hc, hf]
    unfold Oper.wp execOp
    simp only [ho, hx, hy, Instr.storeAt, Instr.sureAddr, Sem.run_bind, Sem.run_pure, Result.andThen_ok, hsv]
    exact hKK _ _ (h _ rfl)
/-- The blocks of a state that the call owns are of none that is of another type. -/
theorem OwnS.offBk {w : World} {b p : Nat} {vM vQ vJ : Value} {S : Sg} {cs : Array Value} (h : OwnS w b vM vQ vJ S) (hB : Bk w p 31 cs) : ∀ k, blkS vM vQ vJ S k → k ≠ p := by
  intro k hk e
  subst e
  have ho : ∀ {e kk : Nat} {v : Value} {l : List (List Value)}, OwnK w b e kk v l → e ≠ 31 → v.ownBlock = some k → False := fun h1 hne hv => by
    rcases h1.notBk hB hne with h2 | h2
    · rw [h2] at hv; cases hv
    · exact h2 hv
  rcases hk with e | e | e | ⟨x, hx, a, e1, e2⟩ | ⟨x, hx, a, e1, e2⟩
  · exact ho h.M (by decide) e
  · exact ho h.Q (by decide) e
  · exact ho h.J (by decide) e
  · exact ho (h.lM x hx).own (by decide) (by rw [e1]; exact congrArg some e2)
  · exact ho (h.lJ x hx).own (by decide) (by rw [e1]; exact congrArg some e2)
end Go.Proofs.YtlomeicilgfhnaaGreat
