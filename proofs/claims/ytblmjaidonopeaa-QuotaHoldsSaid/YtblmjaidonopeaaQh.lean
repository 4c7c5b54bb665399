/- What QuotaHolds wants beside the contracts: a slice of vectors as an argument, operations in regions that draw their order (an empty slice, a slice of one job, a new cell), and what is admitted behind others. No condition beyond those that each lemma bears. -/
import Derived.Test.YtblmjaidonopeaaQm
import Derived.Test.YtblmjaidonopeaaQr
import Derived.Test.YtblmjaidonopeaaQk
import Derived.Deep.Slices
import Derived.ChangeAt
import Derived.WideShapes
namespace Go.Proofs.Ytblmjaidonopeaa
open Go.ChangeShapes Go.WideShapes Go.ChangeAt Go.RowKit
set_option linter.unusedSimpArgs false
set_option linter.unusedVariables false

theorem list3v {α : Type} (l : List α) (h : l.length = 3) : ∃ a b c, l = [a, b, c] := by
  match l, h with
  | [a, b, c], _ => exact ⟨a, b, c, rfl⟩
theorem open_vecs {H : Type} {enc : TypeId × Value → H} {W : World} {base : Nat} {sp : Nat → Bool} {held : Bool} {a : Option Addr} {len cap : Nat} {d : DataW H} {p : List MemPlace}
    (h : DataW.Trod enc Try.prog W base sp held 43 (.slice a len cap) d p) : ∃ l, len = l.length ∧ len ≤ 9223372036854775807 ∧ RdV W a l := by
  obtain ⟨fuel, hf⟩ := h
  rcases Go.Deep.open_slice Try.underlying43 hf with ⟨hcs, _⟩ | ⟨x, l, c, m, n, D, Pl, hcs, _, hl, hm, hmm, _, hi⟩
  · simp [Value.cells] at hcs
    obtain ⟨rfl, rfl, rfl⟩ := hcs
    exact ⟨[], rfl, by omega, fun i t ht => by simp at ht⟩
  · simp [Value.cells] at hcs
    obtain ⟨rfl, rfl, rfl⟩ := hcs
    rw [show Try.prog.cellsOf 24 = 3 by kernel_rfl] at hi
    have hlm : len ≤ m := by rw [hmm]; split <;> omega
    unfold maxLen at hm
    have hspot : 0 < len → x.spot = none := fun h => by
      obtain ⟨cs', hc, ht⟩ := hi 0 (by omega)
      obtain ⟨_, hcl, hat⟩ := World.cells?_some hc
      have h0 := hat 0 (by omega)
      rw [List.getElem?_eq_getElem (by omega)] at h0
      simpa [Addr.add] using World.cell?_spot h0
    have key : ∀ i, i < len → ∃ t : Int × Int × Int, ∃ g o, x = ⟨g, o, none⟩ ∧ W.cell? ⟨g, o + i * 3, none⟩ = some (.int .i64 t.1) ∧ W.cell? ⟨g, o + i * 3 + 1, none⟩ = some (.int .i64 t.2.1) ∧ W.cell? ⟨g, o + i * 3 + 2, none⟩ = some (.int .i64 t.2.2) := fun i hlt => by
      obtain ⟨cs', hc, ht⟩ := hi i (by omega)
      obtain ⟨_, hcl, hat⟩ := World.cells?_some hc
      obtain ⟨c0, c1, c2, rfl⟩ := list3v cs' (by simpa using hcl)
      obtain ⟨y0, y1, y2, q, hx, hy0, hy1, hy2⟩ := trod_array3 Try.underlying24 (show Try.prog.cellsOf 3 = 1 by kernel_rfl) ht
      obtain ⟨x0, e0, rfl, w0⟩ := DataW.trod_int Try.underlying3 hy0
      obtain ⟨x1, e1, rfl, w1⟩ := DataW.trod_int Try.underlying3 hy1
      obtain ⟨x2, e2, rfl, w2⟩ := DataW.trod_int Try.underlying3 hy2
      simp at e0 e1 e2
      subst e0 e1 e2
      have h0 := hat 0 (by omega)
      have h1 := hat 1 (by omega)
      have h2 := hat 2 (by omega)
      simp at h0 h1 h2
      obtain ⟨g, o, spot⟩ := x
      have hs : spot = none := hspot (by omega)
      subst hs
      rw [Addr.add_lit] at h0 h1 h2
      rw [Addr.add_lit] at h1 h2
      exact ⟨(x0, x1, x2), g, o, rfl, by simpa [Addr.add] using h0, h1, h2⟩
    have pick : ∀ n, n ≤ len → ∃ l : List (Int × Int × Int), l.length = n ∧ RdV W (some x) l := by
      intro n
      induction n with
      | zero => exact fun _ => ⟨[], rfl, fun i t ht => by simp at ht⟩
      | succ n ih =>
        intro hn
        obtain ⟨l, hll, hr⟩ := ih (by omega)
        obtain ⟨t, g, o, hx, h0, h1, h2⟩ := key n (by omega)
        refine ⟨l ++ [t], by simp [hll], fun i u hu => ?_⟩
        by_cases hil : i < l.length
        · rw [List.getElem?_append_left hil] at hu
          exact hr i u hu
        · have hin : i = n := by
            have := (List.getElem?_eq_some_iff.1 hu).1
            simp at this
            omega
          subst hin
          rw [List.getElem?_append_right (by omega), hll] at hu
          simp at hu
          subst hu
          exact ⟨g, o, by rw [hx], h0, h1, h2⟩
    obtain ⟨l, hll, hr⟩ := pick len (Nat.le_refl _)
    exact ⟨l, hll.symm, by omega, hr⟩

/-- What is admitted behind others. -/
theorem holds_is {nm : ByteArray} {a b c x y z x2 y2 z2 f2 T : Int} {M : List V3} {t : V3} (h : sm 0 0 0 M = (x, y, z, 0)) (h2 : sm 0 0 0 (M ++ [t]) = (x2, y2, z2, f2)) (hT : adm nm a b c t.1 t.2.1 t.2.2 x y z 0 = T) :
    (T = 0 ∧ f2 = 0 ∧ fB x2 y2 z2 a b c = true) ∨ (T = 9 ∧ f2 = 0 ∧ fB x2 y2 z2 a b c = false) ∨ (T = 9 ∧ (f2 = 1 ∨ f2 = 6)) ∨ T = 1 := by
  cases hq : queueB nm a b c
  · rw [adm_q hq] at hT; exact .inr (.inr (.inr hT.symm))
  · cases ht : rB t.1 t.2.1 t.2.2
    · rw [adm_n ht] at hT; exact .inr (.inr (.inr hT.symm))
    · have hx : rB x y z = true := by
        rcases sm_is (by decide) h with ⟨_, hr⟩ | ⟨h0, _⟩
        · exact hr
        · omega
      rw [adm_0 hq ht] at hT
      rw [sm_append h] at h2
      cases ha : adB x y z t.1 t.2.1 t.2.2
      · rw [fB_over hx ht (queueB_r hq) ha] at hT
        rw [sm_no ha] at h2; simp only [Prod.mk.injEq] at h2
        have := adE_no ha
        refine .inr (.inr (.inl ⟨by simpa using hT.symm, ?_⟩))
        rw [← h2.2.2.2]; exact this
      · rw [sm_ok ha, sm_nil] at h2; simp only [Prod.mk.injEq] at h2
        obtain ⟨rfl, rfl, rfl, rfl⟩ := h2
        cases hf : fB (x + t.1) (y + t.2.1) (z + t.2.2) a b c
        · rw [hf] at hT; exact .inr (.inl ⟨by simpa using hT.symm, rfl, rfl⟩)
        · rw [hf] at hT; exact .inl ⟨by simpa using hT.symm, rfl, rfl⟩

theorem Bk.ne {w : World} {g g' : Nat} {t t' : TypeId} {cs cs' : Array Value} (h : Bk w g t cs) (h' : Bk w g' t' cs') (hne : cs.size ≠ cs'.size) : g ≠ g' := fun e => by
  subst e
  have := h.symm.trans h'
  injection this with this
  injection this with this
  exact hne (by rw [this])
theorem OwnK.ne {w : World} {g base k : Nat} {t e : TypeId} {cs : Array Value} {v : Value} {l : List (List Value)} (h : OwnK w base e k v l) (h' : Bk w g t cs) (hne : t ≠ e) : some g ≠ v.ownBlock := fun he => by
  rcases h.2.2 with ⟨rfl, _⟩ | ⟨g', cap, cur, rfl, _, hg, _⟩
  · cases he
  · injection he with he
    subst he
    have := h'.symm.trans hg
    injection this with this
    injection this with _ this
    exact hne this
theorem OwnK.of_empty {w : World} {g base k : Nat} {e : TypeId} (h : Bk w g e #[]) (hb : base ≤ g) : OwnK w base e k (.slice (some ⟨g, 0, none⟩) 0 0) [] :=
  ⟨by simp, by simp, .inr ⟨g, 0, #[], rfl, hb, h, Nat.le_refl _, by simp [maxLen], by simp, by simp⟩⟩
theorem RdK.of_bk {w : World} {g k : Nat} {t : TypeId} {cs : List Value} (h : Bk w g t cs.toArray) : RdK w k (some ⟨g, 0, none⟩) [cs] := by
  intro i x hx
  match i, hx with
  | 0, hx =>
    simp at hx; subst hx
    refine ⟨_, _, rfl, fun j v hv => ?_⟩
    have h' := h.cellAt j
    simp only [List.getElem?_toArray] at h'
    simp only [Nat.zero_mul, Nat.zero_add]
    exact h'.trans hv
  | i + 1, hx => simp at hx

section
variable {o : Oper} {a : Act} {w : World} {K : Act → World → Prop} {Q : Exit → Act → World → Prop}
/-- A slice of no job. -/
theorem none_op (ho : o.op = .buildSlice 22 0 #[]) (h : ∀ g w', g = w.heap.size → Bk w' g 41 #[] → Below w.heap.size w w' → K (a.put o.dst (.slice (some ⟨g, 0, none⟩) 0 0)) w') : o.wp Try.prog a w K Q := by
  unfold Oper.wp execOp
  simp only [ho]
  go_simp
  exact h _ _ rfl (Bk.fresh w _ _) ((Below.refl _ _).alloc (Nat.le_refl _) _)
/-- A slice of one job. -/
theorem one_op (t : Tmp) (j : Array Value) (ho : o.op = .buildSlice 22 1 #[(0, .tmp t)]) (hx : a.tmps[t]?.getD undef = .agg j) (hj : j.size = 13) (h : ∀ g w', g = w.heap.size → Bk w' g 41 j → Below w.heap.size w w' → K (a.put o.dst (.slice (some ⟨g, 0, none⟩) 1 1)) w') : o.wp Try.prog a w K Q := by
  obtain ⟨j⟩ := j
  obtain ⟨c0, c1, c2, c3, c4, c5, c6, c7, c8, c9, k0, k1, k2, rfl⟩ := list13 j hj
  unfold Oper.wp execOp
  simp only [ho]
  go_simp
  exact h _ _ rfl (Bk.fresh w _ _) ((Below.refl _ _).alloc (Nat.le_refl _) _)
/-- A new cell of three numbers. -/
theorem cell_op (ho : o.op = .alloc 24) (h : ∀ g w', g = w.heap.size → Bk w' g 24 #[.int .i64 0, .int .i64 0, .int .i64 0] → Below w.heap.size w w' → K (a.put o.dst (.pointer (some ⟨g, 0, none⟩))) w') : o.wp Try.prog a w K Q := by
  unfold Oper.wp execOp
  simp only [ho]
  go_simp
  exact h _ _ rfl (Bk.fresh w _ _) ((Below.refl _ _).alloc (Nat.le_refl _) _)
/-- A new cell of one job. -/
theorem jcell_op (ho : o.op = .alloc 41) (h : ∀ g w', g = w.heap.size → Bk w' g 41 #[.string ⟨#[]⟩, .string ⟨#[]⟩, .int .i64 0, .int .i64 0, .int .i64 0, .int .i64 0, .slice none 0 0, .string ⟨#[]⟩, .string ⟨#[]⟩, .int .i64 0, .int .i64 0, .string ⟨#[]⟩, .int .i64 0] → Below w.heap.size w w' → K (a.put o.dst (.pointer (some ⟨g, 0, none⟩))) w') : o.wp Try.prog a w K Q := by
  unfold Oper.wp execOp
  simp only [ho]
  go_simp
  exact h _ _ rfl (Bk.fresh w _ _) ((Below.refl _ _).alloc (Nat.le_refl _) _)
end
/-- The job that is made of a need. -/
abbrev jbOf (nm : ByteArray) (t : V3) : Jb := ⟨⟨#[]⟩, nm, 0, t.1, t.2.1, t.2.2, none, 0, 0, ⟨#[]⟩, ⟨#[]⟩, 0, 0, ⟨#[]⟩, 0⟩
theorem ofQ_jbOf (nm : ByteArray) (M : List V3) : ofQ nm (M.map (jbOf nm)) = M := by
  induction M with
  | nil => rfl
  | cons t M ih =>
    unfold ofQ at ih ⊢
    simp [sE_refl, ih]
end Go.Proofs.Ytblmjaidonopeaa
