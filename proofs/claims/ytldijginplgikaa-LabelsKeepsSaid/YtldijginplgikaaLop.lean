/- Arguments of layer 18's laws opened: a call, slices of calls, with their labels. No condition beyond the form's own. -/
import Derived.Test.YtldijginplgikaaLx1
import Derived.Test.YtldijginplgikaaOpn
import Derived.Test.YtldijginplgikaaRows
import Derived.ProofKit
import Derived.SizedLaws
import Derived.WideShapes
import Derived.Laws.IdiomArrays
namespace Go.Proofs.Ytldijginplgikaa
open Go.ChangeShapes Go.WideShapes Go.RowKit Go.Deep
set_option linter.unusedSimpArgs false
set_option linter.unusedVariables false

/-- A call: what it does, a name, labels. -/
structure Oh where
  k : Int
  s : ByteArray
  h : Hd
abbrev eO (x : Oh) : List Value := [.int .i64 x.k, .string x.s, .slice x.h.a x.h.n x.h.c]
theorem cellsI1 : Try.prog.cellsOf 3 = 1 := by kernel_rfl
theorem cellsL1 : Try.prog.cellsOf 36 = 1 := by kernel_rfl
theorem cellsOh : Try.prog.cellsOf 38 = 3 := by kernel_rfl
theorem list3' {α : Type} (l : List α) (h : l.length = 3) : ∃ a b c, l = [a, b, c] := by
  match l, h with
  | [a, b, c], _ => exact ⟨a, b, c, rfl⟩
section
variable {H : Type} {enc : TypeId × Value → H} {W : World} {base : Nat} {sp : Nat → Bool} {held : Bool}
/-- What is known of labels in a field. -/
structure LbIn (W : World) (d : DataW H) (h : Hd) : Prop where
  ok : h.Ok W
  dat : ∀ x ∈ h.l, ∃ elems spare, d = .slice elems spare ∧ datL x ∈ elems
theorem fld_labs {fuel : Nat} {c : Value} {y : DataW H × List MemPlace} (h : DataW.trod enc Try.prog W base sp held fuel 36 [c] = some y) :
    ∃ h : Hd, c = .slice h.a h.n h.c ∧ LbIn W y.1 h := by
  have key : ∀ A n cp, c = .slice A n cp → ∃ h : Hd, c = .slice h.a h.n h.c ∧ LbIn W y.1 h := fun A n cp hc => by
    subst hc
    obtain ⟨l, h1, h2, h3, h4, h5⟩ := open_labs (enc := enc) (base := base) (sp := sp) (held := held) (p := y.2) (d := y.1) ⟨fuel, by simpa [Value.cells] using h⟩
    exact ⟨⟨A, n, cp, l⟩, rfl, ⟨h1, h2, h3, h4⟩, h5⟩
  rcases open_slice Try.underlying36 h with ⟨hcs, _⟩ | ⟨a, len, cap, _, _, _, _, hcs, _⟩
  · simp at hcs; exact key _ _ _ hcs
  · simp at hcs; exact key _ _ _ hcs
/-- What is known of a call's datum. -/
def OhIn (W : World) (d : DataW H) (k : Oh) : Prop := ∃ d0 d1 dl, d = .agg [d0, d1, dl] ∧ LbIn W dl k.h
theorem trod_oh {fuel : Nat} {cs : List Value} {x : DataW H × List MemPlace}
    (h : DataW.trod enc Try.prog W base sp held fuel 38 cs = some x) : ∃ k : Oh, cs = eO k ∧ OhIn W x.1 k := by
  obtain ⟨ys, n, _, hx, hlen, hyl, hf⟩ := DataW.trod_struct Try.underlying38 h
  rw [cellsOh] at hlen
  obtain ⟨c0, c1, c2, rfl⟩ := list3' cs hlen
  obtain ⟨y0, y1, y2, rfl⟩ := list3' ys (by simpa using hyl)
  have h0 : DataW.trod enc Try.prog W base sp held n 3 (List.take (Try.prog.cellsOf 3) [c0, c1, c2]) = some y0 := hf 0 _ rfl
  have h1 : DataW.trod enc Try.prog W base sp held n 9 (List.take (Try.prog.cellsOf 9) [c1, c2]) = some y1 := hf 1 _ rfl
  have h2 : DataW.trod enc Try.prog W base sp held n 36 (List.take (Try.prog.cellsOf 36) [c2]) = some y2 := hf 2 _ rfl
  rw [cellsI1] at h0
  rw [cells9] at h1
  rw [cellsL1] at h2
  obtain ⟨a, e0, _, _⟩ := DataW.trod_int Try.underlying3 h0
  obtain ⟨s, e1, _⟩ := DataW.trod_string Try.underlying9 h1
  obtain ⟨hd, e2, hl⟩ := fld_labs h2
  simp at e0 e1 e2
  subst e0 e1 e2
  exact ⟨⟨a, s, hd⟩, rfl, y0.1, y1.1, y2.1, by rw [hx]; rfl, hl⟩
/-- A slice of elements of k cells as an argument: what it reads as, and what is known of its data. -/
theorem open_rowsD {κ : Type} {a : Option Addr} {len cap : Nat} {d : DataW H} {p : List MemPlace} {tS e k : Nat} (encE : κ → List Value) (okE : DataW H → κ → Prop)
    (hu : Try.prog.underlying tS = some (.slice e)) (hk : Try.prog.cellsOf e = k) (hk0 : 0 < k) (hlen : ∀ y, (encE y).length = k)
    (htr : ∀ (sp : Nat → Bool) (held : Bool) (base fuel : Nat) (cs : List Value) (x : DataW H × List MemPlace), DataW.trod enc Try.prog W base sp held fuel e cs = some x → ∃ y : κ, cs = encE y ∧ okE x.1 y)
    (h : DataW.Trod enc Try.prog W base sp held tS (.slice a len cap) d p) :
    ∃ l : List κ, len = l.length ∧ RdK W k a (l.map encE) ∧ len ≤ cap ∧ cap ≤ 9223372036854775807 ∧ ∀ y ∈ l, ∃ elems spare e, d = .slice elems spare ∧ e ∈ elems ∧ okE e y := by
  obtain ⟨fuel, hf⟩ := h
  rcases open_slice hu hf with ⟨hcs, _⟩ | ⟨x, n', c, m, n, D, Pl, hcs, _, hl, hm, hmm, hx, hi⟩
  · simp [Value.cells] at hcs
    obtain ⟨rfl, rfl, rfl⟩ := hcs
    exact ⟨[], rfl, RdK.nil _ _ _, Nat.le_refl _, by omega, by simp⟩
  · simp [Value.cells] at hcs
    obtain ⟨rfl, rfl, rfl⟩ := hcs
    rw [hk] at hi
    have hlm : len ≤ m := by rw [hmm]; split <;> omega
    have hm' : cap ≤ 9223372036854775807 := by unfold maxLen at hm; omega
    have hdat : d = .slice ((List.range len).map D) ((List.range (m - len)).map fun j => D (len + j)) := congrArg Prod.fst hx
    have hspot : 0 < len → x.spot = none := fun h => by
      obtain ⟨cs', hc, ht⟩ := hi 0 (by omega)
      obtain ⟨_, hcl, hat⟩ := World.cells?_some hc
      have h0 := hat 0 (by omega)
      rw [List.getElem?_eq_getElem (by omega)] at h0
      simpa [Addr.add] using World.cell?_spot h0
    have key : ∀ i, i < len → ∃ y : κ, ∃ g o, x = ⟨g, o, none⟩ ∧ W.rangeAt g (o + i * k) (encE y) ∧ okE (D i) y := fun i hlt => by
      obtain ⟨cs', hc, ht⟩ := hi i (by omega)
      obtain ⟨_, hcl, hat⟩ := World.cells?_some hc
      obtain ⟨y, rfl, hok⟩ := htr _ _ _ _ _ _ ht
      obtain ⟨g, o, spot⟩ := x
      have hs : spot = none := hspot (by omega)
      subst hs
      refine ⟨y, g, o, rfl, fun j v hv => ?_, hok⟩
      have hj : j < k := by rw [← hlen y]; exact (List.getElem?_eq_some_iff.1 hv).1
      have h1 := hat j (by omega)
      rw [Addr.add_lit, Addr.add_lit, hv] at h1
      exact h1
    have pick : ∀ n, n ≤ len → ∃ l : List κ, l.length = n ∧ RdK W k (some x) (l.map encE) ∧ ∀ i y, l[i]? = some y → okE (D i) y := by
      intro n
      induction n with
      | zero => exact fun _ => ⟨[], rfl, RdK.nil _ _ _, fun i y hy => by simp at hy⟩
      | succ n ih =>
        intro hn
        obtain ⟨l, hll, hr, hall⟩ := ih (by omega)
        obtain ⟨y, g, o, hxx, hrg, hok⟩ := key n (by omega)
        refine ⟨l ++ [y], by simp [hll], fun i z hz => ?_, fun i z hz => ?_⟩
        · rw [List.map_append] at hz
          by_cases hi' : i < (l.map encE).length
          · rw [List.getElem?_append_left hi'] at hz; exact hr i z hz
          · rw [List.getElem?_append_right (by omega)] at hz
            have e : i = n := by
              have := (List.getElem?_eq_some_iff.1 hz).1
              simp at this hi'; omega
            subst e
            simp [hll] at hz
            subst hz
            exact ⟨g, o, by rw [hxx], hrg⟩
        · by_cases hi' : i < l.length
          · rw [List.getElem?_append_left hi'] at hz; exact hall i z hz
          · rw [List.getElem?_append_right (by omega)] at hz
            have e : i = n := by
              have := (List.getElem?_eq_some_iff.1 hz).1
              simp at this; omega
            subst e
            rw [show i - l.length = 0 by omega] at hz
            simp at hz; subst hz
            exact hok
    obtain ⟨l, hll, hr, hall⟩ := pick len (Nat.le_refl _)
    refine ⟨l, hll.symm, hr, by omega, hm', fun y hy => ?_⟩
    obtain ⟨i, hi', e⟩ := List.getElem_of_mem hy
    exact ⟨_, _, D i, hdat, List.mem_map.2 ⟨i, List.mem_range.2 (by omega), rfl⟩, hall i y (by rw [List.getElem?_eq_getElem hi', e])⟩
theorem open_oh {r : Reach} {b0 : Nat} {v : Value} {d : DataW H} {p : List MemPlace} (hval : Value.okWide Try.prog W r b0 38 v) (h : DataW.Trod enc Try.prog W base sp held 38 v d p) : ∃ k : Oh, v = .agg #[.int .i64 k.k, .string k.s, .slice k.h.a k.h.n k.h.c] ∧ OhIn W d k := by
  obtain ⟨cs, rfl, hsz⟩ := okWide_struct Try.underlying38 hval
  obtain ⟨cs⟩ := cs
  obtain ⟨fuel, hf⟩ := h
  obtain ⟨k, e, hd⟩ := trod_oh hf
  simp [Value.cells] at e
  subst e
  exact ⟨k, rfl, hd⟩
theorem open_ohs {a : Option Addr} {len cap : Nat} {d : DataW H} {p : List MemPlace} (h : DataW.Trod enc Try.prog W base sp held 22 (.slice a len cap) d p) : ∃ l : List Oh, len = l.length ∧ RdK W 3 a (l.map eO) ∧ len ≤ cap ∧ cap ≤ 9223372036854775807 ∧ ∀ y ∈ l, ∃ elems spare e, d = .slice elems spare ∧ e ∈ elems ∧ OhIn W e y :=
  open_rowsD eO (OhIn W) Try.underlying22 cellsOh (by omega) (fun _ => rfl) (fun _ _ _ _ _ _ h => trod_oh h) h
/-- What is asked of a call: labels that Go can have. -/
def OhOk (W : World) (k : Oh) : Prop := k.h.Ok W ∧ Sz k.h.l
/-- The weights of a struct's parts. -/
theorem okOh {ts : List TypeId} {ds : List (DataW H)} (h : (DataW.weightsEach Try.prog ts ds).all (· ≤ reachBytes) = true) {j : Nat} {d : DataW H} (ht : ts[j]? = some 38) (hd : ds[j]? = some d) {W : World} {k : Oh} (hk : OhIn W d k) : OhOk W k := by
  obtain ⟨d0, d1, dl, rfl, hl⟩ := hk
  refine ⟨hl.ok, fun x hx => ?_⟩
  obtain ⟨el, sp, rfl, hm⟩ := hl.dat x hx
  have hi : (DataW.weightsEach Try.prog [3, 9, 36] [d0, d1, .slice el sp]).all (· ≤ reachBytes) = true := by
    rw [List.all_eq_true] at h ⊢
    intro n hn
    refine h n (DataW.weights_mem_each ht hd n ?_)
    simpa [DataW.weights, Try.underlying38] using hn
  exact sized_labs hi (j := 2) rfl rfl hm
theorem okOhs {ts : List TypeId} {ds : List (DataW H)} (h : (DataW.weightsEach Try.prog ts ds).all (· ≤ reachBytes) = true) {j : Nat} {d : DataW H} (ht : ts[j]? = some 22) (hd : ds[j]? = some d) {W : World} {L : List Oh}
    (hL : ∀ y ∈ L, ∃ elems spare e, d = .slice elems spare ∧ e ∈ elems ∧ OhIn W e y) : ∀ y ∈ L, OhOk W y := fun x hx => by
  obtain ⟨el, spa, e, rfl, he, hk⟩ := hL x hx
  have hall : (DataW.weightsEach Try.prog [38] [e]).all (· ≤ reachBytes) = true := by
    rw [List.all_eq_true] at h ⊢
    intro n hn
    refine h n (DataW.weights_mem_each ht hd n ?_)
    simp only [DataW.weights, Try.underlying22, List.mem_cons, List.mem_append]
    refine .inr (.inl (weightsAll_mem' he n ?_))
    simpa [DataW.weightsEach] using hn
  exact okOh hall (j := 0) rfl rfl hk
end
end Go.Proofs.Ytldijginplgikaa
