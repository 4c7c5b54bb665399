/- What the walks of layer 18's laws share: an index and the document's, that hold the same names. No condition. -/
import Derived.Test.YtldijginplgikaaLx4
import Derived.Test.YtldijginplgikaaLxa
namespace Go.Proofs.Ytldijginplgikaa
open Go.RowKit
set_option linter.unusedSimpArgs false
set_option linter.unusedVariables false
/-- The labels alone. -/
def toL (D : List NH) : List NL := D.map fun p => (p.1, p.2.l)
theorem toL_len (D : List NH) : (toL D).length = D.length := by simp [toL]
theorem toL_drop (D : List NH) (s : ByteArray) : dropN (toL D) s = toL (dropN D s) := by
  unfold dropN toL
  rw [List.filter_map]; rfl
theorem toL_has (D : List NH) (s : ByteArray) : hasN (toL D) s = hasN D s := by
  unfold hasN toL
  rw [List.any_map]; rfl
theorem toL_put (D : List NH) (s : ByteArray) (t : Hd) : (dropN (toL D) s ++ [(s, t.l)]).Perm (toL (putN D s t)) := by
  rw [toL_drop]
  have h := (putN_perm D s t).map fun p : NH => (p.1, p.2.l)
  rw [List.map_append] at h
  exact h
theorem told_with {D : List NH} {l : List Lb} {m : List ByteArray} (ha : Asc D) (h : ToldL (toL D) l m) : m = withN D l := by
  have hp : m.Perm (withN D l) := by
    have := h.1
    unfold toL at this
    rw [List.filter_map, List.map_map] at this
    exact this
  refine hp.eq_of_pairwise (le := fun x y => sL x y = true) (fun a b _ _ h3 h4 => ?_) h.2 ?_
  · have := sL_asymm h3
    rw [h4] at this; cases this
  · unfold withN
    rw [List.pairwise_map]
    exact List.Pairwise.filter _ ha
theorem putN_len (D : List NH) (s : ByteArray) (t : Hd) : (putN D s t).length ≤ D.length + 1 := by
  have h1 := (putN_perm D s t).length_eq
  have h2 := dropN_len D s
  rw [List.length_append] at h1
  simp only [List.length_cons, List.length_nil] at h1
  omega
theorem putN_mem {D : List NH} {s : ByteArray} {t : Hd} {p : NH} (h : p ∈ putN D s t) : p ∈ D ∨ p = (s, t) := by
  rcases List.mem_append.1 ((putN_perm D s t).mem_iff.2 h) with h | h
  · exact .inl (dropN_mem.1 h).1
  · exact .inr (List.mem_singleton.1 h)
/-- An index and the document's. -/
structure Bl (w wr : World) (g : Nat) (F : Nat → Prop) (r : Nat) (vN vA : Value) (D : List NH) : Prop where
  ix : Xl w wr g F (toL D)
  rx : Lx wr w.heap.size r vN vA D
  asc : Asc D
  ok : ∀ p ∈ D, p.2.Ok w
  ap : ∀ k, F k → LxB r vN vA k → False
section
variable {w wr w' : World} {g r : Nat} {F F' : Nat → Prop} {vN vA vN' vA' : Value} {D D' : List NH} {E : List NL}
theorem Bl.below (H : Bl w wr g F r vN vA D) (hb : Below wr.heap.size wr w') : Bl w w' g F r vN vA D := ⟨H.ix.below hb, H.rx.later hb, H.asc, H.ok, H.ap⟩
theorem Bl.oks (H : Bl w wr g F r vN vA D) : ∀ p ∈ D, p.2.Ok wr := fun p hp => (H.ok p hp).later H.ix.be
theorem Bl.left (H : Bl w wr g F r vN vA D) (hg : GrP F wr w') : Lx w' w.heap.size r vN vA D := H.rx.grp hg fun k hk hk2 => H.ap k hk2 hk
/-- Both have been changed: first the program's, then the document's. -/
theorem Bl.next (H : Bl w wr g F r vN vA D) {w4 w5 : World} (h4 : Xl w w4 g F' E) (hn4 : ∀ k, F' k → F k ∨ wr.heap.size ≤ k) (hp : E.Perm (toL D')) (hg : GrP F wr w4)
    (h5 : Lx w5 w.heap.size r vN' vA' D') (hn5 : ∀ k, LxB r vN' vA' k → k = r ∨ w4.heap.size ≤ k) (hg5 : GrP (fun k => k = r) w4 w5) (ha : Asc D') (ho : ∀ p ∈ D', p.2.Ok w) : Bl w w5 g F' r vN' vA' D' := by
  have hr := H.rx.bk.here
  have hF : ∀ k, F' k → k ≠ r := fun k hk e => by
    subst e
    rcases hn4 k hk with e | e
    · exact H.ap k e (.inl rfl)
    · omega
  refine ⟨(h4.grp hg5 (fun k hk e => hF k hk e) (h4.be.trans (hg5.below h4.be.size fun k hk => by rw [hk]; exact H.rx.le))).perm hp, h5, ha, ho, fun k h1 h2 => ?_⟩
  rcases hn5 k h2 with e | e
  · exact hF k h1 e
  · have := (h4.blk h1).2; omega
end
end Go.Proofs.Ytldijginplgikaa
