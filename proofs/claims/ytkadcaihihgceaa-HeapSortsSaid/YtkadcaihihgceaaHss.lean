/- What HeapSorts needs: a heap while it is emptied into a row, with all it held told before; two rows that are filtered out of two lists. -/
import Derived.Test.YtkadcaihihgceaaHst
namespace Go.Proofs.Ytkadcaihihgceaa
open Go.RowKit
set_option linter.unusedSimpArgs false
set_option linter.unusedVariables false
theorem haltAt {P : Program} {ops : Array Oper} {rest : List Oper} {o : Oper} {a : Act} {w : World} {Q : Exit → Act → World → Prop} (d : Nat) (_hd : o.dst = some d) (h : Hid (wpList P ops Q (o :: rest) a w)) : wpList P ops Q (o :: rest) a w := h.out
section
variable {w wr w' : World} {h : Nat} {v v' u vo vA va vb : Value} {n : Int} {L l : List Px} {k j q b : Nat}
theorem one_all (H : OneE w wr h n L v) (hl : L.length ≤ 900) : Calls Try.prog 21 #[.pointer (some ⟨h, 0, none⟩)] wr fun e w' => (∃ A c, e = .returned (.slice A L.length c) ∧ OwnK w' wr.heap.size 27 2 (.slice A L.length c) (L.map eX)) ∧ Below wr.heap.size wr w' := by
  obtain ⟨l, B, H⟩ := H
  have hlen : l.length ≤ 900 := by rw [H.o.len, ← List.length_map (f := Prod.fst), H.s]; exact hl
  refine (sortedP_any w.heap.size h v n n l B wr hlen (Lib.hid H.p) (Lib.hid H.o)).mono ?_
  rintro e w' ⟨r, rfl, ho, hb⟩
  have hml : B.map cP = L.map eX := by rw [← H.s, List.map_map]; rfl
  rw [hml] at ho
  obtain ⟨A, c, hr, hrd, _⟩ := ho.sl
  rw [List.length_map] at hr
  subst hr
  exact ⟨⟨A, c, rfl, ho⟩, hb⟩
theorem one_popAt (hk : k < L.length) (H : OneE w wr h n (L.drop k) v) (hl : L.length ≤ 900) : Calls Try.prog 13 #[.pointer (some ⟨h, 0, none⟩)] wr fun e w' => e = .returned (.tuple #[vP L[k], .bool true]) ∧ (∃ v', OneE w w' h n (L.drop (k + 1)) v') ∧ GrP (HpB h v) wr w' := by
  refine (one_pop H (by rw [List.length_drop]; omega)).mono ?_
  rintro e w' ⟨rfl, ⟨v', h1, _⟩, hg⟩
  rw [List.tail_drop] at h1
  refine ⟨?_, ⟨v', h1⟩, hg⟩
  rw [show decide (0 < (L.drop k).length) = true from decide_eq_true (by rw [List.length_drop]; omega), List.drop_eq_getElem_cons hk]
  rfl
theorem one_pop0 (H : OneE w wr h n [] v) : Calls Try.prog 13 #[.pointer (some ⟨h, 0, none⟩)] wr fun e w' => e = .returned (.tuple #[vP (0, 0), .bool false]) ∧ (∃ v', OneE w w' h n [] v') ∧ GrP (HpB h v) wr w' := by
  refine (one_pop H (by simp)).mono ?_
  rintro e w' ⟨rfl, ⟨v', h1, _⟩, hg⟩
  exact ⟨rfl, ⟨v', h1⟩, hg⟩
theorem OneE.off {lx : List (List Value)} (H : OneE w wr h n L v) (hO : OwnK wr b 27 2 u lx) {g : Nat} (hg : u.ownBlock = some g) (hb : HpB h v g) : False := by
  obtain ⟨q, B, H⟩ := H
  rcases hb with e | e
  · subst e
    rcases hO.notBk H.p.bk (by decide) with h1 | h1
    · rw [h1] at hg; cases hg
    · exact h1 hg
  · exact hO.parted H.p.ow (by decide) hg e
theorem OneE.grp {p : Nat → Prop} (H : OneE w wr h n L v) (hg : GrP p wr w') (hn : ∀ k, HpB h v k → ¬ p k) (hp : ∀ k, p k → w.heap.size ≤ k) : OneE w w' h n L v := by
  obtain ⟨l, B, H⟩ := H
  exact ⟨l, B, H.p.grp hg hn, H.o, H.s, H.be.trans (hg.below H.be.size hp)⟩
/-- A heap from which j were taken, k of which stand in a row; and the row of all. -/
structure St (w wr : World) (h : Nat) (n : Int) (L : List Px) (vA : Value) (k j : Nat) (v vo : Value) : Prop where
  one : OneE w wr h n (L.drop j) v
  ow : OwnK wr w.heap.size 27 2 vo ((L.take k).map eX)
  al : OwnK wr w.heap.size 27 2 vA (L.map eX)
  dj : ∀ g, vA.ownBlock = some g → vo.ownBlock ≠ some g
theorem St.below (H : St w wr h n L vA k j v vo) (hb : Below wr.heap.size wr w') : St w w' h n L vA k j v vo := ⟨H.one.below hb, H.ow.below hb, H.al.below hb, H.dj⟩
theorem St.pop {j' : Nat} (H : St w wr h n L vA k j v vo) (h1 : OneE w w' h n (L.drop j') v') (hg : GrP (HpB h v) wr w') : St w w' h n L vA k j' v' vo :=
  ⟨h1, H.ow.grp hg fun g e hb => H.one.off H.ow e hb, H.al.grp hg fun g e hb => H.one.off H.al e hb, H.dj⟩
theorem St.app {v2 : Value} (H : St w wr h n L vA k j v vo) (hk : k < L.length) (hO : OwnK w' w.heap.size 27 2 v2 ((L.take k).map eX ++ [eX L[k]])) (hg : wr.grownBy w' vo.ownBlock) (hat : v2.ownBlock = vo.ownBlock ∨ v2.ownBlock = some wr.heap.size) : St w w' h n L vA (k + 1) j v v2 := by
  refine ⟨H.one.grp (GrP.of hg) (fun i hi e => H.one.off H.ow e hi) (fun i e => H.ow.block i e), ?_, H.al.grp (GrP.of hg) fun g e hb => H.dj g e hb, fun g e e2 => ?_⟩
  · rw [List.take_succ_eq_append_getElem hk, List.map_append]
    exact hO
  · rcases hat with a | a
    · exact H.dj g e (a ▸ e2)
    · rw [a] at e2
      injection e2 with e2
      have := H.al.lt e
      omega
theorem St.shape (H : St w wr h n L vA k j v vo) (hk : k ≤ L.length) : ∃ A c, vo = .slice A k c := by
  obtain ⟨A, c, hr, _⟩ := H.ow.sl
  rw [List.length_map, List.length_take, Nat.min_eq_left hk] at hr
  exact ⟨A, c, hr⟩
theorem OwnK.reads {A : Option Addr} {c m : Nat} (h : OwnK wr b 27 2 (.slice A m c) (L.map eX)) : RdP wr A m L := by
  obtain ⟨A', c', hr, hrd, _⟩ := h.sl
  rw [List.length_map] at hr
  injection hr with h1 h2 h3
  subst h1
  exact ⟨h2, hrd⟩
theorem St.reads {A : Option Addr} {c m : Nat} (H : St w wr h n L vA k j v (.slice A m c)) (hk : k = L.length) : RdP wr A m L := by
  have h1 := H.ow
  rw [List.take_of_length_le (Nat.le_of_eq hk.symm)] at h1
  exact OwnK.reads h1
theorem St.start {A : Option Addr} {c m : Nat} (h1 : OneE w wr h n L v) (h2 : OwnK wr w.heap.size 27 2 (.slice A m c) (L.map eX)) : St w wr h n L (.slice A m c) 0 0 v (.slice none 0 0) :=
  ⟨h1, OwnK.nil _ _ _ _, h2, fun g _ e => by cases e⟩
/-- Two rows, filtered out of two lists. -/
structure Two (ws wr : World) (p : Px → Bool) (l L : List Px) (k q : Nat) (va vb : Value) : Prop where
  be : Below ws.heap.size ws wr
  a : OwnK wr ws.heap.size 27 2 va (((l.take k).filter p).map eX)
  b : OwnK wr ws.heap.size 27 2 vb (((L.take q).filter p).map eX)
  dj : ∀ g, va.ownBlock = some g → vb.ownBlock ≠ some g
variable {ws : World} {p : Px → Bool}
theorem Two.start (ws : World) (p : Px → Bool) (l L : List Px) : Two ws ws p l L 0 0 (.slice none 0 0) (.slice none 0 0) := ⟨Below.refl _ _, OwnK.nil _ _ _ _, OwnK.nil _ _ _ _, fun g e => by cases e⟩
theorem Two.below (H : Two ws wr p l L k q va vb) (hb : Below wr.heap.size wr w') : Two ws w' p l L k q va vb := ⟨H.be.trans (hb.mono H.be.size), H.a.below hb, H.b.below hb, H.dj⟩
theorem filter_take_yes {l : List Px} (hk : k < l.length) (hp : p l[k] = true) : (l.take (k + 1)).filter p = (l.take k).filter p ++ [l[k]] := by
  rw [List.take_succ_eq_append_getElem hk, List.filter_append]; simp [hp]
theorem filter_take_no {l : List Px} (hk : k < l.length) (hp : p l[k] = false) : (l.take (k + 1)).filter p = (l.take k).filter p := by
  rw [List.take_succ_eq_append_getElem hk, List.filter_append]; simp [hp]
theorem Two.skipA (H : Two ws wr p l L k q va vb) (hk : k < l.length) (hp : p l[k] = false) : Two ws wr p l L (k + 1) q va vb := ⟨H.be, by rw [filter_take_no hk hp]; exact H.a, H.b, H.dj⟩
theorem Two.skipB (H : Two ws wr p l L k q va vb) (hk : q < L.length) (hp : p L[q] = false) : Two ws wr p l L k (q + 1) va vb := ⟨H.be, H.a, by rw [filter_take_no hk hp]; exact H.b, H.dj⟩
theorem Two.appA {v2 : Value} (H : Two ws wr p l L k q va vb) (hk : k < l.length) (hp : p l[k] = true) (hO : OwnK w' ws.heap.size 27 2 v2 (((l.take k).filter p).map eX ++ [eX l[k]])) (hg : wr.grownBy w' va.ownBlock) (hat : v2.ownBlock = va.ownBlock ∨ v2.ownBlock = some wr.heap.size) : Two ws w' p l L (k + 1) q v2 vb := by
  refine ⟨H.be.grown hg H.be.size fun i hi => H.a.block i hi, ?_, H.b.grp (GrP.of hg) fun g e hb => H.dj g hb e, fun g e e2 => ?_⟩
  · rw [filter_take_yes hk hp, List.map_append]
    exact hO
  · rcases hat with a | a
    · exact H.dj g (a ▸ e) e2
    · rw [a] at e
      injection e with e
      have := H.b.lt e2
      omega
theorem Two.appB {v2 : Value} (H : Two ws wr p l L k q va vb) (hk : q < L.length) (hp : p L[q] = true) (hO : OwnK w' ws.heap.size 27 2 v2 (((L.take q).filter p).map eX ++ [eX L[q]])) (hg : wr.grownBy w' vb.ownBlock) (hat : v2.ownBlock = vb.ownBlock ∨ v2.ownBlock = some wr.heap.size) : Two ws w' p l L k (q + 1) va v2 := by
  refine ⟨H.be.grown hg H.be.size fun i hi => H.b.block i hi, H.a.grp (GrP.of hg) fun g e hb => H.dj g e hb, ?_, fun g e e2 => ?_⟩
  · rw [filter_take_yes hk hp, List.map_append]
    exact hO
  · rcases hat with a | a
    · exact H.dj g e (a ▸ e2)
    · rw [a] at e2
      injection e2 with e2
      have := H.a.lt e
      omega
theorem Two.shapes (H : Two ws wr p l L k q va vb) : ∃ A m c B m' c', va = .slice A m c ∧ vb = .slice B m' c' := by
  obtain ⟨A, c, e1, _⟩ := H.a.sl
  obtain ⟨B, d, e2, _⟩ := H.b.sl
  exact ⟨A, _, c, B, _, d, e1, e2⟩
theorem Two.done (H : Two ws wr p l L k k va vb) (h1 : k = l.length) (h2 : k = L.length) (hp : L.filter p = l.filter p) : ∃ A c B d m, va = .slice A m c ∧ vb = .slice B m d ∧ m ≤ k ∧ RdP wr A m (l.filter p) ∧ RdP wr B m (l.filter p) := by
  have ha := H.a; have hb := H.b
  rw [List.take_of_length_le (Nat.le_of_eq h1.symm)] at ha
  rw [List.take_of_length_le (Nat.le_of_eq h2.symm), hp] at hb
  obtain ⟨A, c, e1, _⟩ := ha.sl
  obtain ⟨B, d, e2, _⟩ := hb.sl
  rw [List.length_map] at e1 e2
  subst e1 e2
  exact ⟨A, c, B, d, _, rfl, rfl, by rw [h1]; exact List.length_filter_le _ _, OwnK.reads ha, OwnK.reads hb⟩
end
end Go.Proofs.Ytkadcaihihgceaa
