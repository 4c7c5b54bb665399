/- Layer 18: an index as the laws' walks carry it: what it holds, plainly; its calls; awake. Condition: at most 1000 names, at most 30 labels a name, at most 100 wanted. -/
import Derived.Test.YtldijginplgikaaLx2
import Derived.Test.YtldijginplgikaaLfw
import Derived.Test.YtldijginplgikaaRtx
import Derived.Test.YtldijginplgikaaLm5
import Derived.Test.YtldijginplgikaaLix
namespace Go.Proofs.Ytldijginplgikaa
open Go.RowKit
set_option linter.unusedSimpArgs false
set_option linter.unusedVariables false
/-- A name and its labels, plainly. -/
abbrev NL := ByteArray × List Lb
/-- An index that the call has made: it lies at g, in the blocks F, and holds E. -/
def Xl (w wr : World) (g : Nat) (F : Nat → Prop) (E : List NL) : Prop :=
  ∃ (o1 o2 : Option Nat) (D : List NH) (S : List SB) (T : Nat → List ByteArray), Xm wr w.heap.size g o1 o2 D S T ∧ (D.map fun p => (p.1, p.2.l)).Perm E ∧ (∀ lb s, InS S T lb s ↔ ∃ p ∈ D, p.1 = s ∧ lb ∈ p.2.l) ∧ (∀ p ∈ D, p.2.n ≤ 30) ∧ F = XB g o1 o2 D S ∧ Below w.heap.size w wr
theorem labN_n {D : List NH} (h : ∀ p ∈ D, p.2.n ≤ 30) (s : ByteArray) : (labN D s).n ≤ 1000 := by
  unfold labN
  cases hf : findN D s with
  | none => exact Nat.zero_le _
  | some x => exact Nat.le_trans (h _ (findN_mem hf)) (by omega)
theorem nh_one {D : List NH} (hn : (D.map Prod.fst).Nodup) {p q : NH} (hp : p ∈ D) (hq : q ∈ D) (h : p.1 = q.1) : p = q := by
  obtain ⟨i, hi, e1⟩ := List.getElem_of_mem hp
  obtain ⟨j, hj, e2⟩ := List.getElem_of_mem hq
  have : i = j := (List.getElem_inj (h₀ := by simpa using hi) (h₁ := by simpa using hj) hn).1 (by simp [e1, e2, h])
  subst this
  rw [← e1, ← e2]
theorem labN_of {D : List NH} (hn : (D.map Prod.fst).Nodup) {p : NH} (hp : p ∈ D) : labN D p.1 = p.2 := by
  unfold labN
  cases hf : findN D p.1 with
  | none => exact absurd rfl (findN_none.1 hf p hp)
  | some x =>
    have := nh_one hn (findN_mem hf) hp rfl
    rw [← this]; rfl
/-- What stands in the sets once a name is struck. -/
theorem rel_del {D : List NH} {S S' : List SB} {T T' : Nat → List ByteArray} {s : ByteArray} (hn : (D.map Prod.fst).Nodup) (h : ∀ lb t, InS S T lb t ↔ ∃ p ∈ D, p.1 = t ∧ lb ∈ p.2.l) (h2 : ∀ lb t, InS S' T' lb t ↔ InS S T lb t ∧ ¬ (t = s ∧ lb ∈ (labN D s).l)) (lb : Lb) (t : ByteArray) : InS S' T' lb t ↔ ∃ p ∈ dropN D s, p.1 = t ∧ lb ∈ p.2.l := by
  rw [h2, h]
  constructor
  · rintro ⟨⟨p, hp, rfl, hl⟩, hne⟩
    refine ⟨p, dropN_mem.2 ⟨hp, fun e => hne ⟨e, ?_⟩⟩, rfl, hl⟩
    rw [← e, labN_of hn hp]; exact hl
  · rintro ⟨p, hp, rfl, hl⟩
    obtain ⟨h3, h4⟩ := dropN_mem.1 hp
    exact ⟨⟨p, h3, rfl, hl⟩, fun e => h4 e.1⟩
section
variable {w wr w' : World} {g : Nat} {F : Nat → Prop} {E E' : List NL}
theorem Xl.be (H : Xl w wr g F E) : Below w.heap.size w wr := by obtain ⟨_, _, _, _, _, _, _, _, _, _, h⟩ := H; exact h
theorem Xl.below (H : Xl w wr g F E) (hb : Below wr.heap.size wr w') : Xl w w' g F E := by
  obtain ⟨o1, o2, D, S, T, h1, h2, h3, h4, h5, h6⟩ := H
  exact ⟨o1, o2, D, S, T, h1.later hb, h2, h3, h4, h5, h6.trans (hb.mono h6.size)⟩
theorem Xl.blk (H : Xl w wr g F E) {k : Nat} (hk : F k) : w.heap.size ≤ k ∧ k < wr.heap.size := by
  obtain ⟨o1, o2, D, S, T, h1, h2, h3, h4, rfl, h6⟩ := H
  exact ⟨h1.low k hk, h1.lt k hk⟩
theorem Xl.grp {p : Nat → Prop} (H : Xl w wr g F E) (hg : GrP p wr w') (hp : ∀ k, F k → ¬ p k) (hb : Below w.heap.size w w') : Xl w w' g F E := by
  obtain ⟨o1, o2, D, S, T, h1, h2, h3, h4, rfl, h6⟩ := H
  exact ⟨o1, o2, D, S, T, h1.grp hg hp, h2, h3, h4, rfl, hb⟩
theorem Xl.perm (H : Xl w wr g F E) (h : E.Perm E') : Xl w wr g F E' := by
  obtain ⟨o1, o2, D, S, T, h1, h2, h3, h4, h5, h6⟩ := H
  exact ⟨o1, o2, D, S, T, h1, h2.trans h, h3, h4, h5, h6⟩
theorem Xl.fresh {W W' : World} (hb : w.heap.size ≤ W.heap.size) (h : Bk W' W.heap.size 35 #[.map none, .map none]) (hbe : Below w.heap.size w W') : Xl w W' W.heap.size (XB W.heap.size none none [] []) [] :=
  ⟨none, none, [], [], fun _ => [], ⟨h, .inl ⟨rfl, rfl⟩, .inl ⟨rfl, rfl⟩, (fun q hq => by cases hq), List.nodup_nil, (fun k h => by cases h), (fun q hq => by cases hq), (fun q hq => by cases hq), Iff.rfl, (fun p hp => by cases hp), (fun p hp => by cases hp),
    (fun k hk => by
      rcases hk with rfl | h | h | ⟨q, hq, _⟩ | ⟨q, hq, _⟩
      · exact hb
      · cases h
      · cases h
      · cases hq
      · cases hq), (fun k hk => by
      rcases hk with rfl | h | h | ⟨q, hq, _⟩ | ⟨q, hq, _⟩
      · exact h.here
      · cases h
      · cases h
      · cases hq
      · cases hq)⟩, List.Perm.refl _, (fun lb s => ⟨fun ⟨q, hq, _⟩ => (by cases hq), fun ⟨q, hq, _⟩ => (by cases hq)⟩), (fun p hp => by cases hp), rfl, hbe⟩
set_option maxHeartbeats 1000000 in
theorem new_any (W : World) : Calls Try.prog 9 #[] W fun e w' => e = .returned (.pointer (some ⟨W.heap.size, 0, none⟩)) ∧ Bk w' W.heap.size 35 #[.map none, .map none] ∧ Below W.heap.size W w' := by
  go_enter Try.func9, Try.ntmps9
  go_wp2
  go_ret
  exact ⟨rfl, Bk.fresh W 35 #[.map none, .map none], (Below.refl _ _).alloc (Nat.le_refl _) _⟩
theorem x_new (W : World) (hbe : Below w.heap.size w W) : Calls Try.prog 9 #[] W fun e w' => (∃ g F, e = .returned (.pointer (some ⟨g, 0, none⟩)) ∧ Xl w w' g F [] ∧ ∀ k, F k → W.heap.size ≤ k) ∧ Below W.heap.size W w' := by
  refine (new_any W).mono ?_
  rintro e w' ⟨rfl, h, hb⟩
  refine ⟨⟨_, _, rfl, Xl.fresh hbe.size h (hbe.trans (hb.mono hbe.size)), fun k hk => ?_⟩, hb⟩
  rcases hk with rfl | h | h | ⟨q, hq, _⟩ | ⟨q, hq, _⟩
  · exact Nat.le_refl _
  · cases h
  · cases h
  · cases hq
  · cases hq
/-- Put, where the labels stay as they are whatever becomes of the index. -/
theorem x_putA (s : ByteArray) (A : Option Addr) (n c : Nat) (l : List Lb) (ho : (⟨A, n, c, l⟩ : Hd).Ok wr) (hst : ∀ W, GrP F wr W → (⟨A, n, c, l⟩ : Hd).Ok W) (hn : n ≤ 30) (hl : E.length ≤ 1000) (H : Xl w wr g F E) : Calls Try.prog 10 #[.pointer (some ⟨g, 0, none⟩), .string s, .slice A n c] wr fun e w' => e = .returned (.tuple #[]) ∧ (∃ F', Xl w w' g F' (dropN E s ++ [(s, l)]) ∧ ∀ k, F' k → F k ∨ wr.heap.size ≤ k) ∧ GrP F wr w' := by
  obtain ⟨o1, o2, D, S, T, h1, h2, h3, h4, rfl, h6⟩ := H
  refine (put_any w.heap.size g o1 o2 D S T s A n c l wr h6.size ho (by omega) (labN_n h4 s) (Lib.hid h1) hst).mono ?_
  rintro e w' ⟨rfl, ⟨k1, k2, h, S1, S', T1, T', hhl, hx, hr1, hr2, hb⟩, hg⟩
  refine ⟨rfl, ⟨XB g (some k1) (some k2) (dropN D s ++ [(s, h)]) S', ⟨some k1, some k2, dropN D s ++ [(s, h)], S', T', hx, ?_, fun lb t => ?_, fun p hp => ?_, rfl, h6.trans (hg.below h6.size fun k hk => h1.low k hk)⟩, hb⟩, hg⟩
  · rw [List.map_append]
    refine List.Perm.append ?_ (by rw [← hhl]; exact List.Perm.refl _)
    have : (dropN D s).map (fun p => (p.1, p.2.l)) = dropN (D.map fun p => (p.1, p.2.l)) s := by
      unfold dropN
      rw [List.filter_map]; rfl
    rw [this]
    exact h2.filter _
  · rw [hr2, rel_del h1.nodup h3 hr1]
    constructor
    · rintro (⟨p, hp, h7, h8⟩ | ⟨rfl, h8⟩)
      · exact ⟨p, List.mem_append_left _ hp, h7, h8⟩
      · exact ⟨_, List.mem_append_right _ (List.mem_singleton.2 rfl), rfl, by rw [hhl]; exact h8⟩
    · rintro ⟨p, hp, h7, h8⟩
      rcases List.mem_append.1 hp with hp | hp
      · exact .inl ⟨p, hp, h7, h8⟩
      · rw [List.mem_singleton.1 hp] at h7 h8
        exact .inr ⟨h7.symm, by rw [← hhl]; exact h8⟩
  · rcases List.mem_append.1 hp with hp | hp
    · exact h4 p (dropN_mem.1 hp).1
    · have h7 := (hx.rows p (List.mem_append_right _ hp)).ln
      rw [List.mem_singleton.1 hp] at h7 ⊢
      have h8 : h.n = h.l.length := h7
      have h9 := ho.ln
      rw [hhl] at h8
      have h9 : n = l.length := h9
      show h.n ≤ 30
      omega
theorem x_put (s : ByteArray) (A : Option Addr) (n c : Nat) (l : List Lb) (ho : (⟨A, n, c, l⟩ : Hd).Ok w) (hn : n ≤ 30) (hl : E.length ≤ 1000) (H : Xl w wr g F E) : Calls Try.prog 10 #[.pointer (some ⟨g, 0, none⟩), .string s, .slice A n c] wr fun e w' => e = .returned (.tuple #[]) ∧ (∃ F', Xl w w' g F' (dropN E s ++ [(s, l)]) ∧ ∀ k, F' k → F k ∨ wr.heap.size ≤ k) ∧ GrP F wr w' :=
  x_putA s A n c l (ho.later H.be) (fun W hg => ho.later (H.be.trans (hg.below H.be.size fun k hk => (H.blk hk).1))) hn hl H
theorem x_del (s : ByteArray) (hl : E.length ≤ 1000) (H : Xl w wr g F E) : Calls Try.prog 12 #[.pointer (some ⟨g, 0, none⟩), .string s] wr fun e w' => e = .returned (.bool (hasN E s)) ∧ (∃ F', Xl w w' g F' (dropN E s) ∧ ∀ k, F' k → F k ∨ wr.heap.size ≤ k) ∧ GrP F wr w' := by
  obtain ⟨o1, o2, D, S, T, h1, h2, h3, h4, rfl, h6⟩ := H
  refine (del_any w.heap.size g o1 o2 D S T s wr h6.size (Lib.hid h1) (labN_n h4 s)).mono ?_
  rintro e w' ⟨rfl, ⟨S', T', hx, hsub, hr⟩, hg⟩
  have hh : hasN D s = hasN E s := by
    have h7 : hasN (D.map fun p => (p.1, p.2.l)) s = hasN D s := by
      unfold hasN
      rw [List.any_map]; rfl
    rw [← h7]
    unfold hasN
    rw [Bool.eq_iff_iff, List.any_eq_true, List.any_eq_true]
    exact ⟨fun ⟨p, hp, e⟩ => ⟨p, h2.mem_iff.1 hp, e⟩, fun ⟨p, hp, e⟩ => ⟨p, h2.mem_iff.2 hp, e⟩⟩
  refine ⟨by rw [hh], ⟨XB g o1 o2 (dropN D s) S', ⟨o1, o2, dropN D s, S', T', hx, ?_, rel_del h1.nodup h3 hr, fun p hp => h4 p (dropN_mem.1 hp).1, rfl, h6.trans (hg.below h6.size fun k hk => h1.low k hk)⟩, fun k hk => .inl (hk.sub (fun p hp => (dropN_mem.1 hp).1) hsub)⟩, hg⟩
  have : (dropN D s).map (fun p => (p.1, p.2.l)) = dropN (D.map fun p => (p.1, p.2.l)) s := by
    unfold dropN
    rw [List.filter_map]; rfl
  rw [this]
  exact h2.filter _
/-- What a list of names is that With tells. -/
def ToldL (E : List NL) (l : List Lb) (m : List ByteArray) : Prop := m.Perm ((E.filter fun p => hasB p.2 l).map Prod.fst) ∧ m.Pairwise fun x y => sL x y = true
theorem hasB_iff {k l : List Lb} : hasB k l = true ↔ ∀ lb ∈ l, lb ∈ k := by
  unfold hasB containsB
  rw [List.all_eq_true]
  refine forall_congr' fun lb => forall_congr' fun _ => ?_
  rw [List.any_eq_true]
  exact ⟨fun ⟨y, hy, e⟩ => by rw [← lE_iff.1 e]; exact hy, fun h => ⟨lb, h, lE_iff.2 rfl⟩⟩
theorem told_strict {m : List ByteArray} (h1 : m.Nodup) (h2 : m.Pairwise fun x y => sL y x = false) : m.Pairwise fun x y => sL x y = true := (h2.and h1).imp fun {x y} h => by
  rcases sL_total h.1 with h4 | h4
  · exact h4
  · exact absurd h4.symm h.2
theorem len_sub {l m : List ByteArray} (h1 : l.Nodup) (h2 : m.Nodup) (h : ∀ x ∈ l, x ∈ m) : l.length ≤ m.length := by
  have hp : l.Perm (m.filter (inT l)) := (List.perm_ext_iff_of_nodup h1 (h2.filter _)).2 fun x => by
    rw [List.mem_filter, inT_iff]
    exact ⟨fun hx => ⟨h x hx, hx⟩, fun hx => hx.2⟩
  rw [hp.length_eq]
  exact List.length_filter_le _ _
theorem x_with (A : Option Addr) (n c : Nat) (l : List Lb) (ho : (⟨A, n, c, l⟩ : Hd).Ok wr) (hn : n ≤ 100) (hl : E.length ≤ 1000) (H : Xl w wr g F E) : Calls Try.prog 15 #[.pointer (some ⟨g, 0, none⟩), .slice A n c] wr fun e w' => (∃ (m : List ByteArray) (k : Nat) (A : Option Addr) (c : Nat), e = .returned (.slice A k c) ∧ k = m.length ∧ k ≤ 1000 ∧ OwnK w' wr.heap.size 9 1 (.slice A k c) (cellsS m) ∧ ToldL E l m) ∧ Below wr.heap.size wr w' := by
  obtain ⟨o1, o2, D, S, T, h1, h2, h3, h4, rfl, h6⟩ := H
  have hD : D.length ≤ 1000 := by have := h2.length_eq; rw [List.length_map] at this; omega
  have hEn : (E.map Prod.fst).Nodup := by
    have := (h2.map Prod.fst).nodup_iff.1
    rw [List.map_map] at this
    exact this h1.nodup
  by_cases h0 : 0 < n
  · have hT : ∀ lb, (nmS S T lb).length ≤ 100000 := fun lb => by
      have := len_sub (h1.names lb) h1.nodup fun x hx => by
        obtain ⟨p, hp, e, _⟩ := (h3 lb x).1 ((inS_nm h1.keys).2 hx)
        exact List.mem_map.2 ⟨p, hp, e⟩
      rw [List.length_map] at this
      omega
    refine (withS_any w.heap.size g o1 o2 D S T A n c l wr (Lib.hid h1) (Lib.hid ho) h0 (by omega) hT).mono ?_
    rintro e w' ⟨⟨m, A', c', rfl, hO, ⟨hnd, hmem⟩, hs⟩, hb⟩
    have hp : m.Perm ((E.filter fun p => hasB p.2 l).map Prod.fst) := (List.perm_ext_iff_of_nodup hnd ((List.filter_sublist.map _).nodup hEn)).2 fun s => by
      rw [hmem, List.mem_map]
      have hl0 : 0 < l.length := by have : n = l.length := ho.ln; omega
      constructor
      · intro h
        obtain ⟨p, hp, e, _⟩ := (h3 _ _).1 (h _ (List.getElem_mem hl0))
        refine ⟨(p.1, p.2.l), List.mem_filter.2 ⟨h2.mem_iff.1 (List.mem_map.2 ⟨p, hp, rfl⟩), hasB_iff.2 fun lb hlb => ?_⟩, e⟩
        obtain ⟨q, hq, e2, hlb2⟩ := (h3 _ _).1 (h lb hlb)
        rw [nh_one h1.nodup hp hq (e.trans e2.symm)]; exact hlb2
      · rintro ⟨p, hp, rfl⟩ lb hlb
        obtain ⟨hpE, hpB⟩ := List.mem_filter.1 hp
        obtain ⟨q, hq, rfl⟩ := List.mem_map.1 (h2.mem_iff.2 hpE)
        exact (h3 _ _).2 ⟨q, hq, rfl, hasB_iff.1 hpB lb hlb⟩
    refine ⟨⟨m, m.length, A', c', rfl, rfl, ?_, hO, hp, told_strict hnd hs⟩, hb⟩
    have := hp.length_eq
    rw [List.length_map] at this
    have h7 := List.length_filter_le (fun p : NL => hasB p.2 l) E
    omega
  · have hn0 : n = 0 := by omega
    subst hn0
    have hl0 : l = [] := List.eq_nil_of_length_eq_zero ho.ln.symm
    subst hl0
    refine (with0_any w.heap.size g o1 o2 D S T A c wr (Lib.hid h1) (by omega)).mono ?_
    rintro e w' ⟨⟨m, A', c', rfl, hO, hp, hs⟩, hb⟩
    have hp2 : m.Perm ((E.filter fun p => hasB p.2 []).map Prod.fst) := by
      rw [List.filter_eq_self.2 (fun p _ => by simp [hasB])]
      have := h2.map Prod.fst
      rw [List.map_map] at this
      exact hp.trans this
    refine ⟨⟨m, m.length, A', c', rfl, rfl, ?_, hO, hp2, told_strict (hp.nodup_iff.2 h1.nodup) hs⟩, hb⟩
    have := hp.length_eq
    rw [List.length_map] at this
    omega
theorem x_len (hl : E.length ≤ 1000) (H : Xl w wr g F E) : Calls Try.prog 17 #[.pointer (some ⟨g, 0, none⟩)] wr fun e w' => e = .returned (.int .i64 E.length) ∧ Below wr.heap.size wr w' := by
  obtain ⟨o1, o2, D, S, T, h1, h2, h3, h4, rfl, h6⟩ := H
  refine (len_any w.heap.size g o1 o2 D S T wr (Lib.hid h1)).mono ?_
  rintro e w' ⟨rfl, rfl⟩
  have := h2.length_eq
  rw [List.length_map] at this
  exact ⟨by rw [this], Below.refl _ _⟩
end
end Go.Proofs.Ytldijginplgikaa
