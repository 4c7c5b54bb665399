/- Heaps of texts, three side by side. -/
import Derived.Test.YtkadcaihihgceaaHp7
import Derived.Test.YtkadcaihihgceaaHst
namespace Go.Proofs.Ytkadcaihihgceaa
open Go.RowKit
set_option linter.unusedSimpArgs false
set_option linter.unusedVariables false
abbrev eT (s : ByteArray) : List Value := [.string s]
/-- The word's order, as a value. -/
abbrev fWord : Value := .func (.func 24) #[] #[]
theorem isWord_S : Hid (IsOS fWord ltS) := .inl ⟨rfl, rfl⟩
theorem isNil_S : Hid (IsOS .nilFunc (ltN ByteArray)) := .inr ⟨rfl, rfl⟩
/-- A text is put in where its order asks. -/
def insT (lt : ByteArray → ByteArray → Bool) (x : ByteArray) : List ByteArray → List ByteArray
  | [] => [x]
  | y :: A => if lt x y then x :: y :: A else y :: insT lt x A
theorem insT_ins (lt : ByteArray → ByteArray → Bool) (x : ByteArray) (m : Int) : ∀ B : List (ByteArray × Int), (insL lt (x, m) B).map Prod.fst = insT lt x (B.map Prod.fst)
  | [] => rfl
  | y :: B => by
    rw [List.map_cons]
    unfold insL insT
    show List.map Prod.fst (if lt x y.1 = true then (x, m) :: y :: B else y :: insL lt (x, m) B) = _
    by_cases h : lt x y.1 = true
    · rw [if_pos h, if_pos h]; rfl
    · rw [if_neg h, if_neg h, List.map_cons, insT_ins lt x m B]
theorem insT_len (lt : ByteArray → ByteArray → Bool) (x : ByteArray) : ∀ A, (insT lt x A).length = A.length + 1
  | [] => rfl
  | y :: A => by
    unfold insT
    by_cases h : lt x y = true
    · rw [if_pos h]; rfl
    · rw [if_neg h, List.length_cons, insT_len lt x A]; rfl
theorem insT_N (x : ByteArray) : ∀ A, insT (ltN ByteArray) x A = A ++ [x]
  | [] => rfl
  | y :: A => by
    unfold insT
    rw [if_neg (by simp [ltN]), insT_N x A]; rfl
/-- A heap of these texts at h. -/
structure OneS (w wr : World) (lt : ByteArray → ByteArray → Bool) (F : Value) (h : Nat) (v : Value) (n : Int) (L : List ByteArray) : Prop where
  ex : ∃ l B, HpS wr w.heap.size h F v n l ∧ Hol lt n l B ∧ B.map Prod.fst = L
  be : Below w.heap.size w wr
section
variable {w wr w' : World} {h h2 : Nat} {v v2 F F2 : Value} {n m : Int} {L L2 : List ByteArray} {lt lt2 : ByteArray → ByteArray → Bool}
theorem OneS.below (H : OneS w wr lt F h v n L) (hb : Below wr.heap.size wr w') : OneS w w' lt F h v n L := by
  obtain ⟨⟨l, B, h1, h2, h3⟩, be⟩ := H
  exact ⟨⟨l, B, h1.below hb, h2, h3⟩, be.trans (hb.mono be.size)⟩
theorem OneS.blk (H : OneS w wr lt F h v n L) {k : Nat} (hk : HpB h v k) : w.heap.size ≤ k ∧ k < wr.heap.size := by obtain ⟨⟨l, B, h1, h2, h3⟩, be⟩ := H; exact h1.blk hk
theorem OneS.other (H : OneS w wr lt F h v n L) (H2 : OneS w wr lt2 F2 h2 v2 m L2) (ap : ∀ k, HpB h v k → HpB h2 v2 k → False) (hg : GrP (HpB h2 v2) wr w') : OneS w w' lt F h v n L := by
  have hb : ∀ k, HpB h2 v2 k → w.heap.size ≤ k := fun k hk => (H2.blk hk).1
  obtain ⟨⟨l, B, h1, h2, h3⟩, be⟩ := H
  exact ⟨⟨l, B, h1.grp hg (fun k hk hk2 => ap k hk hk2), h2, h3⟩, be.trans (hg.below be.size hb)⟩
theorem OneS.so (ho : WkO lt) (H : OneS w wr lt F h v n L) : L.Pairwise (fun a b => lt b a = false) := by
  obtain ⟨⟨l, B, h1, h2, h3⟩, be⟩ := H
  rw [← h3, List.pairwise_map]
  refine h2.so.imp ?_
  intro a b hab
  rcases (leO_iff ho a b).1 hab with hh | hh
  · exact ho.asy _ _ hh
  · exact hh.1
theorem s_new (hO : Hid (IsOS F lt)) (W : World) (hbe : Below w.heap.size w W) : Calls Try.prog 23 #[F] W fun e w' => (∃ h v, e = .returned (.pointer (some ⟨h, 0, none⟩)) ∧ OneS w w' lt F h v 0 [] ∧ ∀ k, HpB h v k → W.heap.size ≤ k) ∧ Below W.heap.size W w' := by
  refine (newS_any F lt W hO).mono ?_
  rintro e w' ⟨rfl, hp, hb⟩
  exact ⟨⟨W.heap.size, .slice none 0 0, rfl, ⟨⟨[], [], hp.base hbe.size, Hol.nil _ _, rfl⟩, hbe.trans (hb.mono hbe.size)⟩, fun k hk => by
    rcases hk with e | e
    · exact Nat.le_of_eq e.symm
    · cases e⟩, hb⟩
theorem s_push (hO : Hid (IsOS F lt)) (hW : Hid (WkO lt)) (x : ByteArray) (H : OneS w wr lt F h v n L) (hl : L.length ≤ 900) (hn : 0 ≤ n ∧ n ≤ 1000000) : Calls Try.prog 25 #[.pointer (some ⟨h, 0, none⟩), vS x] wr fun e w' => e = .returned (.tuple #[]) ∧ (∃ v', OneS w w' lt F h v' (n + 1) (insT lt x L) ∧ ∀ k, HpB h v' k → HpB h v k ∨ wr.heap.size ≤ k) ∧ GrP (HpB h v) wr w' := by
  obtain ⟨⟨l, B, h1, h2, h3⟩, be⟩ := H
  have hlen : l.length ≤ 900 := by rw [h2.len, ← List.length_map (f := Prod.fst), h3]; exact hl
  refine (pushS_any w.heap.size h F v n l B lt x wr hlen hn.1 hn.2 hO hW (Lib.hid h1) (Lib.hid h2)).mono ?_
  rintro e w' ⟨rfl, l', ⟨⟨v', hp, hnew⟩, hg⟩, ho⟩
  exact ⟨rfl, ⟨v', ⟨⟨l', _, hp, ho, by rw [insT_ins, h3]⟩, be.trans (hg.below be.size fun k hk => (h1.blk hk).1)⟩, hnew⟩, hg⟩
theorem s_pop (hO : Hid (IsOS F lt)) (hW : Hid (WkO lt)) {x : ByteArray} {L : List ByteArray} (H : OneS w wr lt F h v n (x :: L)) (hl : L.length ≤ 900) : Calls Try.prog 27 #[.pointer (some ⟨h, 0, none⟩)] wr fun e w' => e = .returned (.tuple #[.string x, .bool true]) ∧ (∃ v', OneS w w' lt F h v' n L ∧ ∀ k, HpB h v' k → HpB h v k ∨ wr.heap.size ≤ k) ∧ GrP (HpB h v) wr w' := by
  obtain ⟨⟨l, B, h1, h2, h3⟩, be⟩ := H
  have hlen : l.length ≤ 1000 := by rw [h2.len, ← List.length_map (f := Prod.fst), h3, List.length_cons]; omega
  refine (popS_any w.heap.size h F v n n l B lt wr hlen hO hW (Lib.hid h1) (Lib.hid h2)).mono ?_
  rintro e w' ⟨rfl, l', ⟨⟨v', hp, hnew⟩, hg⟩, ho⟩
  cases B with
  | nil => cases h3
  | cons y B =>
    obtain ⟨h4, h5⟩ := List.cons.inj h3
    subst h4
    exact ⟨by simp [curS], ⟨v', ⟨⟨l', B, hp, ho, h5⟩, be.trans (hg.below be.size fun k hk => (h1.blk hk).1)⟩, hnew⟩, hg⟩
theorem s_sorted1 (H : OneS w wr ltS fWord h v n L) (hl : L.length ≤ 900) : Calls Try.prog 26 #[.pointer (some ⟨h, 0, none⟩)] wr fun e w' => (∃ r, e = .returned r ∧ OwnK w' wr.heap.size 9 1 r (L.map eT)) ∧ Below wr.heap.size wr w' := by
  obtain ⟨⟨l, B, h1, h2, h3⟩, be⟩ := H
  have hlen : l.length ≤ 900 := by rw [h2.len, ← List.length_map (f := Prod.fst), h3]; exact hl
  refine (sortedS1_any w.heap.size h v n n l B wr hlen (Lib.hid h1) (Lib.hid h2)).mono ?_
  rintro e w' ⟨r, rfl, ho, hb⟩
  have hml : B.map cS = L.map eT := by rw [← h3, List.map_map]; rfl
  rw [hml] at ho
  exact ⟨⟨r, rfl, ho⟩, hb⟩
theorem s_sorted2 (H : OneS w wr (ltN ByteArray) .nilFunc h v n L) (hl : L.length ≤ 900) : Calls Try.prog 26 #[.pointer (some ⟨h, 0, none⟩)] wr fun e w' => (∃ r, e = .returned r ∧ OwnK w' wr.heap.size 9 1 r (L.map eT)) ∧ Below wr.heap.size wr w' := by
  obtain ⟨⟨l, B, h1, h2, h3⟩, be⟩ := H
  have hlen : l.length ≤ 900 := by rw [h2.len, ← List.length_map (f := Prod.fst), h3]; exact hl
  refine (sortedS2_any w.heap.size h v n n l B wr hlen (Lib.hid h1) (Lib.hid h2)).mono ?_
  rintro e w' ⟨r, rfl, ho, hb⟩
  have hml : B.map cS = L.map eT := by rw [← h3, List.map_map]; rfl
  rw [hml] at ho
  exact ⟨⟨r, rfl, ho⟩, hb⟩
end
/-- Three heaps: one by the word, one with no order, one that was never made. -/
structure Tri (w wr : World) (l : List ByteArray) (h n z i j k : Nat) (vh vn vz : Value) : Prop where
  a : ∃ L, L.length = i ∧ OneS w wr ltS fWord h vh i L
  b : OneS w wr (ltN ByteArray) .nilFunc n vn j (l.take j)
  c : OneS w wr (ltN ByteArray) .nilFunc z vz k (l.take k)
  ab : ∀ q, HpB h vh q → HpB n vn q → False
  ac : ∀ q, HpB h vh q → HpB z vz q → False
  bc : ∀ q, HpB n vn q → HpB z vz q → False
section
variable {w wr w' : World} {l : List ByteArray} {h n z i j k : Nat} {vh vn vz : Value}
theorem Tri.be (H : Tri w wr l h n z i j k vh vn vz) : Below w.heap.size w wr := H.b.be
theorem Tri.below (H : Tri w wr l h n z i j k vh vn vz) (hb : Below wr.heap.size wr w') : Tri w w' l h n z i j k vh vn vz := by
  obtain ⟨L, h1, h2⟩ := H.a
  exact ⟨⟨L, h1, h2.below hb⟩, H.b.below hb, H.c.below hb, H.ab, H.ac, H.bc⟩
theorem tri_pushA (x : ByteArray) (H : Tri w wr l h n z i j k vh vn vz) (hi : i ≤ 900) : Calls Try.prog 25 #[.pointer (some ⟨h, 0, none⟩), vS x] wr fun e w' => e = .returned (.tuple #[]) ∧ ∃ vh', Tri w w' l h n z (i + 1) j k vh' vn vz := by
  obtain ⟨L, h1, h2⟩ := H.a
  refine (s_push isWord_S ltS_ok x h2 (by omega) ⟨by omega, by omega⟩).mono ?_
  rintro e w' ⟨rfl, ⟨v', hO, hnew⟩, hg⟩
  refine ⟨rfl, v', ⟨⟨_, by rw [insT_len, h1], hO⟩, H.b.other h2 (fun q a b => H.ab q b a) hg, H.c.other h2 (fun q a b => H.ac q b a) hg, fun q a b => ?_, fun q a b => ?_, H.bc⟩⟩
  · rcases hnew q a with a | a
    · exact H.ab q a b
    · have := (H.b.blk b).2; omega
  · rcases hnew q a with a | a
    · exact H.ac q a b
    · have := (H.c.blk b).2; omega
theorem tri_pushB (hj : j < l.length) (H : Tri w wr l h n z i j k vh vn vz) (hi : j ≤ 900) : Calls Try.prog 25 #[.pointer (some ⟨n, 0, none⟩), vS l[j]] wr fun e w' => e = .returned (.tuple #[]) ∧ ∃ vn', Tri w w' l h n z i (j + 1) k vh vn' vz := by
  obtain ⟨L, h1, h2⟩ := H.a
  refine (s_push isNil_S (ltN_ok _) l[j] H.b (by rw [List.length_take]; omega) ⟨by omega, by omega⟩).mono ?_
  rintro e w' ⟨rfl, ⟨v', hO, hnew⟩, hg⟩
  rw [insT_N, ← List.take_succ_eq_append_getElem hj] at hO
  refine ⟨rfl, v', ⟨⟨L, h1, h2.other H.b H.ab hg⟩, hO, H.c.other H.b (fun q a b => H.bc q b a) hg, fun q a b => ?_, H.ac, fun q a b => ?_⟩⟩
  · rcases hnew q b with b | b
    · exact H.ab q a b
    · have := (h2.blk a).2; omega
  · rcases hnew q a with a | a
    · exact H.bc q a b
    · have := (H.c.blk b).2; omega
theorem tri_pushC (hk : k < l.length) (H : Tri w wr l h n z i j k vh vn vz) (hi : k ≤ 900) : Calls Try.prog 25 #[.pointer (some ⟨z, 0, none⟩), vS l[k]] wr fun e w' => e = .returned (.tuple #[]) ∧ ∃ vz', Tri w w' l h n z i j (k + 1) vh vn vz' := by
  obtain ⟨L, h1, h2⟩ := H.a
  refine (s_push isNil_S (ltN_ok _) l[k] H.c (by rw [List.length_take]; omega) ⟨by omega, by omega⟩).mono ?_
  rintro e w' ⟨rfl, ⟨v', hO, hnew⟩, hg⟩
  rw [insT_N, ← List.take_succ_eq_append_getElem hk] at hO
  refine ⟨rfl, v', ⟨⟨L, h1, h2.other H.c H.ac hg⟩, H.b.other H.c H.bc hg, hO, H.ab, fun q a b => ?_, fun q a b => ?_⟩⟩
  · rcases hnew q b with b | b
    · exact H.ac q a b
    · have := (h2.blk a).2; omega
  · rcases hnew q b with b | b
    · exact H.bc q a b
    · have := (H.b.blk a).2; omega
end
theorem own_rd {w : World} {b n c : Nat} {t : TypeId} {A : Option Addr} {l : List (List Value)} (h : OwnK w b t 1 (.slice A n c) l) : RdK w 1 A l := by
  obtain ⟨A', c', hr, hrd, _⟩ := h.sl
  injection hr with h1 h2 h3
  subst h1
  exact hrd
/-- What is read behind the sorting: three rows, and the heap that is emptied. -/
structure Lo (w wr : World) (n s1 s2 : Nat) (ra rb rc : Value) (La l : List ByteArray) (m : Int) (i : Nat) (v : Value) : Prop where
  a : OwnK wr w.heap.size 9 1 ra (La.map eT)
  b : OwnK wr w.heap.size 9 1 rb (l.map eT)
  c : OwnK wr w.heap.size 9 1 rc (l.map eT)
  ga : ∀ g, ra.ownBlock = some g → s1 ≤ g ∧ g < s2
  gb : ∀ g, rb.ownBlock = some g → s1 ≤ g ∧ g < s2
  gc : ∀ g, rc.ownBlock = some g → s1 ≤ g ∧ g < s2
  h : OneS w wr (ltN ByteArray) .nilFunc n v m (l.drop i)
  gn : ∀ k, HpB n v k → k < s1 ∨ s2 ≤ k
  le : s2 ≤ wr.heap.size
section
variable {w wr w' : World} {n s1 s2 i : Nat} {ra rb rc v : Value} {La l : List ByteArray} {m : Int}
theorem Lo.below (H : Lo w wr n s1 s2 ra rb rc La l m i v) (hb : Below wr.heap.size wr w') : Lo w w' n s1 s2 ra rb rc La l m i v :=
  ⟨H.a.below hb, H.b.below hb, H.c.below hb, H.ga, H.gb, H.gc, H.h.below hb, H.gn, Nat.le_trans H.le hb.size⟩
theorem lo_pop (hi : i < l.length) (hl : l.length ≤ 900) (H : Lo w wr n s1 s2 ra rb rc La l m i v) : Calls Try.prog 27 #[.pointer (some ⟨n, 0, none⟩)] wr fun e w' => e = .returned (.tuple #[.string l[i], .bool true]) ∧ ∃ v', Lo w w' n s1 s2 ra rb rc La l m (i + 1) v' := by
  have hh := H.h
  rw [List.drop_eq_getElem_cons hi] at hh
  refine (s_pop isNil_S (ltN_ok _) hh (by rw [List.length_drop]; omega)).mono ?_
  rintro e w' ⟨rfl, ⟨v', hO, hnew⟩, hg⟩
  have ap : ∀ g, s1 ≤ g ∧ g < s2 → ¬ HpB n v g := fun g hg hk => by rcases H.gn g hk with e | e <;> omega
  have hsz := hg.size
  exact ⟨rfl, v', ⟨H.a.grp hg fun g e => ap g (H.ga g e), H.b.grp hg fun g e => ap g (H.gb g e), H.c.grp hg fun g e => ap g (H.gc g e), H.ga, H.gb, H.gc, hO, fun k hk => by
    rcases hnew k hk with e | e
    · exact H.gn k e
    · exact .inr (Nat.le_trans H.le e), Nat.le_trans H.le hsz⟩⟩
end
end Go.Proofs.Ytkadcaihihgceaa
