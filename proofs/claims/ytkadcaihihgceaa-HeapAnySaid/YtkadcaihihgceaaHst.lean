/- Stable sorted lists of pairs, plainly; two heaps side by side. No condition. -/
import Derived.Test.YtkadcaihihgceaaHaw
import Derived.Test.YtkadcaihihgceaaHrb
namespace Go.Proofs.Ytkadcaihihgceaa
open Go.RowKit
set_option linter.unusedSimpArgs false
set_option linter.unusedVariables false

/-- Pairs, one put behind the other. -/
def srt (l : List Px) : List Px := l.foldl (fun A x => insR x A) []
theorem srt_snoc (l : List Px) (x : Px) : srt (l ++ [x]) = insR x (srt l) := by simp [srt, List.foldl_append]
theorem srt_take {l : List Px} {k : Nat} (hk : k < l.length) : srt (l.take (k + 1)) = insR l[k] (srt (l.take k)) := by
  rw [List.take_succ_eq_append_getElem hk, srt_snoc]
theorem insR_perm (x : Px) : ∀ A : List Px, (insR x A).Perm (x :: A)
  | [] => List.Perm.refl _
  | y :: A => by
    unfold insR
    split
    · exact List.Perm.refl _
    · exact ((insR_perm x A).cons y).trans (List.Perm.swap x y A)
theorem snoc_ind {α : Type} {p : List α → Prop} (h0 : p []) (h1 : ∀ l x, p l → p (l ++ [x])) (l : List α) : p l := by
  have : p l.reverse.reverse := by
    generalize l.reverse = r
    induction r with
    | nil => exact h0
    | cons x r ih => rw [List.reverse_cons]; exact h1 _ _ ih
  rwa [List.reverse_reverse] at this
theorem srt_perm (l : List Px) : (srt l).Perm l := by
  induction l using snoc_ind with
  | h0 => exact List.Perm.refl _
  | h1 l x ih => rw [srt_snoc]; exact (insR_perm x _).trans ((ih.cons x).trans (List.perm_append_comm (l₁ := [x])))
theorem srt_len (l : List Px) : (srt l).length = l.length := (srt_perm l).length_eq
theorem insR_so (x : Px) : ∀ A : List Px, A.Pairwise (fun a b => a.1 ≤ b.1) → (insR x A).Pairwise (fun a b => a.1 ≤ b.1)
  | [], _ => List.pairwise_singleton _ _
  | y :: A, h => by
    rw [List.pairwise_cons] at h
    unfold insR
    split
    · rename_i e
      simp only [ltP, decide_eq_true_eq] at e
      rw [List.pairwise_cons]
      refine ⟨fun z hz => ?_, List.pairwise_cons.2 h⟩
      rcases List.mem_cons.1 hz with rfl | hz
      · omega
      · have := h.1 z hz; omega
    · rename_i e
      simp only [ltP, decide_eq_true_eq] at e
      rw [List.pairwise_cons]
      refine ⟨fun z hz => ?_, insR_so x A h.2⟩
      rcases List.mem_cons.1 ((insR_perm x A).mem_iff.1 hz) with rfl | hz
      · omega
      · exact h.1 z hz
theorem srt_so (l : List Px) : (srt l).Pairwise (fun a b => a.1 ≤ b.1) := by
  induction l using snoc_ind with
  | h0 => exact List.Pairwise.nil
  | h1 l x ih => rw [srt_snoc]; exact insR_so x _ ih
theorem insR_cons (x y : Px) (A : List Px) : insR x (y :: A) = if ltP x y then x :: y :: A else y :: insR x A := rfl
theorem insR_front {x : Px} {A : List Px} (h : ∀ y ∈ A, x.1 < y.1) : insR x A = x :: A := by
  cases A with
  | nil => rfl
  | cons y A =>
    unfold insR
    rw [if_pos (by simp only [ltP, decide_eq_true_eq]; exact h y (by simp))]
theorem insR_filter (p : Px → Bool) (x : Px) : ∀ A : List Px, A.Pairwise (fun a b => a.1 ≤ b.1) → (insR x A).filter p = if p x then insR x (A.filter p) else A.filter p
  | [], _ => by simp [insR, List.filter_cons]
  | y :: A, h => by
    rw [List.pairwise_cons] at h
    rw [insR_cons]
    by_cases e : ltP x y = true
    · rw [if_pos e]
      simp only [ltP, decide_eq_true_eq] at e
      rw [List.filter_cons]
      by_cases hp : p x = true
      · rw [if_pos hp, if_pos hp, insR_front]
        intro z hz
        have hz := (List.mem_filter.1 hz).1
        rcases List.mem_cons.1 hz with rfl | hz
        · exact e
        · have := h.1 z hz; omega
      · rw [if_neg hp, if_neg hp]
    · rw [if_neg e, List.filter_cons, List.filter_cons, insR_filter p x A h.2]
      by_cases hy : p y = true
      · rw [if_pos hy, if_pos hy]
        by_cases hp : p x = true
        · rw [if_pos hp, if_pos hp]
          rw [insR_cons, if_neg e]
        · rw [if_neg hp, if_neg hp]
      · rw [if_neg hy, if_neg hy]
theorem srt_filter (p : Px → Bool) (l : List Px) : (srt l).filter p = srt (l.filter p) := by
  induction l using snoc_ind with
  | h0 => rfl
  | h1 l x ih =>
    rw [srt_snoc, insR_filter p x _ (srt_so l), List.filter_append, ih]
    by_cases hp : p x = true
    · rw [if_pos hp, show [x].filter p = [x] by simp [hp], srt_snoc]
    · rw [if_neg hp, show [x].filter p = [] by simp [hp], List.append_nil]
/-- Of one key they stand as they stood. -/
theorem srt_key (K : Int) (l : List Px) : (srt l).filter (fun x => decide (x.1 = K)) = l.filter (fun x => decide (x.1 = K)) := by
  rw [srt_filter]
  have : ∀ m : List Px, (∀ x ∈ m, x.1 = K) → srt m = m := fun m => by
    induction m using snoc_ind with
    | h0 => intro _; rfl
    | h1 m x ih =>
      intro h
      rw [srt_snoc, ih (fun y hy => h y (by simp [hy])), insR_at x m m.length (Nat.le_refl _) (fun y hy => by
        rw [List.take_length] at hy
        rw [h y (by simp [hy]), h x (by simp)]; exact Int.le_refl _) (fun hh => absurd hh (Nat.lt_irrefl _)), List.take_length, List.drop_length]
  exact this _ fun x hx => by simpa using (List.mem_filter.1 hx).2
/-- A heap that holds these pairs. -/
structure One (w wr : World) (h : Nat) (v : Value) (n : Int) (l B : List (Px × Int)) (L : List Px) : Prop where
  p : HpP wr w.heap.size h fLess v n l
  o : Hol ltP n l B
  s : B.map Prod.fst = L
  be : Below w.heap.size w wr
/-- A heap of these pairs at h, and where its row lies. -/
def OneE (w wr : World) (h : Nat) (n : Int) (L : List Px) (v : Value) : Prop := ∃ l B, One w wr h v n l B L
section
variable {w wr w' : World} {h h2 : Nat} {v v2 : Value} {n m : Int} {L L2 : List Px}
theorem OneE.below (H : OneE w wr h n L v) (hb : Below wr.heap.size wr w') : OneE w w' h n L v := by
  obtain ⟨l, B, H⟩ := H
  exact ⟨l, B, H.p.below hb, H.o, H.s, H.be.trans (hb.mono H.be.size)⟩
theorem OneE.be (H : OneE w wr h n L v) : Below w.heap.size w wr := by obtain ⟨l, B, H⟩ := H; exact H.be
theorem OneE.blk (H : OneE w wr h n L v) {k : Nat} (hk : HpB h v k) : w.heap.size ≤ k ∧ k < wr.heap.size := by obtain ⟨l, B, H⟩ := H; exact H.p.blk hk
theorem OneE.other (H : OneE w wr h n L v) (H2 : OneE w wr h2 m L2 v2) (ap : ∀ k, HpB h v k → HpB h2 v2 k → False) (hg : GrP (HpB h2 v2) wr w') : OneE w w' h n L v := by
  obtain ⟨l, B, H⟩ := H
  exact ⟨l, B, H.p.grp hg (fun k hk hk2 => ap k hk hk2), H.o, H.s, H.be.trans (hg.below H.be.size fun k hk => (H2.blk hk).1)⟩
theorem OneE.rf {b r n' c' : Nat} {A : Option Addr} {R : List Px} (H : OneE w wr h n L v) (HR : Rf wr b r A n' c' R) {k : Nat} (h1 : HpB h v k) (h2 : RfB r A k) : False := by
  obtain ⟨l, B, H⟩ := H
  exact H.p.rf HR h1 h2
end
section
variable {w wr : World} {h : Nat} {v : Value} {n : Int} {L : List Px}
theorem one_new (W : World) (hbe : Below w.heap.size w W) : Calls Try.prog 9 #[fLess] W fun e w' => (∃ h v, e = .returned (.pointer (some ⟨h, 0, none⟩)) ∧ OneE w w' h 0 [] v ∧ ∀ k, HpB h v k → W.heap.size ≤ k) ∧ Below W.heap.size W w' := by
  refine (newP_any fLess ltP W isLess_P).mono ?_
  rintro e w' ⟨rfl, hp, hb⟩
  exact ⟨⟨W.heap.size, .slice none 0 0, rfl, ⟨[], [], hp.base hbe.size, Hol.nil _ _, rfl, hbe.trans (hb.mono hbe.size)⟩, fun k hk => by
    rcases hk with e | e
    · exact Nat.le_of_eq e.symm
    · cases e⟩, hb⟩
theorem one_push (x : Px) (H : OneE w wr h n L v) (hl : L.length ≤ 900) (hn : 0 ≤ n ∧ n ≤ 1000000) : Calls Try.prog 11 #[.pointer (some ⟨h, 0, none⟩), vP x] wr fun e w' => e = .returned (.tuple #[]) ∧ (∃ v', OneE w w' h (n + 1) (insR x L) v' ∧ ∀ k, HpB h v' k → HpB h v k ∨ wr.heap.size ≤ k) ∧ GrP (HpB h v) wr w' := by
  obtain ⟨l, B, H⟩ := H
  have hlen : l.length ≤ 900 := by rw [H.o.len, ← List.length_map (f := Prod.fst), H.s]; exact hl
  refine (pushP_any w.heap.size h fLess v n l B ltP x wr hlen hn.1 hn.2 isLess_P ltP_ok (Lib.hid H.p) (Lib.hid H.o)).mono ?_
  rintro e w' ⟨rfl, l', ⟨⟨v', hp, hnew⟩, hg⟩, ho⟩
  exact ⟨rfl, ⟨v', ⟨l', _, hp, ho, by rw [insR_ins, H.s], H.be.trans (hg.below H.be.size fun k hk => (H.p.blk hk).1)⟩, hnew⟩, hg⟩
theorem one_len (H : OneE w wr h n L v) : Calls Try.prog 22 #[.pointer (some ⟨h, 0, none⟩)] wr fun e w' => e = .returned (.int .i64 L.length) ∧ w' = wr := by
  obtain ⟨l, B, H⟩ := H
  refine (lenP_any w.heap.size h fLess v n l wr (Lib.hid H.p)).mono ?_
  rintro e w' ⟨rfl, rfl⟩
  exact ⟨by rw [H.o.len, ← H.s, List.length_map], rfl⟩
theorem one_pop (H : OneE w wr h n L v) (hl : L.length ≤ 900) : Calls Try.prog 13 #[.pointer (some ⟨h, 0, none⟩)] wr fun e w' => e = .returned (.tuple #[vP (L.headD (0, 0)), .bool (decide (0 < L.length))]) ∧ (∃ v', OneE w w' h n L.tail v' ∧ ∀ k, HpB h v' k → HpB h v k ∨ wr.heap.size ≤ k) ∧ GrP (HpB h v) wr w' := by
  obtain ⟨l, B, H⟩ := H
  have hlen : l.length ≤ 1000 := by rw [H.o.len, ← List.length_map (f := Prod.fst), H.s]; omega
  refine (popP_any w.heap.size h fLess v n n l B ltP wr hlen isLess_P ltP_ok (Lib.hid H.p) (Lib.hid H.o)).mono ?_
  rintro e w' ⟨rfl, l', ⟨⟨v', hp, hnew⟩, hg⟩, ho⟩
  refine ⟨?_, ⟨v', ⟨l', _, hp, ho, by rw [← H.s, List.map_tail], H.be.trans (hg.below H.be.size fun k hk => (H.p.blk hk).1)⟩, hnew⟩, hg⟩
  rw [← H.s, List.length_map]
  cases B <;> rfl
theorem one_top (H : OneE w wr h n L v) : Calls Try.prog 15 #[.pointer (some ⟨h, 0, none⟩)] wr fun e w' => e = .returned (.tuple #[vP (L.headD (0, 0)), .bool (decide (0 < L.length))]) ∧ Below wr.heap.size wr w' := by
  obtain ⟨l, B, H⟩ := H
  have hs := H.s
  cases B with
  | nil =>
    have hl : l = [] := List.length_eq_zero_iff.1 H.o.len
    subst hl
    refine (topP_empty w.heap.size h fLess v n wr (Lib.hid H.p)).mono ?_
    rintro e w' ⟨rfl, hb⟩
    rw [← hs]
    exact ⟨rfl, hb⟩
  | cons x B =>
    obtain ⟨h0, hx⟩ := H.o.head ltP_ok
    refine (topP_some w.heap.size h fLess v n l x wr (Lib.hid (by rw [List.getElem?_eq_getElem h0, hx])) (Lib.hid H.p)).mono ?_
    rintro e w' ⟨rfl, hb⟩
    rw [← hs]
    exact ⟨by simp, hb⟩
theorem one_sorted (H : OneE w wr h n L v) (hl : L.length ≤ 900) : Calls Try.prog 21 #[.pointer (some ⟨h, 0, none⟩)] wr fun e w' => (∃ A c, e = .returned (.slice A L.length c) ∧ RdP w' A L.length L) ∧ Below wr.heap.size wr w' := by
  obtain ⟨l, B, H⟩ := H
  have hlen : l.length ≤ 900 := by rw [H.o.len, ← List.length_map (f := Prod.fst), H.s]; exact hl
  refine (sortedP_any w.heap.size h v n n l B wr hlen (Lib.hid H.p) (Lib.hid H.o)).mono ?_
  rintro e w' ⟨r, rfl, ho, hb⟩
  obtain ⟨A, c, hr, hrd, _⟩ := ho.sl
  have hml : B.map cP = L.map eX := by rw [← H.s, List.map_map]; rfl
  rw [hml] at hr hrd
  rw [List.length_map] at hr
  exact ⟨⟨A, c, by rw [hr], rfl, hrd⟩, hb⟩
theorem one_remove (G : FuncId) (wh : Px → Bool) (hC : Chs G wh) (H : OneE w wr h n L v) (hl : L.length ≤ 900) : Calls Try.prog 16 #[.pointer (some ⟨h, 0, none⟩), .func (.func G) #[] #[]] wr fun e w' => e = .returned (.int .i64 ((L.length : Int) - ((L.filter fun x => !wh x).length : Int))) ∧ (∃ v', OneE w w' h n (L.filter fun x => !wh x) v' ∧ ∀ k, HpB h v' k → HpB h v k ∨ wr.heap.size ≤ k) ∧ GrP (HpB h v) wr w' := by
  obtain ⟨l, B, H⟩ := H
  have hlen : l.length ≤ 900 := by rw [H.o.len, ← List.length_map (f := Prod.fst), H.s]; exact hl
  refine (rem_any w.heap.size h fLess v n l B ltP G wh wr hlen isLess_P ltP_ok hC (Lib.hid H.p) (Lib.hid H.o)).mono ?_
  rintro e w' ⟨rfl, l', ⟨⟨v', hp, hnew⟩, hg⟩, ho⟩
  have hf : (B.filter fun x => !wh x.1).map Prod.fst = L.filter fun x => !wh x := by
    rw [← H.s, List.filter_map]; rfl
  refine ⟨?_, ⟨v', ⟨l', _, hp, ho, hf, H.be.trans (hg.below H.be.size fun k hk => (H.p.blk hk).1)⟩, hnew⟩, hg⟩
  rw [← hf, ← H.s, List.length_map, List.length_map]
end
end Go.Proofs.Ytkadcaihihgceaa
