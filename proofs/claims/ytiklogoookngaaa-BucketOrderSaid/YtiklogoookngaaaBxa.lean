/- Layer 17: awake, few; AtLeast of a nil index; an index as the laws' walks carry it. No condition beyond what a slice's address and length are. -/
import Derived.Test.YtiklogoookngaaaBx2
import Derived.Test.YtiklogoookngaaaBx3
import Derived.Test.YtiklogoookngaaaBx4
namespace Go.Proofs.Ytiklogoookngaaa
open Go.RowKit
set_option linter.unusedSimpArgs false
set_option linter.unusedVariables false

/-- An index that the call has made. -/
structure Xe (w wr : World) (g : Nat) (M : Nat → Value) (D : List NV) : Prop where
  ix : Ix wr w.heap.size g M D
  be : Below w.heap.size w wr
section
variable {w wr w' : World} {g : Nat} {M : Nat → Value} {D E : List NV}
theorem Xe.below (H : Xe w wr g M D) (hb : Below wr.heap.size wr w') : Xe w w' g M D := ⟨H.ix.later hb, H.be.trans (hb.mono H.be.size)⟩
theorem Ix.fresh {W W' : World} {b : Nat} (hb : b ≤ W.heap.size) (h : Bk W' W.heap.size 35 (cM fun _ => .map none)) : Ix W' b W.heap.size (fun _ => .map none) [] :=
  ⟨h, fun i _ => ⟨[], .inl ⟨rfl, rfl⟩, List.Perm.refl _⟩, fun i j _ _ _ k h1 => (by cases h1), fun k hk => hk.elim (fun e => by rw [e]; exact hb) (fun ⟨i, _, h1⟩ => by cases h1), by simp, by simp⟩
theorem x_new (W : World) (hbe : Below w.heap.size w W) : Calls Try.prog 9 #[] W fun e w' => (e = .returned (.pointer (some ⟨W.heap.size, 0, none⟩)) ∧ Xe w w' W.heap.size (fun _ => .map none) []) ∧ Below W.heap.size W w' := by
  refine (new_any W).mono ?_
  rintro e w' ⟨rfl, h, hb⟩
  exact ⟨⟨rfl, Ix.fresh hbe.size h, hbe.trans (hb.mono hbe.size)⟩, hb⟩
theorem x_put (s : ByteArray) (t : R3) (ht : okV t) (H : Xe w wr g M D) : Calls Try.prog 10 #[.pointer (some ⟨g, 0, none⟩), .string s, vR t] wr fun e w' => e = .returned (.tuple #[]) ∧ (∃ M', Xe w w' g M' (delN D s ++ [(s, t)]) ∧ ∀ k, IxB g M' k → IxB g M k ∨ wr.heap.size ≤ k) ∧ GrP (IxB g M) wr w' := by
  refine (put_any w.heap.size g M D s t wr ht H.be.size (Lib.hid H.ix)).mono ?_
  rintro e w' ⟨rfl, ⟨M', h1, h2⟩, hg⟩
  exact ⟨rfl, ⟨M', ⟨h1, H.be.trans (hg.below H.be.size fun k hk => H.ix.low k hk)⟩, h2⟩, hg⟩
theorem x_del (s : ByteArray) (H : Xe w wr g M D) : Calls Try.prog 12 #[.pointer (some ⟨g, 0, none⟩), .string s] wr fun e w' => e = .returned (.bool (getN D s).isSome) ∧ Xe w w' g M (delN D s) ∧ GrP (IxB g M) wr w' := by
  refine (del_any w.heap.size g M D s wr (Lib.hid H.ix)).mono ?_
  rintro e w' ⟨rfl, h1, hg⟩
  exact ⟨rfl, ⟨h1, H.be.trans (hg.below H.be.size fun k hk => H.ix.low k hk)⟩, hg⟩
theorem Xe.perm (H : Xe w wr g M D) (h : D.Perm E) : Xe w wr g M E := ⟨H.ix.perm h, H.be⟩
/-- What a list of names is that AtLeast tells. -/
def Told (D : List NV) (t : R3) (l : List ByteArray) : Prop := l.Perm ((D.filter (fitV t)).map Prod.fst) ∧ l.Pairwise fun x y => sL x y = true
theorem told_of {D : List NV} {t : R3} {l : List ByteArray} (hn : (D.map Prod.fst).Nodup) (h1 : l.Perm ((D.filter (fitV t)).map Prod.fst)) (h2 : l.Pairwise fun x y => sL y x = false) : Told D t l := by
  refine ⟨h1, ?_⟩
  have h3 : l.Nodup := h1.nodup_iff.2 ((List.filter_sublist.map _).nodup hn)
  exact (h2.and h3).imp fun {x y} h => by
    rcases sL_total h.1 with h4 | h4
    · exact h4
    · exact absurd h4.symm h.2
theorem told_one {D E : List NV} {t : R3} {l m : List ByteArray} (h : D.Perm E) (h1 : Told D t l) (h2 : Told E t m) : l = m := by
  have hp : l.Perm m := h1.1.trans (((h.filter _).map _).trans h2.1.symm)
  refine hp.eq_of_pairwise (le := fun x y => sL x y = true) (fun a b _ _ h3 h4 => ?_) h1.2 h2.2
  have := sL_asymm h3
  rw [h4] at this; cases this
theorem x_atLeast (t : R3) (ht : okV t) (hl : D.length ≤ 1000) (H : Xe w wr g M D) : Calls Try.prog 17 #[.pointer (some ⟨g, 0, none⟩), vR t] wr fun e w' => (∃ (l : List ByteArray) (n : Nat) (A : Option Addr) (c : Nat), e = .returned (.slice A n c) ∧ n = l.length ∧ n ≤ 1000 ∧ OwnK w' wr.heap.size 9 1 (.slice A n c) (cellsS l) ∧ Told D t l) ∧ Below wr.heap.size wr w' := by
  refine (atLeast_any w.heap.size g M D t wr ht (by omega) (Lib.hid H.ix)).mono ?_
  rintro e w' ⟨⟨l, A, c, rfl, ho, hp, hs⟩, hb⟩
  have hn : l.length ≤ 1000 := by
    have h1 := hp.length_eq
    rw [List.length_map] at h1
    have := List.length_filter_le (fitV t) D
    omega
  exact ⟨⟨l, l.length, A, c, rfl, rfl, hn, ho, told_of H.ix.nodup hp hs⟩, hb⟩
end
set_option maxHeartbeats 6400000 in
set_option maxRecDepth 100000 in
theorem awake17_any (w : World) : Calls Try.prog 7 #[] w fun e w' => e = .returned (.bool true) ∧ Below w.heap.size w w' := by
  have K1 := Lib.hid (fun (W : World) (h : Below w.heap.size w W) => x_new (w := w) W h)
  have K2 := Lib.hid (fun (W : World) (g : Nat) (M : Nat → Value) (H : Xe w W g M []) => x_put (w := w) (wr := W) (g := g) (M := M) (D := []) ⟨#[97]⟩ (4, 0, 0) (by unfold okV; omega) H)
  have K3 := Lib.hid (fun (W : World) (g : Nat) (M : Nat → Value) (D : List NV) (hl : D.length ≤ 1000) (H : Xe w W g M D) => x_atLeast (w := w) (wr := W) (g := g) (M := M) (D := D) (3, 0, 0) (by unfold okV; omega) hl H)
  have K4 := Lib.hid (fun (W : World) (g : Nat) (M : Nat → Value) (D : List NV) (hl : D.length ≤ 1000) (H : Xe w W g M D) => len_any w.heap.size g M D W (by omega) (Lib.hid H.ix))
  go_enter Try.func7, Try.ntmps7
  go_wp2_with fail
  refine (K1.out _ (Below.refl _ _)).mono ?_
  rintro e w1 ⟨⟨rfl, H1⟩, -⟩
  obtain ⟨g, hg⟩ : ∃ g, g = w.heap.size := ⟨_, rfl⟩
  rw [← hg] at H1 ⊢
  have HH := Lib.hid H1
  clear hg H1
  go_wp2_with fail
  refine (K2.out w1 g _ HH.out).mono ?_
  rintro e w2 ⟨rfl, ⟨M2, H2, -⟩, -⟩
  have H2 : Hid (Xe w w2 g M2 [(⟨#[97]⟩, (4, 0, 0))]) := H2
  clear HH
  go_wp2_with fail
  refine (K3.out w2 g M2 _ (by simp) H2.out).mono ?_
  rintro e w3 ⟨⟨l, n, A, c, rfl, hn, -, ho, ht⟩, hb3⟩
  have hl : l = [⟨#[97]⟩] := by
    have h1 := ht.1
    rw [show ([((⟨#[97]⟩ : ByteArray), ((4, 0, 0) : R3))].filter (fitV (3, 0, 0))).map Prod.fst = [⟨#[97]⟩] by decide] at h1
    exact List.perm_singleton.1 h1
  subst hl
  have hn1 : n = 1 := hn
  subst hn1
  obtain ⟨A', c', hv, hr, -, -⟩ := ho.rds
  injection hv with e1 e2 e3
  subst e1
  obtain ⟨g3, o3, hA, hg3, hx⟩ := hr.at (i := 0) (by simp)
  subst hA
  have hx : w3.cell? ⟨g3, o3, none⟩ = some (.string ⟨#[97]⟩) := hx
  have H3 := Lib.hid (H2.out.below hb3)
  clear hn ho ht hr e2 e3 hb3 H2
  go_wp2_with fail
  refine (K4.out w3 g M2 _ (by simp) H3.out).mono ?_
  rintro e w4 ⟨rfl, hb4⟩
  have HB4 := Lib.hid ((H3.out.below hb4).be)
  clear hb4 H3
  go_wp2_with fail
  go_ret
  exact ⟨rfl, HB4.out⟩
set_option maxHeartbeats 1600000 in
set_option maxRecDepth 100000 in
theorem atLeast_nil (t : R3) (w : World) (ht : okV t) : Calls Try.prog 17 #[.pointer none, vR t] w fun e w' => e = .returned (.slice none 0 0) ∧ Below w.heap.size w w' := by
  obtain ⟨n, hn⟩ : ∃ n, n = num t := ⟨_, rfl⟩
  have KN : Hid (∀ w, Calls Try.prog 20 #[vR t] w fun e w' => e = .returned (.int .i64 (n : Nat)) ∧ Below w.heap.size w w') := fun w => by rw [hn]; exact number_any t w ht
  have KF : Hid (∀ w, Calls Try.prog 21 #[.pointer none, .int .i64 n] w fun e w' => e = .returned (.slice none 0 0) ∧ w' = w) := fun w => from_nil n w
  have KS : Hid (∀ (w : World), Calls Try.prog 23 #[.slice none 0 0] w fun e w' => e = .returned (.tuple #[]) ∧ Below w.heap.size w w') := fun w => (sortS_any w w.heap.size 0 0 none [] (by omega) (Lib.hid (OwnK.nil _ _ _ _))).mono fun e w' h => ⟨h.1, h.2.2⟩
  have HB0 : Hid (Below w.heap.size w (w.alloc (.cells #[.int .i64 t.1, .int .i64 t.2.1, .int .i64 t.2.2] 37))) := (Below.refl _ _).alloc (Nat.le_refl _) _
  clear hn
  go_enter Try.func17, Try.ntmps17
  go_wp2_with fail
  refine (KN.out _).mono ?_
  rintro e w1 ⟨rfl, hb1⟩
  have HB1 := Lib.hid (HB0.out.trans (hb1.mono HB0.out.size))
  clear hb1
  go_wp2_with fail
  refine (KF.out _).mono ?_
  rintro e w' ⟨rfl, hw'⟩
  rw [hw']
  clear hw' w' KF
  go_wp2_with fail
  refine wp_loop_rounds 1 ?_
  rw [rounds_succ]
  go_wp2_with fail
  refine (KS.out _).mono ?_
  rintro e w2 ⟨rfl, hb2⟩
  have HB2 := Lib.hid (HB1.out.trans (hb2.mono HB1.out.size))
  clear hb2
  go_wp2_with fail
  go_ret
  exact ⟨rfl, HB2.out⟩
/-- A call of the laws. -/
abbrev Oq := Int × ByteArray × R3
abbrev eQ (x : Oq) : List Value := [.int .i64 x.1, .string x.2.1, .int .i64 x.2.2.1, .int .i64 x.2.2.2.1, .int .i64 x.2.2.2.2]
/-- A test has returned; if it is passed there are at most 300. -/
def RetFew (e : Ending) (n : Nat) : Prop := ∃ b : Bool, e = .returned (.bool b) ∧ (b = true → n ≤ 300)
set_option maxHeartbeats 3200000 in
set_option maxRecDepth 100000 in
theorem few17_any (A : Option Addr) (n c : Nat) (l : List Oq) (w : World) (hn : Hid (n = l.length)) (hm : n ≤ 9223372036854775807) (hr : Hid (RdK w 5 A (l.map eQ))) : Calls Try.prog 8 #[.slice A n c] w fun e w' => RetFew e n ∧ Below w.heap.size w w' := by
  by_cases h1 : n ≤ 300
  case neg =>
    have hni : (300 : Int) < (n : Int) := by omega
    go_enter Try.func8, Try.ntmps8
    go_wp2_with fail
    go_ret
    exact ⟨⟨false, rfl, fun h => by cases h⟩, Below.refl _ _⟩
  have hni : ¬ (300 : Int) < (n : Int) := by omega
  have H1 := Lib.hid h1
  clear hm h1
  go_enter Try.func8, Try.ntmps8
  go_wp2_with fail
  clear hni
  go_loopw [9] (fun s9 wr => ∃ k : Nat, k ≤ n ∧ s9 = .int .i64 k ∧ wr = w) (fun s9 wr => n - (intOf s9).toNat)
  case atStart => exact ⟨0, Nat.zero_le _, rfl, rfl⟩
  case round =>
    obtain ⟨k, hk, rfl, hwr⟩ := hrel
    rw [hwr]
    clear hwr wr
    by_cases hlt : k < n
    · obtain ⟨x, hx⟩ : ∃ x, l[k]? = some x := ⟨l[k]'(by rw [← hn.out]; exact hlt), List.getElem?_eq_getElem _⟩
      obtain ⟨g, o, rfl, hr2⟩ := hr.out k (eQ x) (by rw [List.getElem?_map, hx]; rfl)
      have c1 : w.cell? ⟨g, o + k * 5 + 1, none⟩ = some (.string x.2.1) := by simpa using hr2 1 _ rfl
      have hwk : wrap64 ((k : Int) + 1) = ((k + 1 : Nat) : Int) := by have := H1.out; unfold wrap64; omega
      clear hr2 hx
      by_cases hs : x.2.1.size ≤ 1000
      · have hsi : ¬ (1000 : Int) < (x.2.1.size : Int) := by omega
        clear hs
        go_wp2_with fail
        go_round
        case rel => exact ⟨k + 1, by omega, by go_num, trivial⟩
        case measure =>
          rw [hwk]
          show n - ((k + 1 : Nat) : Int).toNat < n - ((k : Nat) : Int).toNat
          rw [Int.toNat_natCast, Int.toNat_natCast]; omega
      · have hsi : (1000 : Int) < (x.2.1.size : Int) := by omega
        clear hs
        go_wp2_with fail
        go_ret
        exact ⟨⟨false, rfl, fun h => by cases h⟩, Below.refl _ _⟩
    · clear hk
      go_wp2_with fail
      go_ret
      exact ⟨⟨true, rfl, fun _ => H1.out⟩, Below.refl _ _⟩
end Go.Proofs.Ytiklogoookngaaa
