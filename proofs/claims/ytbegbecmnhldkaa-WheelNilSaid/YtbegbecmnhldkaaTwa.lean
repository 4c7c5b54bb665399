/- Layer 19: awake, few; a wheel as the laws' walks carry it. No condition beyond what a slice's address and length are. -/
import Derived.Test.YtbegbecmnhldkaaTw2
import Derived.Test.YtbegbecmnhldkaaTw3
import Derived.Test.YtbegbecmnhldkaaTw4
namespace Go.Proofs.Ytbegbecmnhldkaa
open Go.RowKit
set_option linter.unusedSimpArgs false
set_option linter.unusedVariables false

/-- An index that the call has made. -/
structure Wxe (w wr : World) (g : Nat) (M : Nat → Value) (D : List NT) : Prop where
  ix : Wx wr w.heap.size g M D
  be : Below w.heap.size w wr
section
variable {w wr w' : World} {g : Nat} {M : Nat → Value} {D E : List NT}
theorem Wxe.below (H : Wxe w wr g M D) (hb : Below wr.heap.size wr w') : Wxe w w' g M D := ⟨H.ix.later hb, H.be.trans (hb.mono H.be.size)⟩
theorem Wx.fresh {W W' : World} {b : Nat} (hb : b ≤ W.heap.size) (h : Bk W' W.heap.size 35 (cT fun _ => .map none)) : Wx W' b W.heap.size (fun _ => .map none) [] :=
  ⟨h, fun i _ => ⟨[], .inl ⟨rfl, rfl⟩, List.Perm.refl _⟩, fun i j _ _ _ k h1 => (by cases h1), fun k hk => hk.elim (fun e => by rw [e]; exact hb) (fun ⟨i, _, h1⟩ => by cases h1), by simp⟩
theorem wx_new (W : World) (hbe : Below w.heap.size w W) : Calls Try.prog 9 #[] W fun e w' => (e = .returned (.pointer (some ⟨W.heap.size, 0, none⟩)) ∧ Wxe w w' W.heap.size (fun _ => .map none) []) ∧ Below W.heap.size W w' := by
  refine (newT_any W).mono ?_
  rintro e w' ⟨rfl, h, hb⟩
  exact ⟨⟨rfl, Wx.fresh hbe.size h, hbe.trans (hb.mono hbe.size)⟩, hb⟩
theorem wx_set (s : ByteArray) (t : Int) (H : Wxe w wr g M D) : Calls Try.prog 10 #[.pointer (some ⟨g, 0, none⟩), .string s, .int .i64 t] wr fun e w' => e = .returned (.tuple #[]) ∧ (∃ M', Wxe w w' g M' (delT D s ++ [(s, t)]) ∧ ∀ k, WxB g M' k → WxB g M k ∨ wr.heap.size ≤ k) ∧ GrP (WxB g M) wr w' := by
  refine (setT_any w.heap.size g M D s t wr H.be.size (Lib.hid H.ix)).mono ?_
  rintro e w' ⟨rfl, ⟨M', h1, h2⟩, hg⟩
  exact ⟨rfl, ⟨M', ⟨h1, H.be.trans (hg.below H.be.size fun k hk => H.ix.low k hk)⟩, h2⟩, hg⟩
theorem wx_del (s : ByteArray) (H : Wxe w wr g M D) : Calls Try.prog 12 #[.pointer (some ⟨g, 0, none⟩), .string s] wr fun e w' => e = .returned (.bool (getT D s).isSome) ∧ Wxe w w' g M (delT D s) ∧ GrP (WxB g M) wr w' := by
  refine (delT_any w.heap.size g M D s wr (Lib.hid H.ix)).mono ?_
  rintro e w' ⟨rfl, h1, hg⟩
  exact ⟨rfl, ⟨h1, H.be.trans (hg.below H.be.size fun k hk => H.ix.low k hk)⟩, hg⟩
theorem Wxe.perm (H : Wxe w wr g M D) (h : D.Perm E) : Wxe w wr g M E := ⟨H.ix.perm h, H.be⟩
/-- What a list of names is that Due tells. -/
def ToldT (D : List NT) (t : Int) (l : List ByteArray) : Prop := l.Perm ((D.filter (dueB t)).map Prod.fst) ∧ l.Pairwise fun x y => sL x y = true
theorem toldT_of {D : List NT} {t : Int} {l : List ByteArray} (hn : (D.map Prod.fst).Nodup) (h1 : l.Perm ((D.filter (dueB t)).map Prod.fst)) (h2 : l.Pairwise fun x y => sL y x = false) : ToldT D t l := by
  refine ⟨h1, ?_⟩
  have h3 : l.Nodup := h1.nodup_iff.2 ((List.filter_sublist.map _).nodup hn)
  exact (h2.and h3).imp fun {x y} h => by
    rcases sL_total h.1 with h4 | h4
    · exact h4
    · exact absurd h4.symm h.2
theorem toldT_one {D E : List NT} {t : Int} {l m : List ByteArray} (h : D.Perm E) (h1 : ToldT D t l) (h2 : ToldT E t m) : l = m := by
  have hp : l.Perm m := h1.1.trans (((h.filter _).map _).trans h2.1.symm)
  refine hp.eq_of_pairwise (le := fun x y => sL x y = true) (fun a b _ _ h3 h4 => ?_) h1.2 h2.2
  have := sL_asymm h3
  rw [h4] at this; cases this
/-- Those that aren't due. -/
def restT (D : List NT) (t : Int) : List NT := D.filter fun p => !dueB t p
theorem wx_due (t : Int) (hl : D.length ≤ 1000) (H : Wxe w wr g M D) : Calls Try.prog 17 #[.pointer (some ⟨g, 0, none⟩), .int .i64 t] wr fun e w' => (∃ (l : List ByteArray) (n : Nat) (A : Option Addr) (c : Nat), e = .returned (.slice A n c) ∧ n = l.length ∧ n ≤ 1000 ∧ OwnK w' wr.heap.size 9 1 (.slice A n c) (cellsS l) ∧ ToldT D t l) ∧ Wxe w w' g M (restT D t) ∧ GrP (WxB g M) wr w' := by
  refine (dueT_any w.heap.size g M D t wr (by omega) (Lib.hid H.ix)).mono ?_
  rintro e w' ⟨⟨l, A, c, rfl, ho, hp, hs⟩, hx, hg⟩
  have hn : l.length ≤ 1000 := by
    have h1 := hp.length_eq
    rw [List.length_map] at h1
    have := List.length_filter_le (dueB t) D
    omega
  exact ⟨⟨l, l.length, A, c, rfl, rfl, hn, ho, toldT_of H.ix.nodup hp hs⟩, ⟨hx, H.be.trans (hg.below H.be.size fun k hk => H.ix.low k hk)⟩, hg⟩
end
set_option maxHeartbeats 6400000 in
set_option maxRecDepth 100000 in
theorem awake19_any (w : World) : Calls Try.prog 7 #[] w fun e w' => e = .returned (.bool true) ∧ Below w.heap.size w w' := by
  have K1 := Lib.hid (fun (W : World) (h : Below w.heap.size w W) => wx_new (w := w) W h)
  have K2 := Lib.hid (fun (W : World) (g : Nat) (M : Nat → Value) (H : Wxe w W g M []) => wx_set (w := w) (wr := W) (g := g) (M := M) (D := []) ⟨#[97]⟩ 3 H)
  have K3 := Lib.hid (fun (W : World) (g : Nat) (M : Nat → Value) (D : List NT) (hl : D.length ≤ 1000) (H : Wxe w W g M D) => wx_due (w := w) (wr := W) (g := g) (M := M) (D := D) 4 hl H)
  have K4 := Lib.hid (fun (W : World) (g : Nat) (M : Nat → Value) (D : List NT) (hl : D.length ≤ 1000) (H : Wxe w W g M D) => lenT_any w.heap.size g M D W (by omega) (Lib.hid H.ix))
  go_enter Try.func7, Try.ntmps7
  go_wp2_with fail
  refine (K1.out _ (Below.refl _ _)).mono ?_
  rintro e w1 ⟨⟨rfl, H1⟩, -⟩
  obtain ⟨g, hg⟩ : ∃ g, g = w.heap.size := ⟨_, rfl⟩
  rw [← hg] at H1 ⊢
  have HH := Lib.hid H1
  clear hg H1
  go_wp2_with fail
  refine (K2.out w1 g _ HH.out).mono ?_
  rintro e w2 ⟨rfl, ⟨M2, H2, -⟩, -⟩
  have H2 : Hid (Wxe w w2 g M2 [(⟨#[97]⟩, 3)]) := H2
  clear HH
  go_wp2_with fail
  refine (K3.out w2 g M2 _ (by simp) H2.out).mono ?_
  rintro e w3 ⟨⟨l, n, A, c, rfl, hn, -, ho, ht⟩, hx3, -⟩
  have hl : l = [⟨#[97]⟩] := by
    have h1 := ht.1
    rw [show ([((⟨#[97]⟩ : ByteArray), (3 : Int))].filter (dueB 4)).map Prod.fst = [⟨#[97]⟩] by decide] at h1
    exact List.perm_singleton.1 h1
  subst hl
  have hn1 : n = 1 := hn
  subst hn1
  obtain ⟨A', c', hv, hr, -, -⟩ := ho.rds
  injection hv with e1 e2 e3
  subst e1
  obtain ⟨g3, o3, hA, hg3, hx⟩ := hr.at (i := 0) (by simp)
  subst hA
  have hx : w3.cell? ⟨g3, o3, none⟩ = some (.string ⟨#[97]⟩) := hx
  have H3 : Hid (Wxe w w3 g M2 []) := hx3
  clear hn ho ht hr e2 e3 hx3 H2
  go_wp2_with fail
  refine (K4.out w3 g M2 _ (by simp) H3.out).mono ?_
  rintro e w4 ⟨rfl, hb4⟩
  have HB4 := Lib.hid ((H3.out.below hb4).be)
  clear hb4 H3
  go_wp2_with fail
  go_ret
  exact ⟨rfl, HB4.out⟩
/-- A call of the laws. -/
abbrev Oe := Int × Int × ByteArray
abbrev eE (x : Oe) : List Value := [.int .i64 x.1, .int .i64 x.2.1, .string x.2.2]
/-- A test has returned; if it is passed there are at most 300. -/
def RetFewT (e : Ending) (n : Nat) : Prop := ∃ b : Bool, e = .returned (.bool b) ∧ (b = true → n ≤ 300)
set_option maxHeartbeats 3200000 in
set_option maxRecDepth 100000 in
theorem few19_any (A : Option Addr) (n c : Nat) (l : List Oe) (w : World) (hn : Hid (n = l.length)) (hm : n ≤ 9223372036854775807) (hr : Hid (RdK w 3 A (l.map eE))) : Calls Try.prog 8 #[.slice A n c] w fun e w' => RetFewT e n ∧ Below w.heap.size w w' := by
  by_cases h1 : n ≤ 300
  case neg =>
    have hni : (300 : Int) < (n : Int) := by omega
    go_enter Try.func8, Try.ntmps8
    go_wp2_with fail
    go_ret
    exact ⟨⟨false, rfl, fun h => by cases h⟩, Below.refl _ _⟩
  have hni : ¬ (300 : Int) < (n : Int) := by omega
  have H1 := Lib.hid h1
  clear hm h1
  go_enter Try.func8, Try.ntmps8
  go_wp2_with fail
  clear hni
  go_loopw [9] (fun s9 wr => ∃ k : Nat, k ≤ n ∧ s9 = .int .i64 k ∧ wr = w) (fun s9 wr => n - (intOf s9).toNat)
  case atStart => exact ⟨0, Nat.zero_le _, rfl, rfl⟩
  case round =>
    obtain ⟨k, hk, rfl, hwr⟩ := hrel
    rw [hwr]
    clear hwr wr
    by_cases hlt : k < n
    · obtain ⟨x, hx⟩ : ∃ x, l[k]? = some x := ⟨l[k]'(by rw [← hn.out]; exact hlt), List.getElem?_eq_getElem _⟩
      obtain ⟨g, o, rfl, hr2⟩ := hr.out k (eE x) (by rw [List.getElem?_map, hx]; rfl)
      have c1 : w.cell? ⟨g, o + k * 3 + 2, none⟩ = some (.string x.2.2) := by simpa using hr2 2 _ rfl
      have hwk : wrap64 ((k : Int) + 1) = ((k + 1 : Nat) : Int) := by have := H1.out; unfold wrap64; omega
      clear hr2 hx
      by_cases hs : x.2.2.size ≤ 1000
      · have hsi : ¬ (1000 : Int) < (x.2.2.size : Int) := by omega
        clear hs
        go_wp2_with fail
        go_round
        case rel => exact ⟨k + 1, by omega, by go_num, trivial⟩
        case measure =>
          rw [hwk]
          show n - ((k + 1 : Nat) : Int).toNat < n - ((k : Nat) : Int).toNat
          rw [Int.toNat_natCast, Int.toNat_natCast]; omega
      · have hsi : (1000 : Int) < (x.2.2.size : Int) := by omega
        clear hs
        go_wp2_with fail
        go_ret
        exact ⟨⟨false, rfl, fun h => by cases h⟩, Below.refl _ _⟩
    · clear hk
      go_wp2_with fail
      go_ret
      exact ⟨⟨true, rfl, fun _ => H1.out⟩, Below.refl _ _⟩
end Go.Proofs.Ytbegbecmnhldkaa
