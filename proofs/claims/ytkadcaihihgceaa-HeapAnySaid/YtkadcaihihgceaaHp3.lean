/- Heap.rise, Heap.sink: an entry goes up, goes down. Condition: at most 1000 entries. -/
import Derived.Test.YtkadcaihihgceaaHp2
namespace Go.Proofs.Ytkadcaihihgceaa
open Go.RowKit
set_option linter.unusedSimpArgs false
set_option linter.unusedVariables false
/-- f is the first one among k and those of the next d places below it. -/
structure FsI {α : Type} (le : α → α → Prop) (l : List α) (k d f : Nat) : Prop where
  pl : f = k ∨ (2 * k + 1 ≤ f ∧ f < 2 * k + 1 + d ∧ f < l.length)
  le : ∀ (hf : f < l.length) j (hj : j < l.length), j = k ∨ (2 * k + 1 ≤ j ∧ j < 2 * k + 1 + d) → le l[f] l[j]
section
variable {α : Type} {lt : α → α → Bool} {l : List (α × Int)} {k d f u : Nat}
theorem FsI.start (hW : WkO lt) : FsI (leO lt) l k 0 k := ⟨.inl rfl, fun hf j hj h => by
  rcases h with rfl | h
  · exact (leO_tot hW _ _).elim id id
  · omega⟩
theorem FsI.yes (hW : WkO lt) (h : FsI (leO lt) l k d f) (hu : u = 2 * k + 1 + d) (ha : ahAt lt l u f = true) : FsI (leO lt) l k (d + 1) u := by
  unfold ahAt at ha
  cases e1 : l[u]? with
  | none => rw [e1] at ha; simp at ha
  | some x =>
    cases e2 : l[f]? with
    | none => rw [e1, e2] at ha; simp at ha
    | some y =>
      rw [e1, e2] at ha
      obtain ⟨h1, rfl⟩ := List.getElem?_eq_some_iff.1 e1
      obtain ⟨h2, rfl⟩ := List.getElem?_eq_some_iff.1 e2
      have h3 : leO lt l[u] l[f] := (leO_tot hW _ _).resolve_right fun h4 => by cases (ha.symm.trans h4 : true = false)
      refine ⟨.inr ⟨by omega, by omega, h1⟩, fun _ j hj h5 => ?_⟩
      by_cases e : j = u
      · subst e; exact (leO_tot hW _ _).elim id id
      · exact leO_tra hW _ _ _ h3 (h.le h2 j hj (h5.imp id fun h6 => ⟨h6.1, by omega⟩))
theorem FsI.no (hW : WkO lt) (h : FsI (leO lt) l k d f) (hu : u = 2 * k + 1 + d) (ha : ahAt lt l u f = false) : FsI (leO lt) l k (d + 1) f := by
  refine ⟨h.pl.imp id fun h1 => ⟨h1.1, by omega, h1.2.2⟩, fun hf j hj h5 => ?_⟩
  by_cases e : j = u
  · subst e
    rw [ahAt_some hj hf] at ha
    exact ha
  · refine h.le hf j hj (h5.imp id fun h6 => ⟨h6.1, by omega⟩)
theorem FsI.same {K : Nat} (hW : WkO lt) (h : FsI (leO lt) l k 2 k) (hI : SkI (leO lt) K k l) : HpF (leO lt) K l :=
  hI.done (leO_tot hW) (leO_tra hW) fun j hj h0 hjk => h.le (by omega) j hj (.inr ⟨by omega, by omega⟩)
theorem FsI.more {K : Nat} (hW : WkO lt) (h : FsI (leO lt) l k 2 f) (hf : f ≠ k) (hI : SkI (leO lt) K k l) (hK : K ≤ k) (h1 : k < l.length) (h2 : f < l.length) : SkI (leO lt) K f (swp l k f h1 h2) := by
  obtain ⟨h3, h4, _⟩ := h.pl.resolve_left hf
  exact hI.step (leO_tot hW) (leO_tra hW) h2 (by omega) (by omega) hK (h.le h2 k h1 (.inl rfl)) fun j hj h0 hjk => h.le h2 j hj (.inr ⟨by omega, by omega⟩)
end
/-- A heap at h that holds what l holds; nothing but its row has turned since w. -/
def HwP (w wr : World) (b h : Nat) (F : Value) (A : Option Addr) (n c : Nat) (m : Int) (l l' : List (Px × Int)) : Prop :=
  HpP wr b h F (.slice A n c) m l' ∧ l'.Perm l ∧ GrP (fun q => (Value.slice A n c).ownBlock = some q) w wr
theorem HwP.below {w wr w' : World} {b h n c : Nat} {F : Value} {A : Option Addr} {m : Int} {l l' : List (Px × Int)} (H : HwP w wr b h F A n c m l l') (hb : Below wr.heap.size wr w') : HwP w w' b h F A n c m l l' :=
  ⟨H.1.below hb, H.2.1, H.2.2.trans (GrP.ofBelow hb)⟩
theorem HwP.len {w wr : World} {b h n c : Nat} {F : Value} {A : Option Addr} {m : Int} {l l' : List (Px × Int)} (H : HwP w wr b h F A n c m l l') : n = l'.length := H.1.len
set_option maxHeartbeats 3200000 in
set_option maxRecDepth 100000 in
theorem riseP_any (b h : Nat) (F : Value) (A : Option Addr) (n c : Nat) (m : Int) (l : List (Px × Int)) (lt : Px → Px → Bool) (i : Nat) (w : World) (hbig : n ≤ 1000) (hi : i < n) (hO : Hid (IsOP F lt)) (hW : Hid (WkO lt)) (hH : Hid (HpP w b h F (.slice A n c) m l)) (hI : Hid (RsI (leO lt) i l)) :
    Calls Try.prog 29 #[.pointer (some ⟨h, 0, none⟩), .int .i64 i] w fun e w' => e = .returned (.tuple #[]) ∧ ∃ l', HwP w w' b h F A n c m l l' ∧ HpF (leO lt) 0 l' := by
  have K1 := Lib.hid (fun (W : World) (l : List (Px × Int)) (i k : Nat) (H : HpP W b h F (.slice A n c) m l) => aheadP_any b h F A n c m l lt i k W hO (Lib.hid H))
  have K2 := Lib.hid (fun (W : World) (l : List (Px × Int)) (i k : Nat) (hi : i < n) (hk : k < n) (h1 : i < l.length) (h2 : k < l.length) (H : HpP W b h F (.slice A n c) m l) => swapP_any b h F A n c m l i k W hi hk h1 h2 (Lib.hid H))
  have hH0 : Hid (HwP w w b h F A n c m l l) := ⟨hH.out, List.Perm.refl _, GrP.refl _ _⟩
  clear hH
  go_enter Try.func29, Try.ntmps29
  go_wp2_with fail
  go_loopw [1] (fun i wr => ∃ (k : Nat) (l' : List (Px × Int)), k < n ∧ i = .int .i64 k ∧ Hid (HwP w wr b h F A n c m l l') ∧ Hid (RsI (leO lt) k l')) (fun i wr => (intOf i).toNat)
  case atStart => exact ⟨i, l, hi, rfl, hH0, hI⟩
  case round =>
    clear hH0 hI hi
    obtain ⟨k, l', hk, rfl, HH, HI⟩ := hrel
    have hkl : Hid (k < l'.length) := by show k < l'.length; have := HH.out.len; omega
    by_cases h0 : 0 < k
    · obtain ⟨p, hp⟩ : ∃ p, p = (k - 1) / 2 := ⟨_, rfl⟩
      have hpk : p < k := by omega
      have hpl : Hid (p < l'.length) := by show p < l'.length; have := hkl.out; omega
      have hq : Int.tdiv ((k : Int) - 1) 2 = (p : Int) := by rw [Int.tdiv_eq_ediv_of_nonneg (by omega)]; omega
      have hw1 : wrap64 ((k : Int) - 1) = (k : Int) - 1 := by unfold wrap64; omega
      have hw2 : wrap64 (p : Int) = (p : Int) := by unfold wrap64; omega
      have hk0 : (0 : Int) < (k : Int) := by omega
      have hx := ahAt_some (lt := lt) hkl.out hpl.out
      have HA := K1.out wr l' k p HH.out.1
      have HX := Lib.hid hx; have HP := Lib.hid hp
      clear hx hp
      cases hb : ahAt lt l' k p with
      | false =>
        rw [hb] at HA
        have hb' := Lib.hid hb; clear hb
        go_wp2_with fail
        refine HA.mono ?_; rintro e w1 ⟨rfl, hb1⟩
        go_wp2_with fail
        first | go_end0 | refine bodyPost_ret (results_none rfl _ _ _) rfl ?_
        refine ⟨rfl, l', HH.out.below hb1, HI.out.doneP (leO_tot hW.out) (leO_tra hW.out) hkl.out HP.out hpl.out ?_⟩
        have := HX.out; rw [hb'.out] at this; exact this.symm
      | true =>
        rw [hb] at HA
        have hb' := Lib.hid hb; clear hb
        go_wp2_with fail
        refine HA.mono ?_; rintro e w1 ⟨rfl, hb1⟩
        have H1 := Lib.hid (HH.out.below hb1)
        clear hb1 HH
        go_wp2_with fail
        refine (K2.out w1 l' k p hk (by omega) hkl.out hpl.out H1.out.1).mono ?_; rintro e w2 ⟨rfl, hS2, hg2, _⟩
        have H2 : Hid (HwP w w2 b h F A n c m l (swp l' k p hkl.out hpl.out)) := ⟨hS2, (swp_perm _ _ _ _ _).trans H1.out.2.1, H1.out.2.2.trans hg2⟩
        clear hS2 hg2
        go_wp2_with fail
        go_round
        case rel =>
          refine ⟨p, _, by omega, rfl, H2, HI.out.stepP (leO_tot hW.out) (leO_tra hW.out) hkl.out h0 HP.out hpl.out ?_⟩
          have := HX.out; rw [hb'.out] at this
          refine (leO_tot hW.out _ _).resolve_right fun h1 => ?_
          cases (this.trans h1 : true = false)
        case measure => simp [intOf]; omega
    · go_wp2_with fail
      first | go_end0 | refine bodyPost_ret (results_none rfl _ _ _) rfl ?_
      exact ⟨rfl, l', HH.out, HI.out.done (leO_tot hW.out) (leO_tra hW.out) hkl.out fun h1 => absurd h1 h0⟩
set_option maxHeartbeats 3200000 in
set_option maxRecDepth 100000 in
theorem sinkP_any (b h : Nat) (F : Value) (A : Option Addr) (n c : Nat) (m : Int) (l : List (Px × Int)) (lt : Px → Px → Bool) (K i : Nat) (w : World) (hbig : n ≤ 1000) (hi : i ≤ 1000) (hKi : K ≤ i) (hO : Hid (IsOP F lt)) (hW : Hid (WkO lt)) (hH : Hid (HpP w b h F (.slice A n c) m l)) (hI : Hid (SkI (leO lt) K i l)) :
    Calls Try.prog 31 #[.pointer (some ⟨h, 0, none⟩), .int .i64 i] w fun e w' => e = .returned (.tuple #[]) ∧ ∃ l', HwP w w' b h F A n c m l l' ∧ HpF (leO lt) K l' := by
  have K1 := Lib.hid (fun (W : World) (l : List (Px × Int)) (i k : Nat) (H : HpP W b h F (.slice A n c) m l) => aheadP_any b h F A n c m l lt i k W hO (Lib.hid H))
  have K2 := Lib.hid (fun (W : World) (l : List (Px × Int)) (i k : Nat) (hi : i < n) (hk : k < n) (h1 : i < l.length) (h2 : k < l.length) (H : HpP W b h F (.slice A n c) m l) => swapP_any b h F A n c m l i k W hi hk h1 h2 (Lib.hid H))
  have hH0 : Hid (HwP w w b h F A n c m l l) := ⟨hH.out, List.Perm.refl _, GrP.refl _ _⟩
  clear hH
  go_enter Try.func31, Try.ntmps31
  go_wp2_with fail
  go_loopw [1] (fun i wr => ∃ (k : Nat) (l' : List (Px × Int)), k ≤ 1000 ∧ i = .int .i64 k ∧ Hid (K ≤ k) ∧ Hid (HwP w wr b h F A n c m l l') ∧ Hid (SkI (leO lt) K k l')) (fun i wr => 1001 - (intOf i).toNat)
  case atStart => exact ⟨i, l, hi, rfl, hKi, hH0, hI⟩
  case round =>
    clear hH0 hI hi
    obtain ⟨k, l', hk, rfl, HK, HH, HI⟩ := hrel
    have hw1 : wrap64 (2 * (k : Int)) = 2 * (k : Int) := by unfold wrap64; omega
    have hw2 : wrap64 (2 * (k : Int) + 1) = 2 * (k : Int) + 1 := by unfold wrap64; omega
    have hw3 : wrap64 (2 * (k : Int) + 2) = 2 * (k : Int) + 2 := by unfold wrap64; omega
    go_wp2_with fail
    go_loopw [4, 5] (fun fi bl wx => ∃ (d f u : Nat), d ≤ 2 ∧ fi = .int .i64 f ∧ bl = .int .i64 u ∧ u = 2 * k + 1 + d ∧ Hid (FsI (leO lt) l' k d f) ∧ Hid (HwP w wx b h F A n c m l l')) (fun fi bl wx => 2 * k + 3 - (intOf bl).toNat)
    case atStart => exact ⟨0, k, 2 * k + 1, by omega, rfl, by go_num, rfl, FsI.start hW.out, HH⟩
    case round =>
      clear HH
      obtain ⟨d, f, u, hd, rfl, rfl, hu, HF, HH⟩ := hrel
      by_cases hd2 : d < 2
      · have hle : (u : Int) ≤ 2 * (k : Int) + 2 := by omega
        have HU := Lib.hid hu
        have hwu : wrap64 ((u : Int) + 1) = ((u + 1 : Nat) : Int) := by unfold wrap64; omega
        have HA := K1.out _ l' u f HH.out.1
        clear hu
        cases hb : ahAt lt l' u f with
        | false =>
          rw [hb] at HA
          have hb' := Lib.hid hb; clear hb
          go_wp2_with fail
          refine HA.mono ?_; rintro e w1 ⟨rfl, hb1⟩
          have H1 := Lib.hid (HH.out.below hb1)
          clear hb1 HH HA
          go_wp2_with fail
          go_round
          case rel => exact ⟨d + 1, f, u + 1, by omega, rfl, by go_num, by have := HU.out; omega, HF.out.no hW.out HU.out hb'.out, H1⟩
          case measure => have := HU.out; simp [intOf]; omega
        | true =>
          rw [hb] at HA
          have hb' := Lib.hid hb; clear hb
          go_wp2_with fail
          refine HA.mono ?_; rintro e w1 ⟨rfl, hb1⟩
          have H1 := Lib.hid (HH.out.below hb1)
          clear hb1 HH HA
          go_wp2_with fail
          go_round
          case rel => exact ⟨d + 1, u, u + 1, by omega, rfl, by go_num, by have := HU.out; omega, HF.out.yes hW.out HU.out hb'.out, H1⟩
          case measure => have := HU.out; simp [intOf]; omega
      · have hle : ¬ (u : Int) ≤ 2 * (k : Int) + 2 := by omega
        have hd3 : d = 2 := by omega
        subst hd3
        have HU := Lib.hid hu
        clear hd hd2 hu
        by_cases hfk : f = k
        · subst hfk
          go_wp2_with fail
          first | go_end0 | refine bodyPost_ret (results_none rfl _ _ _) rfl ?_
          exact ⟨rfl, l', HH.out, HF.out.same hW.out HI.out⟩
        · have hne : ((f : Int) == (k : Int)) = false := by simp; omega
          have hfl : Hid (f < l'.length) := by
            show f < l'.length
            exact (HF.out.pl.resolve_left hfk).2.2
          have hfk2 : k < f := by have := HF.out.pl.resolve_left hfk; omega
          have hfn : f < n := by have h1 := hfl.out; have h2 := HH.out.len; omega
          have hkl : Hid (k < l'.length) := by show k < l'.length; have := hfl.out; omega
          have HFK := Lib.hid hfk
          clear hfk
          go_wp2_with fail
          refine (K2.out _ l' k f (by omega) hfn hkl.out hfl.out HH.out.1).mono ?_; rintro e w2 ⟨rfl, hS2, hg2, _⟩
          have H2 : Hid (HwP w w2 b h F A n c m l (swp l' k f hkl.out hfl.out)) := ⟨hS2, (swp_perm _ _ _ _ _).trans HH.out.2.1, HH.out.2.2.trans hg2⟩
          clear hS2 hg2
          go_wp2_with fail
          go_round
          case rel => exact ⟨f, _, by omega, rfl, (show K ≤ f by have := HK.out; omega), H2, HF.out.more hW.out HFK.out HI.out HK.out hkl.out hfl.out⟩
          case measure => simp [intOf]; omega
/-- A heap at h that holds what l holds; nothing but its row has turned since w. -/
def HwS (w wr : World) (b h : Nat) (F : Value) (A : Option Addr) (n c : Nat) (m : Int) (l l' : List (ByteArray × Int)) : Prop :=
  HpS wr b h F (.slice A n c) m l' ∧ l'.Perm l ∧ GrP (fun q => (Value.slice A n c).ownBlock = some q) w wr
theorem HwS.below {w wr w' : World} {b h n c : Nat} {F : Value} {A : Option Addr} {m : Int} {l l' : List (ByteArray × Int)} (H : HwS w wr b h F A n c m l l') (hb : Below wr.heap.size wr w') : HwS w w' b h F A n c m l l' :=
  ⟨H.1.below hb, H.2.1, H.2.2.trans (GrP.ofBelow hb)⟩
theorem HwS.len {w wr : World} {b h n c : Nat} {F : Value} {A : Option Addr} {m : Int} {l l' : List (ByteArray × Int)} (H : HwS w wr b h F A n c m l l') : n = l'.length := H.1.len
set_option maxHeartbeats 3200000 in
set_option maxRecDepth 100000 in
theorem riseS_any (b h : Nat) (F : Value) (A : Option Addr) (n c : Nat) (m : Int) (l : List (ByteArray × Int)) (lt : ByteArray → ByteArray → Bool) (i : Nat) (w : World) (hbig : n ≤ 1000) (hi : i < n) (hO : Hid (IsOS F lt)) (hW : Hid (WkO lt)) (hH : Hid (HpS w b h F (.slice A n c) m l)) (hI : Hid (RsI (leO lt) i l)) :
    Calls Try.prog 37 #[.pointer (some ⟨h, 0, none⟩), .int .i64 i] w fun e w' => e = .returned (.tuple #[]) ∧ ∃ l', HwS w w' b h F A n c m l l' ∧ HpF (leO lt) 0 l' := by
  have K1 := Lib.hid (fun (W : World) (l : List (ByteArray × Int)) (i k : Nat) (H : HpS W b h F (.slice A n c) m l) => aheadS_any b h F A n c m l lt i k W hO (Lib.hid H))
  have K2 := Lib.hid (fun (W : World) (l : List (ByteArray × Int)) (i k : Nat) (hi : i < n) (hk : k < n) (h1 : i < l.length) (h2 : k < l.length) (H : HpS W b h F (.slice A n c) m l) => swapS_any b h F A n c m l i k W hi hk h1 h2 (Lib.hid H))
  have hH0 : Hid (HwS w w b h F A n c m l l) := ⟨hH.out, List.Perm.refl _, GrP.refl _ _⟩
  clear hH
  go_enter Try.func37, Try.ntmps37
  go_wp2_with fail
  go_loopw [1] (fun i wr => ∃ (k : Nat) (l' : List (ByteArray × Int)), k < n ∧ i = .int .i64 k ∧ Hid (HwS w wr b h F A n c m l l') ∧ Hid (RsI (leO lt) k l')) (fun i wr => (intOf i).toNat)
  case atStart => exact ⟨i, l, hi, rfl, hH0, hI⟩
  case round =>
    clear hH0 hI hi
    obtain ⟨k, l', hk, rfl, HH, HI⟩ := hrel
    have hkl : Hid (k < l'.length) := by show k < l'.length; have := HH.out.len; omega
    by_cases h0 : 0 < k
    · obtain ⟨p, hp⟩ : ∃ p, p = (k - 1) / 2 := ⟨_, rfl⟩
      have hpk : p < k := by omega
      have hpl : Hid (p < l'.length) := by show p < l'.length; have := hkl.out; omega
      have hq : Int.tdiv ((k : Int) - 1) 2 = (p : Int) := by rw [Int.tdiv_eq_ediv_of_nonneg (by omega)]; omega
      have hw1 : wrap64 ((k : Int) - 1) = (k : Int) - 1 := by unfold wrap64; omega
      have hw2 : wrap64 (p : Int) = (p : Int) := by unfold wrap64; omega
      have hk0 : (0 : Int) < (k : Int) := by omega
      have hx := ahAt_some (lt := lt) hkl.out hpl.out
      have HA := K1.out wr l' k p HH.out.1
      have HX := Lib.hid hx; have HP := Lib.hid hp
      clear hx hp
      cases hb : ahAt lt l' k p with
      | false =>
        rw [hb] at HA
        have hb' := Lib.hid hb; clear hb
        go_wp2_with fail
        refine HA.mono ?_; rintro e w1 ⟨rfl, hb1⟩
        go_wp2_with fail
        first | go_end0 | refine bodyPost_ret (results_none rfl _ _ _) rfl ?_
        refine ⟨rfl, l', HH.out.below hb1, HI.out.doneP (leO_tot hW.out) (leO_tra hW.out) hkl.out HP.out hpl.out ?_⟩
        have := HX.out; rw [hb'.out] at this; exact this.symm
      | true =>
        rw [hb] at HA
        have hb' := Lib.hid hb; clear hb
        go_wp2_with fail
        refine HA.mono ?_; rintro e w1 ⟨rfl, hb1⟩
        have H1 := Lib.hid (HH.out.below hb1)
        clear hb1 HH
        go_wp2_with fail
        refine (K2.out w1 l' k p hk (by omega) hkl.out hpl.out H1.out.1).mono ?_; rintro e w2 ⟨rfl, hS2, hg2, _⟩
        have H2 : Hid (HwS w w2 b h F A n c m l (swp l' k p hkl.out hpl.out)) := ⟨hS2, (swp_perm _ _ _ _ _).trans H1.out.2.1, H1.out.2.2.trans hg2⟩
        clear hS2 hg2
        go_wp2_with fail
        go_round
        case rel =>
          refine ⟨p, _, by omega, rfl, H2, HI.out.stepP (leO_tot hW.out) (leO_tra hW.out) hkl.out h0 HP.out hpl.out ?_⟩
          have := HX.out; rw [hb'.out] at this
          refine (leO_tot hW.out _ _).resolve_right fun h1 => ?_
          cases (this.trans h1 : true = false)
        case measure => simp [intOf]; omega
    · go_wp2_with fail
      first | go_end0 | refine bodyPost_ret (results_none rfl _ _ _) rfl ?_
      exact ⟨rfl, l', HH.out, HI.out.done (leO_tot hW.out) (leO_tra hW.out) hkl.out fun h1 => absurd h1 h0⟩
set_option maxHeartbeats 3200000 in
set_option maxRecDepth 100000 in
theorem sinkS_any (b h : Nat) (F : Value) (A : Option Addr) (n c : Nat) (m : Int) (l : List (ByteArray × Int)) (lt : ByteArray → ByteArray → Bool) (K i : Nat) (w : World) (hbig : n ≤ 1000) (hi : i ≤ 1000) (hKi : K ≤ i) (hO : Hid (IsOS F lt)) (hW : Hid (WkO lt)) (hH : Hid (HpS w b h F (.slice A n c) m l)) (hI : Hid (SkI (leO lt) K i l)) :
    Calls Try.prog 42 #[.pointer (some ⟨h, 0, none⟩), .int .i64 i] w fun e w' => e = .returned (.tuple #[]) ∧ ∃ l', HwS w w' b h F A n c m l l' ∧ HpF (leO lt) K l' := by
  have K1 := Lib.hid (fun (W : World) (l : List (ByteArray × Int)) (i k : Nat) (H : HpS W b h F (.slice A n c) m l) => aheadS_any b h F A n c m l lt i k W hO (Lib.hid H))
  have K2 := Lib.hid (fun (W : World) (l : List (ByteArray × Int)) (i k : Nat) (hi : i < n) (hk : k < n) (h1 : i < l.length) (h2 : k < l.length) (H : HpS W b h F (.slice A n c) m l) => swapS_any b h F A n c m l i k W hi hk h1 h2 (Lib.hid H))
  have hH0 : Hid (HwS w w b h F A n c m l l) := ⟨hH.out, List.Perm.refl _, GrP.refl _ _⟩
  clear hH
  go_enter Try.func42, Try.ntmps42
  go_wp2_with fail
  go_loopw [1] (fun i wr => ∃ (k : Nat) (l' : List (ByteArray × Int)), k ≤ 1000 ∧ i = .int .i64 k ∧ Hid (K ≤ k) ∧ Hid (HwS w wr b h F A n c m l l') ∧ Hid (SkI (leO lt) K k l')) (fun i wr => 1001 - (intOf i).toNat)
  case atStart => exact ⟨i, l, hi, rfl, hKi, hH0, hI⟩
  case round =>
    clear hH0 hI hi
    obtain ⟨k, l', hk, rfl, HK, HH, HI⟩ := hrel
    have hw1 : wrap64 (2 * (k : Int)) = 2 * (k : Int) := by unfold wrap64; omega
    have hw2 : wrap64 (2 * (k : Int) + 1) = 2 * (k : Int) + 1 := by unfold wrap64; omega
    have hw3 : wrap64 (2 * (k : Int) + 2) = 2 * (k : Int) + 2 := by unfold wrap64; omega
    go_wp2_with fail
    go_loopw [4, 5] (fun fi bl wx => ∃ (d f u : Nat), d ≤ 2 ∧ fi = .int .i64 f ∧ bl = .int .i64 u ∧ u = 2 * k + 1 + d ∧ Hid (FsI (leO lt) l' k d f) ∧ Hid (HwS w wx b h F A n c m l l')) (fun fi bl wx => 2 * k + 3 - (intOf bl).toNat)
    case atStart => exact ⟨0, k, 2 * k + 1, by omega, rfl, by go_num, rfl, FsI.start hW.out, HH⟩
    case round =>
      clear HH
      obtain ⟨d, f, u, hd, rfl, rfl, hu, HF, HH⟩ := hrel
      by_cases hd2 : d < 2
      · have hle : (u : Int) ≤ 2 * (k : Int) + 2 := by omega
        have HU := Lib.hid hu
        have hwu : wrap64 ((u : Int) + 1) = ((u + 1 : Nat) : Int) := by unfold wrap64; omega
        have HA := K1.out _ l' u f HH.out.1
        clear hu
        cases hb : ahAt lt l' u f with
        | false =>
          rw [hb] at HA
          have hb' := Lib.hid hb; clear hb
          go_wp2_with fail
          refine HA.mono ?_; rintro e w1 ⟨rfl, hb1⟩
          have H1 := Lib.hid (HH.out.below hb1)
          clear hb1 HH HA
          go_wp2_with fail
          go_round
          case rel => exact ⟨d + 1, f, u + 1, by omega, rfl, by go_num, by have := HU.out; omega, HF.out.no hW.out HU.out hb'.out, H1⟩
          case measure => have := HU.out; simp [intOf]; omega
        | true =>
          rw [hb] at HA
          have hb' := Lib.hid hb; clear hb
          go_wp2_with fail
          refine HA.mono ?_; rintro e w1 ⟨rfl, hb1⟩
          have H1 := Lib.hid (HH.out.below hb1)
          clear hb1 HH HA
          go_wp2_with fail
          go_round
          case rel => exact ⟨d + 1, u, u + 1, by omega, rfl, by go_num, by have := HU.out; omega, HF.out.yes hW.out HU.out hb'.out, H1⟩
          case measure => have := HU.out; simp [intOf]; omega
      · have hle : ¬ (u : Int) ≤ 2 * (k : Int) + 2 := by omega
        have hd3 : d = 2 := by omega
        subst hd3
        have HU := Lib.hid hu
        clear hd hd2 hu
        by_cases hfk : f = k
        · subst hfk
          go_wp2_with fail
          first | go_end0 | refine bodyPost_ret (results_none rfl _ _ _) rfl ?_
          exact ⟨rfl, l', HH.out, HF.out.same hW.out HI.out⟩
        · have hne : ((f : Int) == (k : Int)) = false := by simp; omega
          have hfl : Hid (f < l'.length) := by
            show f < l'.length
            exact (HF.out.pl.resolve_left hfk).2.2
          have hfk2 : k < f := by have := HF.out.pl.resolve_left hfk; omega
          have hfn : f < n := by have h1 := hfl.out; have h2 := HH.out.len; omega
          have hkl : Hid (k < l'.length) := by show k < l'.length; have := hfl.out; omega
          have HFK := Lib.hid hfk
          clear hfk
          go_wp2_with fail
          refine (K2.out _ l' k f (by omega) hfn hkl.out hfl.out HH.out.1).mono ?_; rintro e w2 ⟨rfl, hS2, hg2, _⟩
          have H2 : Hid (HwS w w2 b h F A n c m l (swp l' k f hkl.out hfl.out)) := ⟨hS2, (swp_perm _ _ _ _ _).trans HH.out.2.1, HH.out.2.2.trans hg2⟩
          clear hS2 hg2
          go_wp2_with fail
          go_round
          case rel => exact ⟨f, _, by omega, rfl, (show K ≤ f by have := HK.out; omega), H2, HF.out.more hW.out HFK.out HI.out HK.out hkl.out hfl.out⟩
          case measure => simp [intOf]; omega
end Go.Proofs.Ytkadcaihihgceaa
