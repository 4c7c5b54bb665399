/- Layer 19: a wheel in memory; what it has, plainly; Del. No condition. -/
import Derived.Test.YtbegbecmnhldkaaTw0
namespace Go.Proofs.Ytbegbecmnhldkaa
open Go.RowKit
set_option linter.unusedSimpArgs false
set_option linter.unusedVariables false

/-! ### Names with vectors, plainly -/
def getT (D : List NT) (s : ByteArray) : Option Int := (D.find? fun p => decide (p.1 = s)).map (·.2)
def delT (D : List NT) (s : ByteArray) : List NT := D.filter fun p => decide (p.1 ≠ s)
/-- The names of one bucket. -/
def inT (D : List NT) (i : Nat) : List NT := D.filter fun p => numT p.2 == i
theorem getL_T (L : List NT) (s : ByteArray) : getL (L.map eT) s = (getT L s).map fun t => Value.int .i64 t := by
  unfold getL getT
  induction L with
  | nil => rfl
  | cons p L ih =>
    rw [List.map_cons, List.find?_cons, List.find?_cons]
    by_cases h : p.1 = s
    · rw [decide_eq_true h]; rfl
    · rw [decide_eq_false h]; exact ih
theorem delL_T (L : List NT) (s : ByteArray) : delL (L.map eT) s = (delT L s).map eT := by
  unfold delL delT
  rw [List.filter_map]; rfl
theorem fst_eT (L : List NT) : (L.map eT).map Prod.fst = L.map Prod.fst := by rw [List.map_map]; rfl
theorem getT_none {D : List NT} {s : ByteArray} : getT D s = none ↔ ∀ p ∈ D, p.1 ≠ s := by
  unfold getT
  rw [Option.map_eq_none_iff, List.find?_eq_none]
  simp
theorem getT_mem {D : List NT} {s : ByteArray} {t : Int} (h : getT D s = some t) : (s, t) ∈ D := by
  unfold getT at h
  cases hf : D.find? fun p => decide (p.1 = s) with
  | none => rw [hf] at h; cases h
  | some q =>
    rw [hf] at h
    injection h with h
    have h1 : q.1 = s := by simpa using List.find?_some hf
    have h2 := List.mem_of_find?_eq_some hf
    rw [← h1, ← h]; exact h2
theorem nt_one {D : List NT} (hn : (D.map Prod.fst).Nodup) {p q : NT} (hp : p ∈ D) (hq : q ∈ D) (h : p.1 = q.1) : p = q := by
  obtain ⟨i, hi, e1⟩ := List.getElem_of_mem hp
  obtain ⟨j, hj, e2⟩ := List.getElem_of_mem hq
  have : i = j := (List.getElem_inj (h₀ := by simpa using hi) (h₁ := by simpa using hj) hn).1 (by simp [e1, e2, h])
  subst this
  rw [← e1, ← e2]
theorem getT_some {D : List NT} (hn : (D.map Prod.fst).Nodup) {p : NT} (hp : p ∈ D) : getT D p.1 = some p.2 := by
  cases h : getT D p.1 with
  | none => exact absurd rfl (getT_none.1 h p hp)
  | some t =>
    have h1 := getT_mem h
    have h2 := nt_one hn h1 hp rfl
    rw [← h2]
theorem delT_none {D : List NT} {s : ByteArray} (h : ∀ p ∈ D, p.1 ≠ s) : delT D s = D := List.filter_eq_self.2 fun p hp => decide_eq_true (h p hp)
theorem delT_mem {D : List NT} {s : ByteArray} {p : NT} : p ∈ delT D s ↔ p ∈ D ∧ p.1 ≠ s := by simp [delT]
theorem delT_nodup {D : List NT} {s : ByteArray} (h : (D.map Prod.fst).Nodup) : ((delT D s).map Prod.fst).Nodup := (List.filter_sublist.map _).nodup h
theorem delT_inT (D : List NT) (s : ByteArray) (i : Nat) : inT (delT D s) i = delT (inT D i) s := by
  unfold inT delT
  rw [List.filter_filter, List.filter_filter]
  exact List.filter_congr fun p _ => Bool.and_comm _ _
theorem inT_mem {D : List NT} {i : Nat} {p : NT} : p ∈ inT D i ↔ p ∈ D ∧ numT p.2 = i := by simp [inT]
theorem perm_delT {D E : List NT} (h : D.Perm E) (s : ByteArray) : (delT D s).Perm (delT E s) := h.filter _
theorem getT_perm {D E : List NT} (hn : (D.map Prod.fst).Nodup) (h : D.Perm E) (s : ByteArray) : getT D s = getT E s := by
  have hn2 : (E.map Prod.fst).Nodup := (h.map _).nodup_iff.1 hn
  cases hg : getT E s with
  | none =>
    rw [getT_none] at hg ⊢
    exact fun p hp => hg p (h.mem_iff.1 hp)
  | some t => exact getT_some hn (h.mem_iff.2 (getT_mem hg))

/-- The blocks of an index. -/
def WxB (g : Nat) (M : Nat → Value) (k : Nat) : Prop := k = g ∨ ∃ i, i < 16 ∧ mapBlock (M i) = some k
/-- An index at g with these names: M are its maps. -/
structure Wx (w : World) (b g : Nat) (M : Nat → Value) (D : List NT) : Prop where
  bk : Bk w g 35 (cT M)
  maps : ∀ i, i < 16 → ∃ L : List NT, MapV w (M i) (L.map eT) ∧ L.Perm (inT D i)
  apart : ∀ i j, i < 16 → j < 16 → i ≠ j → ∀ k, mapBlock (M i) = some k → mapBlock (M j) ≠ some k
  low : ∀ k, WxB g M k → b ≤ k
  nodup : (D.map Prod.fst).Nodup
theorem MapV.grpT {w w' : World} {m : Value} {L : Ents} {p : Nat → Prop} (h : MapV w m L) (hg : GrP p w w') (hn : ∀ k, mapBlock m = some k → ¬ p k) : MapV w' m L := by
  rcases h with h | ⟨b, rfl, h⟩
  · exact .inl h
  · exact .inr ⟨b, rfl, h.same (hg.block b h.lt (hn b rfl))⟩
section
variable {w w' : World} {b b' g : Nat} {M : Nat → Value} {D E : List NT}
theorem Wx.later (H : Wx w b g M D) (hb : Below w.heap.size w w') : Wx w' b g M D :=
  ⟨H.bk.later hb, fun i hi => (H.maps i hi).imp fun L h => ⟨h.1.later hb, h.2⟩, H.apart, H.low, H.nodup⟩
theorem Wx.grp {p : Nat → Prop} (H : Wx w b g M D) (hg : GrP p w w') (hn : ∀ k, WxB g M k → ¬ p k) : Wx w' b g M D :=
  ⟨H.bk.grp hg (hn g (.inl rfl)), fun i hi => (H.maps i hi).imp fun L h => ⟨h.1.grpT hg fun k hk => hn k (.inr ⟨i, hi, hk⟩), h.2⟩, H.apart, H.low, H.nodup⟩
theorem Wx.base (H : Wx w b g M D) (hb : b' ≤ b) : Wx w b' g M D := ⟨H.bk, H.maps, H.apart, fun k hk => Nat.le_trans hb (H.low k hk), H.nodup⟩
theorem Wx.perm (H : Wx w b g M D) (h : D.Perm E) : Wx w b g M E :=
  ⟨H.bk, fun i hi => (H.maps i hi).imp fun L hL => ⟨hL.1, hL.2.trans (h.filter _)⟩, H.apart, H.low, (h.map _).nodup_iff.1 H.nodup⟩
theorem Wx.blk (H : Wx w b g M D) {k : Nat} (hk : WxB g M k) : b ≤ k ∧ k < w.heap.size := by
  refine ⟨H.low k hk, ?_⟩
  rcases hk with rfl | ⟨i, hi, hm⟩
  · exact H.bk.here
  · obtain ⟨L, h, _⟩ := H.maps i hi
    exact h.lt hm
theorem Wx.cell (H : Wx w b g M D) {i : Nat} (hi : i < 16) : w.cell? ⟨g, i, none⟩ = some (M i) := (H.bk.cellAt i).trans (cT_get M hi)
/-- A bucket's map has become another one. -/
theorem Wx.turn (H : Wx w b g M D) {i : Nat} (hi : i < 16) {L : List NT} (hg : w.grownBy w' (mapBlock (M i))) (hm : MapV w' (M i) (L.map eT)) (hL : L.Perm (inT E i)) (hE : ∀ j, j ≠ i → inT E j = inT D j) (hnd : (E.map Prod.fst).Nodup) :
    Wx w' b g M E ∧ GrP (WxB g M) w w' := by
  have hgr : GrP (fun k => mapBlock (M i) = some k) w w' := GrP.of hg
  refine ⟨⟨H.bk.grp hgr fun h => ?_, fun j hj => ?_, H.apart, H.low, hnd⟩, hgr.wide fun k _ hk => .inr ⟨i, hi, hk⟩⟩
  · obtain ⟨L0, h0, _⟩ := H.maps i hi
    rcases h0 with ⟨h1, _⟩ | ⟨q, h1, h2⟩
    · rw [h1] at h; cases h
    · rw [h1] at h
      injection h with h
      subst h
      obtain ⟨es, clock, h3⟩ := h2.here
      have := H.bk.symm.trans h3
      cases this
  · by_cases hij : j = i
    · subst hij; exact ⟨L, hm, hL⟩
    · obtain ⟨L0, h0, h1⟩ := H.maps j hj
      exact ⟨L0, h0.grpT hgr fun k hk hk2 => H.apart i j hi hj (fun e => hij e.symm) k hk2 hk, by rw [hE j hij]; exact h1⟩
end
theorem zeroT (w : World) : (zeroValue 3).run Try.prog w = .ok (.int .i64 0) w := by kernel_rfl

set_option maxHeartbeats 3200000 in
set_option maxRecDepth 100000 in
/-- A name is struck. -/
theorem delT_any (b g : Nat) (M : Nat → Value) (D : List NT) (s : ByteArray) (w : World) (hH : Hid (Wx w b g M D)) : Calls Try.prog 12 #[.pointer (some ⟨g, 0, none⟩), .string s] w fun e w' => e = .returned (.bool (getT D s).isSome) ∧ Wx w' b g M (delT D s) ∧ GrP (WxB g M) w w' := by
  obtain ⟨R, hR⟩ : ∃ R, R = (getT D s).isSome := ⟨_, rfl⟩
  rw [← hR]
  have HR := Lib.hid hR
  clear hR
  have KF : Hid (∀ w, Calls Try.prog 21 #[.pointer (some ⟨g, 0, none⟩)] w fun e w' => e = .returned (.slice (some ⟨g, 0, none⟩) 16 16) ∧ w' = w) := fun w => allT_any g w
  go_enter Try.func12, Try.ntmps12
  go_wp2_with fail
  refine (KF.out _).mono ?_
  rintro e w' ⟨rfl, hw'⟩
  rw [hw']
  clear hw' w' KF
  go_wp2_with fail
  go_loopw [12] (fun s12 wr => ∃ k : Nat, k ≤ 16 ∧ s12 = .int .i64 k ∧ Hid (∀ p ∈ D, numT p.2 < k → p.1 ≠ s) ∧ Hid (Below w.heap.size w wr)) (fun s12 wr => 16 - (intOf s12).toNat)
  case atStart => exact ⟨0, Nat.zero_le _, rfl, (fun p _ h => absurd h (Nat.not_lt_zero _)), Below.refl _ _⟩
  case round =>
    obtain ⟨k, hk, rfl, HN, HB⟩ := hrel
    by_cases hlt : k < 16
    · have H1 := Lib.hid (hH.out.later HB.out)
      obtain ⟨L, hm, hL⟩ := H1.out.maps k hlt
      obtain ⟨o, ho⟩ := hm.val
      have hc : wr.cell? ⟨g, k, none⟩ = some (.map o) := by rw [H1.out.cell hlt, ho]
      have HM : Hid (MapV wr (.map o) (L.map eT)) := by rw [← ho]; exact hm
      have HO := Lib.hid ho
      have HL := Lib.hid hL
      clear hm hL ho
      have hw1 : wrap64 ((k : Int) + 1) = ((k + 1 : Nat) : Int) := by unfold wrap64; omega
      cases hq : getT L s with
      | none =>
        have h1 : Hid ((getL (L.map eT) s).getD (.int .i64 0) = .int .i64 0) := by show _ = _; rw [getL_T, hq]; rfl
        have h2 : Hid ((getL (L.map eT) s).isSome = false) := by show _ = _; rw [getL_T, hq]; rfl
        go_wp2_with (with_reducible refine look_l rfl _ _ 32 rfl 9 3 Try.underlying32 Try.underlying9 (.int .i64 0) (zeroT _) (.map o) rfl HM.out s rfl _ h1.out _ h2.out ?_)
        have HN2 : Hid (∀ p ∈ D, numT p.2 < k + 1 → p.1 ≠ s) := fun p hp hlt2 => by
          by_cases hpk : numT p.2 < k
          · exact HN.out p hp hpk
          · exact getT_none.1 hq p (HL.out.mem_iff.2 (inT_mem.2 ⟨hp, by omega⟩))
        have HB2 := HB
        go_round
        case rel => exact ⟨k + 1, by omega, by go_num, HN2, HB2⟩
        case measure => simp [intOf]; omega
      | some t =>
        have h1 : Hid ((getL (L.map eT) s).getD (.int .i64 0) = .int .i64 t) := by show _ = _; rw [getL_T, hq]; rfl
        have h2 : Hid ((getL (L.map eT) s).isSome = true) := by show _ = _; rw [getL_T, hq]; rfl
        have hmem := getT_mem hq
        obtain ⟨hD, hk2⟩ := inT_mem.1 (HL.out.mem_iff.1 hmem)
        have hR : R = true := by
          rw [HR.out, getT_some (p := (s, t)) hH.out.nodup hD]; rfl
        subst hR
        have HD := Lib.hid hD
        have HK : Hid (numT t = k) := hk2
        have HM2 := HM
        have HI2 := H1
        have HB2 := HB
        clear hq hmem hD hk2
        go_wp2_with (first | (with_reducible refine look_l rfl _ _ 32 rfl 9 3 Try.underlying32 Try.underlying9 (.int .i64 0) (zeroT _) (.map o) rfl HM.out s rfl _ h1.out _ h2.out ?_) | ((with_reducible refine delete_l rfl _ _ 32 9 rfl 3 Try.underlying32 Try.underlying9 (.map o) rfl HM2.out s rfl ?_); intro w4 hm4 hg4 hs4; have HM4 := Lib.hid hm4; have HG4 := Lib.hid hg4; clear hm4 hg4 hs4))
        go_ret
        refine ⟨rfl, ?_⟩
        have hm4 := HM4.out
        rw [delL_T, ← HO.out] at hm4
        have hg4 := HG4.out
        rw [← HO.out] at hg4
        have := HI2.out.turn hlt hg4 hm4 (by rw [delT_inT]; exact perm_delT HL.out s) (fun j hj => by
          rw [delT_inT]
          refine delT_none fun p hp e => ?_
          have hp2 := inT_mem.1 hp
          have := nt_one HI2.out.nodup hp2.1 HD.out e
          rw [this] at hp2
          exact hj (by rw [← hp2.2]; exact HK.out)) (delT_nodup HI2.out.nodup)
        exact ⟨this.1, (GrP.ofBelow HB2.out).trans this.2⟩
    · have hk64 : k = 16 := by omega
      subst hk64
      have hall : ∀ p ∈ D, p.1 ≠ s := fun p hp => HN.out p hp (numT_lt p.2)
      have hR : R = false := by rw [HR.out, getT_none.2 hall]; rfl
      subst hR
      go_wp2_with fail
      go_ret
      exact ⟨rfl, by rw [delT_none hall]; exact hH.out.later HB.out, GrP.ofBelow HB.out⟩
end Go.Proofs.Ytbegbecmnhldkaa
