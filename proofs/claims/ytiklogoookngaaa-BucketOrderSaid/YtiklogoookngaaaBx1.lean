/- Layer 17: an index in memory; what it has, plainly; Del. Condition: vectors' first numbers are ints. -/
import Derived.Test.YtiklogoookngaaaBx0
namespace Go.Proofs.Ytiklogoookngaaa
open Go.RowKit
set_option linter.unusedSimpArgs false
set_option linter.unusedVariables false

/-! ### Names with vectors, plainly -/
def getN (D : List NV) (s : ByteArray) : Option R3 := (D.find? fun p => decide (p.1 = s)).map (·.2)
def delN (D : List NV) (s : ByteArray) : List NV := D.filter fun p => decide (p.1 ≠ s)
/-- The names of one bucket. -/
def inB (D : List NV) (i : Nat) : List NV := D.filter fun p => num p.2 == i
theorem getL_N (L : List NV) (s : ByteArray) : getL (L.map eV) s = (getN L s).map vR := by
  unfold getL getN
  induction L with
  | nil => rfl
  | cons p L ih =>
    rw [List.map_cons, List.find?_cons, List.find?_cons]
    by_cases h : p.1 = s
    · rw [decide_eq_true h]; rfl
    · rw [decide_eq_false h]; exact ih
theorem delL_N (L : List NV) (s : ByteArray) : delL (L.map eV) s = (delN L s).map eV := by
  unfold delL delN
  rw [List.filter_map]; rfl
theorem fst_eV (L : List NV) : (L.map eV).map Prod.fst = L.map Prod.fst := by rw [List.map_map]; rfl
theorem getN_none {D : List NV} {s : ByteArray} : getN D s = none ↔ ∀ p ∈ D, p.1 ≠ s := by
  unfold getN
  rw [Option.map_eq_none_iff, List.find?_eq_none]
  simp
theorem getN_mem {D : List NV} {s : ByteArray} {t : R3} (h : getN D s = some t) : (s, t) ∈ D := by
  unfold getN at h
  cases hf : D.find? fun p => decide (p.1 = s) with
  | none => rw [hf] at h; cases h
  | some q =>
    rw [hf] at h
    injection h with h
    have h1 : q.1 = s := by simpa using List.find?_some hf
    have h2 := List.mem_of_find?_eq_some hf
    rw [← h1, ← h]; exact h2
theorem nv_one {D : List NV} (hn : (D.map Prod.fst).Nodup) {p q : NV} (hp : p ∈ D) (hq : q ∈ D) (h : p.1 = q.1) : p = q := by
  obtain ⟨i, hi, e1⟩ := List.getElem_of_mem hp
  obtain ⟨j, hj, e2⟩ := List.getElem_of_mem hq
  have : i = j := (List.getElem_inj (h₀ := by simpa using hi) (h₁ := by simpa using hj) hn).1 (by simp [e1, e2, h])
  subst this
  rw [← e1, ← e2]
theorem getN_some {D : List NV} (hn : (D.map Prod.fst).Nodup) {p : NV} (hp : p ∈ D) : getN D p.1 = some p.2 := by
  cases h : getN D p.1 with
  | none => exact absurd rfl (getN_none.1 h p hp)
  | some t =>
    have h1 := getN_mem h
    have h2 := nv_one hn h1 hp rfl
    rw [← h2]
theorem delN_none {D : List NV} {s : ByteArray} (h : ∀ p ∈ D, p.1 ≠ s) : delN D s = D := List.filter_eq_self.2 fun p hp => decide_eq_true (h p hp)
theorem delN_mem {D : List NV} {s : ByteArray} {p : NV} : p ∈ delN D s ↔ p ∈ D ∧ p.1 ≠ s := by simp [delN]
theorem delN_nodup {D : List NV} {s : ByteArray} (h : (D.map Prod.fst).Nodup) : ((delN D s).map Prod.fst).Nodup := (List.filter_sublist.map _).nodup h
theorem delN_inB (D : List NV) (s : ByteArray) (i : Nat) : inB (delN D s) i = delN (inB D i) s := by
  unfold inB delN
  rw [List.filter_filter, List.filter_filter]
  exact List.filter_congr fun p _ => Bool.and_comm _ _
theorem inB_mem {D : List NV} {i : Nat} {p : NV} : p ∈ inB D i ↔ p ∈ D ∧ num p.2 = i := by simp [inB]
theorem perm_delN {D E : List NV} (h : D.Perm E) (s : ByteArray) : (delN D s).Perm (delN E s) := h.filter _
theorem getN_perm {D E : List NV} (hn : (D.map Prod.fst).Nodup) (h : D.Perm E) (s : ByteArray) : getN D s = getN E s := by
  have hn2 : (E.map Prod.fst).Nodup := (h.map _).nodup_iff.1 hn
  cases hg : getN E s with
  | none =>
    rw [getN_none] at hg ⊢
    exact fun p hp => hg p (h.mem_iff.1 hp)
  | some t => exact getN_some hn (h.mem_iff.2 (getN_mem hg))

/-- The blocks of an index. -/
def IxB (g : Nat) (M : Nat → Value) (k : Nat) : Prop := k = g ∨ ∃ i, i < 64 ∧ mapBlock (M i) = some k
/-- An index at g with these names: M are its maps. -/
structure Ix (w : World) (b g : Nat) (M : Nat → Value) (D : List NV) : Prop where
  bk : Bk w g 35 (cM M)
  maps : ∀ i, i < 64 → ∃ L : List NV, MapV w (M i) (L.map eV) ∧ L.Perm (inB D i)
  apart : ∀ i j, i < 64 → j < 64 → i ≠ j → ∀ k, mapBlock (M i) = some k → mapBlock (M j) ≠ some k
  low : ∀ k, IxB g M k → b ≤ k
  ok : ∀ p ∈ D, okV p.2
  nodup : (D.map Prod.fst).Nodup
theorem MapV.grp {w w' : World} {m : Value} {L : Ents} {p : Nat → Prop} (h : MapV w m L) (hg : GrP p w w') (hn : ∀ k, mapBlock m = some k → ¬ p k) : MapV w' m L := by
  rcases h with h | ⟨b, rfl, h⟩
  · exact .inl h
  · exact .inr ⟨b, rfl, h.same (hg.block b h.lt (hn b rfl))⟩
section
variable {w w' : World} {b b' g : Nat} {M : Nat → Value} {D E : List NV}
theorem Ix.later (H : Ix w b g M D) (hb : Below w.heap.size w w') : Ix w' b g M D :=
  ⟨H.bk.later hb, fun i hi => (H.maps i hi).imp fun L h => ⟨h.1.later hb, h.2⟩, H.apart, H.low, H.ok, H.nodup⟩
theorem Ix.grp {p : Nat → Prop} (H : Ix w b g M D) (hg : GrP p w w') (hn : ∀ k, IxB g M k → ¬ p k) : Ix w' b g M D :=
  ⟨H.bk.grp hg (hn g (.inl rfl)), fun i hi => (H.maps i hi).imp fun L h => ⟨h.1.grp hg fun k hk => hn k (.inr ⟨i, hi, hk⟩), h.2⟩, H.apart, H.low, H.ok, H.nodup⟩
theorem Ix.base (H : Ix w b g M D) (hb : b' ≤ b) : Ix w b' g M D := ⟨H.bk, H.maps, H.apart, fun k hk => Nat.le_trans hb (H.low k hk), H.ok, H.nodup⟩
theorem Ix.perm (H : Ix w b g M D) (h : D.Perm E) : Ix w b g M E :=
  ⟨H.bk, fun i hi => (H.maps i hi).imp fun L hL => ⟨hL.1, hL.2.trans (h.filter _)⟩, H.apart, H.low, fun p hp => H.ok p (h.mem_iff.2 hp), (h.map _).nodup_iff.1 H.nodup⟩
theorem Ix.blk (H : Ix w b g M D) {k : Nat} (hk : IxB g M k) : b ≤ k ∧ k < w.heap.size := by
  refine ⟨H.low k hk, ?_⟩
  rcases hk with rfl | ⟨i, hi, hm⟩
  · exact H.bk.here
  · obtain ⟨L, h, _⟩ := H.maps i hi
    exact h.lt hm
theorem Ix.cell (H : Ix w b g M D) {i : Nat} (hi : i < 64) : w.cell? ⟨g, i, none⟩ = some (M i) := (H.bk.cellAt i).trans (cM_get M hi)
/-- A bucket's map has become another one. -/
theorem Ix.turn (H : Ix w b g M D) {i : Nat} (hi : i < 64) {L : List NV} (hg : w.grownBy w' (mapBlock (M i))) (hm : MapV w' (M i) (L.map eV)) (hL : L.Perm (inB E i)) (hE : ∀ j, j ≠ i → inB E j = inB D j) (hok : ∀ p ∈ E, okV p.2) (hnd : (E.map Prod.fst).Nodup) :
    Ix w' b g M E ∧ GrP (IxB g M) w w' := by
  have hgr : GrP (fun k => mapBlock (M i) = some k) w w' := GrP.of hg
  refine ⟨⟨H.bk.grp hgr fun h => ?_, fun j hj => ?_, H.apart, H.low, hok, hnd⟩, hgr.wide fun k _ hk => .inr ⟨i, hi, hk⟩⟩
  · obtain ⟨L0, h0, _⟩ := H.maps i hi
    rcases h0 with ⟨h1, _⟩ | ⟨q, h1, h2⟩
    · rw [h1] at h; cases h
    · rw [h1] at h
      injection h with h
      subst h
      obtain ⟨es, clock, h3⟩ := h2.here
      have := H.bk.symm.trans h3
      cases this
  · by_cases hij : j = i
    · subst hij; exact ⟨L, hm, hL⟩
    · obtain ⟨L0, h0, h1⟩ := H.maps j hj
      exact ⟨L0, h0.grp hgr fun k hk hk2 => H.apart i j hi hj (fun e => hij e.symm) k hk2 hk, by rw [hE j hij]; exact h1⟩
end
theorem zeroR (w : World) : (zeroValue 37).run Try.prog w = .ok (vR (0, 0, 0)) w := by kernel_rfl
theorem from_0 (g : Nat) (w : World) : Calls Try.prog 21 #[.pointer (some ⟨g, 0, none⟩), .int .i64 0] w fun e w' => e = .returned (.slice (some ⟨g, 0, none⟩) 64 64) ∧ w' = w := from_any g 0 w (by omega)

set_option maxHeartbeats 3200000 in
set_option maxRecDepth 100000 in
/-- A name is struck. -/
theorem del_any (b g : Nat) (M : Nat → Value) (D : List NV) (s : ByteArray) (w : World) (hH : Hid (Ix w b g M D)) : Calls Try.prog 12 #[.pointer (some ⟨g, 0, none⟩), .string s] w fun e w' => e = .returned (.bool (getN D s).isSome) ∧ Ix w' b g M (delN D s) ∧ GrP (IxB g M) w w' := by
  obtain ⟨R, hR⟩ : ∃ R, R = (getN D s).isSome := ⟨_, rfl⟩
  rw [← hR]
  have HR := Lib.hid hR
  clear hR
  have KF : Hid (∀ w, Calls Try.prog 21 #[.pointer (some ⟨g, 0, none⟩), .int .i64 0] w fun e w' => e = .returned (.slice (some ⟨g, 0, none⟩) 64 64) ∧ w' = w) := fun w => from_0 g w
  go_enter Try.func12, Try.ntmps12
  go_wp2_with fail
  refine (KF.out _).mono ?_
  rintro e w' ⟨rfl, hw'⟩
  rw [hw']
  clear hw' w' KF
  go_wp2_with fail
  go_loopw [12] (fun s12 wr => ∃ k : Nat, k ≤ 64 ∧ s12 = .int .i64 k ∧ Hid (∀ p ∈ D, num p.2 < k → p.1 ≠ s) ∧ Hid (Below w.heap.size w wr)) (fun s12 wr => 64 - (intOf s12).toNat)
  case atStart => exact ⟨0, Nat.zero_le _, rfl, (fun p _ h => absurd h (Nat.not_lt_zero _)), Below.refl _ _⟩
  case round =>
    obtain ⟨k, hk, rfl, HN, HB⟩ := hrel
    by_cases hlt : k < 64
    · have H1 := Lib.hid (hH.out.later HB.out)
      obtain ⟨L, hm, hL⟩ := H1.out.maps k hlt
      obtain ⟨o, ho⟩ := hm.val
      have hc : wr.cell? ⟨g, k, none⟩ = some (.map o) := by rw [H1.out.cell hlt, ho]
      have HM : Hid (MapV wr (.map o) (L.map eV)) := by rw [← ho]; exact hm
      have HO := Lib.hid ho
      have HL := Lib.hid hL
      clear hm hL ho
      have hw1 : wrap64 ((k : Int) + 1) = ((k + 1 : Nat) : Int) := by unfold wrap64; omega
      cases hq : getN L s with
      | none =>
        have h1 : Hid ((getL (L.map eV) s).getD (vR (0, 0, 0)) = vR (0, 0, 0)) := by show _ = _; rw [getL_N, hq]; rfl
        have h2 : Hid ((getL (L.map eV) s).isSome = false) := by show _ = _; rw [getL_N, hq]; rfl
        go_wp2_with (with_reducible refine look_l rfl _ _ 32 rfl 9 37 Try.underlying32 Try.underlying9 (vR (0, 0, 0)) (zeroR _) (.map o) rfl HM.out s rfl _ h1.out _ h2.out ?_)
        have HN2 : Hid (∀ p ∈ D, num p.2 < k + 1 → p.1 ≠ s) := fun p hp hlt2 => by
          by_cases hpk : num p.2 < k
          · exact HN.out p hp hpk
          · exact getN_none.1 hq p (HL.out.mem_iff.2 (inB_mem.2 ⟨hp, by omega⟩))
        have HB2 : Hid (Below w.heap.size w (wr.alloc (.cells #[.int .i64 0, .int .i64 0, .int .i64 0] 37))) := HB.out.alloc HB.out.size _
        go_round
        case rel => exact ⟨k + 1, by omega, by go_num, HN2, HB2⟩
        case measure => simp [intOf]; omega
      | some t =>
        have h1 : Hid ((getL (L.map eV) s).getD (vR (0, 0, 0)) = vR t) := by show _ = _; rw [getL_N, hq]; rfl
        have h2 : Hid ((getL (L.map eV) s).isSome = true) := by show _ = _; rw [getL_N, hq]; rfl
        have hmem := getN_mem hq
        obtain ⟨hD, hk2⟩ := inB_mem.1 (HL.out.mem_iff.1 hmem)
        have hR : R = true := by
          rw [HR.out, getN_some (p := (s, t)) hH.out.nodup hD]; rfl
        subst hR
        have HD := Lib.hid hD
        have HK : Hid (num t = k) := hk2
        have HM2 : Hid (MapV (wr.alloc (.cells #[.int .i64 t.1, .int .i64 t.2.1, .int .i64 t.2.2] 37)) (.map o) (L.map eV)) := HM.out.later ((Below.refl _ _).alloc (Nat.le_refl _) _)
        have HI2 : Hid (Ix (wr.alloc (.cells #[.int .i64 t.1, .int .i64 t.2.1, .int .i64 t.2.2] 37)) b g M D) := H1.out.later ((Below.refl _ _).alloc (Nat.le_refl _) _)
        have HB2 : Hid (Below w.heap.size w (wr.alloc (.cells #[.int .i64 t.1, .int .i64 t.2.1, .int .i64 t.2.2] 37))) := HB.out.alloc HB.out.size _
        clear hq hmem hD hk2
        go_wp2_with (first | (with_reducible refine look_l rfl _ _ 32 rfl 9 37 Try.underlying32 Try.underlying9 (vR (0, 0, 0)) (zeroR _) (.map o) rfl HM.out s rfl _ h1.out _ h2.out ?_) | ((with_reducible refine delete_l rfl _ _ 32 9 rfl 37 Try.underlying32 Try.underlying9 (.map o) rfl HM2.out s rfl ?_); intro w4 hm4 hg4 hs4; have HM4 := Lib.hid hm4; have HG4 := Lib.hid hg4; clear hm4 hg4 hs4))
        go_ret
        refine ⟨rfl, ?_⟩
        have hm4 := HM4.out
        rw [delL_N, ← HO.out] at hm4
        have hg4 := HG4.out
        rw [← HO.out] at hg4
        have := HI2.out.turn hlt hg4 hm4 (by rw [delN_inB]; exact perm_delN HL.out s) (fun j hj => by
          rw [delN_inB]
          refine delN_none fun p hp e => ?_
          have hp2 := inB_mem.1 hp
          have := nv_one HI2.out.nodup hp2.1 HD.out e
          rw [this] at hp2
          exact hj (by rw [← hp2.2]; exact HK.out)) (fun p hp => HI2.out.ok p (delN_mem.1 hp).1) (delN_nodup HI2.out.nodup)
        exact ⟨this.1, (GrP.ofBelow HB2.out).trans this.2⟩
    · have hk64 : k = 64 := by omega
      subst hk64
      have hall : ∀ p ∈ D, p.1 ≠ s := fun p hp => HN.out p hp (num_lt (hH.out.ok p hp))
      have hR : R = false := by rw [HR.out, getN_none.2 hall]; rfl
      subst hR
      go_wp2_with fail
      go_ret
      exact ⟨rfl, by rw [delN_none hall]; exact hH.out.later HB.out, GrP.ofBelow HB.out⟩
end Go.Proofs.Ytiklogoookngaaa
