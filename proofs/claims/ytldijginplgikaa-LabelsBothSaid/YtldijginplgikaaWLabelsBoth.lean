/- The walk of LabelsBoth. No condition beyond the form's own. -/
import Derived.Test.YtldijginplgikaaLaw
namespace Go.Proofs.Ytldijginplgikaa
open Go.RowKit
set_option linter.unusedSimpArgs false
set_option linter.unusedVariables false
namespace labelsBoth
theorem hasB_app {k a b : List Lb} : hasB k (a ++ b) = (hasB k a && hasB k b) := by unfold hasB; rw [List.all_append]
/-- Both lists at once. -/
theorem told_both {E : List NL} {a b : List Lb} {l m u : List ByteArray} (hn : (E.map Prod.fst).Nodup) (h1 : ToldL E a l) (h2 : ToldL E b m) (h3 : ToldL E (a ++ b) u) : u = l.filter (inT m) := by
  have one : ∀ p ∈ E, ∀ q ∈ E, p.1 = q.1 → p = q := fun p hp q hq h => by
    obtain ⟨i, hi, e1⟩ := List.getElem_of_mem hp
    obtain ⟨j, hj, e2⟩ := List.getElem_of_mem hq
    have : i = j := (List.getElem_inj (h₀ := by simpa using hi) (h₁ := by simpa using hj) hn).1 (by simp [e1, e2, h])
    subst this
    rw [← e1, ← e2]
  have hmem : ∀ (z : List Lb) (v : List ByteArray), ToldL E z v → ∀ s, s ∈ v ↔ ∃ p ∈ E, p.1 = s ∧ hasB p.2 z = true := fun z v h s => by
    rw [h.1.mem_iff, List.mem_map]
    constructor
    · rintro ⟨p, hp, e⟩
      obtain ⟨h4, h5⟩ := List.mem_filter.1 hp
      exact ⟨p, h4, e, h5⟩
    · rintro ⟨p, hp, e, h5⟩
      exact ⟨p, List.mem_filter.2 ⟨hp, h5⟩, e⟩
  have hnd : ∀ (z : List Lb) (v : List ByteArray), ToldL E z v → v.Nodup := fun z v h => h.1.nodup_iff.2 ((List.filter_sublist.map _).nodup hn)
  have hp : u.Perm (l.filter (inT m)) := (List.perm_ext_iff_of_nodup (hnd _ _ h3) ((hnd _ _ h1).filter _)).2 fun s => by
    rw [hmem _ _ h3, List.mem_filter, inT_iff, hmem _ _ h1, hmem _ _ h2]
    constructor
    · rintro ⟨p, hp, e, h⟩
      rw [hasB_app, Bool.and_eq_true] at h
      exact ⟨⟨p, hp, e, h.1⟩, ⟨p, hp, e, h.2⟩⟩
    · rintro ⟨⟨p, hp, e, h⟩, ⟨q, hq, e2, h4⟩⟩
      have := one p hp q hq (e.trans e2.symm)
      subst this
      exact ⟨p, hp, e, by rw [hasB_app, h, h4]; rfl⟩
  refine hp.eq_of_pairwise (le := fun x y => sL x y = true) (fun a b _ _ h3 h4 => ?_) h3.2 (List.Pairwise.filter _ h1.2)
  have := sL_asymm h3
  rw [h4] at this; cases this
theorem Xl.nodup {w wr : World} {g : Nat} {F : Nat → Prop} {E : List NL} (H : Xl w wr g F E) : (E.map Prod.fst).Nodup := by
  obtain ⟨o1, o2, D, S, T, h1, h2, h3, h4, h5, h6⟩ := H
  have := (h2.map Prod.fst).nodup_iff.1
  rw [List.map_map] at this
  exact this h1.nodup
/-- What is wanted, so far. -/
structure Wt (w0 wr : World) (ns : List ByteArray) (v : Value) : Prop where
  be : Below w0.heap.size w0 wr
  ow : OwnK wr w0.heap.size 9 1 v (cellsS ns)
theorem Wt.below {w0 wr w' : World} {ns : List ByteArray} {v : Value} (H : Wt w0 wr ns v) (hb : Below wr.heap.size wr w') : Wt w0 w' ns v := ⟨H.be.trans (hb.mono H.be.size), H.ow.below hb⟩
/-- One name more, if it is among these. -/
def plus (m : List ByteArray) (x : ByteArray) : List ByteArray := if inT m x = true then [x] else []
theorem plus_nil (x : ByteArray) : plus [] x = [] := rfl
theorem plus_succ {m : List ByteArray} (hn : m.Nodup) {k : Nat} (hk : k < m.length) (x : ByteArray) : plus (m.take (k + 1)) x = if x = m[k] then plus (m.take k) x ++ [x] else plus (m.take k) x := by
  unfold plus inT
  rw [List.take_succ_eq_append_getElem hk, List.any_append]
  by_cases h : x = m[k]
  · have h0 : (m.take k).any (fun y => decide (y = x)) = false := by
      rw [List.any_eq_false]
      intro y hy
      rw [decide_eq_true_eq]
      intro e
      obtain ⟨i, hi, e1⟩ := List.getElem_of_mem hy
      rw [List.length_take] at hi
      rw [List.getElem_take] at e1
      have : i = k := (List.getElem_inj (h₀ := by omega) (h₁ := hk) hn).1 (by rw [e1, e, h])
      omega
    rw [h0, if_pos h]
    simp [h]
  · have h1 : ([m[k]].any fun y => decide (y = x)) = false := by simp; exact fun e => h e.symm
    rw [h1, Bool.or_false, if_neg h]
theorem filter_succ {l m : List ByteArray} {i : Nat} (hi : i < l.length) : (l.take (i + 1)).filter (inT m) = (l.take i).filter (inT m) ++ plus m (l[i]) := by
  rw [List.take_succ_eq_append_getElem hi, List.filter_append]
  congr 1
  unfold plus
  by_cases h : inT m l[i] = true
  · rw [if_pos h]; simp [h]
  · rw [if_neg h]; simp [h]
theorem plus_len (m : List ByteArray) (x : ByteArray) : (plus m x).length ≤ 1 := by
  unfold plus
  by_cases h : inT m x = true
  · rw [if_pos h]; exact Nat.le_refl _
  · rw [if_neg h]; exact Nat.zero_le _
set_option maxHeartbeats 25600000 in
set_option maxRecDepth 100000 in
theorem walk (B0 : Option Addr) (N cap : Nat) (z : List Oh) (A1 : Option Addr) (n1 c1 : Nat) (z1 : List Lb) (A2 : Option Addr) (n2 c2 : Nat) (z2 : List Lb) (w : World) (hn0 : N = z.length) (hr0 : RdK w 3 B0 (z.map eO)) (hc1 : N ≤ cap) (hc2 : cap ≤ 9223372036854775807) (hv0 : ∀ y ∈ z, OhOk w y)
    (h11 : n1 = z1.length) (h12 : RdL w A1 z1) (h13 : n1 ≤ c1) (h14 : c1 ≤ 9223372036854775807) (h15 : Sz z1) (h21 : n2 = z2.length) (h22 : RdL w A2 z2) (h23 : n2 ≤ c2) (h24 : c2 ≤ 9223372036854775807) (h25 : Sz z2) :
    Calls Try.prog 4 #[.slice B0 N cap, .slice A1 n1 c1, .slice A2 n2 c2] w fun r w' => r = .returned (.bool true) ∧ Below w.heap.size w w' := by
  have HA : Hid ((⟨A1, n1, c1, z1⟩ : Hd).Ok w) := ⟨h11, h12, h13, h14⟩
  have HB : Hid ((⟨A2, n2, c2, z2⟩ : Hd).Ok w) := ⟨h21, h22, h23, h24⟩
  have HN := Lib.hid hn0
  have HRD : Hid (RdK w 3 B0 (z.map eO)) := hr0
  have HVZ := Lib.hid hv0
  have K1 := Lib.hid (fun W => awake18_any W)
  have K7 := Lib.hid (fun (A : Option Addr) (n c : Nat) (l : List Oh) (W : World) (hn : n = l.length) (hr : RdK W 3 A (l.map eO)) (ho : ∀ x ∈ l, x.h.Ok W) => few18_any A n c l W (Lib.hid hn) (Lib.hid hr) (Lib.hid ho))
  have KS := Lib.hid (fun (W : World) (A : Option Addr) (n c : Nat) (l : List Lb) (h : (⟨A, n, c, l⟩ : Hd).Ok W) => small18_any A n c l W (Lib.hid h.ln) (Lib.hid h.rd))
  have KN := Lib.hid (fun (W : World) (h : Below w.heap.size w W) => x_new (w := w) W h)
  have KP := Lib.hid (fun (W : World) (g : Nat) (F : Nat → Prop) (E : List NL) (s : ByteArray) (A : Option Addr) (n c : Nat) (l : List Lb) (ho : (⟨A, n, c, l⟩ : Hd).Ok w) (hn : n ≤ 30) (hl : E.length ≤ 1000) (H : Xl w W g F E) => x_put (w := w) (wr := W) (g := g) (F := F) (E := E) s A n c l ho hn hl H)
  have KW := Lib.hid (fun (W : World) (g : Nat) (F : Nat → Prop) (E : List NL) (A : Option Addr) (n c : Nat) (l : List Lb) (ho : (⟨A, n, c, l⟩ : Hd).Ok W) (hn : n ≤ 100) (hE : E.length ≤ 1000) (H : Xl w W g F E) => x_with (w := w) (wr := W) (g := g) (F := F) (E := E) A n c l ho hn hE H)
  have KX := Lib.hid (fun (A : Option Addr) (n c : Nat) (l : List ByteArray) (B : Option Addr) (m d : Nat) (r : List ByteArray) (W : World) (hn : n = l.length) (hm : m = r.length) (hl : n ≤ 9223372036854775807) (hl2 : m ≤ 9223372036854775807) (hA : RdS W A l) (hB : RdS W B r) => rtexts_any A n c l B m d r W (Lib.hid hn) (Lib.hid hm) hl hl2 (Lib.hid hA) (Lib.hid hB))
  clear hn0 hr0 hc1 hc2 hv0 h11 h12 h13 h14 h15 h21 h22 h23 h24 h25
  go_enter Try.func4, Try.ntmps4
  go_wp2_with fail
  refine (K1.out _).mono ?_; rintro e w1 ⟨rfl, hb1⟩
  have HB1 := Lib.hid hb1
  clear hb1
  go_wp2_with fail
  refine (K7.out B0 N cap z _ HN.out (HRD.out.later HB1.out) (fun x hx => (HVZ.out x hx).1.later HB1.out)).mono ?_; rintro e w2 ⟨⟨b, rfl, hfew⟩, hb2⟩
  have HB2 := Lib.hid (HB1.out.trans (hb2.mono HB1.out.size))
  have HFEW := Lib.hid hfew
  clear hb2 HB1 hfew
  cases b with
  | false =>
    go_wp2_with fail
    refine (K1.out _).mono ?_; rintro e w3 ⟨rfl, hb3⟩
    have HB3 := Lib.hid (HB2.out.trans (hb3.mono HB2.out.size))
    clear hb3 HB2
    go_wp2_with fail
    go_ret
    exact ⟨rfl, HB3.out⟩
  | true =>
  go_wp2_with fail
  refine (KS.out _ A1 n1 c1 z1 (HA.out.later HB2.out)).mono ?_; rintro e w3 ⟨⟨b, rfl, hsm⟩, hb3⟩
  have HB3 := Lib.hid (HB2.out.trans (hb3.mono HB2.out.size))
  have HSA := Lib.hid hsm
  clear hb3 HB2 hsm
  cases b with
  | false =>
    go_wp2_with fail
    refine (K1.out _).mono ?_; rintro e w4 ⟨rfl, hb4⟩
    have HB4 := Lib.hid (HB3.out.trans (hb4.mono HB3.out.size))
    clear hb4 HB3
    go_wp2_with fail
    go_ret
    exact ⟨rfl, HB4.out⟩
  | true =>
  go_wp2_with fail
  refine (KS.out _ A2 n2 c2 z2 (HB.out.later HB3.out)).mono ?_; rintro e w4 ⟨⟨b, rfl, hsm⟩, hb4⟩
  have HB4 := Lib.hid (HB3.out.trans (hb4.mono HB3.out.size))
  have HSB := Lib.hid hsm
  clear hb4 HB3 hsm
  cases b with
  | false =>
    go_wp2_with fail
    refine (K1.out _).mono ?_; rintro e w5 ⟨rfl, hb5⟩
    have HB5 := Lib.hid (HB4.out.trans (hb5.mono HB4.out.size))
    clear hb5 HB4
    go_wp2_with fail
    go_ret
    exact ⟨rfl, HB5.out⟩
  | true =>
    have HN200 : Hid (N ≤ 200) := (HFEW.out (by simp)).1
    have H30 : Hid (∀ x ∈ z, x.h.n ≤ 30) := (HFEW.out (by simp)).2
    have HA30 : Hid (n1 ≤ 30) := HSA.out (by simp)
    have HB30 : Hid (n2 ≤ 30) := HSB.out (by simp)
    clear HFEW HSA HSB K7 KS
    go_wp2_with fail
    refine (KN.out _ HB4.out).mono ?_; rintro e w5 ⟨⟨g, F0, rfl, hX5, -⟩, -⟩
    have HX0 := Lib.hid hX5
    clear hX5 HB4 KN
    go_wp2_with fail
    go_loopw [38] (fun s38 wr => ∃ (i : Nat) (F : Nat → Prop) (E : List NL), i ≤ N ∧ s38 = .int .i64 i ∧ Hid (E.length ≤ i) ∧ Hid (Xl w wr g F E)) (fun s38 wr => N - (intOf s38).toNat)
    case atStart => exact ⟨0, F0, [], Nat.zero_le _, rfl, Nat.le_refl _, HX0⟩
    case round =>
      clear HX0
      obtain ⟨i, F, E, hi, rfl, HLL, HX⟩ := hrel
      by_cases hin : i < N
      · have hil : i < z.length := by rw [← HN.out]; exact hin
        obtain ⟨q, o, hA, hx⟩ := HRD.out.at (i := i) (by rw [List.length_map]; exact hil)
        subst hA
        rw [List.getElem_map] at hx
        have hok := (HVZ.out _ (List.getElem_mem hil)).1
        have h30 := H30.out _ (List.getElem_mem hil)
        obtain ⟨⟨kd, s, ⟨a0, n0, c0, l0⟩⟩, ex⟩ : ∃ x, x = z[i] := ⟨_, rfl⟩
        rw [← ex] at hx hok h30
        have HOK : Hid ((⟨a0, n0, c0, l0⟩ : Hd).Ok w) := hok
        have HN30 : Hid (n0 ≤ 30) := h30
        have hd1 : w.cell? ⟨q, o + i * 3 + 1, none⟩ = some (.string s) := by simpa using hx 1 _ rfl
        have hd2 : w.cell? ⟨q, o + i * 3 + 2, none⟩ = some (.slice a0 n0 c0) := by simpa using hx 2 _ rfl
        have HCW : Hid (∀ W, Below w.heap.size w W → W.cell? ⟨q, o + i * 3 + 1, none⟩ = some (.string s)) := fun W hb => (hb.cell (p := ⟨q, o + i * 3 + 1, none⟩) (World.block_lt_of_cell? w _ hd1)).trans hd1
        have HDW : Hid (∀ W, Below w.heap.size w W → W.cell? ⟨q, o + i * 3 + 2, none⟩ = some (.slice a0 n0 c0)) := fun W hb => (hb.cell (p := ⟨q, o + i * 3 + 2, none⟩) (World.block_lt_of_cell? w _ hd2)).trans hd2
        have hw1 : wrap64 ((i : Int) + 1) = ((i + 1 : Nat) : Int) := by have := HN200.out; unfold wrap64; omega
        have HXD := Lib.hid (HX.out.below (w' := wr.drew) (Below.drew (Below.refl _ _)))
        have HC1 : Hid (wr.drew.cell? ⟨q, o + i * 3 + 1, none⟩ = some (.string s)) := HCW.out _ HXD.out.be
        have HC2 : Hid (wr.drew.cell? ⟨q, o + i * 3 + 2, none⟩ = some (.slice a0 n0 c0)) := HDW.out _ HXD.out.be
        clear hx ex hil hok h30 hd1 hd2 HX
        go_wp2_with fail
        refine wp_region_held_drew (S := fun W => W.cell? ⟨q, o + i * 3 + 1, none⟩ = some (.string s) ∧ W.cell? ⟨q, o + i * 3 + 2, none⟩ = some (.slice a0 n0 c0)) (by kernel_rfl) (⟨HC1.out, HC2.out⟩) (fun hS0 => ?_)
        refine wpAnyH_take (i := 0) (v := ?_) rfl (by kernel_rfl) (by kernel_rfl) (by kernel_rfl) (fun _ _ _ h => h) (Or.inl ⟨by rfl, ?_⟩) hS0 ?_
        rotate_left
        · intro W _; go_simp; try with_reducible rfl
        try simp only [Act.put, List.getElem_toArray, List.getElem_cons_zero, List.setIfInBounds_toArray, List.set_cons_zero, List.set_cons_succ]
        refine wpAnyH_take (i := 1) (v := ?_) rfl (by kernel_rfl) (by kernel_rfl) (by kernel_rfl) (fun _ _ _ h => h) (Or.inl ⟨by rfl, ?_⟩) hS0 ?_
        rotate_left
        · intro W _; go_simp; try with_reducible rfl
        try simp only [Act.put, List.getElem_toArray, List.getElem_cons_zero, List.getElem_cons_succ, List.setIfInBounds_toArray, List.set_cons_zero, List.set_cons_succ]
        refine wpAnyH_take (i := 2) (v := ?_) rfl (by kernel_rfl) (by kernel_rfl) (by kernel_rfl) (fun _ _ _ h => h) (Or.inl ⟨by rfl, ?_⟩) hS0 ?_
        rotate_left
        · intro W _; go_simp; try with_reducible rfl
        try simp only [Act.put, List.getElem_toArray, List.getElem_cons_zero, List.getElem_cons_succ, List.setIfInBounds_toArray, List.set_cons_zero, List.set_cons_succ]
        refine wpAnyH_take (i := 3) (v := ?_) rfl (by kernel_rfl) (by kernel_rfl) (by kernel_rfl) (fun _ _ _ h => h) (Or.inl ⟨by rfl, ?_⟩) hS0 ?_
        rotate_left
        · intro W _; go_simp; try with_reducible rfl
        try simp only [Act.put, List.getElem_toArray, List.getElem_cons_zero, List.getElem_cons_succ, List.setIfInBounds_toArray, List.set_cons_zero, List.set_cons_succ]
        refine wpAnyH_take (i := 4) (v := ?_) rfl (by kernel_rfl) (by kernel_rfl) (by kernel_rfl) (fun _ _ _ h => h) (Or.inl ⟨by rfl, ?_⟩) hS0 ?_
        rotate_left
        · intro W _; go_simp; try with_reducible rfl
        try simp only [Act.put, List.getElem_toArray, List.getElem_cons_zero, List.getElem_cons_succ, List.setIfInBounds_toArray, List.set_cons_zero, List.set_cons_succ]
        refine wpAnyH_take (i := 5) (v := ?_) rfl (by kernel_rfl) (by kernel_rfl) (by kernel_rfl) (fun _ _ _ h => h) (Or.inl ⟨by rfl, ?_⟩) hS0 ?_
        rotate_left
        · intro W hSW; have hx := hSW.1; go_simp; try with_reducible rfl
        try simp only [Act.put, List.getElem_toArray, List.getElem_cons_zero, List.getElem_cons_succ, List.setIfInBounds_toArray, List.set_cons_zero, List.set_cons_succ]
        refine wpAnyH_take (i := 6) (v := ?_) rfl (by kernel_rfl) (by kernel_rfl) (by kernel_rfl) (fun _ _ _ h => h) (Or.inl ⟨by rfl, ?_⟩) hS0 ?_
        rotate_left
        · intro W _; go_simp; try with_reducible rfl
        try simp only [Act.put, List.getElem_toArray, List.getElem_cons_zero, List.getElem_cons_succ, List.setIfInBounds_toArray, List.set_cons_zero, List.set_cons_succ]
        refine wpAnyH_take (i := 7) (v := ?_) rfl (by kernel_rfl) (by kernel_rfl) (by kernel_rfl) (fun _ _ _ h => h) (Or.inl ⟨by rfl, ?_⟩) hS0 ?_
        rotate_left
        · intro W _; go_simp; try with_reducible rfl
        try simp only [Act.put, List.getElem_toArray, List.getElem_cons_zero, List.getElem_cons_succ, List.setIfInBounds_toArray, List.set_cons_zero, List.set_cons_succ]
        refine wpAnyH_take (i := 8) (v := ?_) rfl (by kernel_rfl) (by kernel_rfl) (by kernel_rfl) (fun _ _ _ h => h) (Or.inl ⟨by rfl, ?_⟩) hS0 ?_
        rotate_left
        · intro W _; go_simp; try with_reducible rfl
        try simp only [Act.put, List.getElem_toArray, List.getElem_cons_zero, List.getElem_cons_succ, List.setIfInBounds_toArray, List.set_cons_zero, List.set_cons_succ]
        refine wpAnyH_take (i := 9) (v := ?_) rfl (by kernel_rfl) (by kernel_rfl) (by kernel_rfl) (fun _ _ _ h => h) (Or.inl ⟨by rfl, ?_⟩) hS0 ?_
        rotate_left
        · intro W _; go_simp; try with_reducible rfl
        try simp only [Act.put, List.getElem_toArray, List.getElem_cons_zero, List.getElem_cons_succ, List.setIfInBounds_toArray, List.set_cons_zero, List.set_cons_succ]
        refine wpAnyH_take (i := 10) (v := ?_) rfl (by kernel_rfl) (by kernel_rfl) (by kernel_rfl) (fun _ _ _ h => h) (Or.inl ⟨by rfl, ?_⟩) hS0 ?_
        rotate_left
        · intro W hSW; have hx := hSW.2; go_simp; try with_reducible rfl
        try simp only [Act.put, List.getElem_toArray, List.getElem_cons_zero, List.getElem_cons_succ, List.setIfInBounds_toArray, List.set_cons_zero, List.set_cons_succ]
        refine wpAnyH_ready (rs := [11]) (by kernel_rfl) (by simp) ?_
        refine AllReadyH.cons rfl (fun K hK => ?_) AllReadyH.nil
        go_simp
        refine (KP.out _ g F E s a0 n0 c0 l0 HOK.out HN30.out (by have := HLL.out; have := HN200.out; omega) HXD.out).mono ?_
        rintro e w5 ⟨rfl, ⟨F2, hX5, hF5⟩, hg5⟩
        have HX5 := Lib.hid hX5
        have HC15 : Hid (w5.cell? ⟨q, o + i * 3 + 1, none⟩ = some (.string s)) := HCW.out _ HX5.out.be
        have HC25 : Hid (w5.cell? ⟨q, o + i * 3 + 2, none⟩ = some (.slice a0 n0 c0)) := HDW.out _ HX5.out.be
        clear hX5 hF5 hg5
        go_simp
        refine hK.out _ _ (⟨HC15.out, HC25.out⟩) (fun hS1 => ?_)
        clear hK K
        try simp only [Act.put, List.getElem_toArray, List.getElem_cons_zero, List.getElem_cons_succ, List.setIfInBounds_toArray, List.set_cons_zero, List.set_cons_succ]
        refine wpAnyH_done (by kernel_rfl) ?_ _
        clear hS0 hS1 HC1 HC2 HC15 HC25 HCW HDW HXD
        have HL5 : Hid ((dropN E s ++ [(s, l0)]).length ≤ i + 1) := by
          show _ ≤ _
          have h1 := dropN_len E s
          have h2 := HLL.out
          rw [List.length_append]
          simp only [List.length_cons, List.length_nil]
          omega
        go_wp2_with fail
        go_round
        case rel => exact ⟨i + 1, F2, _, by omega, by go_num, HL5, HX5⟩
        case measure =>
          rw [hw1]
          show N - ((i + 1 : Nat) : Int).toNat < N - ((i : Nat) : Int).toNat
          rw [Int.toNat_natCast, Int.toNat_natCast]; omega
      · have hiN : i = N := Nat.le_antisymm hi (Nat.le_of_not_lt hin)
        subst hiN
        have HEL : Hid (E.length ≤ 1000) := Nat.le_trans HLL.out (Nat.le_trans HN200.out (by decide))
        clear hi hin HLL KP
        go_wp2_with fail
        refine (KW.out wr g F E A1 n1 c1 z1 (HA.out.later HX.out.be) (by have := HA30.out; omega) HEL.out HX.out).mono ?_
        rintro e w6 ⟨⟨l, q1, A6, c6, rfl, hq1, hk1, ho6, ht6⟩, hb6⟩
        have HX6 := Lib.hid (HX.out.below hb6)
        have HQ1 := Lib.hid hq1
        have HK1 := Lib.hid hk1
        have HT1 := Lib.hid ht6
        have HR6 : Hid (RdS w6 A6 l) := by
          obtain ⟨A', c', hv, hr, -, -⟩ := ho6.rds
          injection hv with e1
          subst e1
          exact hr
        clear hb6 hq1 hk1 ht6 ho6 HX
        go_wp2_with fail
        refine (KW.out w6 g F E A2 n2 c2 z2 (HB.out.later HX6.out.be) (by have := HB30.out; omega) HEL.out HX6.out).mono ?_
        rintro e w7 ⟨⟨m, q2, A7, c7, rfl, hq2, hk2, ho7, ht7⟩, hb7⟩
        have HX7 := Lib.hid (HX6.out.below hb7)
        have HQ2 := Lib.hid hq2
        have HK2 := Lib.hid hk2
        have HT2 := Lib.hid ht7
        have HR7 : Hid (RdS w7 A7 m) := by
          obtain ⟨A', c', hv, hr, -, -⟩ := ho7.rds
          injection hv with e1
          subst e1
          exact hr
        have HRL7 : Hid (RdS w7 A6 l) := HR6.out.later hb7
        clear hb7 hq2 hk2 ht7 ho7 HX6 HR6
        have HO7 := Lib.hid (HA.out.later HX7.out.be)
        have hr2 : Hid (RdK (w7.alloc (.cells #[] 48)) 2 A1 (cellsLb z1)) := (HO7.out.rd.rdk).later ((Below.refl w7.heap.size w7).alloc (Nat.le_refl _) (.cells #[] 48))
        have HLN1 : Hid ((cellsLb z1).length = n1) := by show _ = _; rw [cellsLb_length]; exact HA.out.ln.symm
        have HLN2 : Hid ((cellsLb z2).length = n2) := by show _ = _; rw [cellsLb_length]; exact HB.out.ln.symm
        have HE0 : Hid (OwnK (w7.alloc (.cells #[] 48)) w7.heap.size 48 2 (.slice (some ⟨w7.heap.size, 0, none⟩) 0 0) []) := OwnK.empty w7 w7.heap.size 48 2 (Nat.le_refl _) rfl
        go_wp2_with (with_reducible refine haltAt 63 rfl ?_)
        show wpList _ _ _ _ _ _
        refine append_kn _ rfl (.tmp 61) (.tmp 62) 36 rfl w7.heap.size 48 _ 2 32 Try.underlying36 infoLb rfl (by omega) (.slice (some ⟨w7.heap.size, 0, none⟩) 0 0) [] rfl HE0.out A1 c1 n1 (cellsLb z1) rfl hr2.out (cellsLb_k z1) (cellsLb_one z1) HLN1.out.symm (by have := HLN1.out; have := HA30.out; simp only [List.length_nil, maxLen]; omega) (by have := HLN1.out; have := HA30.out; simp only [List.length_nil]; omega) (by simp) ?_
        intro v8 w8 hown hgrow
        have HO8 : Hid (OwnK w8 w7.heap.size 48 2 v8 (cellsLb z1)) := by show OwnK _ _ _ _ _ _; rw [List.nil_append] at hown; exact hown
        have HB8 : Hid (Below w7.heap.size w7 w8) := ((Below.refl _ w7).alloc (Nat.le_refl _) _).grown hgrow (by simp) (by intro k hk; simp [Value.ownBlock] at hk; omega)
        clear hown hgrow hr2 HE0 HO7
        obtain ⟨A8, c8, hs8⟩ := HO8.out.sl
        have hv8 := hs8.val
        rw [HLN1.out] at hv8
        subst hv8
        clear hs8
        have HX8 := Lib.hid (HX7.out.below HB8.out)
        have hr3 : Hid (RdK w8 2 A2 (cellsLb z2)) := (HB.out.later HX8.out.be).rd.rdk
        go_wp2_with (with_reducible refine haltAt 65 rfl ?_)
        show wpList _ _ _ _ _ _
        refine append_kn _ rfl (.tmp 63) (.tmp 64) 36 rfl w7.heap.size 48 _ 2 32 Try.underlying36 infoLb rfl (by omega) (.slice A8 n1 c8) (cellsLb z1) rfl HO8.out A2 c2 n2 (cellsLb z2) rfl hr3.out (cellsLb_k z2) (cellsLb_one z2) HLN2.out.symm (by have := HLN1.out; have := HLN2.out; have := HA30.out; have := HB30.out; simp only [maxLen]; omega) (by have := HLN1.out; have := HLN2.out; have := HA30.out; have := HB30.out; omega) HB8.out.size ?_
        intro v9 w9 hown hgrow
        have HO9 : Hid (OwnK w9 w7.heap.size 48 2 v9 (cellsLb (z1 ++ z2))) := by
          show OwnK _ _ _ _ _ _
          have : cellsLb (z1 ++ z2) = cellsLb z1 ++ cellsLb z2 := by unfold cellsLb; rw [List.map_append]
          rw [this]; exact hown
        have HB9 : Hid (Below w7.heap.size w7 w9) := HB8.out.grown hgrow HB8.out.size fun k hk => HO8.out.block k hk
        clear hown hgrow hr3 HO8 HB8 HX8
        obtain ⟨A9, c9, hs9⟩ := HO9.out.sl
        have hv9 := hs9.val
        obtain ⟨n9, hn9⟩ : ∃ n9, n9 = (cellsLb (z1 ++ z2)).length := ⟨_, rfl⟩
        rw [← hn9] at hv9
        subst hv9
        have HOK9 : Hid ((⟨A9, n9, c9, z1 ++ z2⟩ : Hd).Ok w9) := ⟨by rw [hn9, cellsLb_length], hs9.rd.labs, by show n9 ≤ c9; rw [hn9]; exact hs9.cap, by have := hs9.cap2; unfold maxLen at this; show c9 ≤ _; omega⟩
        have HN9 : Hid (n9 ≤ 100) := by
          show _ ≤ _
          rw [hn9, cellsLb_length, List.length_append]
          have h1 := HLN1.out
          have h2 := HLN2.out
          rw [cellsLb_length] at h1 h2
          have := HA30.out; have := HB30.out; omega
        have HX9 := Lib.hid (HX7.out.below HB9.out)
        have HRL9 : Hid (RdS w9 A6 l) := HRL7.out.later HB9.out
        have HRM9 : Hid (RdS w9 A7 m) := HR7.out.later HB9.out
        clear hs9 hn9 HLN1 HLN2 HX7 HO9 HB9 HRL7 HR7
        go_wp2_with fail
        refine (KW.out w9 g F E A9 n9 c9 (z1 ++ z2) HOK9.out HN9.out HEL.out HX9.out).mono ?_
        rintro e w10 ⟨⟨u, q3, A10, c10, rfl, hq3, hk3, ho10, ht10⟩, hb10⟩
        have HBE : Hid (Below w.heap.size w w10) := (HX9.out.below hb10).be
        have HQ3 := Lib.hid hq3
        have HK3 := Lib.hid hk3
        have HFIN : Hid (u = l.filter (inT m)) := told_both (Xl.nodup HX9.out) HT1.out HT2.out ht10
        have HMN : Hid (m.Nodup) := HT2.out.1.nodup_iff.2 ((List.filter_sublist.map _).nodup (Xl.nodup HX9.out))
        have HRU : Hid (RdS w10 A10 u) := by
          obtain ⟨A', c', hv, hr, -, -⟩ := ho10.rds
          injection hv with e1
          subst e1
          exact hr
        have HRL : Hid (RdS w10 A6 l) := HRL9.out.later hb10
        have HRM : Hid (RdS w10 A7 m) := HRM9.out.later hb10
        have HASC : Hid (l.Pairwise fun x y => sL x y = true) := HT1.out.2
        clear hb10 hq3 hk3 ht10 ho10 HX9 HRL9 HRM9 HOK9 HN9 HT1 HT2 KW HA HB HA30 HB30 HEL H30 HRD HVZ
        have HW0 : Hid (Wt w10 w10 ((l.take 0).filter (inT m)) (.slice none 0 0)) := ⟨Below.refl _ _, by rw [List.take_zero]; exact OwnK.nil _ _ _ _⟩
        go_wp2_with fail
        go_loopw [69, 12] (fun s69 s12 wr => ∃ (i : Nat) (v : Value), i ≤ q1 ∧ s69 = .int .i64 i ∧ s12 = v ∧ Hid (Wt w10 wr ((l.take i).filter (inT m)) v)) (fun s69 s12 wr => q1 - (intOf s69).toNat)
        case atStart => exact ⟨0, _, Nat.zero_le _, rfl, rfl, HW0⟩
        case round =>
          clear HW0
          obtain ⟨j, v, hj, rfl, h12, HW⟩ := hrel
          obtain ⟨Av, cv, hvv, -, -, -⟩ := HW.out.ow.rds
          obtain ⟨qv, hqv⟩ : ∃ qv, qv = ((l.take j).filter (inT m)).length := ⟨_, rfl⟩
          rw [← hqv] at hvv
          subst hvv
          subst h12
          have HQV := Lib.hid hqv
          clear hqv
          by_cases hlt : j < q1
          · have hjl : Hid (j < l.length) := by show _ < _; rw [← HQ1.out]; exact hlt
            obtain ⟨gl, ol, hA6, hgl, hcl⟩ := HRL.out.at hjl.out
            subst hA6
            obtain ⟨x, hx⟩ : ∃ x, x = l[j]'hjl.out := ⟨_, rfl⟩
            rw [← hx] at hcl
            have HXE := Lib.hid hx
            have HCX : Hid (∀ W, Below w10.heap.size w10 W → W.cell? ⟨gl, ol + j, none⟩ = some (.string x)) := fun W hb => (hb.cell (p := ⟨gl, ol + j, none⟩) hgl).trans hcl
            have HI0 : Hid (Wt w10 wr ((l.take j).filter (inT m) ++ plus (m.take 0) x) (.slice Av qv cv)) := by rw [List.take_zero, plus_nil, List.append_nil]; exact HW.out
            clear hx hcl hgl HW
            go_wp2_with fail
            go_loopw [74, 12] (fun s74 s12 wq => ∃ (k : Nat) (v : Value), k ≤ q2 ∧ s74 = .int .i64 k ∧ s12 = v ∧ Hid (Wt w10 wq ((l.take j).filter (inT m) ++ plus (m.take k) x) v)) (fun s74 s12 wq => q2 - (intOf s74).toNat)
            case atStart => exact ⟨0, _, Nat.zero_le _, rfl, rfl, HI0⟩
            case round =>
              clear HI0
              obtain ⟨k, v, hk, rfl, h12, HW⟩ := hrel
              obtain ⟨Aw, cw, hvw, -, -, -⟩ := HW.out.ow.rds
              obtain ⟨ns, hns⟩ : ∃ ns, ns = (l.take j).filter (inT m) ++ plus (m.take k) x := ⟨_, rfl⟩
              rw [← hns] at hvw
              have HW2 := Lib.hid HW.out
              rw [← hns] at HW2
              have HNS := Lib.hid hns
              obtain ⟨qw, hqw⟩ : ∃ qw, qw = ns.length := ⟨_, rfl⟩
              rw [← hqw] at hvw
              subst hvw
              subst h12
              have HNL : Hid (ns.length ≤ 1001) := by
                show _ ≤ _
                rw [HNS.out, List.length_append]
                have h1 := List.length_filter_le (inT m) (l.take j)
                have h2 := plus_len (m.take k) x
                rw [List.length_take] at h1
                have h3 := HQ1.out
                have h4 := HK1.out
                omega
              clear hns hqw HW
              by_cases hlk : k < q2
              · have hkm : Hid (k < m.length) := by show _ < _; rw [← HQ2.out]; exact hlk
                obtain ⟨gm, om, hA7, hgm, hcm⟩ := HRM.out.at hkm.out
                subst hA7
                obtain ⟨y, hy⟩ : ∃ y, y = m[k]'hkm.out := ⟨_, rfl⟩
                rw [← hy] at hcm
                have HYE := Lib.hid hy
                have cx : wr.cell? ⟨gl, ol + j, none⟩ = some (.string x) := HCX.out wr HW2.out.be
                have cy : wr.cell? ⟨gm, om + k, none⟩ = some (.string y) := (HW2.out.be.cell (p := ⟨gm, om + k, none⟩) hgm).trans hcm
                have hw1 : wrap64 ((k : Int) + 1) = ((k + 1 : Nat) : Int) := by have := HK2.out; unfold wrap64; omega
                obtain ⟨d, hd⟩ : ∃ d, d = (x.toList == y.toList) := ⟨_, rfl⟩
                have HD := Lib.hid hd
                clear hy hcm hgm hd
                go_wp2_with fail
                go_quiet (fail)
                rw [← HD.out]
                obtain ⟨w11, hW⟩ : ∃ W, W = wr.drewN nq := ⟨_, rfl⟩
                have HW3 : Hid (Wt w10 w11 ns (.slice Aw qw cw)) := by rw [hW]; exact HW2.out.below (bdrewN (Below.refl _ _) _)
                rw [← hW]
                clear hW cx cy HW2
                cases d with
                | false =>
                  have hne : ¬ x = y := fun e => by have := sE_iff.2 e; unfold sE at this; rw [← HD.out] at this; cases this
                  have HR : Hid (Wt w10 w11 ((l.take j).filter (inT m) ++ plus (m.take (k + 1)) x) (.slice Aw qw cw)) := by
                    show Wt _ _ _ _
                    rw [plus_succ HMN.out hkm.out, if_neg (by rw [← HYE.out]; exact hne), ← HNS.out]; exact HW3.out
                  clear hne HW3 HD
                  go_wp2_with fail
                  go_round
                  case rel => exact ⟨k + 1, _, by omega, by go_num, rfl, HR⟩
                  case measure =>
                    rw [hw1]
                    show q2 - ((k + 1 : Nat) : Int).toNat < q2 - ((k : Nat) : Int).toNat
                    rw [Int.toNat_natCast, Int.toNat_natCast]; omega
                | true =>
                  have HEQ : Hid (x = y) := sE_iff.1 HD.out.symm
                  have cx2 : w11.cell? ⟨gl, ol + j, none⟩ = some (.string x) := HCX.out w11 HW3.out.be
                  have HFR : Hid (Bk (w11.alloc (.cells #[.string x] 9)) w11.heap.size 9 #[.string x]) := Bk.fresh _ _ _
                  have H6a := Lib.hid (HW3.out.below ((Below.refl _ _).alloc (Nat.le_refl _) (.cells #[.string x] 9)))
                  have HSZ : Hid (w10.heap.size ≤ (w11.alloc (.cells #[.string x] 9)).heap.size) := H6a.out.be.size
                  have hb1 : (cellsS ns).length + (cellsS [x]).length ≤ maxLen := by have := HNL.out; rw [cellsS_length, cellsS_length]; simp [maxLen]; omega
                  have hb2 : ((cellsS ns).length + (cellsS [x]).length) * 16 ≤ 140737488355328 := by have := HNL.out; rw [cellsS_length, cellsS_length]; simp; omega
                  have HX1 := Lib.hid hb1
                  have HX2 := Lib.hid hb2
                  clear hb1 hb2 HW3 HD
                  go_wp2_with ((with_reducible refine append_k _ rfl (.tmp 86) (.tmp 91) 28 rfl w10.heap.size 9 _ 1 16 Try.underlying28 infoS rfl (by omega) (.slice Aw qw cw) (cellsS ns) rfl H6a.out.ow ⟨w11.heap.size, 0, none⟩ 1 1 (cellsS [x]) rfl (RdK.of_bk HFR.out) (cellsS_k _) (cellsS_one _) rfl HX1.out HX2.out HSZ.out ?_); intro v12 w12 hO hg; rw [← cellsS_append] at hO; have HW4 : Hid (Wt w10 w12 (ns ++ [x]) v12) := ⟨H6a.out.be.grown hg H6a.out.be.size fun k hk => H6a.out.ow.block k hk, hO⟩; clear hO hg)
                  have HR : Hid (Wt w10 w12 ((l.take j).filter (inT m) ++ plus (m.take (k + 1)) x) v12) := by
                    show Wt _ _ _ _
                    rw [plus_succ HMN.out hkm.out, if_pos (by rw [← HYE.out]; exact HEQ.out), ← List.append_assoc, ← HNS.out]; exact HW4.out
                  clear cx2 HFR H6a HSZ HX1 HX2 HW4
                  go_round
                  case rel => exact ⟨k + 1, _, by omega, by go_num, rfl, HR⟩
                  case measure =>
                    rw [hw1]
                    show q2 - ((k + 1 : Nat) : Int).toNat < q2 - ((k : Nat) : Int).toNat
                    rw [Int.toNat_natCast, Int.toNat_natCast]; omega
              · have hkq : k = q2 := Nat.le_antisymm hk (Nat.le_of_not_lt hlk)
                subst hkq
                have HW5 : Hid (Wt w10 wr ((l.take (j + 1)).filter (inT m)) (.slice Aw qw cw)) := by
                  show Wt _ _ _ _
                  have h1 := HW2.out
                  rw [HNS.out, show m.take k = m from List.take_of_length_le (by rw [← HQ2.out]; exact Nat.le_refl _)] at h1
                  rw [filter_succ hjl.out, ← HXE.out]; exact h1
                obtain ⟨w11, hw11⟩ : ∃ W, W = wr := ⟨_, rfl⟩
                rw [← hw11] at HW5 ⊢
                clear hw11 HW2 HNS HNL hk hlk
                have hxi : w11.cell? ⟨gl, ol + j, none⟩ = some (.string x) := HCX.out w11 HW5.out.be
                have b3 : gl < w11.heap.size := World.block_lt_of_cell? w11 _ hxi
                have hw1 : wrap64 ((j : Int) + 1) = ((j + 1 : Nat) : Int) := by have := HK1.out; unfold wrap64; omega
                by_cases hz : 0 < j
                · obtain ⟨j0, hj0⟩ : ∃ j0, j = j0 + 1 := ⟨j - 1, by omega⟩
                  have hjl0 : Hid (j0 < l.length) := by show _ < _; have := hjl.out; omega
                  obtain ⟨x0, hx0⟩ : ∃ x, x = l[j0]'hjl0.out := ⟨_, rfl⟩
                  have hxj : w11.cell? ⟨gl, ol + j0, none⟩ = some (.string x0) := by
                    obtain ⟨gl2, ol2, hA2, hgl2, hcl2⟩ := HRL.out.at hjl0.out
                    injection hA2 with hA2
                    injection hA2 with e1 e2
                    subst e1 e2
                    rw [← hx0] at hcl2
                    exact (HW5.out.be.cell (p := ⟨gl, ol + j0, none⟩) hgl2).trans hcl2
                  have hlss : Op.bytesLess x0.toList x.toList = true := by
                    have := (List.pairwise_iff_getElem.1 HASC.out) j0 j hjl0.out hjl.out (by omega)
                    rw [← hx0, ← HXE.out] at this
                    exact this
                  have hw2 : wrap64 ((j : Int) - 1) = (j0 : Int) := by have := HK1.out; unfold wrap64; omega
                  have hw3 : IntKind.i64.wrap ((j : Int) - 1) = (j0 : Int) := by have := HK1.out; rw [IntKind.wrap_i64]; omega
                  have hjn : j0 < q1 := by omega
                  have hz1 : decide ((0 : Int) < (j : Int)) = true := decide_eq_true (by omega)
                  have hz2 : decide (0 < j) = true := decide_eq_true hz
                  clear hx0 hj0
                  go_wp2_with fail
                  refine wp_region_later (by kernel_rfl) (by kernel_rfl) ?_; have hL : ∀ (w : World) (x : Later w) (b o : Nat), b < w.heap.size → x.to.cell? ⟨b, o, none⟩ = w.cell? ⟨b, o, none⟩ := fun w x b o hb => x.cell hb; have hN := Later.some; (repeat (go_big_quiet_step ((fail)))); refine wpQuiet_nil ?_; intro w12 hw12; have hb12 := Later.out hw12; clear hw12 hL hN
                  have HW6 := Lib.hid (HW5.out.below hb12)
                  clear hxi hxj hw2 hw3 hjn hb12 b3 HW5
                  go_wp2_with fail
                  go_round
                  case rel => exact ⟨j + 1, _, by omega, by go_num, rfl, HW6⟩
                  case measure =>
                    first
                    | (rw [hw1]; show q1 - ((j + 1 : Nat) : Int).toNat < q1 - ((j : Nat) : Int).toNat; rw [Int.toNat_natCast, Int.toNat_natCast]; omega)
                    | (show q1 - ((j : Int) + 1).toNat < q1 - ((j : Nat) : Int).toNat; omega)
                · have hz0 : j = 0 := by omega
                  subst hz0
                  clear hz hj
                  go_wp2_with fail
                  refine wp_region_later (by kernel_rfl) (by kernel_rfl) ?_; have hL : ∀ (w : World) (x : Later w) (b o : Nat), b < w.heap.size → x.to.cell? ⟨b, o, none⟩ = w.cell? ⟨b, o, none⟩ := fun w x b o hb => x.cell hb; have hN := Later.some; (repeat (go_big_quiet_step ((fail)))); refine wpQuiet_nil ?_; intro w12 hw12; have hb12 := Later.out hw12; clear hw12 hL hN
                  have HW6 := Lib.hid (HW5.out.below hb12)
                  clear hxi hb12 b3 HW5
                  go_wp2_with fail
                  go_round
                  case rel => exact ⟨1, _, by omega, by go_num, rfl, HW6⟩
                  case measure => show q1 - (1 : Int).toNat < q1 - (0 : Int).toNat; simp; omega
          · have hjq : j = q1 := Nat.le_antisymm hj (Nat.le_of_not_lt hlt)
            subst hjq
            have hflt : Hid ((l.take j).filter (inT m) = u) := by show _ = _; rw [HFIN.out, List.take_of_length_le (by rw [← HQ1.out]; exact Nat.le_refl _)]
            have HW2 : Hid (Wt w10 wr u (.slice Av qv cv)) := by have := HW.out; rw [hflt.out] at this; exact this
            have HQU : Hid (qv = u.length) := by have := HQV.out; rw [hflt.out] at this; exact this
            have HRV : Hid (RdS wr Av u) := by
              obtain ⟨A', c', hv, hr, -, -⟩ := HW2.out.ow.rds
              injection hv with e1
              subst e1
              exact hr
            have HRU2 : Hid (RdS wr A10 u) := HRU.out.later HW2.out.be
            have KX2 := Lib.hid (KX.out A10 q3 c10 u Av qv cv u wr HQ3.out HQU.out (Nat.le_trans HK3.out (by decide)) (by rw [HQU.out, ← HQ3.out]; exact Nat.le_trans HK3.out (by decide)) HRU2.out HRV.out)
            clear HW HQV hflt hj hlt KX
            go_wp2_with fail
            refine KX2.out.mono ?_
            rintro e w13 ⟨rfl, hb13⟩
            rw [show sameS u u = true from decide_eq_true rfl]
            have HB13 : Hid (Below w.heap.size w w13) := (HBE.out.trans (HW2.out.be.mono HBE.out.size)).trans (hb13.mono (Nat.le_trans HBE.out.size HW2.out.be.size))
            clear hb13 KX2
            go_wp2_with fail
            go_ret
            exact ⟨rfl, HB13.out⟩
end labelsBoth
end Go.Proofs.Ytldijginplgikaa
