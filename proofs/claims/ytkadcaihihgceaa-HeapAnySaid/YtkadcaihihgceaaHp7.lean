/- slices.Clone of entries; Sorted. Condition: at most 900 entries. -/
import Derived.Test.YtkadcaihihgceaaHp6
import Derived.Lib.SliceRun
namespace Go.Proofs.Ytkadcaihihgceaa
open Go.RowKit
set_option linter.unusedSimpArgs false
set_option linter.unusedVariables false
/-- How long a slice is. -/
def slenV : Value → Nat | .slice _ n _ => n | _ => 0
theorem infoXP : (Try.prog.info? 27).map (fun i => (i.zero, i.size, i.bytes)) = some (some (.agg #[.int .i64 0, .int .i64 0]), 2, 16) := by kernel_rfl
theorem infoXS : (Try.prog.info? 9).map (fun i => (i.zero, i.size, i.bytes)) = some (some (.string ⟨#[]⟩), 1, 16) := by kernel_rfl
theorem oneXP {a b : Int} : ∀ y ∈ [[Value.int .i64 a, .int .i64 b]], ∀ u ∈ y, u.oneCell' = true := by
  intro y hy u hu
  simp only [List.mem_cons, List.not_mem_nil, or_false] at hy
  subst hy
  simp only [List.mem_cons, List.not_mem_nil, or_false] at hu
  rcases hu with rfl | rfl <;> rfl
theorem oneXS {a : ByteArray} : ∀ y ∈ [[Value.string a]], ∀ u ∈ y, u.oneCell' = true := by
  intro y hy u hu
  simp only [List.mem_cons, List.not_mem_nil, or_false] at hy
  subst hy
  simp only [List.mem_cons, List.not_mem_nil, or_false] at hu
  subst hu; rfl
/-- The cells of the elements alone. -/
abbrev cP (x : Px × Int) : List Value := [.int .i64 x.1.1, .int .i64 x.1.2]
abbrev cS (x : ByteArray × Int) : List Value := [.string x.1]
/-- A row stays where a block of another type turns. -/
theorem OwnK.grp2 {w w' : World} {b k g : Nat} {e t : TypeId} {v : Value} {l : List (List Value)} {cs : Array Value} (h : OwnK w b e k v l) (hg : w.grownBy w' (some g)) (hB : Bk w g t cs) (hne : e ≠ t) : OwnK w' b e k v l :=
  h.grp (GrP.of hg) fun q hq e => by
    injection e with e
    subst e
    rcases h.notBk hB hne with h1 | h1
    · rw [h1] at hq; cases hq
    · exact h1 hq
theorem encP_k (l : List (Px × Int)) : ∀ x ∈ l.map eP, x.length = 3 := by
  intro x hx
  obtain ⟨y, _, rfl⟩ := List.mem_map.1 hx
  rfl
theorem encP_one (l : List (Px × Int)) : ∀ x ∈ l.map eP, ∀ u ∈ x, u.oneCell' = true := by
  intro x hx
  obtain ⟨y, _, rfl⟩ := List.mem_map.1 hx
  exact eP_one y
set_option maxHeartbeats 2000000 in
set_option maxRecDepth 100000 in
theorem cloneP_any (A : Option Addr) (n c : Nat) (l : List (Px × Int)) (w : World) (hn : Hid (n = l.length)) (hr : Hid (RdK w 3 A (l.map eP))) (hbig : n ≤ 1000) :
    Calls Try.prog 32 #[.slice A n c] w fun e w' => ∃ v, e = .returned v ∧ OwnK w' w.heap.size 62 3 v (l.map eP) ∧ Below w.heap.size w w' := by
  have q22 : ∀ (w : World) (a : Option Addr) (n c n' c' : Nat), (binOp .eql 58 (.slice a n c) (.slice none n' c')).run Try.prog w = .ok (.bool a.isNone) w := fun w a n c n' c' => Lib.run_eql_slice_nil w _ _ a n c n' c' Try.underlying58
  cases A with
  | none =>
    have hl : l = [] := by
      cases l with
      | nil => rfl
      | cons x r => obtain ⟨_, _, ha, _⟩ := hr.out 0 _ (by simp; rfl); cases ha
    have HL := Lib.hid hl
    clear hl
    go_enter Try.func32, Try.ntmps32
    go_wp2
    go_ret
    exact ⟨_, rfl, by rw [HL.out]; exact OwnK.nil _ _ _ _, Below.refl _ _⟩
  | some a =>
    have hr2 := Lib.hid (hr.out.later ((Below.refl w.heap.size w).alloc (Nat.le_refl _) (.cells #[] 62)))
    have hlen : (l.map eP).length = n := by rw [List.length_map, hn.out]
    have HLen := Lib.hid hlen
    clear hlen
    go_enter Try.func32, Try.ntmps32
    go_wp2_with ((with_reducible refine append_k _ rfl (.tmp 5) (.tmp 6) 58 rfl w.heap.size 62 _ 3 24 Try.underlying58 infoEP rfl (by omega) (.slice (some ⟨w.heap.size, 0, none⟩) 0 0) [] rfl (OwnK.empty w w.heap.size 62 3 (Nat.le_refl _) rfl) a c n (l.map eP) rfl hr2.out (encP_k l) (encP_one l) HLen.out.symm (by have := HLen.out; simp only [List.length_nil, maxLen]; omega) (by have := HLen.out; simp only [List.length_nil]; omega) (by simp) ?_); intro v' w1 hown hgrow)
    go_ret
    refine ⟨v', rfl, by simpa using hown, ?_⟩
    exact ((Below.refl _ w).alloc (Nat.le_refl _) _).grown hgrow (by simp) (by intro k hk; simp [Value.ownBlock] at hk; omega)
/-- While a heap q is emptied: k elements stand in the row v, the heap holds those from j on. -/
structure SoPR (w wr : World) (q : Nat) (F : Value) (lt : Px → Px → Bool) (M : Int) (B : List (Px × Int)) (k j : Nat) (v vH : Value) (l : List (Px × Int)) : Prop where
  ow : OwnK wr w.heap.size 27 2 v ((B.take k).map cP)
  hp : HpP wr w.heap.size q F vH 0 l
  hol : Hol lt M l (B.drop j)
  be : Below w.heap.size w wr
section
variable {w wr w' : World} {q : Nat} {F : Value} {lt : Px → Px → Bool} {M : Int} {B : List (Px × Int)} {k j : Nat} {v vH v' : Value} {l l' : List (Px × Int)}
theorem SoPR.offH (H : SoPR w wr q F lt M B k j v vH l) {g : Nat} (hg : v.ownBlock = some g) (hb : HpB q vH g) : False := by
  rcases hb with e | e
  · subst e
    rcases H.ow.notBk H.hp.bk (by decide) with h1 | h1
    · rw [h1] at hg; cases hg
    · exact h1 hg
  · exact H.ow.parted H.hp.ow (by decide) hg e
theorem SoPR.below (H : SoPR w wr q F lt M B k j v vH l) (hb : Below wr.heap.size wr w') : SoPR w w' q F lt M B k j v vH l := ⟨H.ow.below hb, H.hp.below hb, H.hol, H.be.trans (hb.mono H.be.size)⟩
theorem SoPR.pop (H : SoPR w wr q F lt M B k j v vH l) (hu : UpP wr w' w.heap.size q F vH 0 l') (ho : Hol lt M l' (B.drop j).tail) : ∃ vH', SoPR w w' q F lt M B k (j + 1) v vH' l' := by
  obtain ⟨⟨vH', h1, h2⟩, h3⟩ := hu
  refine ⟨vH', H.ow.grp h3 fun g hg hb => H.offH hg hb, h1, by rw [List.tail_drop] at ho; exact ho, H.be.trans (h3.below H.be.size fun i hi => (H.hp.blk hi).1)⟩
theorem SoPR.app (H : SoPR w wr q F lt M B k j v vH l) (hk : k < B.length) (hO : OwnK w' w.heap.size 27 2 v' ((B.take k).map cP ++ [cP B[k]])) (hg : wr.grownBy w' v.ownBlock) : SoPR w w' q F lt M B (k + 1) j v' vH l := by
  refine ⟨?_, H.hp.grp (GrP.of hg) fun i hi e => H.offH e hi, H.hol, H.be.grown hg H.be.size fun i hi => H.ow.block i hi⟩
  rw [List.take_succ_eq_append_getElem hk, List.map_append]
  exact hO
theorem SoPR.aside (H : SoPR w wr q F lt M B k j v vH l) {p : Nat} {cs : Array Value} (hB : Bk wr p 27 cs) (hv : v.ownBlock ≠ some p) (hp : w.heap.size ≤ p) (hg : wr.grownBy w' (some p)) : SoPR w w' q F lt M B k j v vH l := by
  refine ⟨H.ow.grp (GrP.of hg) fun i hi e => hv (by rw [hi]; exact e.symm), H.hp.grp (GrP.of hg) fun i hi e => ?_, H.hol, H.be.grown hg H.be.size fun i hi => by injection hi with hi; omega⟩
  have e : p = i := Option.some.inj e
  subst e
  rcases hi with e | e
  · subst e
    have := hB.symm.trans H.hp.bk
    injection this with this
    injection this with _ this
    exact absurd this (by decide)
  · rcases H.hp.ow.notBk hB (by decide) with h1 | h1
    · rw [h1] at e; cases e
    · exact h1 e
theorem SoPR.len (H : SoPR w wr q F lt M B k j v vH l) : l.length ≤ B.length := by
  have := H.hol.len
  rw [List.length_drop] at this; omega
theorem SoPR.sl (H : SoPR w wr q F lt M B k j v vH l) (hk : k ≤ B.length) : ∃ A c, v = .slice A k c := by
  obtain ⟨A, c, hv, _⟩ := H.ow.sl
  rw [List.length_map, List.length_take, Nat.min_eq_left hk] at hv
  exact ⟨A, c, hv⟩
theorem curP_drop (B : List (Px × Int)) {k : Nat} (hk : k < B.length) : curP (B.drop k) = B[k].1 := by
  rw [List.drop_eq_getElem_cons hk]; rfl
end
set_option maxHeartbeats 12800000 in
set_option maxRecDepth 100000 in
/-- All entries, the first one first. -/
theorem sortedP_any (b h : Nat) (v : Value) (m M : Int) (l B : List (Px × Int)) (w : World) (hbig : l.length ≤ 900) (hH : Hid (HpP w b h (.func (.func 10) #[] #[]) v m l)) (hA : Hid (Hol ltP M l B)) :
    Calls Try.prog 21 #[.pointer (some ⟨h, 0, none⟩)] w fun e w' => ∃ r, e = .returned r ∧ OwnK w' w.heap.size 27 2 r (B.map cP) ∧ Below w.heap.size w w' := by
  obtain ⟨A, c, hv, hc1, hc2, har⟩ := hH.out.sl
  subst hv
  have hlen : l.length = B.length := hA.out.len
  have K1 := Lib.hid (fun (W : World) (hb : Below w.heap.size w W) => lenP_any b h (.func (.func 10) #[] #[]) _ m l W (Lib.hid (hH.out.below hb)))
  have hc : w.cell? ⟨h, 1, none⟩ = some (.slice A l.length c) := hH.out.bk.cellAt 1
  by_cases hl : l = []
  · have hz : ((l.length : Int) == 0) = true := by simp [hl]
    have hB : Hid (B = []) := List.length_eq_zero_iff.1 (by rw [← hlen, hl]; rfl)
    clear hl har hlen
    go_enter Try.func21, Try.ntmps21
    go_wp2_with fail
    refine (K1.out _ (Below.refl _ _)).mono ?_; rintro e w1 ⟨rfl, hw1⟩; rw [hw1]; clear hw1 w1
    go_wp2_with fail
    go_ret
    exact ⟨_, rfl, by rw [hB.out]; exact OwnK.nil _ _ _ _, Below.refl _ _⟩
  · have hz : ((l.length : Int) == 0) = false := by simp; exact hl
    obtain ⟨n, hn⟩ : ∃ n, n = l.length := ⟨_, rfl⟩
    rw [← hn] at hc1 hz hbig hc K1
    obtain ⟨iX, hi1, hi2, hi3, hi4⟩ := info_partsK infoXP
    have HN := Lib.hid hn; have HLEN := Lib.hid hlen
    have HI1 := Lib.hid hi1; have HI2 := Lib.hid hi2; have HI3 := Lib.hid hi3; have HI4 := Lib.hid hi4
    have hHn : Hid (HpP w b h (.func (.func 10) #[] #[]) (.slice A n c) m l) := hn ▸ hH
    have HRD : Hid (RdK w 3 A (l.map eP)) := by
      obtain ⟨A', c', hv', hr', _⟩ := hHn.out.ow.sl
      injection hv' with e1 e2; subst e1; exact hr'
    have KC := Lib.hid (fun (W : World) (hb : Below w.heap.size w W) => cloneP_any A n c l W HN (Lib.hid (HRD.out.later hb)) (by omega))
    clear hl har hlen hi1 hi2 hi3 hi4 hn
    go_enter Try.func21, Try.ntmps21
    go_wp2_with fail
    refine (K1.out _ (Below.refl _ _)).mono ?_; rintro e w0 ⟨rfl, hw0⟩; rw [hw0]; clear hw0 w0
    go_wp2_with (with_reducible refine wpList_make_own _ rfl _ (.tmp 14) 30 rfl w.heap.size 27 iX _ 2 Try.underlying30 HI1.out HI2.out HI3.out .i64 .i64 _ n rfl rfl rfl (by rw [HI4.out]; omega) (by simp [maxLen]; omega) (Nat.le_refl _) ?_; intro w1 hO1' hg1)
    have hb1 : Below w.heap.size w w1 := grown_base hg1 (Nat.le_refl _) (by simp)
    have hO1 : OwnK w1 w.heap.size 27 2 (.slice (some ⟨w.heap.size, 0, none⟩) 0 n) [] := ⟨by simp, by simpa using hO1'⟩
    have HB1 : Hid (Bk w1 h 60 #[(.func (.func 10) #[] #[]), .slice A n c, .int .i64 m]) := hHn.out.bk.later hb1
    replace KC := Lib.hid (fun (W : World) (hb : Below w1.heap.size w1 W) => KC.out W (hb1.trans (hb.mono hb1.size)))
    clear hO1' hg1 hc K1
    refine wp_region_held_drew (S := fun W => Below w1.heap.size w1 W) (by kernel_rfl) (Below.drew (Below.refl _ _)) (fun hS0 => ?_)
    refine wpAnyH_take (i := 0) (v := ?_) rfl (by kernel_rfl) (by kernel_rfl) (by kernel_rfl) (fun _ _ _ h => h) (Or.inl ⟨by rfl, ?_⟩) hS0 ?_
    rotate_left
    · intro W _; go_simp; try with_reducible rfl
    try simp only [Act.put, List.getElem_toArray, List.getElem_cons_zero, List.setIfInBounds_toArray, List.set_cons_zero, List.set_cons_succ]
    refine wpAnyH_take (i := 1) (v := ?_) rfl (by kernel_rfl) (by kernel_rfl) (by kernel_rfl) (fun _ _ _ h => h) (Or.inl ⟨by rfl, ?_⟩) hS0 ?_
    rotate_left
    · intro W _; go_simp; try with_reducible rfl
    try simp only [Act.put, List.getElem_toArray, List.getElem_cons_zero, List.getElem_cons_succ, List.setIfInBounds_toArray, List.set_cons_zero, List.set_cons_succ]
    refine wpAnyH_take (i := 2) (v := ?_) rfl (by kernel_rfl) (by kernel_rfl) (by kernel_rfl) (fun _ _ _ h => h) (Or.inl ⟨by rfl, ?_⟩) hS0 ?_
    rotate_left
    · intro W _; go_simp; try with_reducible rfl
    try simp only [Act.put, List.getElem_toArray, List.getElem_cons_zero, List.getElem_cons_succ, List.setIfInBounds_toArray, List.set_cons_zero, List.set_cons_succ]
    refine wpAnyH_take (i := 3) (v := ?_) rfl (by kernel_rfl) (by kernel_rfl) (by kernel_rfl) (fun _ _ _ h => h) (Or.inl ⟨by rfl, ?_⟩) hS0 ?_
    rotate_left
    · intro W hSW; have hx := (HB1.out.later hSW).cellAt 0; try simp only [List.getElem?_toArray, List.getElem?_cons_succ, List.getElem?_cons_zero] at hx; go_simp; try with_reducible rfl
    try simp only [Act.put, List.getElem_toArray, List.getElem_cons_zero, List.getElem_cons_succ, List.setIfInBounds_toArray, List.set_cons_zero, List.set_cons_succ]
    refine wpAnyH_take (i := 4) (v := ?_) rfl (by kernel_rfl) (by kernel_rfl) (by kernel_rfl) (fun _ _ _ h => h) (Or.inl ⟨by rfl, ?_⟩) hS0 ?_
    rotate_left
    · intro W _; go_simp; try with_reducible rfl
    try simp only [Act.put, List.getElem_toArray, List.getElem_cons_zero, List.getElem_cons_succ, List.setIfInBounds_toArray, List.set_cons_zero, List.set_cons_succ]
    refine wpAnyH_take (i := 5) (v := ?_) rfl (by kernel_rfl) (by kernel_rfl) (by kernel_rfl) (fun _ _ _ h => h) (Or.inl ⟨by rfl, ?_⟩) hS0 ?_
    rotate_left
    · intro W _; go_simp; try with_reducible rfl
    try simp only [Act.put, List.getElem_toArray, List.getElem_cons_zero, List.getElem_cons_succ, List.setIfInBounds_toArray, List.set_cons_zero, List.set_cons_succ]
    refine wpAnyH_take (i := 6) (v := ?_) rfl (by kernel_rfl) (by kernel_rfl) (by kernel_rfl) (fun _ _ _ h => h) (Or.inl ⟨by rfl, ?_⟩) hS0 ?_
    rotate_left
    · intro W _; go_simp; try with_reducible rfl
    try simp only [Act.put, List.getElem_toArray, List.getElem_cons_zero, List.getElem_cons_succ, List.setIfInBounds_toArray, List.set_cons_zero, List.set_cons_succ]
    refine wpAnyH_take (i := 7) (v := ?_) rfl (by kernel_rfl) (by kernel_rfl) (by kernel_rfl) (fun _ _ _ h => h) (Or.inl ⟨by rfl, ?_⟩) hS0 ?_
    rotate_left
    · intro W hSW; have hx := (HB1.out.later hSW).cellAt 1; try simp only [List.getElem?_toArray, List.getElem?_cons_succ, List.getElem?_cons_zero] at hx; go_simp; try with_reducible rfl
    try simp only [Act.put, List.getElem_toArray, List.getElem_cons_zero, List.getElem_cons_succ, List.setIfInBounds_toArray, List.set_cons_zero, List.set_cons_succ]
    refine wpAnyH_ready (rs := [8, 10]) (by kernel_rfl) (by simp) ?_
    refine (AllReadyH.cons rfl (fun K hK => ?_) (AllReadyH.cons rfl (fun K hK => ?_) AllReadyH.nil))
    · go_simp
      refine (KC.out _ hS0).mono ?_
      rintro e w2 ⟨vC, rfl, hC2, hb2⟩
      obtain ⟨aC, cC, hvC, _, _, _, _⟩ := hC2.sl
      rw [List.length_map] at hvC
      subst hvC
      have HC2 := Lib.hid hC2
      go_simp
      refine hK.out _ _ (hS0.trans (hb2.mono hS0.size)) (fun hS1 => ?_)
      clear hK K
      try simp only [Act.put, List.getElem_toArray, List.getElem_cons_zero, List.getElem_cons_succ, List.setIfInBounds_toArray, List.set_cons_zero, List.set_cons_succ]
      refine wpAnyH_take (i := 9) (v := ?_) rfl (by kernel_rfl) (by kernel_rfl) (by kernel_rfl) (fun _ _ _ h => h) (Or.inl ⟨by rfl, ?_⟩) hS1 ?_
      rotate_left
      · intro W _; go_simp; try with_reducible rfl
      try simp only [Act.put, List.getElem_toArray, List.getElem_cons_zero, List.getElem_cons_succ, List.setIfInBounds_toArray, List.set_cons_zero, List.set_cons_succ]
      refine wpAnyH_ready (rs := [10]) (by kernel_rfl) (by simp) ?_
      refine AllReadyH.cons rfl (fun K hK => ?_) AllReadyH.nil
      go_simp
      obtain ⟨W3, hW3⟩ : ∃ W, W = w2.alloc (.cells #[.nilFunc, .slice none 0 0, .int .i64 0] 60) := ⟨_, rfl⟩
      rw [← hW3]
      have HZ3 : Hid (Bk W3 w2.heap.size 60 #[.nilFunc, .slice none 0 0, .int .i64 0]) := by rw [hW3]; exact Bk.fresh _ _ _
      have hb3 : Below w2.heap.size w2 W3 := by rw [hW3]; exact (Below.refl _ _).alloc (Nat.le_refl _) _
      have HC3 := Lib.hid (HC2.out.below hb3)
      have HQ : Hid (w1.heap.size ≤ w2.heap.size) := (show w1.heap.size ≤ w2.heap.size from hb2.size)
      have HQC : Hid (w1.heap.size ≤ w1.drew.heap.size) := Nat.le_refl _
      clear HC2 hC2 hW3
      refine hK.out _ _ (hS1.trans (hb3.mono hS1.size)) (fun hS2 => ?_)
      clear hK K
      try simp only [Act.put, List.getElem_toArray, List.getElem_cons_zero, List.getElem_cons_succ, List.setIfInBounds_toArray, List.set_cons_zero, List.set_cons_succ]
      refine wpAnyH_ready (rs := [11]) (by kernel_rfl) (by simp) ?_
      refine AllReadyH.cons rfl (fun K hK => ?_) AllReadyH.nil
      rw [if_pos (by rfl)]
      refine store_bk_op 60 (.tmp 4) (.tmp 25) rfl w2.heap.size 0 #[(.func (.func 10) #[] #[]), .slice aC l.length cC, .int .i64 0] rfl rfl 60 #[.nilFunc, .slice none 0 0, .int .i64 0] #[(.func (.func 10) #[] #[]), .slice aC l.length cC, .int .i64 0] HZ3.out (by kernel_rfl) (by simp) (by kernel_rfl) rfl ?_
      intro w4 hB4 hg4 hs4
      have hs3 := hS2
      have hp4 : HpP w4 w1.heap.size w2.heap.size (.func (.func 10) #[] #[]) (.slice aC l.length cC) 0 l := ⟨hB4, (HC3.out.base HQC.out).grp2 hg4 HZ3.out (by decide), HQ.out⟩
      have hb4 : Below w1.heap.size w1 w4 := hs3.grown hg4 hs3.size (fun q e => by have e' := Option.some.inj e; have h2 := HQ.out; omega)
      have HP4 := Lib.hid hp4
      clear hB4 hg4 hs4
      refine hK.out _ _ (hb4) (fun hS3 => ?_)
      clear hK K
      try simp only [Act.put, List.getElem_toArray, List.getElem_cons_zero, List.getElem_cons_succ, List.setIfInBounds_toArray, List.set_cons_zero, List.set_cons_succ]
      refine wpAnyH_done (by kernel_rfl) ?_ _
      have hbb := hb1.trans (hb4.mono hb1.size)
      have hO4 := hO1.below hb4
      obtain ⟨q, hq⟩ : ∃ q, q = w2.heap.size := ⟨_, rfl⟩
      have HR4 : Hid (SoPR w w4 q (.func (.func 10) #[] #[]) ltP M B 0 0 (.slice (some ⟨w.heap.size, 0, none⟩) 0 n) (.slice aC l.length cC) l) := ⟨by simpa using hO4, by rw [hq]; exact hp4.base hb1.size, hA.out, hbb⟩
      rw [← hq]
      have HBL : Hid (B.length ≤ 900) := by show B.length ≤ 900; rw [← HLEN.out, ← HN.out]; exact hbig
      have KP := Lib.hid (fun (W : World) (vH : Value) (l' C : List (Px × Int)) (hl : l'.length ≤ 900) (H : HpP W w.heap.size q (.func (.func 10) #[] #[]) vH 0 l') (h : Hol ltP M l' C) => popP_any w.heap.size q (.func (.func 10) #[] #[]) vH 0 M l' C ltP W (by omega) ⟨rfl, rfl⟩ ltP_ok (Lib.hid H) (Lib.hid h))
      clear hS0 hO4 hp4 hb4 hbb hq HP4 HC3 HZ3 HQ HQC
      go_wp2_with fail
      refine (KP.out w4 _ l _ (by have h1 := HR4.out.len; have h2 := HBL.out; omega) HR4.out.hp HR4.out.hol).mono ?_; rintro e w5 ⟨rfl, l5, hu5, ho5⟩
      obtain ⟨vH5, hR5⟩ := HR4.out.pop hu5 ho5
      have HR5 := Lib.hid hR5
      clear hu5 ho5 hR5 HR4
      obtain ⟨⟨z1, z2⟩, hz0⟩ : ∃ y, y = curP (B.drop 0) := ⟨_, rfl⟩
      rw [← hz0]
      have HZ0 := Lib.hid hz0
      clear hz0
      go_wp2_with fail
      obtain ⟨w6, hw6⟩ : ∃ W, W = w5.alloc (.cells #[.int .i64 z1, .int .i64 z2] 27) := ⟨_, rfl⟩
      rw [← hw6]
      have HX6 : Hid (Bk w6 w5.heap.size 27 (arrP (curP (B.drop 0)))) := by rw [hw6, ← HZ0.out]; exact Bk.fresh _ _ _
      have hb6 : Below w5.heap.size w5 w6 := by rw [hw6]; exact (Below.refl _ _).alloc (Nat.le_refl _) _
      have HR6 := Lib.hid (HR5.out.below hb6)
      have HV6 : Hid ((Value.slice (some ⟨w.heap.size, 0, none⟩) 0 n).ownBlock ≠ some w5.heap.size) := fun e => by have := HR5.out.ow.lt e; omega
      have HP6 : Hid (w.heap.size ≤ w5.heap.size) := HR5.out.be.size
      clear hw6 hb6 HR5
      go_loopw [3, 5, 6] (fun s3 s5 s6 wr => ∃ (k : Nat) (v vH : Value) (p : Nat) (d : Bool) (l' : List (Px × Int)), k ≤ B.length ∧ s3 = v ∧ s5 = .pointer (some ⟨p, 0, none⟩) ∧ s6 = .bool d ∧ Hid (d = decide (k < B.length)) ∧ Hid (SoPR w wr q (.func (.func 10) #[] #[]) ltP M B k (k + 1) v vH l') ∧ Hid (Bk wr p 27 (arrP (curP (B.drop k)))) ∧ Hid (v.ownBlock ≠ some p) ∧ Hid (w.heap.size ≤ p)) (fun s3 s5 s6 wr => B.length + 1 - slenV s3)
      case atStart => exact ⟨0, _, vH5, w5.heap.size, _, l5, Nat.zero_le _, rfl, rfl, rfl, by show _ = _; simp, HR6, HX6, HV6, HP6⟩
      case round =>
        clear HR6 HX6 HV6 HP6
        obtain ⟨k, v, vH, p, d, l', hk, rfl, rfl, rfl, HD, HR, HX, HV, HP⟩ := hrel
        obtain ⟨aV, cV, hv⟩ := HR.out.sl hk
        subst hv
        cases d
        case true =>
          have hkB : k < B.length := by have := HD.out; simpa using this.symm
          obtain ⟨⟨⟨x1, x2⟩, xt⟩, hx⟩ : ∃ x, x = B[k] := ⟨_, rfl⟩
          have hcx : curP (B.drop k) = (x1, x2) := by rw [curP_drop B hkB, ← hx]
          rw [hcx] at HX
          have HKB := Lib.hid hkB
          have HXE := Lib.hid hx
          have HA : Hid (SoPR w (wr.alloc (.cells #[.int .i64 x1, .int .i64 x2] 27)) q (.func (.func 10) #[] #[]) ltP M B k (k + 1) (.slice aV k cV) vH l') := HR.out.below ((Below.refl _ _).alloc (Nat.le_refl _) _)
          have HXA : Hid (Bk (wr.alloc (.cells #[.int .i64 x1, .int .i64 x2] 27)) p 27 #[.int .i64 x1, .int .i64 x2]) := HX.out.later ((Below.refl _ _).alloc (Nat.le_refl _) _)
          have HFR : Hid (Bk (wr.alloc (.cells #[.int .i64 x1, .int .i64 x2] 27)) wr.heap.size 27 #[.int .i64 x1, .int .i64 x2]) := Bk.fresh _ _ _
          have HTL : Hid (((B.take k).map cP).length = k) := by show _ = _; rw [List.length_map, List.length_take, Nat.min_eq_left hk]
          have HB8 : Hid (((B.take k).map cP).length + [[Value.int .i64 x1, .int .i64 x2]].length ≤ maxLen) := by show _ ≤ _; rw [HTL.out]; have := HBL.out; show k + 1 ≤ _; unfold maxLen; omega
          have HB9 : Hid ((((B.take k).map cP).length + [[Value.int .i64 x1, .int .i64 x2]].length) * 16 ≤ 140737488355328) := by show _ ≤ _; rw [HTL.out]; have := HBL.out; show (k + 1) * 16 ≤ _; omega
          have HBA : Hid (∀ y ∈ [[Value.int .i64 x1, .int .i64 x2]], y.length = 2) := by intro y hy; simp only [List.mem_cons, List.not_mem_nil, or_false] at hy; subst hy; rfl
          clear hx hcx
          go_wp2_with (first
            | (with_reducible refine load_bk rfl 27 _ rfl p 0 rfl 27 #[.int .i64 x1, .int .i64 x2] #[.int .i64 x1, .int .i64 x2] _ HX.out (Part.whole _) Try.underlying27 rfl (by kernel_rfl) ?_)
            | ((with_reducible refine append_ka _ rfl (.tmp 35) (.tmp 37) 30 rfl w.heap.size 27 _ 2 16 Try.underlying30 infoXP rfl (by omega) (.slice aV k cV) _ rfl HA.out.ow ⟨wr.heap.size, 0, none⟩ 1 1 [[.int .i64 x1, .int .i64 x2]] rfl (RdK.of_bk HFR.out) HBA.out oneXP rfl HB8.out HB9.out HA.out.be.size ?_); intro v6 w6 hO6 hg6 hat6; obtain ⟨a6, c6, hv6, _, _, _, _⟩ := hO6.sl; generalize hnQ : ((B.take k).map cP ++ [[Value.int .i64 x1, .int .i64 x2]]).length = nQ at hv6; subst hv6; have HO6 := Lib.hid hO6; have HG6 := Lib.hid hg6; have HX6 : Hid (Bk w6 p 27 #[.int .i64 x1, .int .i64 x2]) := HXA.out.stays hg6 (fun e => HV.out e.symm); have HNQ : Hid (nQ = k + 1) := (by show nQ = k + 1; rw [← hnQ, List.length_append, HTL.out]; rfl); clear hO6 hg6 hat6 hnQ)
            | (with_reducible refine load_bk rfl 27 _ rfl p 0 rfl 27 #[.int .i64 x1, .int .i64 x2] #[.int .i64 x1, .int .i64 x2] _ HX6.out (Part.whole _) Try.underlying27 rfl (by kernel_rfl) ?_))
          have HR6 : Hid (SoPR w w6 q (.func (.func 10) #[] #[]) ltP M B (k + 1) (k + 1) (.slice a6 nQ c6) vH l') := HA.out.app HKB.out (by rw [← HXE.out]; exact HO6.out) HG6.out
          obtain ⟨w7, hw7⟩ : ∃ W, W = w6.alloc (.cells #[.int .i64 x1, .int .i64 x2] 27) := ⟨_, rfl⟩
          rw [← hw7]
          have HX7 : Hid (Bk w7 w6.heap.size 27 #[.int .i64 x1, .int .i64 x2]) := by rw [hw7]; exact Bk.fresh _ _ _
          have hb7 : Below w6.heap.size w6 w7 := by rw [hw7]; exact (Below.refl _ _).alloc (Nat.le_refl _) _
          have HR7 := Lib.hid (HR6.out.below hb7)
          have HV7 : Hid ((Value.slice a6 nQ c6).ownBlock ≠ some w6.heap.size) := fun e => by have := HR6.out.ow.lt e; omega
          have HP7 : Hid (w.heap.size ≤ w6.heap.size) := HR6.out.be.size
          clear hw7 hb7 HR6 HO6 HG6 HX6 HFR HXA HA HX HR HV HP
          refine (KP.out w7 _ l' _ (by have h1 := HR7.out.len; have h2 := HBL.out; omega) HR7.out.hp HR7.out.hol).mono ?_; rintro e w8 ⟨rfl, l8, hu8, ho8⟩
          have HX8 : Hid (Bk w8 w6.heap.size 27 #[.int .i64 x1, .int .i64 x2]) := HX7.out.grp hu8.2 (fun hb => by
            rcases hb with e | e
            · have h1 := HX7.out.symm.trans (e ▸ HR7.out.hp.bk)
              injection h1 with h1; injection h1 with _ h1; exact absurd h1 (by decide)
            · rcases HR7.out.hp.ow.notBk HX7.out (by decide) with h1 | h1
              · rw [h1] at e; cases e
              · exact h1 e)
          obtain ⟨vH8, hR8⟩ := HR7.out.pop hu8 ho8
          have HR8 := Lib.hid hR8
          obtain ⟨⟨y1, y2⟩, hy⟩ : ∃ y, y = curP (B.drop (k + 1)) := ⟨_, rfl⟩
          rw [← hy]
          have HY := Lib.hid hy
          clear hu8 ho8 hR8 hy HR7 HX7
          go_wp2_with (with_reducible refine store_bk rfl 27 _ _ rfl w6.heap.size 0 #[.int .i64 y1, .int .i64 y2] rfl rfl 27 #[.int .i64 x1, .int .i64 x2] _ HX8.out (by kernel_rfl) (by simp) (by kernel_rfl) rfl ?_; intro w9 hB9 hg9 hs9)
          have HR9 := Lib.hid (HR8.out.aside HX8.out HV7.out HP7.out hg9)
          have HX9 : Hid (Bk w9 w6.heap.size 27 (arrP (curP (B.drop (k + 1))))) := by rw [← HY.out]; exact hB9
          clear hB9 hg9 hs9
          go_round
          case rel => exact ⟨k + 1, _, vH8, w6.heap.size, _, l8, HKB.out, rfl, rfl, rfl, (by show _ = _; first | rfl | exact decide_eq_decide.2 (by first | omega | (simp only [List.length_drop]; omega))), HR9, HX9, HV7, HP7⟩
          case measure => have := HNQ.out; have := HKB.out; simp [slenV]; omega
        case false =>
          have hkB : ¬ k < B.length := by have := HD.out; simpa using this.symm
          have hkE : k = B.length := by omega
          go_wp2_with fail
          go_ret
          have h1 := HR.out.ow
          rw [List.take_of_length_le (by omega)] at h1
          exact ⟨_, rfl, h1, HR.out.be⟩
    · go_simp
      obtain ⟨W2, hW2⟩ : ∃ W, W = (w1.alloc (.cells #[.nilFunc, .slice none 0 0, .int .i64 0] 60)).drew := ⟨_, rfl⟩
      rw [← hW2]
      have HZ2 : Hid (Bk W2 w1.heap.size 60 #[.nilFunc, .slice none 0 0, .int .i64 0]) := by rw [hW2]; exact (Bk.fresh _ _ _).drewB
      have hb2 : Below w1.heap.size w1 W2 := by rw [hW2]; exact Below.drew ((Below.refl _ _).alloc (Nat.le_refl _) _)
      clear hW2
      refine hK.out _ _ (hb2) (fun hS1 => ?_)
      clear hK K
      try simp only [Act.put, List.getElem_toArray, List.getElem_cons_zero, List.getElem_cons_succ, List.setIfInBounds_toArray, List.set_cons_zero, List.set_cons_succ]
      refine wpAnyH_ready (rs := [8]) (by kernel_rfl) (by simp) ?_
      refine AllReadyH.cons rfl (fun K hK => ?_) AllReadyH.nil
      go_simp
      refine (KC.out _ hS1).mono ?_
      rintro e W3 ⟨vC, rfl, hC3, hb3⟩
      obtain ⟨aC, cC, hvC, _, _, _, _⟩ := hC3.sl
      rw [List.length_map] at hvC
      subst hvC
      have HC3 := Lib.hid hC3
      have HZ3 := Lib.hid (HZ2.out.later hb3)
      have HQ : Hid (w1.heap.size ≤ w1.heap.size) := Nat.le_refl _
      have HQC : Hid (w1.heap.size ≤ W2.heap.size) := hb2.size
      clear hC3
      go_simp
      refine hK.out _ _ (hS1.trans (hb3.mono hS1.size)) (fun hS2 => ?_)
      clear hK K
      try simp only [Act.put, List.getElem_toArray, List.getElem_cons_zero, List.getElem_cons_succ, List.setIfInBounds_toArray, List.set_cons_zero, List.set_cons_succ]
      refine wpAnyH_take (i := 9) (v := ?_) rfl (by kernel_rfl) (by kernel_rfl) (by kernel_rfl) (fun _ _ _ h => h) (Or.inl ⟨by rfl, ?_⟩) hS2 ?_
      rotate_left
      · intro W _; go_simp; try with_reducible rfl
      try simp only [Act.put, List.getElem_toArray, List.getElem_cons_zero, List.getElem_cons_succ, List.setIfInBounds_toArray, List.set_cons_zero, List.set_cons_succ]
      refine wpAnyH_ready (rs := [11]) (by kernel_rfl) (by simp) ?_
      refine AllReadyH.cons rfl (fun K hK => ?_) AllReadyH.nil
      rw [if_pos (by rfl)]
      refine store_bk_op 60 (.tmp 4) (.tmp 25) rfl w1.heap.size 0 #[(.func (.func 10) #[] #[]), .slice aC l.length cC, .int .i64 0] rfl rfl 60 #[.nilFunc, .slice none 0 0, .int .i64 0] #[(.func (.func 10) #[] #[]), .slice aC l.length cC, .int .i64 0] HZ3.out (by kernel_rfl) (by simp) (by kernel_rfl) rfl ?_
      intro w4 hB4 hg4 hs4
      have hs3 := hS2
      have hp4 : HpP w4 w1.heap.size w1.heap.size (.func (.func 10) #[] #[]) (.slice aC l.length cC) 0 l := ⟨hB4, (HC3.out.base HQC.out).grp2 hg4 HZ3.out (by decide), HQ.out⟩
      have hb4 : Below w1.heap.size w1 w4 := hs3.grown hg4 hs3.size (fun q e => by have e' := Option.some.inj e; have h2 := HQ.out; omega)
      have HP4 := Lib.hid hp4
      clear hB4 hg4 hs4
      refine hK.out _ _ (hb4) (fun hS3 => ?_)
      clear hK K
      try simp only [Act.put, List.getElem_toArray, List.getElem_cons_zero, List.getElem_cons_succ, List.setIfInBounds_toArray, List.set_cons_zero, List.set_cons_succ]
      refine wpAnyH_done (by kernel_rfl) ?_ _
      have hbb := hb1.trans (hb4.mono hb1.size)
      have hO4 := hO1.below hb4
      obtain ⟨q, hq⟩ : ∃ q, q = w1.heap.size := ⟨_, rfl⟩
      have HR4 : Hid (SoPR w w4 q (.func (.func 10) #[] #[]) ltP M B 0 0 (.slice (some ⟨w.heap.size, 0, none⟩) 0 n) (.slice aC l.length cC) l) := ⟨by simpa using hO4, by rw [hq]; exact hp4.base hb1.size, hA.out, hbb⟩
      rw [← hq]
      have HBL : Hid (B.length ≤ 900) := by show B.length ≤ 900; rw [← HLEN.out, ← HN.out]; exact hbig
      have KP := Lib.hid (fun (W : World) (vH : Value) (l' C : List (Px × Int)) (hl : l'.length ≤ 900) (H : HpP W w.heap.size q (.func (.func 10) #[] #[]) vH 0 l') (h : Hol ltP M l' C) => popP_any w.heap.size q (.func (.func 10) #[] #[]) vH 0 M l' C ltP W (by omega) ⟨rfl, rfl⟩ ltP_ok (Lib.hid H) (Lib.hid h))
      clear hS0 hO4 hp4 hb4 hbb hq HP4 HC3 HZ3 HQ HQC
      go_wp2_with fail
      refine (KP.out w4 _ l _ (by have h1 := HR4.out.len; have h2 := HBL.out; omega) HR4.out.hp HR4.out.hol).mono ?_; rintro e w5 ⟨rfl, l5, hu5, ho5⟩
      obtain ⟨vH5, hR5⟩ := HR4.out.pop hu5 ho5
      have HR5 := Lib.hid hR5
      clear hu5 ho5 hR5 HR4
      obtain ⟨⟨z1, z2⟩, hz0⟩ : ∃ y, y = curP (B.drop 0) := ⟨_, rfl⟩
      rw [← hz0]
      have HZ0 := Lib.hid hz0
      clear hz0
      go_wp2_with fail
      obtain ⟨w6, hw6⟩ : ∃ W, W = w5.alloc (.cells #[.int .i64 z1, .int .i64 z2] 27) := ⟨_, rfl⟩
      rw [← hw6]
      have HX6 : Hid (Bk w6 w5.heap.size 27 (arrP (curP (B.drop 0)))) := by rw [hw6, ← HZ0.out]; exact Bk.fresh _ _ _
      have hb6 : Below w5.heap.size w5 w6 := by rw [hw6]; exact (Below.refl _ _).alloc (Nat.le_refl _) _
      have HR6 := Lib.hid (HR5.out.below hb6)
      have HV6 : Hid ((Value.slice (some ⟨w.heap.size, 0, none⟩) 0 n).ownBlock ≠ some w5.heap.size) := fun e => by have := HR5.out.ow.lt e; omega
      have HP6 : Hid (w.heap.size ≤ w5.heap.size) := HR5.out.be.size
      clear hw6 hb6 HR5
      go_loopw [3, 5, 6] (fun s3 s5 s6 wr => ∃ (k : Nat) (v vH : Value) (p : Nat) (d : Bool) (l' : List (Px × Int)), k ≤ B.length ∧ s3 = v ∧ s5 = .pointer (some ⟨p, 0, none⟩) ∧ s6 = .bool d ∧ Hid (d = decide (k < B.length)) ∧ Hid (SoPR w wr q (.func (.func 10) #[] #[]) ltP M B k (k + 1) v vH l') ∧ Hid (Bk wr p 27 (arrP (curP (B.drop k)))) ∧ Hid (v.ownBlock ≠ some p) ∧ Hid (w.heap.size ≤ p)) (fun s3 s5 s6 wr => B.length + 1 - slenV s3)
      case atStart => exact ⟨0, _, vH5, w5.heap.size, _, l5, Nat.zero_le _, rfl, rfl, rfl, by show _ = _; simp, HR6, HX6, HV6, HP6⟩
      case round =>
        clear HR6 HX6 HV6 HP6
        obtain ⟨k, v, vH, p, d, l', hk, rfl, rfl, rfl, HD, HR, HX, HV, HP⟩ := hrel
        obtain ⟨aV, cV, hv⟩ := HR.out.sl hk
        subst hv
        cases d
        case true =>
          have hkB : k < B.length := by have := HD.out; simpa using this.symm
          obtain ⟨⟨⟨x1, x2⟩, xt⟩, hx⟩ : ∃ x, x = B[k] := ⟨_, rfl⟩
          have hcx : curP (B.drop k) = (x1, x2) := by rw [curP_drop B hkB, ← hx]
          rw [hcx] at HX
          have HKB := Lib.hid hkB
          have HXE := Lib.hid hx
          have HA : Hid (SoPR w (wr.alloc (.cells #[.int .i64 x1, .int .i64 x2] 27)) q (.func (.func 10) #[] #[]) ltP M B k (k + 1) (.slice aV k cV) vH l') := HR.out.below ((Below.refl _ _).alloc (Nat.le_refl _) _)
          have HXA : Hid (Bk (wr.alloc (.cells #[.int .i64 x1, .int .i64 x2] 27)) p 27 #[.int .i64 x1, .int .i64 x2]) := HX.out.later ((Below.refl _ _).alloc (Nat.le_refl _) _)
          have HFR : Hid (Bk (wr.alloc (.cells #[.int .i64 x1, .int .i64 x2] 27)) wr.heap.size 27 #[.int .i64 x1, .int .i64 x2]) := Bk.fresh _ _ _
          have HTL : Hid (((B.take k).map cP).length = k) := by show _ = _; rw [List.length_map, List.length_take, Nat.min_eq_left hk]
          have HB8 : Hid (((B.take k).map cP).length + [[Value.int .i64 x1, .int .i64 x2]].length ≤ maxLen) := by show _ ≤ _; rw [HTL.out]; have := HBL.out; show k + 1 ≤ _; unfold maxLen; omega
          have HB9 : Hid ((((B.take k).map cP).length + [[Value.int .i64 x1, .int .i64 x2]].length) * 16 ≤ 140737488355328) := by show _ ≤ _; rw [HTL.out]; have := HBL.out; show (k + 1) * 16 ≤ _; omega
          have HBA : Hid (∀ y ∈ [[Value.int .i64 x1, .int .i64 x2]], y.length = 2) := by intro y hy; simp only [List.mem_cons, List.not_mem_nil, or_false] at hy; subst hy; rfl
          clear hx hcx
          go_wp2_with (first
            | (with_reducible refine load_bk rfl 27 _ rfl p 0 rfl 27 #[.int .i64 x1, .int .i64 x2] #[.int .i64 x1, .int .i64 x2] _ HX.out (Part.whole _) Try.underlying27 rfl (by kernel_rfl) ?_)
            | ((with_reducible refine append_ka _ rfl (.tmp 35) (.tmp 37) 30 rfl w.heap.size 27 _ 2 16 Try.underlying30 infoXP rfl (by omega) (.slice aV k cV) _ rfl HA.out.ow ⟨wr.heap.size, 0, none⟩ 1 1 [[.int .i64 x1, .int .i64 x2]] rfl (RdK.of_bk HFR.out) HBA.out oneXP rfl HB8.out HB9.out HA.out.be.size ?_); intro v6 w6 hO6 hg6 hat6; obtain ⟨a6, c6, hv6, _, _, _, _⟩ := hO6.sl; generalize hnQ : ((B.take k).map cP ++ [[Value.int .i64 x1, .int .i64 x2]]).length = nQ at hv6; subst hv6; have HO6 := Lib.hid hO6; have HG6 := Lib.hid hg6; have HX6 : Hid (Bk w6 p 27 #[.int .i64 x1, .int .i64 x2]) := HXA.out.stays hg6 (fun e => HV.out e.symm); have HNQ : Hid (nQ = k + 1) := (by show nQ = k + 1; rw [← hnQ, List.length_append, HTL.out]; rfl); clear hO6 hg6 hat6 hnQ)
            | (with_reducible refine load_bk rfl 27 _ rfl p 0 rfl 27 #[.int .i64 x1, .int .i64 x2] #[.int .i64 x1, .int .i64 x2] _ HX6.out (Part.whole _) Try.underlying27 rfl (by kernel_rfl) ?_))
          have HR6 : Hid (SoPR w w6 q (.func (.func 10) #[] #[]) ltP M B (k + 1) (k + 1) (.slice a6 nQ c6) vH l') := HA.out.app HKB.out (by rw [← HXE.out]; exact HO6.out) HG6.out
          obtain ⟨w7, hw7⟩ : ∃ W, W = w6.alloc (.cells #[.int .i64 x1, .int .i64 x2] 27) := ⟨_, rfl⟩
          rw [← hw7]
          have HX7 : Hid (Bk w7 w6.heap.size 27 #[.int .i64 x1, .int .i64 x2]) := by rw [hw7]; exact Bk.fresh _ _ _
          have hb7 : Below w6.heap.size w6 w7 := by rw [hw7]; exact (Below.refl _ _).alloc (Nat.le_refl _) _
          have HR7 := Lib.hid (HR6.out.below hb7)
          have HV7 : Hid ((Value.slice a6 nQ c6).ownBlock ≠ some w6.heap.size) := fun e => by have := HR6.out.ow.lt e; omega
          have HP7 : Hid (w.heap.size ≤ w6.heap.size) := HR6.out.be.size
          clear hw7 hb7 HR6 HO6 HG6 HX6 HFR HXA HA HX HR HV HP
          refine (KP.out w7 _ l' _ (by have h1 := HR7.out.len; have h2 := HBL.out; omega) HR7.out.hp HR7.out.hol).mono ?_; rintro e w8 ⟨rfl, l8, hu8, ho8⟩
          have HX8 : Hid (Bk w8 w6.heap.size 27 #[.int .i64 x1, .int .i64 x2]) := HX7.out.grp hu8.2 (fun hb => by
            rcases hb with e | e
            · have h1 := HX7.out.symm.trans (e ▸ HR7.out.hp.bk)
              injection h1 with h1; injection h1 with _ h1; exact absurd h1 (by decide)
            · rcases HR7.out.hp.ow.notBk HX7.out (by decide) with h1 | h1
              · rw [h1] at e; cases e
              · exact h1 e)
          obtain ⟨vH8, hR8⟩ := HR7.out.pop hu8 ho8
          have HR8 := Lib.hid hR8
          obtain ⟨⟨y1, y2⟩, hy⟩ : ∃ y, y = curP (B.drop (k + 1)) := ⟨_, rfl⟩
          rw [← hy]
          have HY := Lib.hid hy
          clear hu8 ho8 hR8 hy HR7 HX7
          go_wp2_with (with_reducible refine store_bk rfl 27 _ _ rfl w6.heap.size 0 #[.int .i64 y1, .int .i64 y2] rfl rfl 27 #[.int .i64 x1, .int .i64 x2] _ HX8.out (by kernel_rfl) (by simp) (by kernel_rfl) rfl ?_; intro w9 hB9 hg9 hs9)
          have HR9 := Lib.hid (HR8.out.aside HX8.out HV7.out HP7.out hg9)
          have HX9 : Hid (Bk w9 w6.heap.size 27 (arrP (curP (B.drop (k + 1))))) := by rw [← HY.out]; exact hB9
          clear hB9 hg9 hs9
          go_round
          case rel => exact ⟨k + 1, _, vH8, w6.heap.size, _, l8, HKB.out, rfl, rfl, rfl, (by show _ = _; first | rfl | exact decide_eq_decide.2 (by first | omega | (simp only [List.length_drop]; omega))), HR9, HX9, HV7, HP7⟩
          case measure => have := HNQ.out; have := HKB.out; simp [slenV]; omega
        case false =>
          have hkB : ¬ k < B.length := by have := HD.out; simpa using this.symm
          have hkE : k = B.length := by omega
          go_wp2_with fail
          go_ret
          have h1 := HR.out.ow
          rw [List.take_of_length_le (by omega)] at h1
          exact ⟨_, rfl, h1, HR.out.be⟩

theorem encS_k (l : List (ByteArray × Int)) : ∀ x ∈ l.map eS, x.length = 2 := by
  intro x hx
  obtain ⟨y, _, rfl⟩ := List.mem_map.1 hx
  rfl
theorem encS_one (l : List (ByteArray × Int)) : ∀ x ∈ l.map eS, ∀ u ∈ x, u.oneCell' = true := by
  intro x hx
  obtain ⟨y, _, rfl⟩ := List.mem_map.1 hx
  exact eS_one y
set_option maxHeartbeats 2000000 in
set_option maxRecDepth 100000 in
theorem cloneS_any (A : Option Addr) (n c : Nat) (l : List (ByteArray × Int)) (w : World) (hn : Hid (n = l.length)) (hr : Hid (RdK w 2 A (l.map eS))) (hbig : n ≤ 1000) :
    Calls Try.prog 39 #[.slice A n c] w fun e w' => ∃ v, e = .returned v ∧ OwnK w' w.heap.size 73 2 v (l.map eS) ∧ Below w.heap.size w w' := by
  have q22 : ∀ (w : World) (a : Option Addr) (n c n' c' : Nat), (binOp .eql 50 (.slice a n c) (.slice none n' c')).run Try.prog w = .ok (.bool a.isNone) w := fun w a n c n' c' => Lib.run_eql_slice_nil w _ _ a n c n' c' Try.underlying50
  cases A with
  | none =>
    have hl : l = [] := by
      cases l with
      | nil => rfl
      | cons x r => obtain ⟨_, _, ha, _⟩ := hr.out 0 _ (by simp; rfl); cases ha
    have HL := Lib.hid hl
    clear hl
    go_enter Try.func39, Try.ntmps39
    go_wp2
    go_ret
    exact ⟨_, rfl, by rw [HL.out]; exact OwnK.nil _ _ _ _, Below.refl _ _⟩
  | some a =>
    have hr2 := Lib.hid (hr.out.later ((Below.refl w.heap.size w).alloc (Nat.le_refl _) (.cells #[] 73)))
    have hlen : (l.map eS).length = n := by rw [List.length_map, hn.out]
    have HLen := Lib.hid hlen
    clear hlen
    go_enter Try.func39, Try.ntmps39
    go_wp2_with ((with_reducible refine append_k _ rfl (.tmp 5) (.tmp 6) 50 rfl w.heap.size 73 _ 2 24 Try.underlying50 infoES rfl (by omega) (.slice (some ⟨w.heap.size, 0, none⟩) 0 0) [] rfl (OwnK.empty w w.heap.size 73 2 (Nat.le_refl _) rfl) a c n (l.map eS) rfl hr2.out (encS_k l) (encS_one l) HLen.out.symm (by have := HLen.out; simp only [List.length_nil, maxLen]; omega) (by have := HLen.out; simp only [List.length_nil]; omega) (by simp) ?_); intro v' w1 hown hgrow)
    go_ret
    refine ⟨v', rfl, by simpa using hown, ?_⟩
    exact ((Below.refl _ w).alloc (Nat.le_refl _) _).grown hgrow (by simp) (by intro k hk; simp [Value.ownBlock] at hk; omega)
/-- While a heap q is emptied: k elements stand in the row v, the heap holds those from j on. -/
structure SoSR (w wr : World) (q : Nat) (F : Value) (lt : ByteArray → ByteArray → Bool) (M : Int) (B : List (ByteArray × Int)) (k j : Nat) (v vH : Value) (l : List (ByteArray × Int)) : Prop where
  ow : OwnK wr w.heap.size 9 1 v ((B.take k).map cS)
  hp : HpS wr w.heap.size q F vH 0 l
  hol : Hol lt M l (B.drop j)
  be : Below w.heap.size w wr
section
variable {w wr w' : World} {q : Nat} {F : Value} {lt : ByteArray → ByteArray → Bool} {M : Int} {B : List (ByteArray × Int)} {k j : Nat} {v vH v' : Value} {l l' : List (ByteArray × Int)}
theorem SoSR.offH (H : SoSR w wr q F lt M B k j v vH l) {g : Nat} (hg : v.ownBlock = some g) (hb : HpB q vH g) : False := by
  rcases hb with e | e
  · subst e
    rcases H.ow.notBk H.hp.bk (by decide) with h1 | h1
    · rw [h1] at hg; cases hg
    · exact h1 hg
  · exact H.ow.parted H.hp.ow (by decide) hg e
theorem SoSR.below (H : SoSR w wr q F lt M B k j v vH l) (hb : Below wr.heap.size wr w') : SoSR w w' q F lt M B k j v vH l := ⟨H.ow.below hb, H.hp.below hb, H.hol, H.be.trans (hb.mono H.be.size)⟩
theorem SoSR.pop (H : SoSR w wr q F lt M B k j v vH l) (hu : UpS wr w' w.heap.size q F vH 0 l') (ho : Hol lt M l' (B.drop j).tail) : ∃ vH', SoSR w w' q F lt M B k (j + 1) v vH' l' := by
  obtain ⟨⟨vH', h1, h2⟩, h3⟩ := hu
  refine ⟨vH', H.ow.grp h3 fun g hg hb => H.offH hg hb, h1, by rw [List.tail_drop] at ho; exact ho, H.be.trans (h3.below H.be.size fun i hi => (H.hp.blk hi).1)⟩
theorem SoSR.app (H : SoSR w wr q F lt M B k j v vH l) (hk : k < B.length) (hO : OwnK w' w.heap.size 9 1 v' ((B.take k).map cS ++ [cS B[k]])) (hg : wr.grownBy w' v.ownBlock) : SoSR w w' q F lt M B (k + 1) j v' vH l := by
  refine ⟨?_, H.hp.grp (GrP.of hg) fun i hi e => H.offH e hi, H.hol, H.be.grown hg H.be.size fun i hi => H.ow.block i hi⟩
  rw [List.take_succ_eq_append_getElem hk, List.map_append]
  exact hO
theorem SoSR.aside (H : SoSR w wr q F lt M B k j v vH l) {p : Nat} {cs : Array Value} (hB : Bk wr p 9 cs) (hv : v.ownBlock ≠ some p) (hp : w.heap.size ≤ p) (hg : wr.grownBy w' (some p)) : SoSR w w' q F lt M B k j v vH l := by
  refine ⟨H.ow.grp (GrP.of hg) fun i hi e => hv (by rw [hi]; exact e.symm), H.hp.grp (GrP.of hg) fun i hi e => ?_, H.hol, H.be.grown hg H.be.size fun i hi => by injection hi with hi; omega⟩
  have e : p = i := Option.some.inj e
  subst e
  rcases hi with e | e
  · subst e
    have := hB.symm.trans H.hp.bk
    injection this with this
    injection this with _ this
    exact absurd this (by decide)
  · rcases H.hp.ow.notBk hB (by decide) with h1 | h1
    · rw [h1] at e; cases e
    · exact h1 e
theorem SoSR.len (H : SoSR w wr q F lt M B k j v vH l) : l.length ≤ B.length := by
  have := H.hol.len
  rw [List.length_drop] at this; omega
theorem SoSR.sl (H : SoSR w wr q F lt M B k j v vH l) (hk : k ≤ B.length) : ∃ A c, v = .slice A k c := by
  obtain ⟨A, c, hv, _⟩ := H.ow.sl
  rw [List.length_map, List.length_take, Nat.min_eq_left hk] at hv
  exact ⟨A, c, hv⟩
theorem curS_drop (B : List (ByteArray × Int)) {k : Nat} (hk : k < B.length) : curS (B.drop k) = B[k].1 := by
  rw [List.drop_eq_getElem_cons hk]; rfl
end
set_option maxHeartbeats 12800000 in
set_option maxRecDepth 100000 in
/-- All entries, the first one first. -/
theorem sortedS1_any (b h : Nat) (v : Value) (m M : Int) (l B : List (ByteArray × Int)) (w : World) (hbig : l.length ≤ 900) (hH : Hid (HpS w b h (.func (.func 24) #[] #[]) v m l)) (hA : Hid (Hol ltS M l B)) :
    Calls Try.prog 26 #[.pointer (some ⟨h, 0, none⟩)] w fun e w' => ∃ r, e = .returned r ∧ OwnK w' w.heap.size 9 1 r (B.map cS) ∧ Below w.heap.size w w' := by
  obtain ⟨A, c, hv, hc1, hc2, har⟩ := hH.out.sl
  subst hv
  have hlen : l.length = B.length := hA.out.len
  have K1 := Lib.hid (fun (W : World) (hb : Below w.heap.size w W) => lenS_any b h (.func (.func 24) #[] #[]) _ m l W (Lib.hid (hH.out.below hb)))
  have hc : w.cell? ⟨h, 1, none⟩ = some (.slice A l.length c) := hH.out.bk.cellAt 1
  by_cases hl : l = []
  · have hz : ((l.length : Int) == 0) = true := by simp [hl]
    have hB : Hid (B = []) := List.length_eq_zero_iff.1 (by rw [← hlen, hl]; rfl)
    clear hl har hlen
    go_enter Try.func26, Try.ntmps26
    go_wp2_with fail
    refine (K1.out _ (Below.refl _ _)).mono ?_; rintro e w1 ⟨rfl, hw1⟩; rw [hw1]; clear hw1 w1
    go_wp2_with fail
    go_ret
    exact ⟨_, rfl, by rw [hB.out]; exact OwnK.nil _ _ _ _, Below.refl _ _⟩
  · have hz : ((l.length : Int) == 0) = false := by simp; exact hl
    obtain ⟨n, hn⟩ : ∃ n, n = l.length := ⟨_, rfl⟩
    rw [← hn] at hc1 hz hbig hc K1
    obtain ⟨iX, hi1, hi2, hi3, hi4⟩ := info_partsK infoXS
    have HN := Lib.hid hn; have HLEN := Lib.hid hlen
    have HI1 := Lib.hid hi1; have HI2 := Lib.hid hi2; have HI3 := Lib.hid hi3; have HI4 := Lib.hid hi4
    have hHn : Hid (HpS w b h (.func (.func 24) #[] #[]) (.slice A n c) m l) := hn ▸ hH
    have HRD : Hid (RdK w 2 A (l.map eS)) := by
      obtain ⟨A', c', hv', hr', _⟩ := hHn.out.ow.sl
      injection hv' with e1 e2; subst e1; exact hr'
    have KC := Lib.hid (fun (W : World) (hb : Below w.heap.size w W) => cloneS_any A n c l W HN (Lib.hid (HRD.out.later hb)) (by omega))
    clear hl har hlen hi1 hi2 hi3 hi4 hn
    go_enter Try.func26, Try.ntmps26
    go_wp2_with fail
    refine (K1.out _ (Below.refl _ _)).mono ?_; rintro e w0 ⟨rfl, hw0⟩; rw [hw0]; clear hw0 w0
    go_wp2_with (with_reducible refine wpList_make_own _ rfl _ (.tmp 14) 46 rfl w.heap.size 9 iX _ 1 Try.underlying46 HI1.out HI2.out HI3.out .i64 .i64 _ n rfl rfl rfl (by rw [HI4.out]; omega) (by simp [maxLen]; omega) (Nat.le_refl _) ?_; intro w1 hO1' hg1)
    have hb1 : Below w.heap.size w w1 := grown_base hg1 (Nat.le_refl _) (by simp)
    have hO1 : OwnK w1 w.heap.size 9 1 (.slice (some ⟨w.heap.size, 0, none⟩) 0 n) [] := ⟨by simp, by simpa using hO1'⟩
    have HB1 : Hid (Bk w1 h 52 #[(.func (.func 24) #[] #[]), .slice A n c, .int .i64 m]) := hHn.out.bk.later hb1
    replace KC := Lib.hid (fun (W : World) (hb : Below w1.heap.size w1 W) => KC.out W (hb1.trans (hb.mono hb1.size)))
    clear hO1' hg1 hc K1
    refine wp_region_held_drew (S := fun W => Below w1.heap.size w1 W) (by kernel_rfl) (Below.drew (Below.refl _ _)) (fun hS0 => ?_)
    refine wpAnyH_take (i := 0) (v := ?_) rfl (by kernel_rfl) (by kernel_rfl) (by kernel_rfl) (fun _ _ _ h => h) (Or.inl ⟨by rfl, ?_⟩) hS0 ?_
    rotate_left
    · intro W _; go_simp; try with_reducible rfl
    try simp only [Act.put, List.getElem_toArray, List.getElem_cons_zero, List.setIfInBounds_toArray, List.set_cons_zero, List.set_cons_succ]
    refine wpAnyH_take (i := 1) (v := ?_) rfl (by kernel_rfl) (by kernel_rfl) (by kernel_rfl) (fun _ _ _ h => h) (Or.inl ⟨by rfl, ?_⟩) hS0 ?_
    rotate_left
    · intro W _; go_simp; try with_reducible rfl
    try simp only [Act.put, List.getElem_toArray, List.getElem_cons_zero, List.getElem_cons_succ, List.setIfInBounds_toArray, List.set_cons_zero, List.set_cons_succ]
    refine wpAnyH_take (i := 2) (v := ?_) rfl (by kernel_rfl) (by kernel_rfl) (by kernel_rfl) (fun _ _ _ h => h) (Or.inl ⟨by rfl, ?_⟩) hS0 ?_
    rotate_left
    · intro W _; go_simp; try with_reducible rfl
    try simp only [Act.put, List.getElem_toArray, List.getElem_cons_zero, List.getElem_cons_succ, List.setIfInBounds_toArray, List.set_cons_zero, List.set_cons_succ]
    refine wpAnyH_take (i := 3) (v := ?_) rfl (by kernel_rfl) (by kernel_rfl) (by kernel_rfl) (fun _ _ _ h => h) (Or.inl ⟨by rfl, ?_⟩) hS0 ?_
    rotate_left
    · intro W hSW; have hx := (HB1.out.later hSW).cellAt 0; try simp only [List.getElem?_toArray, List.getElem?_cons_succ, List.getElem?_cons_zero] at hx; go_simp; try with_reducible rfl
    try simp only [Act.put, List.getElem_toArray, List.getElem_cons_zero, List.getElem_cons_succ, List.setIfInBounds_toArray, List.set_cons_zero, List.set_cons_succ]
    refine wpAnyH_take (i := 4) (v := ?_) rfl (by kernel_rfl) (by kernel_rfl) (by kernel_rfl) (fun _ _ _ h => h) (Or.inl ⟨by rfl, ?_⟩) hS0 ?_
    rotate_left
    · intro W _; go_simp; try with_reducible rfl
    try simp only [Act.put, List.getElem_toArray, List.getElem_cons_zero, List.getElem_cons_succ, List.setIfInBounds_toArray, List.set_cons_zero, List.set_cons_succ]
    refine wpAnyH_take (i := 5) (v := ?_) rfl (by kernel_rfl) (by kernel_rfl) (by kernel_rfl) (fun _ _ _ h => h) (Or.inl ⟨by rfl, ?_⟩) hS0 ?_
    rotate_left
    · intro W _; go_simp; try with_reducible rfl
    try simp only [Act.put, List.getElem_toArray, List.getElem_cons_zero, List.getElem_cons_succ, List.setIfInBounds_toArray, List.set_cons_zero, List.set_cons_succ]
    refine wpAnyH_take (i := 6) (v := ?_) rfl (by kernel_rfl) (by kernel_rfl) (by kernel_rfl) (fun _ _ _ h => h) (Or.inl ⟨by rfl, ?_⟩) hS0 ?_
    rotate_left
    · intro W _; go_simp; try with_reducible rfl
    try simp only [Act.put, List.getElem_toArray, List.getElem_cons_zero, List.getElem_cons_succ, List.setIfInBounds_toArray, List.set_cons_zero, List.set_cons_succ]
    refine wpAnyH_take (i := 7) (v := ?_) rfl (by kernel_rfl) (by kernel_rfl) (by kernel_rfl) (fun _ _ _ h => h) (Or.inl ⟨by rfl, ?_⟩) hS0 ?_
    rotate_left
    · intro W hSW; have hx := (HB1.out.later hSW).cellAt 1; try simp only [List.getElem?_toArray, List.getElem?_cons_succ, List.getElem?_cons_zero] at hx; go_simp; try with_reducible rfl
    try simp only [Act.put, List.getElem_toArray, List.getElem_cons_zero, List.getElem_cons_succ, List.setIfInBounds_toArray, List.set_cons_zero, List.set_cons_succ]
    refine wpAnyH_ready (rs := [8, 10]) (by kernel_rfl) (by simp) ?_
    refine (AllReadyH.cons rfl (fun K hK => ?_) (AllReadyH.cons rfl (fun K hK => ?_) AllReadyH.nil))
    · go_simp
      refine (KC.out _ hS0).mono ?_
      rintro e w2 ⟨vC, rfl, hC2, hb2⟩
      obtain ⟨aC, cC, hvC, _, _, _, _⟩ := hC2.sl
      rw [List.length_map] at hvC
      subst hvC
      have HC2 := Lib.hid hC2
      go_simp
      refine hK.out _ _ (hS0.trans (hb2.mono hS0.size)) (fun hS1 => ?_)
      clear hK K
      try simp only [Act.put, List.getElem_toArray, List.getElem_cons_zero, List.getElem_cons_succ, List.setIfInBounds_toArray, List.set_cons_zero, List.set_cons_succ]
      refine wpAnyH_take (i := 9) (v := ?_) rfl (by kernel_rfl) (by kernel_rfl) (by kernel_rfl) (fun _ _ _ h => h) (Or.inl ⟨by rfl, ?_⟩) hS1 ?_
      rotate_left
      · intro W _; go_simp; try with_reducible rfl
      try simp only [Act.put, List.getElem_toArray, List.getElem_cons_zero, List.getElem_cons_succ, List.setIfInBounds_toArray, List.set_cons_zero, List.set_cons_succ]
      refine wpAnyH_ready (rs := [10]) (by kernel_rfl) (by simp) ?_
      refine AllReadyH.cons rfl (fun K hK => ?_) AllReadyH.nil
      go_simp
      obtain ⟨W3, hW3⟩ : ∃ W, W = w2.alloc (.cells #[.nilFunc, .slice none 0 0, .int .i64 0] 52) := ⟨_, rfl⟩
      rw [← hW3]
      have HZ3 : Hid (Bk W3 w2.heap.size 52 #[.nilFunc, .slice none 0 0, .int .i64 0]) := by rw [hW3]; exact Bk.fresh _ _ _
      have hb3 : Below w2.heap.size w2 W3 := by rw [hW3]; exact (Below.refl _ _).alloc (Nat.le_refl _) _
      have HC3 := Lib.hid (HC2.out.below hb3)
      have HQ : Hid (w1.heap.size ≤ w2.heap.size) := (show w1.heap.size ≤ w2.heap.size from hb2.size)
      have HQC : Hid (w1.heap.size ≤ w1.drew.heap.size) := Nat.le_refl _
      clear HC2 hC2 hW3
      refine hK.out _ _ (hS1.trans (hb3.mono hS1.size)) (fun hS2 => ?_)
      clear hK K
      try simp only [Act.put, List.getElem_toArray, List.getElem_cons_zero, List.getElem_cons_succ, List.setIfInBounds_toArray, List.set_cons_zero, List.set_cons_succ]
      refine wpAnyH_ready (rs := [11]) (by kernel_rfl) (by simp) ?_
      refine AllReadyH.cons rfl (fun K hK => ?_) AllReadyH.nil
      rw [if_pos (by rfl)]
      refine store_bk_op 52 (.tmp 4) (.tmp 25) rfl w2.heap.size 0 #[(.func (.func 24) #[] #[]), .slice aC l.length cC, .int .i64 0] rfl rfl 52 #[.nilFunc, .slice none 0 0, .int .i64 0] #[(.func (.func 24) #[] #[]), .slice aC l.length cC, .int .i64 0] HZ3.out (by kernel_rfl) (by simp) (by kernel_rfl) rfl ?_
      intro w4 hB4 hg4 hs4
      have hs3 := hS2
      have hp4 : HpS w4 w1.heap.size w2.heap.size (.func (.func 24) #[] #[]) (.slice aC l.length cC) 0 l := ⟨hB4, (HC3.out.base HQC.out).grp2 hg4 HZ3.out (by decide), HQ.out⟩
      have hb4 : Below w1.heap.size w1 w4 := hs3.grown hg4 hs3.size (fun q e => by have e' := Option.some.inj e; have h2 := HQ.out; omega)
      have HP4 := Lib.hid hp4
      clear hB4 hg4 hs4
      refine hK.out _ _ (hb4) (fun hS3 => ?_)
      clear hK K
      try simp only [Act.put, List.getElem_toArray, List.getElem_cons_zero, List.getElem_cons_succ, List.setIfInBounds_toArray, List.set_cons_zero, List.set_cons_succ]
      refine wpAnyH_done (by kernel_rfl) ?_ _
      have hbb := hb1.trans (hb4.mono hb1.size)
      have hO4 := hO1.below hb4
      obtain ⟨q, hq⟩ : ∃ q, q = w2.heap.size := ⟨_, rfl⟩
      have HR4 : Hid (SoSR w w4 q (.func (.func 24) #[] #[]) ltS M B 0 0 (.slice (some ⟨w.heap.size, 0, none⟩) 0 n) (.slice aC l.length cC) l) := ⟨by simpa using hO4, by rw [hq]; exact hp4.base hb1.size, hA.out, hbb⟩
      rw [← hq]
      have HBL : Hid (B.length ≤ 900) := by show B.length ≤ 900; rw [← HLEN.out, ← HN.out]; exact hbig
      have KP := Lib.hid (fun (W : World) (vH : Value) (l' C : List (ByteArray × Int)) (hl : l'.length ≤ 900) (H : HpS W w.heap.size q (.func (.func 24) #[] #[]) vH 0 l') (h : Hol ltS M l' C) => popS_any w.heap.size q (.func (.func 24) #[] #[]) vH 0 M l' C ltS W (by omega) (.inl ⟨rfl, rfl⟩) ltS_ok (Lib.hid H) (Lib.hid h))
      clear hS0 hO4 hp4 hb4 hbb hq HP4 HC3 HZ3 HQ HQC
      go_wp2_with fail
      refine (KP.out w4 _ l _ (by have h1 := HR4.out.len; have h2 := HBL.out; omega) HR4.out.hp HR4.out.hol).mono ?_; rintro e w5 ⟨rfl, l5, hu5, ho5⟩
      obtain ⟨vH5, hR5⟩ := HR4.out.pop hu5 ho5
      have HR5 := Lib.hid hR5
      clear hu5 ho5 hR5 HR4
      go_wp2_with fail
      go_loopw [3, 5, 6] (fun s3 s5 s6 wr => ∃ (k : Nat) (v vH : Value) (d : Bool) (l' : List (ByteArray × Int)), k ≤ B.length ∧ s3 = v ∧ s5 = .string (curS (B.drop k)) ∧ s6 = .bool d ∧ Hid (d = decide (k < B.length)) ∧ Hid (SoSR w wr q (.func (.func 24) #[] #[]) ltS M B k (k + 1) v vH l')) (fun s3 s5 s6 wr => B.length + 1 - slenV s3)
      case atStart => exact ⟨0, _, vH5, _, l5, Nat.zero_le _, rfl, rfl, rfl, by show _ = _; simp, HR5⟩
      case round =>
        clear HR5
        obtain ⟨k, v, vH, d, l', hk, rfl, rfl, rfl, HD, HR⟩ := hrel
        obtain ⟨aV, cV, hv⟩ := HR.out.sl hk
        subst hv
        cases d
        case true =>
          have hkB : k < B.length := by have := HD.out; simpa using this.symm
          obtain ⟨⟨x1, xt⟩, hx⟩ : ∃ x, x = B[k] := ⟨_, rfl⟩
          have hcx : curS (B.drop k) = x1 := by rw [curS_drop B hkB, ← hx]
          rw [hcx]
          have HKB := Lib.hid hkB
          have HXE := Lib.hid hx
          have HA : Hid (SoSR w (wr.alloc (.cells #[.string x1] 9)) q (.func (.func 24) #[] #[]) ltS M B k (k + 1) (.slice aV k cV) vH l') := HR.out.below ((Below.refl _ _).alloc (Nat.le_refl _) _)
          have HFR : Hid (Bk (wr.alloc (.cells #[.string x1] 9)) wr.heap.size 9 #[.string x1]) := Bk.fresh _ _ _
          have HTL : Hid (((B.take k).map cS).length = k) := by show _ = _; rw [List.length_map, List.length_take, Nat.min_eq_left hk]
          have HB8 : Hid (((B.take k).map cS).length + [[Value.string x1]].length ≤ maxLen) := by show _ ≤ _; rw [HTL.out]; have := HBL.out; show k + 1 ≤ _; unfold maxLen; omega
          have HB9 : Hid ((((B.take k).map cS).length + [[Value.string x1]].length) * 16 ≤ 140737488355328) := by show _ ≤ _; rw [HTL.out]; have := HBL.out; show (k + 1) * 16 ≤ _; omega
          have HBA : Hid (∀ y ∈ [[Value.string x1]], y.length = 1) := by intro y hy; simp only [List.mem_cons, List.not_mem_nil, or_false] at hy; subst hy; rfl
          clear hx hcx
          go_wp2_with ((with_reducible refine append_ka _ rfl (.tmp 35) (.tmp 37) 46 rfl w.heap.size 9 _ 1 16 Try.underlying46 infoXS rfl (by omega) (.slice aV k cV) _ rfl HA.out.ow ⟨wr.heap.size, 0, none⟩ 1 1 [[.string x1]] rfl (RdK.of_bk HFR.out) HBA.out oneXS rfl HB8.out HB9.out HA.out.be.size ?_); intro v6 w6 hO6 hg6 hat6; obtain ⟨a6, c6, hv6, _, _, _, _⟩ := hO6.sl; generalize hnQ : ((B.take k).map cS ++ [[Value.string x1]]).length = nQ at hv6; subst hv6; have HO6 := Lib.hid hO6; have HG6 := Lib.hid hg6; have HNQ : Hid (nQ = k + 1) := (by show nQ = k + 1; rw [← hnQ, List.length_append, HTL.out]; rfl); clear hO6 hg6 hat6 hnQ)
          have HR7 : Hid (SoSR w w6 q (.func (.func 24) #[] #[]) ltS M B (k + 1) (k + 1) (.slice a6 nQ c6) vH l') := HA.out.app HKB.out (by rw [← HXE.out]; exact HO6.out) HG6.out
          clear HO6 HG6 HFR HA HR
          refine (KP.out w6 _ l' _ (by have h1 := HR7.out.len; have h2 := HBL.out; omega) HR7.out.hp HR7.out.hol).mono ?_; rintro e w8 ⟨rfl, l8, hu8, ho8⟩
          obtain ⟨vH8, hR8⟩ := HR7.out.pop hu8 ho8
          have HR8 := Lib.hid hR8
          clear hu8 ho8 hR8 HR7
          go_wp2_with fail
          go_round
          case rel => exact ⟨k + 1, _, vH8, _, l8, HKB.out, rfl, rfl, rfl, (by show _ = _; first | rfl | exact decide_eq_decide.2 (by first | omega | (simp only [List.length_drop]; omega))), HR8⟩
          case measure => have := HNQ.out; have := HKB.out; simp [slenV]; omega
        case false =>
          have hkB : ¬ k < B.length := by have := HD.out; simpa using this.symm
          have hkE : k = B.length := by omega
          go_wp2_with fail
          go_ret
          have h1 := HR.out.ow
          rw [List.take_of_length_le (by omega)] at h1
          exact ⟨_, rfl, h1, HR.out.be⟩
    · go_simp
      obtain ⟨W2, hW2⟩ : ∃ W, W = (w1.alloc (.cells #[.nilFunc, .slice none 0 0, .int .i64 0] 52)).drew := ⟨_, rfl⟩
      rw [← hW2]
      have HZ2 : Hid (Bk W2 w1.heap.size 52 #[.nilFunc, .slice none 0 0, .int .i64 0]) := by rw [hW2]; exact (Bk.fresh _ _ _).drewB
      have hb2 : Below w1.heap.size w1 W2 := by rw [hW2]; exact Below.drew ((Below.refl _ _).alloc (Nat.le_refl _) _)
      clear hW2
      refine hK.out _ _ (hb2) (fun hS1 => ?_)
      clear hK K
      try simp only [Act.put, List.getElem_toArray, List.getElem_cons_zero, List.getElem_cons_succ, List.setIfInBounds_toArray, List.set_cons_zero, List.set_cons_succ]
      refine wpAnyH_ready (rs := [8]) (by kernel_rfl) (by simp) ?_
      refine AllReadyH.cons rfl (fun K hK => ?_) AllReadyH.nil
      go_simp
      refine (KC.out _ hS1).mono ?_
      rintro e W3 ⟨vC, rfl, hC3, hb3⟩
      obtain ⟨aC, cC, hvC, _, _, _, _⟩ := hC3.sl
      rw [List.length_map] at hvC
      subst hvC
      have HC3 := Lib.hid hC3
      have HZ3 := Lib.hid (HZ2.out.later hb3)
      have HQ : Hid (w1.heap.size ≤ w1.heap.size) := Nat.le_refl _
      have HQC : Hid (w1.heap.size ≤ W2.heap.size) := hb2.size
      clear hC3
      go_simp
      refine hK.out _ _ (hS1.trans (hb3.mono hS1.size)) (fun hS2 => ?_)
      clear hK K
      try simp only [Act.put, List.getElem_toArray, List.getElem_cons_zero, List.getElem_cons_succ, List.setIfInBounds_toArray, List.set_cons_zero, List.set_cons_succ]
      refine wpAnyH_take (i := 9) (v := ?_) rfl (by kernel_rfl) (by kernel_rfl) (by kernel_rfl) (fun _ _ _ h => h) (Or.inl ⟨by rfl, ?_⟩) hS2 ?_
      rotate_left
      · intro W _; go_simp; try with_reducible rfl
      try simp only [Act.put, List.getElem_toArray, List.getElem_cons_zero, List.getElem_cons_succ, List.setIfInBounds_toArray, List.set_cons_zero, List.set_cons_succ]
      refine wpAnyH_ready (rs := [11]) (by kernel_rfl) (by simp) ?_
      refine AllReadyH.cons rfl (fun K hK => ?_) AllReadyH.nil
      rw [if_pos (by rfl)]
      refine store_bk_op 52 (.tmp 4) (.tmp 25) rfl w1.heap.size 0 #[(.func (.func 24) #[] #[]), .slice aC l.length cC, .int .i64 0] rfl rfl 52 #[.nilFunc, .slice none 0 0, .int .i64 0] #[(.func (.func 24) #[] #[]), .slice aC l.length cC, .int .i64 0] HZ3.out (by kernel_rfl) (by simp) (by kernel_rfl) rfl ?_
      intro w4 hB4 hg4 hs4
      have hs3 := hS2
      have hp4 : HpS w4 w1.heap.size w1.heap.size (.func (.func 24) #[] #[]) (.slice aC l.length cC) 0 l := ⟨hB4, (HC3.out.base HQC.out).grp2 hg4 HZ3.out (by decide), HQ.out⟩
      have hb4 : Below w1.heap.size w1 w4 := hs3.grown hg4 hs3.size (fun q e => by have e' := Option.some.inj e; have h2 := HQ.out; omega)
      have HP4 := Lib.hid hp4
      clear hB4 hg4 hs4
      refine hK.out _ _ (hb4) (fun hS3 => ?_)
      clear hK K
      try simp only [Act.put, List.getElem_toArray, List.getElem_cons_zero, List.getElem_cons_succ, List.setIfInBounds_toArray, List.set_cons_zero, List.set_cons_succ]
      refine wpAnyH_done (by kernel_rfl) ?_ _
      have hbb := hb1.trans (hb4.mono hb1.size)
      have hO4 := hO1.below hb4
      obtain ⟨q, hq⟩ : ∃ q, q = w1.heap.size := ⟨_, rfl⟩
      have HR4 : Hid (SoSR w w4 q (.func (.func 24) #[] #[]) ltS M B 0 0 (.slice (some ⟨w.heap.size, 0, none⟩) 0 n) (.slice aC l.length cC) l) := ⟨by simpa using hO4, by rw [hq]; exact hp4.base hb1.size, hA.out, hbb⟩
      rw [← hq]
      have HBL : Hid (B.length ≤ 900) := by show B.length ≤ 900; rw [← HLEN.out, ← HN.out]; exact hbig
      have KP := Lib.hid (fun (W : World) (vH : Value) (l' C : List (ByteArray × Int)) (hl : l'.length ≤ 900) (H : HpS W w.heap.size q (.func (.func 24) #[] #[]) vH 0 l') (h : Hol ltS M l' C) => popS_any w.heap.size q (.func (.func 24) #[] #[]) vH 0 M l' C ltS W (by omega) (.inl ⟨rfl, rfl⟩) ltS_ok (Lib.hid H) (Lib.hid h))
      clear hS0 hO4 hp4 hb4 hbb hq HP4 HC3 HZ3 HQ HQC
      go_wp2_with fail
      refine (KP.out w4 _ l _ (by have h1 := HR4.out.len; have h2 := HBL.out; omega) HR4.out.hp HR4.out.hol).mono ?_; rintro e w5 ⟨rfl, l5, hu5, ho5⟩
      obtain ⟨vH5, hR5⟩ := HR4.out.pop hu5 ho5
      have HR5 := Lib.hid hR5
      clear hu5 ho5 hR5 HR4
      go_wp2_with fail
      go_loopw [3, 5, 6] (fun s3 s5 s6 wr => ∃ (k : Nat) (v vH : Value) (d : Bool) (l' : List (ByteArray × Int)), k ≤ B.length ∧ s3 = v ∧ s5 = .string (curS (B.drop k)) ∧ s6 = .bool d ∧ Hid (d = decide (k < B.length)) ∧ Hid (SoSR w wr q (.func (.func 24) #[] #[]) ltS M B k (k + 1) v vH l')) (fun s3 s5 s6 wr => B.length + 1 - slenV s3)
      case atStart => exact ⟨0, _, vH5, _, l5, Nat.zero_le _, rfl, rfl, rfl, by show _ = _; simp, HR5⟩
      case round =>
        clear HR5
        obtain ⟨k, v, vH, d, l', hk, rfl, rfl, rfl, HD, HR⟩ := hrel
        obtain ⟨aV, cV, hv⟩ := HR.out.sl hk
        subst hv
        cases d
        case true =>
          have hkB : k < B.length := by have := HD.out; simpa using this.symm
          obtain ⟨⟨x1, xt⟩, hx⟩ : ∃ x, x = B[k] := ⟨_, rfl⟩
          have hcx : curS (B.drop k) = x1 := by rw [curS_drop B hkB, ← hx]
          rw [hcx]
          have HKB := Lib.hid hkB
          have HXE := Lib.hid hx
          have HA : Hid (SoSR w (wr.alloc (.cells #[.string x1] 9)) q (.func (.func 24) #[] #[]) ltS M B k (k + 1) (.slice aV k cV) vH l') := HR.out.below ((Below.refl _ _).alloc (Nat.le_refl _) _)
          have HFR : Hid (Bk (wr.alloc (.cells #[.string x1] 9)) wr.heap.size 9 #[.string x1]) := Bk.fresh _ _ _
          have HTL : Hid (((B.take k).map cS).length = k) := by show _ = _; rw [List.length_map, List.length_take, Nat.min_eq_left hk]
          have HB8 : Hid (((B.take k).map cS).length + [[Value.string x1]].length ≤ maxLen) := by show _ ≤ _; rw [HTL.out]; have := HBL.out; show k + 1 ≤ _; unfold maxLen; omega
          have HB9 : Hid ((((B.take k).map cS).length + [[Value.string x1]].length) * 16 ≤ 140737488355328) := by show _ ≤ _; rw [HTL.out]; have := HBL.out; show (k + 1) * 16 ≤ _; omega
          have HBA : Hid (∀ y ∈ [[Value.string x1]], y.length = 1) := by intro y hy; simp only [List.mem_cons, List.not_mem_nil, or_false] at hy; subst hy; rfl
          clear hx hcx
          go_wp2_with ((with_reducible refine append_ka _ rfl (.tmp 35) (.tmp 37) 46 rfl w.heap.size 9 _ 1 16 Try.underlying46 infoXS rfl (by omega) (.slice aV k cV) _ rfl HA.out.ow ⟨wr.heap.size, 0, none⟩ 1 1 [[.string x1]] rfl (RdK.of_bk HFR.out) HBA.out oneXS rfl HB8.out HB9.out HA.out.be.size ?_); intro v6 w6 hO6 hg6 hat6; obtain ⟨a6, c6, hv6, _, _, _, _⟩ := hO6.sl; generalize hnQ : ((B.take k).map cS ++ [[Value.string x1]]).length = nQ at hv6; subst hv6; have HO6 := Lib.hid hO6; have HG6 := Lib.hid hg6; have HNQ : Hid (nQ = k + 1) := (by show nQ = k + 1; rw [← hnQ, List.length_append, HTL.out]; rfl); clear hO6 hg6 hat6 hnQ)
          have HR7 : Hid (SoSR w w6 q (.func (.func 24) #[] #[]) ltS M B (k + 1) (k + 1) (.slice a6 nQ c6) vH l') := HA.out.app HKB.out (by rw [← HXE.out]; exact HO6.out) HG6.out
          clear HO6 HG6 HFR HA HR
          refine (KP.out w6 _ l' _ (by have h1 := HR7.out.len; have h2 := HBL.out; omega) HR7.out.hp HR7.out.hol).mono ?_; rintro e w8 ⟨rfl, l8, hu8, ho8⟩
          obtain ⟨vH8, hR8⟩ := HR7.out.pop hu8 ho8
          have HR8 := Lib.hid hR8
          clear hu8 ho8 hR8 HR7
          go_wp2_with fail
          go_round
          case rel => exact ⟨k + 1, _, vH8, _, l8, HKB.out, rfl, rfl, rfl, (by show _ = _; first | rfl | exact decide_eq_decide.2 (by first | omega | (simp only [List.length_drop]; omega))), HR8⟩
          case measure => have := HNQ.out; have := HKB.out; simp [slenV]; omega
        case false =>
          have hkB : ¬ k < B.length := by have := HD.out; simpa using this.symm
          have hkE : k = B.length := by omega
          go_wp2_with fail
          go_ret
          have h1 := HR.out.ow
          rw [List.take_of_length_le (by omega)] at h1
          exact ⟨_, rfl, h1, HR.out.be⟩
set_option maxHeartbeats 12800000 in
set_option maxRecDepth 100000 in
/-- All entries, the first one first. -/
theorem sortedS2_any (b h : Nat) (v : Value) (m M : Int) (l B : List (ByteArray × Int)) (w : World) (hbig : l.length ≤ 900) (hH : Hid (HpS w b h .nilFunc v m l)) (hA : Hid (Hol (ltN ByteArray) M l B)) :
    Calls Try.prog 26 #[.pointer (some ⟨h, 0, none⟩)] w fun e w' => ∃ r, e = .returned r ∧ OwnK w' w.heap.size 9 1 r (B.map cS) ∧ Below w.heap.size w w' := by
  obtain ⟨A, c, hv, hc1, hc2, har⟩ := hH.out.sl
  subst hv
  have hlen : l.length = B.length := hA.out.len
  have K1 := Lib.hid (fun (W : World) (hb : Below w.heap.size w W) => lenS_any b h .nilFunc _ m l W (Lib.hid (hH.out.below hb)))
  have hc : w.cell? ⟨h, 1, none⟩ = some (.slice A l.length c) := hH.out.bk.cellAt 1
  by_cases hl : l = []
  · have hz : ((l.length : Int) == 0) = true := by simp [hl]
    have hB : Hid (B = []) := List.length_eq_zero_iff.1 (by rw [← hlen, hl]; rfl)
    clear hl har hlen
    go_enter Try.func26, Try.ntmps26
    go_wp2_with fail
    refine (K1.out _ (Below.refl _ _)).mono ?_; rintro e w1 ⟨rfl, hw1⟩; rw [hw1]; clear hw1 w1
    go_wp2_with fail
    go_ret
    exact ⟨_, rfl, by rw [hB.out]; exact OwnK.nil _ _ _ _, Below.refl _ _⟩
  · have hz : ((l.length : Int) == 0) = false := by simp; exact hl
    obtain ⟨n, hn⟩ : ∃ n, n = l.length := ⟨_, rfl⟩
    rw [← hn] at hc1 hz hbig hc K1
    obtain ⟨iX, hi1, hi2, hi3, hi4⟩ := info_partsK infoXS
    have HN := Lib.hid hn; have HLEN := Lib.hid hlen
    have HI1 := Lib.hid hi1; have HI2 := Lib.hid hi2; have HI3 := Lib.hid hi3; have HI4 := Lib.hid hi4
    have hHn : Hid (HpS w b h .nilFunc (.slice A n c) m l) := hn ▸ hH
    have HRD : Hid (RdK w 2 A (l.map eS)) := by
      obtain ⟨A', c', hv', hr', _⟩ := hHn.out.ow.sl
      injection hv' with e1 e2; subst e1; exact hr'
    have KC := Lib.hid (fun (W : World) (hb : Below w.heap.size w W) => cloneS_any A n c l W HN (Lib.hid (HRD.out.later hb)) (by omega))
    clear hl har hlen hi1 hi2 hi3 hi4 hn
    go_enter Try.func26, Try.ntmps26
    go_wp2_with fail
    refine (K1.out _ (Below.refl _ _)).mono ?_; rintro e w0 ⟨rfl, hw0⟩; rw [hw0]; clear hw0 w0
    go_wp2_with (with_reducible refine wpList_make_own _ rfl _ (.tmp 14) 46 rfl w.heap.size 9 iX _ 1 Try.underlying46 HI1.out HI2.out HI3.out .i64 .i64 _ n rfl rfl rfl (by rw [HI4.out]; omega) (by simp [maxLen]; omega) (Nat.le_refl _) ?_; intro w1 hO1' hg1)
    have hb1 : Below w.heap.size w w1 := grown_base hg1 (Nat.le_refl _) (by simp)
    have hO1 : OwnK w1 w.heap.size 9 1 (.slice (some ⟨w.heap.size, 0, none⟩) 0 n) [] := ⟨by simp, by simpa using hO1'⟩
    have HB1 : Hid (Bk w1 h 52 #[.nilFunc, .slice A n c, .int .i64 m]) := hHn.out.bk.later hb1
    replace KC := Lib.hid (fun (W : World) (hb : Below w1.heap.size w1 W) => KC.out W (hb1.trans (hb.mono hb1.size)))
    clear hO1' hg1 hc K1
    refine wp_region_held_drew (S := fun W => Below w1.heap.size w1 W) (by kernel_rfl) (Below.drew (Below.refl _ _)) (fun hS0 => ?_)
    refine wpAnyH_take (i := 0) (v := ?_) rfl (by kernel_rfl) (by kernel_rfl) (by kernel_rfl) (fun _ _ _ h => h) (Or.inl ⟨by rfl, ?_⟩) hS0 ?_
    rotate_left
    · intro W _; go_simp; try with_reducible rfl
    try simp only [Act.put, List.getElem_toArray, List.getElem_cons_zero, List.setIfInBounds_toArray, List.set_cons_zero, List.set_cons_succ]
    refine wpAnyH_take (i := 1) (v := ?_) rfl (by kernel_rfl) (by kernel_rfl) (by kernel_rfl) (fun _ _ _ h => h) (Or.inl ⟨by rfl, ?_⟩) hS0 ?_
    rotate_left
    · intro W _; go_simp; try with_reducible rfl
    try simp only [Act.put, List.getElem_toArray, List.getElem_cons_zero, List.getElem_cons_succ, List.setIfInBounds_toArray, List.set_cons_zero, List.set_cons_succ]
    refine wpAnyH_take (i := 2) (v := ?_) rfl (by kernel_rfl) (by kernel_rfl) (by kernel_rfl) (fun _ _ _ h => h) (Or.inl ⟨by rfl, ?_⟩) hS0 ?_
    rotate_left
    · intro W _; go_simp; try with_reducible rfl
    try simp only [Act.put, List.getElem_toArray, List.getElem_cons_zero, List.getElem_cons_succ, List.setIfInBounds_toArray, List.set_cons_zero, List.set_cons_succ]
    refine wpAnyH_take (i := 3) (v := ?_) rfl (by kernel_rfl) (by kernel_rfl) (by kernel_rfl) (fun _ _ _ h => h) (Or.inl ⟨by rfl, ?_⟩) hS0 ?_
    rotate_left
    · intro W hSW; have hx := (HB1.out.later hSW).cellAt 0; try simp only [List.getElem?_toArray, List.getElem?_cons_succ, List.getElem?_cons_zero] at hx; go_simp; try with_reducible rfl
    try simp only [Act.put, List.getElem_toArray, List.getElem_cons_zero, List.getElem_cons_succ, List.setIfInBounds_toArray, List.set_cons_zero, List.set_cons_succ]
    refine wpAnyH_take (i := 4) (v := ?_) rfl (by kernel_rfl) (by kernel_rfl) (by kernel_rfl) (fun _ _ _ h => h) (Or.inl ⟨by rfl, ?_⟩) hS0 ?_
    rotate_left
    · intro W _; go_simp; try with_reducible rfl
    try simp only [Act.put, List.getElem_toArray, List.getElem_cons_zero, List.getElem_cons_succ, List.setIfInBounds_toArray, List.set_cons_zero, List.set_cons_succ]
    refine wpAnyH_take (i := 5) (v := ?_) rfl (by kernel_rfl) (by kernel_rfl) (by kernel_rfl) (fun _ _ _ h => h) (Or.inl ⟨by rfl, ?_⟩) hS0 ?_
    rotate_left
    · intro W _; go_simp; try with_reducible rfl
    try simp only [Act.put, List.getElem_toArray, List.getElem_cons_zero, List.getElem_cons_succ, List.setIfInBounds_toArray, List.set_cons_zero, List.set_cons_succ]
    refine wpAnyH_take (i := 6) (v := ?_) rfl (by kernel_rfl) (by kernel_rfl) (by kernel_rfl) (fun _ _ _ h => h) (Or.inl ⟨by rfl, ?_⟩) hS0 ?_
    rotate_left
    · intro W _; go_simp; try with_reducible rfl
    try simp only [Act.put, List.getElem_toArray, List.getElem_cons_zero, List.getElem_cons_succ, List.setIfInBounds_toArray, List.set_cons_zero, List.set_cons_succ]
    refine wpAnyH_take (i := 7) (v := ?_) rfl (by kernel_rfl) (by kernel_rfl) (by kernel_rfl) (fun _ _ _ h => h) (Or.inl ⟨by rfl, ?_⟩) hS0 ?_
    rotate_left
    · intro W hSW; have hx := (HB1.out.later hSW).cellAt 1; try simp only [List.getElem?_toArray, List.getElem?_cons_succ, List.getElem?_cons_zero] at hx; go_simp; try with_reducible rfl
    try simp only [Act.put, List.getElem_toArray, List.getElem_cons_zero, List.getElem_cons_succ, List.setIfInBounds_toArray, List.set_cons_zero, List.set_cons_succ]
    refine wpAnyH_ready (rs := [8, 10]) (by kernel_rfl) (by simp) ?_
    refine (AllReadyH.cons rfl (fun K hK => ?_) (AllReadyH.cons rfl (fun K hK => ?_) AllReadyH.nil))
    · go_simp
      refine (KC.out _ hS0).mono ?_
      rintro e w2 ⟨vC, rfl, hC2, hb2⟩
      obtain ⟨aC, cC, hvC, _, _, _, _⟩ := hC2.sl
      rw [List.length_map] at hvC
      subst hvC
      have HC2 := Lib.hid hC2
      go_simp
      refine hK.out _ _ (hS0.trans (hb2.mono hS0.size)) (fun hS1 => ?_)
      clear hK K
      try simp only [Act.put, List.getElem_toArray, List.getElem_cons_zero, List.getElem_cons_succ, List.setIfInBounds_toArray, List.set_cons_zero, List.set_cons_succ]
      refine wpAnyH_take (i := 9) (v := ?_) rfl (by kernel_rfl) (by kernel_rfl) (by kernel_rfl) (fun _ _ _ h => h) (Or.inl ⟨by rfl, ?_⟩) hS1 ?_
      rotate_left
      · intro W _; go_simp; try with_reducible rfl
      try simp only [Act.put, List.getElem_toArray, List.getElem_cons_zero, List.getElem_cons_succ, List.setIfInBounds_toArray, List.set_cons_zero, List.set_cons_succ]
      refine wpAnyH_ready (rs := [10]) (by kernel_rfl) (by simp) ?_
      refine AllReadyH.cons rfl (fun K hK => ?_) AllReadyH.nil
      go_simp
      obtain ⟨W3, hW3⟩ : ∃ W, W = w2.alloc (.cells #[.nilFunc, .slice none 0 0, .int .i64 0] 52) := ⟨_, rfl⟩
      rw [← hW3]
      have HZ3 : Hid (Bk W3 w2.heap.size 52 #[.nilFunc, .slice none 0 0, .int .i64 0]) := by rw [hW3]; exact Bk.fresh _ _ _
      have hb3 : Below w2.heap.size w2 W3 := by rw [hW3]; exact (Below.refl _ _).alloc (Nat.le_refl _) _
      have HC3 := Lib.hid (HC2.out.below hb3)
      have HQ : Hid (w1.heap.size ≤ w2.heap.size) := (show w1.heap.size ≤ w2.heap.size from hb2.size)
      have HQC : Hid (w1.heap.size ≤ w1.drew.heap.size) := Nat.le_refl _
      clear HC2 hC2 hW3
      refine hK.out _ _ (hS1.trans (hb3.mono hS1.size)) (fun hS2 => ?_)
      clear hK K
      try simp only [Act.put, List.getElem_toArray, List.getElem_cons_zero, List.getElem_cons_succ, List.setIfInBounds_toArray, List.set_cons_zero, List.set_cons_succ]
      refine wpAnyH_ready (rs := [11]) (by kernel_rfl) (by simp) ?_
      refine AllReadyH.cons rfl (fun K hK => ?_) AllReadyH.nil
      rw [if_pos (by rfl)]
      refine store_bk_op 52 (.tmp 4) (.tmp 25) rfl w2.heap.size 0 #[.nilFunc, .slice aC l.length cC, .int .i64 0] rfl rfl 52 #[.nilFunc, .slice none 0 0, .int .i64 0] #[.nilFunc, .slice aC l.length cC, .int .i64 0] HZ3.out (by kernel_rfl) (by simp) (by kernel_rfl) rfl ?_
      intro w4 hB4 hg4 hs4
      have hs3 := hS2
      have hp4 : HpS w4 w1.heap.size w2.heap.size .nilFunc (.slice aC l.length cC) 0 l := ⟨hB4, (HC3.out.base HQC.out).grp2 hg4 HZ3.out (by decide), HQ.out⟩
      have hb4 : Below w1.heap.size w1 w4 := hs3.grown hg4 hs3.size (fun q e => by have e' := Option.some.inj e; have h2 := HQ.out; omega)
      have HP4 := Lib.hid hp4
      clear hB4 hg4 hs4
      refine hK.out _ _ (hb4) (fun hS3 => ?_)
      clear hK K
      try simp only [Act.put, List.getElem_toArray, List.getElem_cons_zero, List.getElem_cons_succ, List.setIfInBounds_toArray, List.set_cons_zero, List.set_cons_succ]
      refine wpAnyH_done (by kernel_rfl) ?_ _
      have hbb := hb1.trans (hb4.mono hb1.size)
      have hO4 := hO1.below hb4
      obtain ⟨q, hq⟩ : ∃ q, q = w2.heap.size := ⟨_, rfl⟩
      have HR4 : Hid (SoSR w w4 q .nilFunc (ltN ByteArray) M B 0 0 (.slice (some ⟨w.heap.size, 0, none⟩) 0 n) (.slice aC l.length cC) l) := ⟨by simpa using hO4, by rw [hq]; exact hp4.base hb1.size, hA.out, hbb⟩
      rw [← hq]
      have HBL : Hid (B.length ≤ 900) := by show B.length ≤ 900; rw [← HLEN.out, ← HN.out]; exact hbig
      have KP := Lib.hid (fun (W : World) (vH : Value) (l' C : List (ByteArray × Int)) (hl : l'.length ≤ 900) (H : HpS W w.heap.size q .nilFunc vH 0 l') (h : Hol (ltN ByteArray) M l' C) => popS_any w.heap.size q .nilFunc vH 0 M l' C (ltN ByteArray) W (by omega) (.inr ⟨rfl, rfl⟩) (ltN_ok _) (Lib.hid H) (Lib.hid h))
      clear hS0 hO4 hp4 hb4 hbb hq HP4 HC3 HZ3 HQ HQC
      go_wp2_with fail
      refine (KP.out w4 _ l _ (by have h1 := HR4.out.len; have h2 := HBL.out; omega) HR4.out.hp HR4.out.hol).mono ?_; rintro e w5 ⟨rfl, l5, hu5, ho5⟩
      obtain ⟨vH5, hR5⟩ := HR4.out.pop hu5 ho5
      have HR5 := Lib.hid hR5
      clear hu5 ho5 hR5 HR4
      go_wp2_with fail
      go_loopw [3, 5, 6] (fun s3 s5 s6 wr => ∃ (k : Nat) (v vH : Value) (d : Bool) (l' : List (ByteArray × Int)), k ≤ B.length ∧ s3 = v ∧ s5 = .string (curS (B.drop k)) ∧ s6 = .bool d ∧ Hid (d = decide (k < B.length)) ∧ Hid (SoSR w wr q .nilFunc (ltN ByteArray) M B k (k + 1) v vH l')) (fun s3 s5 s6 wr => B.length + 1 - slenV s3)
      case atStart => exact ⟨0, _, vH5, _, l5, Nat.zero_le _, rfl, rfl, rfl, by show _ = _; simp, HR5⟩
      case round =>
        clear HR5
        obtain ⟨k, v, vH, d, l', hk, rfl, rfl, rfl, HD, HR⟩ := hrel
        obtain ⟨aV, cV, hv⟩ := HR.out.sl hk
        subst hv
        cases d
        case true =>
          have hkB : k < B.length := by have := HD.out; simpa using this.symm
          obtain ⟨⟨x1, xt⟩, hx⟩ : ∃ x, x = B[k] := ⟨_, rfl⟩
          have hcx : curS (B.drop k) = x1 := by rw [curS_drop B hkB, ← hx]
          rw [hcx]
          have HKB := Lib.hid hkB
          have HXE := Lib.hid hx
          have HA : Hid (SoSR w (wr.alloc (.cells #[.string x1] 9)) q .nilFunc (ltN ByteArray) M B k (k + 1) (.slice aV k cV) vH l') := HR.out.below ((Below.refl _ _).alloc (Nat.le_refl _) _)
          have HFR : Hid (Bk (wr.alloc (.cells #[.string x1] 9)) wr.heap.size 9 #[.string x1]) := Bk.fresh _ _ _
          have HTL : Hid (((B.take k).map cS).length = k) := by show _ = _; rw [List.length_map, List.length_take, Nat.min_eq_left hk]
          have HB8 : Hid (((B.take k).map cS).length + [[Value.string x1]].length ≤ maxLen) := by show _ ≤ _; rw [HTL.out]; have := HBL.out; show k + 1 ≤ _; unfold maxLen; omega
          have HB9 : Hid ((((B.take k).map cS).length + [[Value.string x1]].length) * 16 ≤ 140737488355328) := by show _ ≤ _; rw [HTL.out]; have := HBL.out; show (k + 1) * 16 ≤ _; omega
          have HBA : Hid (∀ y ∈ [[Value.string x1]], y.length = 1) := by intro y hy; simp only [List.mem_cons, List.not_mem_nil, or_false] at hy; subst hy; rfl
          clear hx hcx
          go_wp2_with ((with_reducible refine append_ka _ rfl (.tmp 35) (.tmp 37) 46 rfl w.heap.size 9 _ 1 16 Try.underlying46 infoXS rfl (by omega) (.slice aV k cV) _ rfl HA.out.ow ⟨wr.heap.size, 0, none⟩ 1 1 [[.string x1]] rfl (RdK.of_bk HFR.out) HBA.out oneXS rfl HB8.out HB9.out HA.out.be.size ?_); intro v6 w6 hO6 hg6 hat6; obtain ⟨a6, c6, hv6, _, _, _, _⟩ := hO6.sl; generalize hnQ : ((B.take k).map cS ++ [[Value.string x1]]).length = nQ at hv6; subst hv6; have HO6 := Lib.hid hO6; have HG6 := Lib.hid hg6; have HNQ : Hid (nQ = k + 1) := (by show nQ = k + 1; rw [← hnQ, List.length_append, HTL.out]; rfl); clear hO6 hg6 hat6 hnQ)
          have HR7 : Hid (SoSR w w6 q .nilFunc (ltN ByteArray) M B (k + 1) (k + 1) (.slice a6 nQ c6) vH l') := HA.out.app HKB.out (by rw [← HXE.out]; exact HO6.out) HG6.out
          clear HO6 HG6 HFR HA HR
          refine (KP.out w6 _ l' _ (by have h1 := HR7.out.len; have h2 := HBL.out; omega) HR7.out.hp HR7.out.hol).mono ?_; rintro e w8 ⟨rfl, l8, hu8, ho8⟩
          obtain ⟨vH8, hR8⟩ := HR7.out.pop hu8 ho8
          have HR8 := Lib.hid hR8
          clear hu8 ho8 hR8 HR7
          go_wp2_with fail
          go_round
          case rel => exact ⟨k + 1, _, vH8, _, l8, HKB.out, rfl, rfl, rfl, (by show _ = _; first | rfl | exact decide_eq_decide.2 (by first | omega | (simp only [List.length_drop]; omega))), HR8⟩
          case measure => have := HNQ.out; have := HKB.out; simp [slenV]; omega
        case false =>
          have hkB : ¬ k < B.length := by have := HD.out; simpa using this.symm
          have hkE : k = B.length := by omega
          go_wp2_with fail
          go_ret
          have h1 := HR.out.ow
          rw [List.take_of_length_le (by omega)] at h1
          exact ⟨_, rfl, h1, HR.out.be⟩
    · go_simp
      obtain ⟨W2, hW2⟩ : ∃ W, W = (w1.alloc (.cells #[.nilFunc, .slice none 0 0, .int .i64 0] 52)).drew := ⟨_, rfl⟩
      rw [← hW2]
      have HZ2 : Hid (Bk W2 w1.heap.size 52 #[.nilFunc, .slice none 0 0, .int .i64 0]) := by rw [hW2]; exact (Bk.fresh _ _ _).drewB
      have hb2 : Below w1.heap.size w1 W2 := by rw [hW2]; exact Below.drew ((Below.refl _ _).alloc (Nat.le_refl _) _)
      clear hW2
      refine hK.out _ _ (hb2) (fun hS1 => ?_)
      clear hK K
      try simp only [Act.put, List.getElem_toArray, List.getElem_cons_zero, List.getElem_cons_succ, List.setIfInBounds_toArray, List.set_cons_zero, List.set_cons_succ]
      refine wpAnyH_ready (rs := [8]) (by kernel_rfl) (by simp) ?_
      refine AllReadyH.cons rfl (fun K hK => ?_) AllReadyH.nil
      go_simp
      refine (KC.out _ hS1).mono ?_
      rintro e W3 ⟨vC, rfl, hC3, hb3⟩
      obtain ⟨aC, cC, hvC, _, _, _, _⟩ := hC3.sl
      rw [List.length_map] at hvC
      subst hvC
      have HC3 := Lib.hid hC3
      have HZ3 := Lib.hid (HZ2.out.later hb3)
      have HQ : Hid (w1.heap.size ≤ w1.heap.size) := Nat.le_refl _
      have HQC : Hid (w1.heap.size ≤ W2.heap.size) := hb2.size
      clear hC3
      go_simp
      refine hK.out _ _ (hS1.trans (hb3.mono hS1.size)) (fun hS2 => ?_)
      clear hK K
      try simp only [Act.put, List.getElem_toArray, List.getElem_cons_zero, List.getElem_cons_succ, List.setIfInBounds_toArray, List.set_cons_zero, List.set_cons_succ]
      refine wpAnyH_take (i := 9) (v := ?_) rfl (by kernel_rfl) (by kernel_rfl) (by kernel_rfl) (fun _ _ _ h => h) (Or.inl ⟨by rfl, ?_⟩) hS2 ?_
      rotate_left
      · intro W _; go_simp; try with_reducible rfl
      try simp only [Act.put, List.getElem_toArray, List.getElem_cons_zero, List.getElem_cons_succ, List.setIfInBounds_toArray, List.set_cons_zero, List.set_cons_succ]
      refine wpAnyH_ready (rs := [11]) (by kernel_rfl) (by simp) ?_
      refine AllReadyH.cons rfl (fun K hK => ?_) AllReadyH.nil
      rw [if_pos (by rfl)]
      refine store_bk_op 52 (.tmp 4) (.tmp 25) rfl w1.heap.size 0 #[.nilFunc, .slice aC l.length cC, .int .i64 0] rfl rfl 52 #[.nilFunc, .slice none 0 0, .int .i64 0] #[.nilFunc, .slice aC l.length cC, .int .i64 0] HZ3.out (by kernel_rfl) (by simp) (by kernel_rfl) rfl ?_
      intro w4 hB4 hg4 hs4
      have hs3 := hS2
      have hp4 : HpS w4 w1.heap.size w1.heap.size .nilFunc (.slice aC l.length cC) 0 l := ⟨hB4, (HC3.out.base HQC.out).grp2 hg4 HZ3.out (by decide), HQ.out⟩
      have hb4 : Below w1.heap.size w1 w4 := hs3.grown hg4 hs3.size (fun q e => by have e' := Option.some.inj e; have h2 := HQ.out; omega)
      have HP4 := Lib.hid hp4
      clear hB4 hg4 hs4
      refine hK.out _ _ (hb4) (fun hS3 => ?_)
      clear hK K
      try simp only [Act.put, List.getElem_toArray, List.getElem_cons_zero, List.getElem_cons_succ, List.setIfInBounds_toArray, List.set_cons_zero, List.set_cons_succ]
      refine wpAnyH_done (by kernel_rfl) ?_ _
      have hbb := hb1.trans (hb4.mono hb1.size)
      have hO4 := hO1.below hb4
      obtain ⟨q, hq⟩ : ∃ q, q = w1.heap.size := ⟨_, rfl⟩
      have HR4 : Hid (SoSR w w4 q .nilFunc (ltN ByteArray) M B 0 0 (.slice (some ⟨w.heap.size, 0, none⟩) 0 n) (.slice aC l.length cC) l) := ⟨by simpa using hO4, by rw [hq]; exact hp4.base hb1.size, hA.out, hbb⟩
      rw [← hq]
      have HBL : Hid (B.length ≤ 900) := by show B.length ≤ 900; rw [← HLEN.out, ← HN.out]; exact hbig
      have KP := Lib.hid (fun (W : World) (vH : Value) (l' C : List (ByteArray × Int)) (hl : l'.length ≤ 900) (H : HpS W w.heap.size q .nilFunc vH 0 l') (h : Hol (ltN ByteArray) M l' C) => popS_any w.heap.size q .nilFunc vH 0 M l' C (ltN ByteArray) W (by omega) (.inr ⟨rfl, rfl⟩) (ltN_ok _) (Lib.hid H) (Lib.hid h))
      clear hS0 hO4 hp4 hb4 hbb hq HP4 HC3 HZ3 HQ HQC
      go_wp2_with fail
      refine (KP.out w4 _ l _ (by have h1 := HR4.out.len; have h2 := HBL.out; omega) HR4.out.hp HR4.out.hol).mono ?_; rintro e w5 ⟨rfl, l5, hu5, ho5⟩
      obtain ⟨vH5, hR5⟩ := HR4.out.pop hu5 ho5
      have HR5 := Lib.hid hR5
      clear hu5 ho5 hR5 HR4
      go_wp2_with fail
      go_loopw [3, 5, 6] (fun s3 s5 s6 wr => ∃ (k : Nat) (v vH : Value) (d : Bool) (l' : List (ByteArray × Int)), k ≤ B.length ∧ s3 = v ∧ s5 = .string (curS (B.drop k)) ∧ s6 = .bool d ∧ Hid (d = decide (k < B.length)) ∧ Hid (SoSR w wr q .nilFunc (ltN ByteArray) M B k (k + 1) v vH l')) (fun s3 s5 s6 wr => B.length + 1 - slenV s3)
      case atStart => exact ⟨0, _, vH5, _, l5, Nat.zero_le _, rfl, rfl, rfl, by show _ = _; simp, HR5⟩
      case round =>
        clear HR5
        obtain ⟨k, v, vH, d, l', hk, rfl, rfl, rfl, HD, HR⟩ := hrel
        obtain ⟨aV, cV, hv⟩ := HR.out.sl hk
        subst hv
        cases d
        case true =>
          have hkB : k < B.length := by have := HD.out; simpa using this.symm
          obtain ⟨⟨x1, xt⟩, hx⟩ : ∃ x, x = B[k] := ⟨_, rfl⟩
          have hcx : curS (B.drop k) = x1 := by rw [curS_drop B hkB, ← hx]
          rw [hcx]
          have HKB := Lib.hid hkB
          have HXE := Lib.hid hx
          have HA : Hid (SoSR w (wr.alloc (.cells #[.string x1] 9)) q .nilFunc (ltN ByteArray) M B k (k + 1) (.slice aV k cV) vH l') := HR.out.below ((Below.refl _ _).alloc (Nat.le_refl _) _)
          have HFR : Hid (Bk (wr.alloc (.cells #[.string x1] 9)) wr.heap.size 9 #[.string x1]) := Bk.fresh _ _ _
          have HTL : Hid (((B.take k).map cS).length = k) := by show _ = _; rw [List.length_map, List.length_take, Nat.min_eq_left hk]
          have HB8 : Hid (((B.take k).map cS).length + [[Value.string x1]].length ≤ maxLen) := by show _ ≤ _; rw [HTL.out]; have := HBL.out; show k + 1 ≤ _; unfold maxLen; omega
          have HB9 : Hid ((((B.take k).map cS).length + [[Value.string x1]].length) * 16 ≤ 140737488355328) := by show _ ≤ _; rw [HTL.out]; have := HBL.out; show (k + 1) * 16 ≤ _; omega
          have HBA : Hid (∀ y ∈ [[Value.string x1]], y.length = 1) := by intro y hy; simp only [List.mem_cons, List.not_mem_nil, or_false] at hy; subst hy; rfl
          clear hx hcx
          go_wp2_with ((with_reducible refine append_ka _ rfl (.tmp 35) (.tmp 37) 46 rfl w.heap.size 9 _ 1 16 Try.underlying46 infoXS rfl (by omega) (.slice aV k cV) _ rfl HA.out.ow ⟨wr.heap.size, 0, none⟩ 1 1 [[.string x1]] rfl (RdK.of_bk HFR.out) HBA.out oneXS rfl HB8.out HB9.out HA.out.be.size ?_); intro v6 w6 hO6 hg6 hat6; obtain ⟨a6, c6, hv6, _, _, _, _⟩ := hO6.sl; generalize hnQ : ((B.take k).map cS ++ [[Value.string x1]]).length = nQ at hv6; subst hv6; have HO6 := Lib.hid hO6; have HG6 := Lib.hid hg6; have HNQ : Hid (nQ = k + 1) := (by show nQ = k + 1; rw [← hnQ, List.length_append, HTL.out]; rfl); clear hO6 hg6 hat6 hnQ)
          have HR7 : Hid (SoSR w w6 q .nilFunc (ltN ByteArray) M B (k + 1) (k + 1) (.slice a6 nQ c6) vH l') := HA.out.app HKB.out (by rw [← HXE.out]; exact HO6.out) HG6.out
          clear HO6 HG6 HFR HA HR
          refine (KP.out w6 _ l' _ (by have h1 := HR7.out.len; have h2 := HBL.out; omega) HR7.out.hp HR7.out.hol).mono ?_; rintro e w8 ⟨rfl, l8, hu8, ho8⟩
          obtain ⟨vH8, hR8⟩ := HR7.out.pop hu8 ho8
          have HR8 := Lib.hid hR8
          clear hu8 ho8 hR8 HR7
          go_wp2_with fail
          go_round
          case rel => exact ⟨k + 1, _, vH8, _, l8, HKB.out, rfl, rfl, rfl, (by show _ = _; first | rfl | exact decide_eq_decide.2 (by first | omega | (simp only [List.length_drop]; omega))), HR8⟩
          case measure => have := HNQ.out; have := HKB.out; simp [slenV]; omega
        case false =>
          have hkB : ¬ k < B.length := by have := HD.out; simpa using this.symm
          have hkE : k = B.length := by omega
          go_wp2_with fail
          go_ret
          have h1 := HR.out.ow
          rw [List.take_of_length_le (by omega)] at h1
          exact ⟨_, rfl, h1, HR.out.be⟩

end Go.Proofs.Ytkadcaihihgceaa
