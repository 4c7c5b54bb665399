/- A heap of layer 16 in memory, of pairs (P) and of strings (S); has, the closures, holds, isLess. No condition. -/
import Derived.Test.YtkadcaihihgceaaHgr
import Derived.Test.YtkadcaihihgceaaHpl
import Derived.Test.YtkadcaihihgceaaLat
import Derived.Defers
import Derived.Recover
namespace Go.Proofs.Ytkadcaihihgceaa
open Go.RowKit
set_option linter.unusedSimpArgs false
set_option linter.unusedVariables false

/-- A pair: the number by which it stands, the other one. -/
abbrev Px := Int × Int
/-- The blocks of a heap. -/
def HpB (h : Nat) (v : Value) (k : Nat) : Prop := k = h ∨ v.ownBlock = some k
/-- Pairs stand by their first numbers. -/
def ltP (a b : Px) : Bool := decide (a.1 < b.1)
theorem ltP_ok : WkO ltP := ⟨fun x y h => by simp only [ltP, decide_eq_true_eq, decide_eq_false_iff_not] at *; omega, fun x y z h1 h2 => by simp only [ltP, decide_eq_false_iff_not] at *; omega⟩
/-- Strings stand as their bytes do. -/
def ltS (a b : ByteArray) : Bool := Op.bytesLess a.toList b.toList
theorem bl_asy : ∀ x y : List UInt8, Op.bytesLess x y = true → Op.bytesLess y x = false
  | _, [], h => by simp [Op.bytesLess] at h
  | [], _ :: _, _ => by simp [Op.bytesLess]
  | a :: x, b :: y, h => by
    simp only [Op.bytesLess, Bool.or_eq_true, decide_eq_true_eq, Bool.and_eq_true, beq_iff_eq] at h
    simp only [Op.bytesLess, Bool.or_eq_false_iff, decide_eq_false_iff_not, Bool.and_eq_false_iff, beq_eq_false_iff_ne]
    rcases h with h | ⟨h1, h2⟩
    · rw [UInt8.lt_iff_toNat_lt] at h
      refine ⟨fun e => ?_, .inl fun e => ?_⟩
      · rw [UInt8.lt_iff_toNat_lt] at e; omega
      · rw [e] at h; omega
    · subst h1
      refine ⟨fun e => ?_, .inr (bl_asy x y h2)⟩
      rw [UInt8.lt_iff_toNat_lt] at e; omega
theorem bl_neg : ∀ x y z : List UInt8, Op.bytesLess x y = false → Op.bytesLess y z = false → Op.bytesLess x z = false
  | _, _, [], _, _ => by simp [Op.bytesLess]
  | _, [], _ :: _, _, h => by simp [Op.bytesLess] at h
  | [], _ :: _, _ :: _, h, _ => by simp [Op.bytesLess] at h
  | a :: x, b :: y, c :: z, h1, h2 => by
    simp only [Op.bytesLess, Bool.or_eq_false_iff, decide_eq_false_iff_not, Bool.and_eq_false_iff, beq_eq_false_iff_ne, UInt8.lt_iff_toNat_lt, ne_eq, ← UInt8.toNat_inj] at h1 h2 ⊢
    refine ⟨by omega, ?_⟩
    by_cases e : a.toNat = c.toNat
    · right
      exact bl_neg x y z (h1.2.resolve_left (by omega)) (h2.2.resolve_left (by omega))
    · exact .inl e
theorem ltS_ok : WkO ltS := ⟨fun x y h => bl_asy _ _ h, fun x y z h1 h2 => bl_neg _ _ _ h1 h2⟩
/-- Nobody is less. -/
def ltN (α : Type) (_ _ : α) : Bool := false
theorem ltN_ok (α : Type) : WkO (ltN α) := ⟨fun _ _ h => (by cases h), fun _ _ _ _ _ => rfl⟩
/-- The function that stands in the heap, and what it says. -/
def IsOP (F : Value) (lt : Px → Px → Bool) : Prop := F = .func (.func 10) #[] #[] ∧ lt = ltP
def IsOS (F : Value) (lt : ByteArray → ByteArray → Bool) : Prop := (F = .func (.func 24) #[] #[] ∧ lt = ltS) ∨ (F = .nilFunc ∧ lt = ltN ByteArray)
abbrev vP (x : Px) : Value := .agg #[.int .i64 x.1, .int .i64 x.2]
abbrev vS (x : ByteArray) : Value := .string x
abbrev arrP (x : Px) : Array Value := #[.int .i64 x.1, .int .i64 x.2]
abbrev arrS (x : ByteArray) : Array Value := #[.string x]
abbrev eP (x : Px × Int) : List Value := [.int .i64 x.1.1, .int .i64 x.1.2, .int .i64 x.2]
theorem eP_one (x : Px × Int) : ∀ u ∈ eP x, u.oneCell' = true := by
  intro u hu
  simp only [eP, List.mem_cons, List.not_mem_nil, or_false] at hu
  rcases hu with rfl | hu <;> first | rfl | (rcases hu with rfl | rfl <;> rfl) | (subst hu; rfl)
/-- A heap at h that holds these elements, in the order of its tree. -/
structure HpP (w : World) (b h : Nat) (F v : Value) (n : Int) (l : List (Px × Int)) : Prop where
  bk : Bk w h 60 #[F, v, .int .i64 n]
  ow : OwnK w b 62 3 v (l.map eP)
  le : b ≤ h
section
variable {w w' : World} {b b' h : Nat} {F v : Value} {n : Int} {l : List (Px × Int)}
theorem HpP.grp {p : Nat → Prop} (H : HpP w b h F v n l) (hg : GrP p w w') (hp : ∀ k, HpB h v k → ¬ p k) : HpP w' b h F v n l :=
  ⟨H.bk.grp hg (hp h (.inl rfl)), H.ow.grp hg fun g e => hp g (.inr e), H.le⟩
theorem HpP.below (H : HpP w b h F v n l) (hb : Below w.heap.size w w') : HpP w' b h F v n l := H.grp (GrP.ofBelow (p := fun _ => False) hb) fun _ _ e => e
theorem HpP.base (H : HpP w b h F v n l) (hb : b' ≤ b) : HpP w b' h F v n l := ⟨H.bk, H.ow.base hb, Nat.le_trans hb H.le⟩
theorem HpP.blk (H : HpP w b h F v n l) {k : Nat} (hk : HpB h v k) : b ≤ k ∧ k < w.heap.size := by
  rcases hk with rfl | e
  · exact ⟨H.le, H.bk.here⟩
  · exact ⟨H.ow.block _ e, H.ow.lt e⟩
theorem HpP.sl (H : HpP w b h F v n l) : ∃ A c, v = .slice A l.length c ∧ l.length ≤ c ∧ c ≤ 9223372036854775807 ∧ ∀ i (hi : i < l.length), ∃ g, A = some ⟨g, 0, none⟩ ∧ g ≠ h ∧ w.rangeAt g (i * 3) (eP l[i]) := by
  obtain ⟨A, c, hv, hr, h1, h2, _⟩ := H.ow.sl
  rw [List.length_map] at hv h1
  refine ⟨A, c, hv, h1, by unfold maxLen at h2; omega, fun i hi => ?_⟩
  obtain ⟨g, o, ha, hx⟩ := hr.at (i := i) (by simpa using hi)
  have hg0 : o = 0 := by
    rcases H.ow.2.2 with ⟨hv', h0⟩ | ⟨g', cap, cur, hv', _⟩
    · rw [List.length_map] at h0; omega
    · rw [hv, ha] at hv'; injection hv' with e; injection e with e; injection e
  subst hg0
  refine ⟨g, ha, fun e => ?_, by simpa using hx⟩
  subst e
  rcases H.ow.notBk H.bk (by decide) with h3 | h3
  · rw [hv, ha] at h3; cases h3
  · rw [hv, ha] at h3; exact h3 rfl
theorem HpP.off (H : HpP w b h F v n l) : v.ownBlock ≠ some h := fun e => by
  rcases H.ow.notBk H.bk (by decide) with h3 | h3
  · rw [h3] at e; cases e
  · exact h3 e
end
set_option maxHeartbeats 1600000 in
set_option maxRecDepth 100000 in
theorem hasP_any (i k n c h : Nat) (F : Value) (A : Option Addr) (m : Int) (w : World) (hB : Hid (Bk w h 60 #[F, .slice A n c, .int .i64 m])) :
    Calls Try.prog 49 #[.pointer (some ⟨h, 0, none⟩), .int .i64 i, .int .i64 k] w fun e w' => e = .returned (.bool (decide (i < n) && decide (k < n))) ∧ w' = w := by
  have hc : w.cell? ⟨h, 1, none⟩ = some (.slice A n c) := hB.out.cellAt 1
  go_enter Try.func49, Try.ntmps49
  go_wp2_with fail
  all_goals go_ret
  all_goals (refine ⟨?_, rfl⟩; show Ending.returned (.bool _) = _; congr 2; rw [← Bool.decide_and]; exact decide_eq_decide.2 (by omega))
abbrev eS (x : ByteArray × Int) : List Value := [.string x.1, .int .i64 x.2]
theorem eS_one (x : ByteArray × Int) : ∀ u ∈ eS x, u.oneCell' = true := by
  intro u hu
  simp only [eS, List.mem_cons, List.not_mem_nil, or_false] at hu
  rcases hu with rfl | hu <;> first | rfl | (rcases hu with rfl | rfl <;> rfl) | (subst hu; rfl)
/-- A heap at h that holds these elements, in the order of its tree. -/
structure HpS (w : World) (b h : Nat) (F v : Value) (n : Int) (l : List (ByteArray × Int)) : Prop where
  bk : Bk w h 52 #[F, v, .int .i64 n]
  ow : OwnK w b 73 2 v (l.map eS)
  le : b ≤ h
section
variable {w w' : World} {b b' h : Nat} {F v : Value} {n : Int} {l : List (ByteArray × Int)}
theorem HpS.grp {p : Nat → Prop} (H : HpS w b h F v n l) (hg : GrP p w w') (hp : ∀ k, HpB h v k → ¬ p k) : HpS w' b h F v n l :=
  ⟨H.bk.grp hg (hp h (.inl rfl)), H.ow.grp hg fun g e => hp g (.inr e), H.le⟩
theorem HpS.below (H : HpS w b h F v n l) (hb : Below w.heap.size w w') : HpS w' b h F v n l := H.grp (GrP.ofBelow (p := fun _ => False) hb) fun _ _ e => e
theorem HpS.base (H : HpS w b h F v n l) (hb : b' ≤ b) : HpS w b' h F v n l := ⟨H.bk, H.ow.base hb, Nat.le_trans hb H.le⟩
theorem HpS.blk (H : HpS w b h F v n l) {k : Nat} (hk : HpB h v k) : b ≤ k ∧ k < w.heap.size := by
  rcases hk with rfl | e
  · exact ⟨H.le, H.bk.here⟩
  · exact ⟨H.ow.block _ e, H.ow.lt e⟩
theorem HpS.sl (H : HpS w b h F v n l) : ∃ A c, v = .slice A l.length c ∧ l.length ≤ c ∧ c ≤ 9223372036854775807 ∧ ∀ i (hi : i < l.length), ∃ g, A = some ⟨g, 0, none⟩ ∧ g ≠ h ∧ w.rangeAt g (i * 2) (eS l[i]) := by
  obtain ⟨A, c, hv, hr, h1, h2, _⟩ := H.ow.sl
  rw [List.length_map] at hv h1
  refine ⟨A, c, hv, h1, by unfold maxLen at h2; omega, fun i hi => ?_⟩
  obtain ⟨g, o, ha, hx⟩ := hr.at (i := i) (by simpa using hi)
  have hg0 : o = 0 := by
    rcases H.ow.2.2 with ⟨hv', h0⟩ | ⟨g', cap, cur, hv', _⟩
    · rw [List.length_map] at h0; omega
    · rw [hv, ha] at hv'; injection hv' with e; injection e with e; injection e
  subst hg0
  refine ⟨g, ha, fun e => ?_, by simpa using hx⟩
  subst e
  rcases H.ow.notBk H.bk (by decide) with h3 | h3
  · rw [hv, ha] at h3; cases h3
  · rw [hv, ha] at h3; exact h3 rfl
theorem HpS.off (H : HpS w b h F v n l) : v.ownBlock ≠ some h := fun e => by
  rcases H.ow.notBk H.bk (by decide) with h3 | h3
  · rw [h3] at e; cases e
  · exact h3 e
end
set_option maxHeartbeats 1600000 in
set_option maxRecDepth 100000 in
theorem hasS_any (i k n c h : Nat) (F : Value) (A : Option Addr) (m : Int) (w : World) (hB : Hid (Bk w h 52 #[F, .slice A n c, .int .i64 m])) :
    Calls Try.prog 51 #[.pointer (some ⟨h, 0, none⟩), .int .i64 i, .int .i64 k] w fun e w' => e = .returned (.bool (decide (i < n) && decide (k < n))) ∧ w' = w := by
  have hc : w.cell? ⟨h, 1, none⟩ = some (.slice A n c) := hB.out.cellAt 1
  go_enter Try.func51, Try.ntmps51
  go_wp2_with fail
  all_goals go_ret
  all_goals (refine ⟨?_, rfl⟩; show Ending.returned (.bool _) = _; congr 2; rw [← Bool.decide_and]; exact decide_eq_decide.2 (by omega))
set_option maxHeartbeats 1600000 in
set_option maxRecDepth 100000 in
theorem ordP_any (a b : Px) (w : World) : Calls Try.prog 10 #[vP a, vP b] w fun e w' => e = .returned (.bool (ltP a b)) ∧ Below w.heap.size w w' := by
  go_enter Try.func10, Try.ntmps10
  go_wp2_with fail
  all_goals go_ret
  all_goals (refine ⟨rfl, ?_⟩; exact ((Below.refl _ _).alloc (Nat.le_refl _) _).alloc (by simp) _)
set_option maxHeartbeats 1600000 in
set_option maxRecDepth 100000 in
theorem ordS_any (a b : ByteArray) (w : World) : Calls Try.prog 24 #[vS a, vS b] w fun e w' => e = .returned (.bool (ltS a b)) ∧ Below w.heap.size w w' := by
  go_enter Try.func24, Try.ntmps24
  go_wp2_with fail
  all_goals go_ret
  all_goals exact ⟨rfl, Below.refl _ _⟩
set_option maxHeartbeats 1600000 in
set_option maxRecDepth 100000 in
/-- The deferred closure finds nothing to recover. -/
theorem idle_any (w : World) : CallsD Try.prog 45 #[] .returning w fun e u' w' => e = .returned (.tuple #[]) ∧ u' = .returning ∧ w' = w := by
  refine callsD_of_wpS Try.func45 rfl fun c₀ cs hu => ?_
  apply wpS_region
  simp [wpOpsS, go_sem, recoverD, hu, Try.ntmps45, Exit.thenS, bodyPostS, results, Try.results45]
  cases c₀
  simp_all
set_option maxHeartbeats 1600000 in
set_option maxRecDepth 100000 in
/-- A closure is asked. -/
theorem holds_any (G : FuncId) (cap : Array Value) (x : Bool) (w : World) (hG : ∀ w, (callFunc G cap).run Try.prog w = .ok (.enter G cap) w) (H : Hid (Calls Try.prog G cap w fun e w' => e = .returned (.bool x) ∧ Below w.heap.size w w')) :
    Calls Try.prog 33 #[.func (.func G) #[] cap] w fun e w' => e = .returned (.bool x) ∧ Below w.heap.size w w' := by
  have hmf : ∀ (fn : Fn) (first cap : Array Value) (w : World), (Instr.makeFunc fn first cap).run Try.prog w = .ok (.func fn first cap) w := fun _ _ _ _ => rfl
  go_enter_defers Try.func33, Try.ntmps33
  go_wp2_with fail
  refine H.out.mono ?_
  rintro e w1 ⟨rfl, hb1⟩
  go_wp2_with fail
  refine leaves_cons (f := 45) (args := #[]) (by simp) (by simp [go_sem]) ?_
  refine (idle_any _).mono ?_
  rintro e u' w'' ⟨rfl, rfl, rfl⟩
  exact ⟨_, results_tmp rfl _ _ _, rfl, hb1⟩
set_option maxHeartbeats 1600000 in
set_option maxRecDepth 100000 in
theorem lessCP_any (h g3 g4 g5 : Nat) (F v : Value) (m : Int) (lt : Px → Px → Bool) (x y : Px) (w : World) (hO : Hid (IsOP F lt)) (hN : F ≠ .nilFunc) (hB : Hid (Bk w h 60 #[F, v, .int .i64 m]))
    (h3 : Hid (w.cell? ⟨g3, 0, none⟩ = some (.pointer (some ⟨h, 0, none⟩)))) (h4 : Hid (Bk w g4 27 (arrP x))) (h5 : Hid (Bk w g5 27 (arrP y))) :
    Calls Try.prog 53 #[.pointer (some ⟨g3, 0, none⟩), .pointer (some ⟨g4, 0, none⟩), .pointer (some ⟨g5, 0, none⟩)] w fun e w' => e = .returned (.bool (lt x y)) ∧ Below w.heap.size w w' := by
  obtain ⟨rfl, rfl⟩ := hO.out
  go_enter Try.func53, Try.ntmps53
  go_wp2_with fail
  refine wp_region_held_drew (S := fun W => Below w.heap.size w W) (by kernel_rfl) (Below.drew (Below.refl _ _)) (fun hS0 => ?_)
  refine wpAnyH_take (i := 0) (v := ?_) rfl (by kernel_rfl) (by kernel_rfl) (by kernel_rfl) (fun _ _ _ h => h) (Or.inl ⟨by rfl, ?_⟩) hS0 ?_
  rotate_left
  · intro W hSW; have hx := (hSW.cell (p := ⟨g3, 0, none⟩) (World.block_lt_of_cell? w _ h3.out)).trans h3.out; go_simp; try with_reducible rfl
  try simp only [Act.put, List.getElem_toArray, List.getElem_cons_zero, List.setIfInBounds_toArray, List.set_cons_zero, List.set_cons_succ]
  refine wpAnyH_take (i := 1) (v := ?_) rfl (by kernel_rfl) (by kernel_rfl) (by kernel_rfl) (fun _ _ _ h => h) (Or.inl ⟨by rfl, ?_⟩) hS0 ?_
  rotate_left
  · intro W _; go_simp; try with_reducible rfl
  try simp only [Act.put, List.getElem_toArray, List.getElem_cons_zero, List.getElem_cons_succ, List.setIfInBounds_toArray, List.set_cons_zero, List.set_cons_succ]
  refine wpAnyH_take (i := 2) (v := ?_) rfl (by kernel_rfl) (by kernel_rfl) (by kernel_rfl) (fun _ _ _ h => h) (Or.inl ⟨by rfl, ?_⟩) hS0 ?_
  rotate_left
  · intro W _; go_simp; try with_reducible rfl
  try simp only [Act.put, List.getElem_toArray, List.getElem_cons_zero, List.getElem_cons_succ, List.setIfInBounds_toArray, List.set_cons_zero, List.set_cons_succ]
  refine wpAnyH_take (i := 3) (v := ?_) rfl (by kernel_rfl) (by kernel_rfl) (by kernel_rfl) (fun _ _ _ h => h) (Or.inl ⟨by rfl, ?_⟩) hS0 ?_
  rotate_left
  · intro W hSW; have hx := (hB.out.later hSW).cellAt 0; try simp only [List.getElem?_toArray, List.getElem?_cons_zero] at hx; go_simp; try with_reducible rfl
  try simp only [Act.put, List.getElem_toArray, List.getElem_cons_zero, List.getElem_cons_succ, List.setIfInBounds_toArray, List.set_cons_zero, List.set_cons_succ]
  refine wpAnyH_take (i := 4) (v := .agg #[.int .i64 x.1, .int .i64 x.2]) rfl (by kernel_rfl) (by kernel_rfl) (by kernel_rfl) (fun _ _ _ h => h) (yields_bk (by rfl) 27 _ rfl g4 0 rfl 27 #[.int .i64 x.1, .int .i64 x.2] #[.int .i64 x.1, .int .i64 x.2] _ (fun W hW => h4.out.later hW) (Part.whole _) Try.underlying27 rfl (by kernel_rfl)) hS0 ?_
  try simp only [Act.put, List.getElem_toArray, List.getElem_cons_zero, List.getElem_cons_succ, List.setIfInBounds_toArray, List.set_cons_zero, List.set_cons_succ]
  refine wpAnyH_take (i := 5) (v := .agg #[.int .i64 y.1, .int .i64 y.2]) rfl (by kernel_rfl) (by kernel_rfl) (by kernel_rfl) (fun _ _ _ h => h) (yields_bk (by rfl) 27 _ rfl g5 0 rfl 27 #[.int .i64 y.1, .int .i64 y.2] #[.int .i64 y.1, .int .i64 y.2] _ (fun W hW => h5.out.later hW) (Part.whole _) Try.underlying27 rfl (by kernel_rfl)) hS0 ?_
  try simp only [Act.put, List.getElem_toArray, List.getElem_cons_zero, List.getElem_cons_succ, List.setIfInBounds_toArray, List.set_cons_zero, List.set_cons_succ]
  refine wpAnyH_ready (rs := [6]) (by kernel_rfl) (by simp) ?_
  refine AllReadyH.cons rfl (fun K hK => ?_) AllReadyH.nil
  go_simp
  refine (ordP_any x y _).mono ?_
  rintro e w1 ⟨rfl, hb1⟩
  go_simp
  refine hK.out _ _ (hS0.trans (hb1.mono hS0.size)) (fun hS1 => ?_)
  clear hK K
  try simp only [Act.put, List.getElem_toArray, List.getElem_cons_zero, List.getElem_cons_succ, List.setIfInBounds_toArray, List.set_cons_zero, List.set_cons_succ]
  refine wpAnyH_take (i := 7) (v := ?_) rfl (by kernel_rfl) (by kernel_rfl) (by kernel_rfl) (fun _ _ _ h => h) (Or.inl ⟨by rfl, ?_⟩) hS1 ?_
  rotate_left
  · intro W _; go_simp; try with_reducible rfl
  try simp only [Act.put, List.getElem_toArray, List.getElem_cons_zero, List.getElem_cons_succ, List.setIfInBounds_toArray, List.set_cons_zero, List.set_cons_succ]
  refine wpAnyH_done (by kernel_rfl) ?_ _
  go_wp2_with fail
  all_goals go_ret
  all_goals exact ⟨rfl, hS1⟩
set_option maxHeartbeats 1600000 in
set_option maxRecDepth 100000 in
theorem lessCS_any (h g3 g4 g5 : Nat) (F v : Value) (m : Int) (lt : ByteArray → ByteArray → Bool) (x y : ByteArray) (w : World) (hO : Hid (IsOS F lt)) (hN : F ≠ .nilFunc) (hB : Hid (Bk w h 52 #[F, v, .int .i64 m]))
    (h3 : Hid (w.cell? ⟨g3, 0, none⟩ = some (.pointer (some ⟨h, 0, none⟩)))) (h4 : Hid (Bk w g4 9 (arrS x))) (h5 : Hid (Bk w g5 9 (arrS y))) :
    Calls Try.prog 54 #[.pointer (some ⟨g3, 0, none⟩), .pointer (some ⟨g4, 0, none⟩), .pointer (some ⟨g5, 0, none⟩)] w fun e w' => e = .returned (.bool (lt x y)) ∧ Below w.heap.size w w' := by
  obtain ⟨rfl, rfl⟩ := hO.out.resolve_right (fun e => hN e.1)
  go_enter Try.func54, Try.ntmps54
  go_wp2_with fail
  refine wp_region_held_drew (S := fun W => Below w.heap.size w W) (by kernel_rfl) (Below.drew (Below.refl _ _)) (fun hS0 => ?_)
  refine wpAnyH_take (i := 0) (v := ?_) rfl (by kernel_rfl) (by kernel_rfl) (by kernel_rfl) (fun _ _ _ h => h) (Or.inl ⟨by rfl, ?_⟩) hS0 ?_
  rotate_left
  · intro W hSW; have hx := (hSW.cell (p := ⟨g3, 0, none⟩) (World.block_lt_of_cell? w _ h3.out)).trans h3.out; go_simp; try with_reducible rfl
  try simp only [Act.put, List.getElem_toArray, List.getElem_cons_zero, List.setIfInBounds_toArray, List.set_cons_zero, List.set_cons_succ]
  refine wpAnyH_take (i := 1) (v := ?_) rfl (by kernel_rfl) (by kernel_rfl) (by kernel_rfl) (fun _ _ _ h => h) (Or.inl ⟨by rfl, ?_⟩) hS0 ?_
  rotate_left
  · intro W _; go_simp; try with_reducible rfl
  try simp only [Act.put, List.getElem_toArray, List.getElem_cons_zero, List.getElem_cons_succ, List.setIfInBounds_toArray, List.set_cons_zero, List.set_cons_succ]
  refine wpAnyH_take (i := 2) (v := ?_) rfl (by kernel_rfl) (by kernel_rfl) (by kernel_rfl) (fun _ _ _ h => h) (Or.inl ⟨by rfl, ?_⟩) hS0 ?_
  rotate_left
  · intro W _; go_simp; try with_reducible rfl
  try simp only [Act.put, List.getElem_toArray, List.getElem_cons_zero, List.getElem_cons_succ, List.setIfInBounds_toArray, List.set_cons_zero, List.set_cons_succ]
  refine wpAnyH_take (i := 3) (v := ?_) rfl (by kernel_rfl) (by kernel_rfl) (by kernel_rfl) (fun _ _ _ h => h) (Or.inl ⟨by rfl, ?_⟩) hS0 ?_
  rotate_left
  · intro W hSW; have hx := (hB.out.later hSW).cellAt 0; try simp only [List.getElem?_toArray, List.getElem?_cons_zero] at hx; go_simp; try with_reducible rfl
  try simp only [Act.put, List.getElem_toArray, List.getElem_cons_zero, List.getElem_cons_succ, List.setIfInBounds_toArray, List.set_cons_zero, List.set_cons_succ]
  refine wpAnyH_take (i := 4) (v := ?_) rfl (by kernel_rfl) (by kernel_rfl) (by kernel_rfl) (fun _ _ _ h => h) (Or.inl ⟨by rfl, ?_⟩) hS0 ?_
  rotate_left
  · intro W hSW; have hx := (h4.out.later hSW).cellAt 0; try simp only [List.getElem?_toArray, List.getElem?_cons_zero] at hx; go_simp; try with_reducible rfl
  try simp only [Act.put, List.getElem_toArray, List.getElem_cons_zero, List.getElem_cons_succ, List.setIfInBounds_toArray, List.set_cons_zero, List.set_cons_succ]
  refine wpAnyH_take (i := 5) (v := ?_) rfl (by kernel_rfl) (by kernel_rfl) (by kernel_rfl) (fun _ _ _ h => h) (Or.inl ⟨by rfl, ?_⟩) hS0 ?_
  rotate_left
  · intro W hSW; have hx := (h5.out.later hSW).cellAt 0; try simp only [List.getElem?_toArray, List.getElem?_cons_zero] at hx; go_simp; try with_reducible rfl
  try simp only [Act.put, List.getElem_toArray, List.getElem_cons_zero, List.getElem_cons_succ, List.setIfInBounds_toArray, List.set_cons_zero, List.set_cons_succ]
  refine wpAnyH_ready (rs := [6]) (by kernel_rfl) (by simp) ?_
  refine AllReadyH.cons rfl (fun K hK => ?_) AllReadyH.nil
  go_simp
  refine (ordS_any x y _).mono ?_
  rintro e w1 ⟨rfl, hb1⟩
  go_simp
  refine hK.out _ _ (hS0.trans (hb1.mono hS0.size)) (fun hS1 => ?_)
  clear hK K
  try simp only [Act.put, List.getElem_toArray, List.getElem_cons_zero, List.getElem_cons_succ, List.setIfInBounds_toArray, List.set_cons_zero, List.set_cons_succ]
  refine wpAnyH_take (i := 7) (v := ?_) rfl (by kernel_rfl) (by kernel_rfl) (by kernel_rfl) (fun _ _ _ h => h) (Or.inl ⟨by rfl, ?_⟩) hS1 ?_
  rotate_left
  · intro W _; go_simp; try with_reducible rfl
  try simp only [Act.put, List.getElem_toArray, List.getElem_cons_zero, List.getElem_cons_succ, List.setIfInBounds_toArray, List.set_cons_zero, List.set_cons_succ]
  refine wpAnyH_done (by kernel_rfl) ?_ _
  go_wp2_with fail
  all_goals go_ret
  all_goals exact ⟨rfl, hS1⟩
theorem boxes3 (w : World) (h : Nat) (tp tx : TypeId) (cx cy : Array Value) : Below w.heap.size w (((w.alloc (.cells #[.pointer (some ⟨h, 0, none⟩)] tp)).alloc (.cells cx tx)).alloc (.cells cy tx)) ∧
    (((w.alloc (.cells #[.pointer (some ⟨h, 0, none⟩)] tp)).alloc (.cells cx tx)).alloc (.cells cy tx)).cell? ⟨w.heap.size, 0, none⟩ = some (.pointer (some ⟨h, 0, none⟩)) ∧
    Bk (((w.alloc (.cells #[.pointer (some ⟨h, 0, none⟩)] tp)).alloc (.cells cx tx)).alloc (.cells cy tx)) (w.heap.size + 1) tx cx ∧
    Bk (((w.alloc (.cells #[.pointer (some ⟨h, 0, none⟩)] tp)).alloc (.cells cx tx)).alloc (.cells cy tx)) (w.heap.size + 1 + 1) tx cy := by
  have h1 : Bk (w.alloc (.cells #[.pointer (some ⟨h, 0, none⟩)] tp)) w.heap.size tp #[.pointer (some ⟨h, 0, none⟩)] := Bk.fresh _ _ _
  have b1 : Below w.heap.size w (w.alloc (.cells #[.pointer (some ⟨h, 0, none⟩)] tp)) := (Below.refl _ _).alloc (Nat.le_refl _) _
  generalize hw1 : w.alloc (.cells #[.pointer (some ⟨h, 0, none⟩)] tp) = w1 at *
  have s1 : w1.heap.size = w.heap.size + 1 := by rw [← hw1]; simp
  have h2 : Bk (w1.alloc (.cells cx tx)) w1.heap.size tx cx := Bk.fresh _ _ _
  have b2 : Below w1.heap.size w1 (w1.alloc (.cells cx tx)) := (Below.refl _ _).alloc (Nat.le_refl _) _
  generalize hw2 : w1.alloc (.cells cx tx) = w2 at *
  have s2 : w2.heap.size = w1.heap.size + 1 := by rw [← hw2]; simp
  have h3 : Bk (w2.alloc (.cells cy tx)) w2.heap.size tx cy := Bk.fresh _ _ _
  have b3 : Below w2.heap.size w2 (w2.alloc (.cells cy tx)) := (Below.refl _ _).alloc (Nat.le_refl _) _
  rw [s1] at h2
  rw [s2, s1] at h3
  have b12 : Below w.heap.size w w2 := b1.trans (b2.mono b1.size)
  refine ⟨b12.trans (b3.mono b12.size), ?_, h2.later b3, h3⟩
  have := ((h1.later b2).later b3).cellAt 0
  simpa using this
set_option maxHeartbeats 1600000 in
set_option maxRecDepth 100000 in
theorem isLessP_any (h : Nat) (F v : Value) (m : Int) (lt : Px → Px → Bool) (x y : Px) (w : World) (hO : Hid (IsOP F lt)) (hB : Hid (Bk w h 60 #[F, v, .int .i64 m])) :
    Calls Try.prog 50 #[.pointer (some ⟨h, 0, none⟩), vP x, vP y] w fun e w' => e = .returned (.bool (lt x y)) ∧ Below w.heap.size w w' := by
  have hmf : ∀ (fn : Fn) (first cap : Array Value) (w : World), (Instr.makeFunc fn first cap).run Try.prog w = .ok (.func fn first cap) w := fun _ _ _ _ => rfl
  have hc0 : w.cell? ⟨h, 0, none⟩ = some F := hB.out.cellAt 0
  have hlt : h < w.heap.size := hB.out.here
  have hlt1 : h < w.heap.size + 1 := by omega
  have hlt2 : h < w.heap.size + 1 + 1 := by omega
  by_cases hN : F = .nilFunc
  · obtain ⟨h1, h2⟩ : F = .nilFunc ∧ lt x y = false := by
      refine ⟨hN, ?_⟩
      obtain ⟨e, _⟩ := hO.out; rw [e] at hN; cases hN
    rw [h2]
    clear h2 hO
    subst h1
    have hne : ∀ w, (binOp .neq 28 .nilFunc .nilFunc).run Try.prog w = .ok (.bool false) w := fun w => rfl
    go_enter Try.func50, Try.ntmps50
    go_wp2_with fail
    all_goals go_ret
    all_goals exact ⟨rfl, by first | exact (((Below.refl _ _).alloc (Nat.le_refl _) _).alloc (by simp) _).alloc (by simp <;> omega) _ | exact ((Below.refl _ _).alloc (Nat.le_refl _) _)⟩
  · have hO' := hO
    obtain ⟨rfl, rfl⟩ := hO'.out
    have hne : ∀ w, (binOp .neq 28 (.func (.func 10) #[] #[]) .nilFunc).run Try.prog w = .ok (.bool true) w := fun w => rfl
    go_enter Try.func50, Try.ntmps50
    go_wp2_with fail
    obtain ⟨b0, b1, b2, b3⟩ := boxes3 w h 24 27 (arrP x) (arrP y)
    refine (holds_any 53 _ (ltP x y) _ (fun w => rfl) (Lib.hid (lessCP_any h _ _ _ _ v m ltP x y _ hO (by simp) (Lib.hid (hB.out.later b0)) (Lib.hid b1) (Lib.hid b2) (Lib.hid b3)))).mono ?_
    rintro e w1 ⟨rfl, hb1⟩
    go_wp2_with fail
    go_ret
    exact ⟨rfl, b0.trans (hb1.mono b0.size)⟩
set_option maxHeartbeats 1600000 in
set_option maxRecDepth 100000 in
theorem isLessS_any (h : Nat) (F v : Value) (m : Int) (lt : ByteArray → ByteArray → Bool) (x y : ByteArray) (w : World) (hO : Hid (IsOS F lt)) (hB : Hid (Bk w h 52 #[F, v, .int .i64 m])) :
    Calls Try.prog 52 #[.pointer (some ⟨h, 0, none⟩), vS x, vS y] w fun e w' => e = .returned (.bool (lt x y)) ∧ Below w.heap.size w w' := by
  have hmf : ∀ (fn : Fn) (first cap : Array Value) (w : World), (Instr.makeFunc fn first cap).run Try.prog w = .ok (.func fn first cap) w := fun _ _ _ _ => rfl
  have hc0 : w.cell? ⟨h, 0, none⟩ = some F := hB.out.cellAt 0
  have hlt : h < w.heap.size := hB.out.here
  have hlt1 : h < w.heap.size + 1 := by omega
  have hlt2 : h < w.heap.size + 1 + 1 := by omega
  by_cases hN : F = .nilFunc
  · obtain ⟨h1, h2⟩ : F = .nilFunc ∧ lt x y = false := by
      refine ⟨hN, ?_⟩
      obtain ⟨e, _⟩ | ⟨_, e⟩ := hO.out
      · rw [e] at hN; cases hN
      · rw [e]; rfl
    rw [h2]
    clear h2 hO
    subst h1
    have hne : ∀ w, (binOp .neq 49 .nilFunc .nilFunc).run Try.prog w = .ok (.bool false) w := fun w => rfl
    go_enter Try.func52, Try.ntmps52
    go_wp2_with fail
    all_goals go_ret
    all_goals exact ⟨rfl, by first | exact (((Below.refl _ _).alloc (Nat.le_refl _) _).alloc (by simp) _).alloc (by simp <;> omega) _ | exact ((Below.refl _ _).alloc (Nat.le_refl _) _)⟩
  · have hO' := hO
    obtain ⟨rfl, rfl⟩ := hO'.out.resolve_right (fun e => hN e.1)
    have hne : ∀ w, (binOp .neq 49 (.func (.func 24) #[] #[]) .nilFunc).run Try.prog w = .ok (.bool true) w := fun w => rfl
    go_enter Try.func52, Try.ntmps52
    go_wp2_with fail
    obtain ⟨b0, b1, b2, b3⟩ := boxes3 w h 47 9 (arrS x) (arrS y)
    refine (holds_any 54 _ (ltS x y) _ (fun w => rfl) (Lib.hid (lessCS_any h _ _ _ _ v m ltS x y _ hO (by simp) (Lib.hid (hB.out.later b0)) (Lib.hid b1) (Lib.hid b2) (Lib.hid b3)))).mono ?_
    rintro e w1 ⟨rfl, hb1⟩
    go_wp2_with fail
    go_ret
    exact ⟨rfl, b0.trans (hb1.mono b0.size)⟩
end Go.Proofs.Ytkadcaihihgceaa
