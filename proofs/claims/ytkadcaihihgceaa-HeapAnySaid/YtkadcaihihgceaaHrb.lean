/- The document's heap: Push, Pop, Remove. Condition: at most 1000 pairs. -/
import Derived.Test.YtkadcaihihgceaaHra
import Derived.Test.YtkadcaihihgceaaHp8
namespace Go.Proofs.Ytkadcaihihgceaa
open Go.RowKit
set_option linter.unusedSimpArgs false
set_option linter.unusedVariables false

/-- Where a new pair stands: behind those that aren't greater. -/
def insR (x : Px) : List Px → List Px
  | [] => [x]
  | y :: A => if ltP x y then x :: y :: A else y :: insR x A
theorem insR_ins (x : Px) (m : Int) : ∀ A : List (Px × Int), (insL ltP (x, m) A).map Prod.fst = insR x (A.map Prod.fst)
  | [] => rfl
  | y :: A => by
    unfold insL
    rw [List.map_cons]
    unfold insR
    by_cases h : ltP x y.1 = true
    · rw [if_pos h, if_pos h]; rfl
    · rw [if_neg h, if_neg h, List.map_cons, insR_ins x m A]
theorem insR_len (x : Px) : ∀ L : List Px, (insR x L).length = L.length + 1
  | [] => rfl
  | y :: L => by
    unfold insR
    split
    · simp
    · rw [List.length_cons, insR_len x L, List.length_cons]
theorem insR_at (x : Px) : ∀ (L : List Px) (k : Nat), k ≤ L.length → (∀ y ∈ L.take k, y.1 ≤ x.1) → (∀ h : k < L.length, ¬ L[k].1 ≤ x.1) → insR x L = L.take k ++ x :: L.drop k
  | [], k, hk, _, _ => by simp at hk; subst hk; rfl
  | y :: L, 0, _, _, h => by
    have := h (by simp)
    unfold insR
    rw [if_pos (by simp only [ltP, decide_eq_true_eq]; simp at this; omega)]; rfl
  | y :: L, k + 1, hk, h1, h2 => by
    have := h1 y (by simp)
    unfold insR
    rw [if_neg (by simp only [ltP, decide_eq_true_eq]; omega), insR_at x L k (by simpa using hk) (fun z hz => h1 z (by simp [hz])) (fun h => h2 (Nat.succ_lt_succ h))]
    rfl
/-- The document's heap at r, that holds these pairs. -/
structure Rf (w : World) (b r : Nat) (A : Option Addr) (n c : Nat) (L : List Px) : Prop where
  bk : Bk w r 32 #[.slice A n c]
  rd : RdP w A n L
  le : b ≤ r
  cp : n ≤ c
  cm : c ≤ 9223372036854775807
  own : ∀ g o p, A = some ⟨g, o, p⟩ → b ≤ g ∧ ∃ cs, Bk w g 27 cs
  nn : A = none → c = 0
/-- The blocks of the document's heap. -/
def RfB (r : Nat) (A : Option Addr) (k : Nat) : Prop := k = r ∨ ∃ o p, A = some ⟨k, o, p⟩
section
variable {w w' : World} {b r n c : Nat} {A : Option Addr} {L : List Px}
theorem RdK.grp {k : Nat} {l : List (List Value)} {p : Nat → Prop} (h : RdK w k A l) (hk : 0 < k) (hl : ∀ x ∈ l, x.length = k) (hg : GrP p w w') (hn : ∀ g o q, A = some ⟨g, o, q⟩ → ¬ p g) : RdK w' k A l := fun i x hx => by
  obtain ⟨g, o, ha, hr⟩ := h i x hx
  refine ⟨g, o, ha, fun j v hv => ?_⟩
  have hlt : g < w.heap.size := World.block_lt_of_cell? w _ (hr j v hv)
  exact (hg.cell hlt (hn g o none ha)).trans (hr j v hv)
theorem eX_len (L : List Px) : ∀ x ∈ L.map eX, x.length = 2 := by
  intro x hx
  obtain ⟨y, _, rfl⟩ := List.mem_map.1 hx
  rfl
theorem eX_one (L : List Px) : ∀ x ∈ L.map eX, ∀ u ∈ x, u.oneCell' = true := by
  intro x hx u hu
  obtain ⟨y, _, rfl⟩ := List.mem_map.1 hx
  simp only [List.mem_cons, List.not_mem_nil, or_false] at hu
  rcases hu with rfl | rfl <;> rfl
theorem Rf.grp {p : Nat → Prop} (h : Rf w b r A n c L) (hg : GrP p w w') (hn : ∀ k, RfB r A k → ¬ p k) : Rf w' b r A n c L :=
  ⟨h.bk.grp hg (hn r (.inl rfl)), ⟨h.rd.1, h.rd.2.grp (by omega) (eX_len L) hg fun g o q e => hn g (.inr ⟨o, q, e⟩)⟩, h.le, h.cp, h.cm, fun g o q e => by
    obtain ⟨h1, cs, h2⟩ := h.own g o q e
    exact ⟨h1, cs, h2.grp hg (hn g (.inr ⟨o, q, e⟩))⟩, h.nn⟩
theorem Rf.below (h : Rf w b r A n c L) (hb : Below w.heap.size w w') : Rf w' b r A n c L := h.grp (GrP.ofBelow (p := fun _ => False) hb) fun _ _ e => e
theorem Rf.blk (h : Rf w b r A n c L) {k : Nat} (hk : RfB r A k) : b ≤ k ∧ k < w.heap.size := by
  rcases hk with rfl | ⟨o, p, e⟩
  · exact ⟨h.le, h.bk.here⟩
  · obtain ⟨h1, cs, h2⟩ := h.own _ _ _ e
    exact ⟨h1, h2.here⟩
end
/-- A heap and the document's lie apart. -/
theorem HpP.rf {w : World} {b b' h r n c : Nat} {F v : Value} {m : Int} {l : List (Px × Int)} {A : Option Addr} {L : List Px} (H : HpP w b h F v m l) (R : Rf w b' r A n c L) {k : Nat} (h1 : HpB h v k) (h2 : RfB r A k) : False := by
  have hne : ∀ {t t' : TypeId} {cs cs' : Array Value}, Bk w k t cs → Bk w k t' cs' → t ≠ t' → False := fun h1 h2 hn => by
    have := h1.symm.trans h2
    injection this with this
    injection this with _ this
    exact hn this
  have hO : ∀ {t : TypeId} {cs : Array Value}, Bk w k t cs → 62 ≠ t → v.ownBlock = some k → False := fun hb hn hv => by
    rcases H.ow.notBk hb hn with h3 | h3
    · rw [h3] at hv; cases hv
    · exact h3 hv
  rcases h1 with e | e <;> rcases h2 with e2 | ⟨o, p, e2⟩
  · subst e; subst e2; exact hne H.bk R.bk (by decide)
  · subst e; obtain ⟨_, cs, h3⟩ := R.own _ _ _ e2; exact hne H.bk h3 (by decide)
  · subst e2; exact hO R.bk (by decide) e
  · obtain ⟨_, cs, h3⟩ := R.own _ _ _ e2; exact hO h3 (by decide) e
/-- The document's heap has become another one. -/
def Ru (w w' : World) (b r : Nat) (L : List Px) : Prop := (∃ A n c, Rf w' b r A n c L ∧ ∀ k, RfB r A k → k = r ∨ (∃ cs, Bk w k 27 cs ∧ b ≤ k) ∨ w.heap.size ≤ k) ∧ GrP (fun k => k = r) w w'
theorem RdK.tail {w : World} {g o k : Nat} {x : List Value} {l : List (List Value)} (h : RdK w k (some ⟨g, o, none⟩) (x :: l)) : RdK w k (some ⟨g, o + k, none⟩) l := fun i y hy => by
  obtain ⟨g', o', ha, hr⟩ := h (i + 1) y (by simpa using hy)
  injection ha with ha
  injection ha with e1 e2
  subst e1 e2
  refine ⟨g, o + k, rfl, ?_⟩
  rw [Nat.add_mul, Nat.one_mul] at hr
  rwa [show o + k + i * k = o + (i * k + k) by omega]
theorem Rf.apart {w : World} {b r g o n c : Nat} {L : List Px} (h : Rf w b r (some ⟨g, o, none⟩) n c L) : g ≠ r := fun e => by
  obtain ⟨_, cs, h2⟩ := h.own _ _ _ rfl
  subst e
  have := h2.symm.trans h.bk
  injection this with this
  injection this with _ this
  exact absurd this (by decide)
theorem Rf.popped {w : World} {b r g o m c : Nat} {x : Px} {L : List Px} (h : Rf w b r (some ⟨g, o, none⟩) (m + 1) c (x :: L)) (A' : Option Addr) (c' : Nat) (hc' : m ≤ c' ∧ c' ≤ c) (hrd : RdK w 2 A' (L.map eX)) (hA : ∀ k o p, A' = some ⟨k, o, p⟩ → k = g) (hA2 : A' ≠ none) (o1 o2 : Obj) :
    (∃ A2 n2 c2, Rf (((w.setCell ⟨r, 0, none⟩ (.slice A' m c')).alloc o1).alloc o2) b r A2 n2 c2 L ∧ ∀ k, RfB r A2 k → RfB r (some ⟨g, o, none⟩) k) ∧ GrP (fun k => k = r) w (((w.setCell ⟨r, 0, none⟩ (.slice A' m c')).alloc o1).alloc o2) := by
  have hb : Below (w.setCell ⟨r, 0, none⟩ (.slice A' m c')).heap.size (w.setCell ⟨r, 0, none⟩ (.slice A' m c')) (((w.setCell ⟨r, 0, none⟩ (.slice A' m c')).alloc o1).alloc o2) := below2
  have hg : GrP (fun k => k = r) w (w.setCell ⟨r, 0, none⟩ (.slice A' m c')) := (GrP.refl (fun k => k = r) w).set (a := ⟨r, 0, none⟩) rfl _
  have hgr := h.apart
  obtain ⟨h1, cs, h2⟩ := h.own _ _ _ rfl
  have hn : m = L.length := by have := h.rd.1; simp at this; omega
  have h3 : Rf (w.setCell ⟨r, 0, none⟩ (.slice A' m c')) b r A' m c' L :=
    ⟨h.bk.put 0 _, ⟨hn, hrd.grp (by omega) (eX_len L) hg fun k o p e => by rw [hA k o p e]; exact hgr⟩, h.le, hc'.1, by have := h.cm; omega, fun k o p e => by
      rw [hA k o p e]
      exact ⟨h1, cs, h2.grp hg hgr⟩, fun e => absurd e hA2⟩
  refine ⟨⟨A', m, c', h3.below hb, fun k hk => hk.imp id fun ⟨o', p, e⟩ => ⟨o, none, by rw [hA k o' p e]⟩⟩, hg.trans (GrP.ofBelow hb)⟩
set_option maxHeartbeats 3200000 in
set_option maxRecDepth 100000 in
theorem rpop_some (b r : Nat) (A : Option Addr) (n c : Nat) (x : Px) (L : List Px) (w : World) (hbig : n ≤ 1000) (hR : Hid (Rf w b r A n c (x :: L))) :
    Calls Try.prog 14 #[.pointer (some ⟨r, 0, none⟩)] w fun e w' => e = .returned (.tuple #[vP x, .bool true]) ∧ (∃ A' n' c', Rf w' b r A' n' c' L ∧ ∀ k, RfB r A' k → RfB r A k) ∧ GrP (fun k => k = r) w w' := by
  obtain ⟨g, o, hA, hg, hx⟩ := hR.out.rd.at (i := 0) (by simp)
  subst hA
  obtain ⟨m, hm⟩ : ∃ m, n = m + 1 := ⟨n - 1, by have := hR.out.rd.1; simp at this; omega⟩
  subst hm
  obtain ⟨x1, x2⟩ := x
  have c1 : w.cell? ⟨g, o, none⟩ = some (.int .i64 x1) := by simpa using hx 0 _ rfl
  have c2 : w.cell? ⟨g, o + 1, none⟩ = some (.int .i64 x2) := by simpa using hx 1 _ rfl
  have c0 : w.cell? ⟨r, 0, none⟩ = some (.slice (some ⟨g, o, none⟩) (m + 1) c) := hR.out.bk.cellAt 0
  have f0 : w.frozen? ⟨r, 0, none⟩ = false := hR.out.bk.free 0
  have hr : r < w.heap.size := hR.out.bk.here
  have hcp := hR.out.cp
  have hcm := hR.out.cm
  have hr1 : r < w.heap.size + 1 := by omega
  have hg1 : g < w.heap.size + 1 := by omega
  have hp : (0 : Int) < (m : Int) + 1 := by omega
  have hp2 : (1 : Int) ≤ (m : Int) + 1 := by omega
  have hne : ((m : Int) + 1 == 0) = false := by simp; omega
  have hrd2 : RdK w 2 (some ⟨g, o + 2, none⟩) (L.map eX) := RdK.tail (x := eX (x1, x2)) hR.out.rd.2
  have hml : m = L.length := by have := hR.out.rd.1; simp at this; omega
  have HRD := Lib.hid hrd2; have HML := Lib.hid hml
  clear hx hrd2 hml
  by_cases h1 : c = 1
  · subst h1
    obtain rfl : m = 0 := by omega
    have HP := Lib.hid (hR.out.popped (some ⟨g, o, none⟩) 0 ⟨by omega, by omega⟩ (by
      have : L = [] := List.length_eq_zero_iff.1 (by have := HML.out; omega)
      rw [this]; exact RdK.nil _ _ _) (fun k o p e => by injection e with e; injection e with e; exact e.symm) (by simp) (.cells #[.int .i64 x1, .int .i64 x2] 27) (.cells #[.int .i64 x1, .int .i64 x2] 27))
    go_enter Try.func14, Try.ntmps14
    go_wp2_with fail
    exact bodyPost_ret (v := .tuple #[vP (x1, x2), .bool true]) (results_bk2 rfl _ _ w.heap.size 27 #[.int .i64 x1, .int .i64 x2] _ (.bool true) rfl rfl ((Bk.freshAt _ _ _ (by simp)).later ((Below.refl _ _).alloc (Nat.le_refl _) _)) Try.underlying27 rfl (by kernel_rfl)) rfl ⟨rfl, HP.out⟩
  · have HP := Lib.hid (hR.out.popped (some ⟨g, o + 2, none⟩) (c - 1) ⟨by omega, by omega⟩ HRD.out (fun k o p e => by injection e with e; injection e with e; exact e.symm) (by simp) (.cells #[.int .i64 x1, .int .i64 x2] 27) (.cells #[.int .i64 x1, .int .i64 x2] 27))
    go_enter Try.func14, Try.ntmps14
    go_wp2_with fail
    exact bodyPost_ret (v := .tuple #[vP (x1, x2), .bool true]) (results_bk2 rfl _ _ w.heap.size 27 #[.int .i64 x1, .int .i64 x2] _ (.bool true) rfl rfl ((Bk.freshAt _ _ _ (by simp)).later ((Below.refl _ _).alloc (Nat.le_refl _) _)) Try.underlying27 rfl (by kernel_rfl)) rfl ⟨rfl, HP.out⟩
set_option maxHeartbeats 3200000 in
set_option maxRecDepth 100000 in
theorem rpop_none (b r : Nat) (A : Option Addr) (n c : Nat) (w : World) (hR : Hid (Rf w b r A n c [])) :
    Calls Try.prog 14 #[.pointer (some ⟨r, 0, none⟩)] w fun e w' => e = .returned (.tuple #[zP, .bool false]) ∧ Below w.heap.size w w' := by
  have hn : n = 0 := hR.out.rd.1
  subst hn
  have c0 : w.cell? ⟨r, 0, none⟩ = some (.slice A 0 c) := hR.out.bk.cellAt 0
  have hr : r < w.heap.size := hR.out.bk.here
  go_enter Try.func14, Try.ntmps14
  go_wp2_with fail
  exact bodyPost_ret (v := .tuple #[zP, .bool false]) (results_bk2 rfl _ _ w.heap.size 27 #[.int .i64 0, .int .i64 0] _ (.bool false) rfl rfl (Bk.fresh _ _ _) Try.underlying27 rfl (by kernel_rfl)) rfl ⟨rfl, (Below.refl _ _).alloc (Nat.le_refl _) _⟩
end Go.Proofs.Ytkadcaihihgceaa
