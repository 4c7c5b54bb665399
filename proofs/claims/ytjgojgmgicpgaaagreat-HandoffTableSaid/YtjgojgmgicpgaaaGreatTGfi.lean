/- The contracts of gen1.find at machines and at queues, of slices.BinarySearchFunc below it. Condition: the slice reads as such elements, of at most 1000, whose names ascend. -/
import Derived.Test.YtjgojgmgicpgaaaGreatTGs0
import Derived.Test.YtjgojgmgicpgaaaGreatTQ05
namespace Go.Proofs.YtjgojgmgicpgaaaGreat
open Go.RowKit
set_option linter.unusedSimpArgs false
set_option linter.unusedVariables false

/-- Names ascend. -/
def AscK (K : List ByteArray) : Prop := ∀ i j (hi : i < K.length) (hj : j < K.length), i < j → sL K[i] K[j] = true
/-- How many names are less than s, where they ascend. -/
def lbK (s : ByteArray) (K : List ByteArray) : Nat := (K.takeWhile fun x => sL x s).length
def hasK (s : ByteArray) (K : List ByteArray) : Bool := K.any fun x => sE x s
theorem lbK_is {s : ByteArray} : ∀ {K : List ByteArray} {i : Nat}, i ≤ K.length → (∀ t (ht : t < K.length), t < i → sL K[t] s = true) → (∀ t (ht : t < K.length), i ≤ t → sL K[t] s = false) → lbK s K = i
  | [], i, hi, _, _ => by simp at hi; subst hi; rfl
  | x :: K, 0, _, _, h2 => by
    unfold lbK
    have h20 : sL x s = false := h2 0 (by simp) (Nat.le_refl _)
    rw [List.takeWhile_cons, if_neg (by rw [h20]; simp)]; rfl
  | x :: K, i + 1, hi, h1, h2 => by
    unfold lbK
    have hx : sL x s = true := h1 0 (by simp) (by omega)
    rw [List.takeWhile_cons, if_pos hx, List.length_cons]
    congr 1
    exact lbK_is (K := K) (by simpa using hi) (fun t ht hti => h1 (t + 1) (by simpa using ht) (by omega)) (fun t ht hti => h2 (t + 1) (by simpa using ht) (by omega))
theorem lbK_le (s : ByteArray) (K : List ByteArray) : lbK s K ≤ K.length := by unfold lbK; exact List.Sublist.length_le (List.takeWhile_sublist _)
theorem lbK_lt {s : ByteArray} : ∀ {K : List ByteArray} {t : Nat} (ht : t < K.length), t < lbK s K → sL K[t] s = true
  | x :: K, 0, _, h => by
    unfold lbK at h
    rw [List.takeWhile_cons] at h
    split at h
    · assumption
    · simp at h
  | x :: K, t + 1, ht, h => by
    unfold lbK at h
    rw [List.takeWhile_cons] at h
    split at h
    · exact lbK_lt (K := K) (by simpa using ht) (by unfold lbK; simpa using h)
    · simp at h
theorem lbK_at {s : ByteArray} : ∀ {K : List ByteArray} (h : lbK s K < K.length), sL (K[lbK s K]) s = false
  | x :: K, h => by
    by_cases hx : sL x s = true
    · have e : lbK s (x :: K) = lbK s K + 1 := by unfold lbK; rw [List.takeWhile_cons, if_pos hx, List.length_cons]
      simp only [e, List.getElem_cons_succ]
      exact lbK_at (K := K) (by rw [e] at h; simpa using h)
    · have e : lbK s (x :: K) = 0 := by unfold lbK; rw [List.takeWhile_cons, if_neg hx]; rfl
      simp only [e, List.getElem_cons_zero]
      simpa using hx
/-- Whether a name is there is told by the first one that isn't less. -/
theorem hasK_at {s : ByteArray} {K : List ByteArray} (hA : AscK K) (h : lbK s K < K.length) : hasK s K = sE K[lbK s K] s := by
  rw [Bool.eq_iff_iff]
  unfold hasK
  rw [List.any_eq_true]
  constructor
  · rintro ⟨x, hx, he⟩
    obtain ⟨t, ht, rfl⟩ := List.getElem_of_mem hx
    have hts : K[t] = s := sE_iff.1 he
    have h1 : lbK s K ≤ t := by
      rcases Nat.lt_or_ge t (lbK s K) with hlt | hge
      · have := lbK_lt ht hlt; rw [hts, sL_irrefl] at this; cases this
      · exact hge
    rcases Nat.eq_or_lt_of_le h1 with e | hlt
    · subst e; exact he
    · have h2 := hA (lbK s K) t h ht hlt
      rw [hts, lbK_at h] at h2; cases h2
  · intro he
    exact ⟨_, List.getElem_mem h, he⟩
theorem hasK_end {s : ByteArray} {K : List ByteArray} (h : lbK s K = K.length) : hasK s K = false := by
  unfold hasK
  rw [List.any_eq_false]
  intro x hx he
  obtain ⟨t, ht, rfl⟩ := List.getElem_of_mem hx
  have := lbK_lt (s := s) ht (by rw [h]; exact ht)
  rw [sE_iff.1 he, sL_irrefl] at this; cases this
theorem cmpB_neg (a b : ByteArray) : decide (Lib.compareBytes a.data.toList b.data.toList < 0) = sL a b := by
  rw [Bool.eq_iff_iff, decide_eq_true_eq, compareBytes_neg, sL_iff]
theorem cmpB_zero' : ∀ (a b : List UInt8), (Lib.compareBytes a b = 0) ↔ a = b
  | [], [] => by simp [Lib.compareBytes]
  | [], _ :: _ => by simp [Lib.compareBytes]
  | _ :: _, [] => by simp [Lib.compareBytes]
  | x :: a, y :: b => by
    unfold Lib.compareBytes
    by_cases h1 : x < y
    · have : x ≠ y := by rintro rfl; exact absurd h1 (UInt8.lt_irrefl _)
      simp [h1, this]
    · by_cases h2 : y < x
      · have : x ≠ y := by rintro rfl; exact h1 h2
        simp [h1, h2, this]
      · have : x = y := UInt8.le_antisymm (UInt8.not_lt.1 h2) (UInt8.not_lt.1 h1)
        subst this
        simp [h1, cmpB_zero' a b]
theorem cmpB_zero (a b : ByteArray) : decide (Lib.compareBytes a.data.toList b.data.toList = 0) = sE a b := by
  rw [Bool.eq_iff_iff, decide_eq_true_eq, cmpB_zero', sE_iff]
  exact ⟨fun h => Go.WideShapes.bytes_inj h, fun h => by rw [h]⟩

set_option maxHeartbeats 1600000 in
theorem nameQ_any (q : Qx) (w : World) : Calls Tryz.prog 123 #[.agg q.arr] w fun e w' => e = .returned (.string q.1) ∧ Below w.heap.size w w' := by
  obtain ⟨a0, a1, a2, a3⟩ := q
  go_enter Tryz.func123, Tryz.ntmps123
  go_wp2
  go_ret
  exact ⟨rfl, (Below.refl _ _).alloc (Nat.le_refl _) _⟩
set_option maxHeartbeats 3200000 in
set_option maxRecDepth 100000 in
theorem findQ1_any (q : Qx) (s : ByteArray) (c : Nat) (w : World) (hc : w.cell? ⟨c, 0, none⟩ = some (.func (.func 123) #[] #[])) :
    Calls Tryz.prog 219 #[.agg q.arr, .string s, .pointer (some ⟨c, 0, none⟩)] w fun e w' => e = .returned (.int .i64 (Lib.compareBytes (q.1).data.toList s.data.toList)) ∧ Below w.heap.size w w' := by
  have k1 := fun W => nameQ_any q W
  have k2 := fun W => compare_any (q.1) s W
  obtain ⟨a0, a1, a2, a3⟩ := q
  simp only at k1 k2 ⊢
  have hlt := World.block_lt_of_cell? w _ hc
  generalize Lib.compareBytes a0.data.toList s.data.toList = r at k2 ⊢
  have K1 := Lib.hid k1; have K2 := Lib.hid k2; clear k1 k2
  have hc' : (w.alloc (.cells #[.string a0, .int .i64 a1, .int .i64 a2, .int .i64 a3] 55)).cell? ⟨c, 0, none⟩ = some (.func (.func 123) #[] #[]) := Lib.cell?_alloc_some _ hc
  have HB : Hid (Bk (w.alloc (.cells #[.string a0, .int .i64 a1, .int .i64 a2, .int .i64 a3] 55)) w.heap.size 55 #[.string a0, .int .i64 a1, .int .i64 a2, .int .i64 a3]) := Bk.fresh _ _ _
  go_enter Tryz.func219, Tryz.ntmps219
  go_wp2_with ((with_reducible refine load_bk rfl 55 _ rfl w.heap.size 0 rfl 55 #[.string a0, .int .i64 a1, .int .i64 a2, .int .i64 a3] #[.string a0, .int .i64 a1, .int .i64 a2, .int .i64 a3] _ HB.out (Part.whole _) Tryz.underlying55 rfl (by kernel_rfl) ?_))
  refine (K1.out _).mono ?_; rintro e w1 ⟨rfl, hb1⟩
  go_wp2_with fail
  refine (K2.out _).mono ?_; rintro e w2 ⟨rfl, rfl⟩
  go_wp2_with fail
  go_ret
  exact ⟨rfl, ((Below.refl _ _).alloc (Nat.le_refl _) _).trans (hb1.mono (by simp))⟩

set_option maxHeartbeats 6400000 in
set_option maxRecDepth 100000 in
theorem searchQ_any (A : Option Addr) (n cap : Nat) (L : List Qx) (s : ByteArray) (c : Nat) (w : World) (hn : Hid (n = L.length)) (hr : Hid (RdQ w A (L))) (hbig : n ≤ 1000) (hs : Hid (AscK (L.map fun q => q.1))) (hc : Hid (w.cell? ⟨c, 0, none⟩ = some (.func (.func 123) #[] #[]))) :
    Calls Tryz.prog 218 #[.slice A n cap, .string s, .func (.func 219) #[] #[.pointer (some ⟨c, 0, none⟩)]] w fun e w' => e = .returned (.tuple #[.int .i64 (lbK s (L.map fun q => q.1)), .bool (hasK s (L.map fun q => q.1))]) ∧ Below w.heap.size w w' := by
  have k1 := fun (q : Qx) (W : World) (h : W.cell? ⟨c, 0, none⟩ = some (.func (.func 123) #[] #[])) => findQ1_any q s c W h
  obtain ⟨p, hp⟩ : ∃ p, p = lbK s (L.map fun q => q.1) := ⟨_, rfl⟩
  obtain ⟨f, hf⟩ : ∃ f, f = hasK s (L.map fun q => q.1) := ⟨_, rfl⟩
  rw [← hp, ← hf]
  have HP := Lib.hid hp; have HF := Lib.hid hf
  have K1 := Lib.hid k1; clear k1 hp hf
  have hclt := World.block_lt_of_cell? w _ hc.out
  go_enter Tryz.func218, Tryz.ntmps218
  go_wp2_with fail
  go_loopw [9, 10] (fun vi vj wr => ∃ i j : Nat, vi = .int .i64 i ∧ vj = .int .i64 j ∧ i ≤ j ∧ j ≤ n ∧ Hid (∀ t (ht : t < (L.map fun q => q.1).length), t < i → sL (L.map fun q => q.1)[t] s = true) ∧ Hid (∀ t (ht : t < (L.map fun q => q.1).length), j ≤ t → sL (L.map fun q => q.1)[t] s = false) ∧ Below w.heap.size w wr) (fun vi vj wr => (intOf vj).toNat - (intOf vi).toNat)
  case atStart => exact ⟨0, n, rfl, rfl, Nat.zero_le _, Nat.le_refl _, (show ∀ t (ht : t < _), t < 0 → _ from fun t ht h => by omega), (show ∀ t (ht : t < _), n ≤ t → _ from fun t ht h => by rw [List.length_map] at ht; have := hn.out; omega), Below.refl _ _⟩
  case round =>
    obtain ⟨i, j, rfl, rfl, hij, hjn, H1, H2, hb⟩ := hrel
    by_cases hlt : i < j
    · obtain ⟨h, hh⟩ : ∃ h, h = (i + j) / 2 := ⟨_, rfl⟩
      have hhi : i ≤ h := by omega
      have hhj : h < j := by omega
      have hhn : h < n := by omega
      have hlk : h < L.length := by have := hn.out; omega
      have HH := Lib.hid hh
      obtain ⟨g, o, hAe, hg, hq⟩ := (hr.out.later hb).at (i := h) (hlk)
      subst hAe
      skip
      obtain ⟨q, hqe⟩ : ∃ q, q = L[h] := ⟨_, rfl⟩
      rw [← hqe] at hq
      have HQ := Lib.hid hq; have HQe := Lib.hid hqe
      clear hq hqe hh
      have hcc := (hb.cell (p := ⟨c, 0, none⟩) hclt).trans hc.out
      have hkey : (L.map fun q => q.1)[h]'(by rw [List.length_map]; exact hlk) = q.1 := by rw [List.getElem_map, ← HQe.out]
      obtain ⟨r, hre⟩ : ∃ r, r = Lib.compareBytes (q.1).data.toList s.data.toList := ⟨_, rfl⟩
      have hneg := cmpB_neg (q.1) s
      have k2 := K1.out q wr hcc
      rw [← hre] at k2 hneg
      have K2 := Lib.hid k2; have HKey := Lib.hid hkey
      clear k2 hre hkey hcc
      have HQ2 := HQ.out.rg
      rw [HH.out] at HQ2
      have HQ3 := Lib.hid HQ2; clear HQ2
      go_wp2_with ((with_reducible refine load_rg rfl 55 _ rfl g (o + (i + j) / 2 * 4) rfl q.arr _ HQ3.out Tryz.underlying55 rfl (by kernel_rfl) ?_))
      refine K2.out.mono ?_; rintro e w2 ⟨rfl, hb2⟩
      have hB2 : Below w.heap.size w w2 := hb.trans (hb2.mono hb.size)
      cases hC : sL (q.1) s
      · rw [hC] at hneg
        have H3 : Hid (∀ t (ht : t < (L.map fun q => q.1).length), h ≤ t → sL (L.map fun q => q.1)[t] s = false) := fun t ht h1 => by
          rcases Nat.eq_or_lt_of_le h1 with e | hlt'
          · subst e; rw [HKey.out]; exact hC
          · rw [Bool.eq_false_iff]; intro h2
            have h3 := sL_trans (hs.out h t (by rw [List.length_map]; exact hlk) ht hlt') h2
            rw [HKey.out, hC] at h3; cases h3
        clear hC
        go_wp2_with fail
        go_round
        case rel => exact ⟨i, h, rfl, by have := HH.out; go_num, by omega, by omega, H1, H3, hB2⟩
        case measure => simp [intOf]; omega
      · rw [hC] at hneg
        have H3 : Hid (∀ t (ht : t < (L.map fun q => q.1).length), t < h + 1 → sL (L.map fun q => q.1)[t] s = true) := fun t ht h1 => by
          rcases Nat.eq_or_lt_of_le (Nat.le_of_lt_succ h1) with e | hlt'
          · subst e; rw [HKey.out]; exact hC
          · have h2 := hs.out t h ht (by rw [List.length_map]; exact hlk) hlt'
            rw [HKey.out] at h2
            exact sL_trans h2 hC
        clear hC
        go_wp2_with fail
        go_round
        case rel => exact ⟨h + 1, j, by have := HH.out; go_num, rfl, by omega, by omega, H3, H2, hB2⟩
        case measure => simp [intOf]; omega
    · have hij' : i = j := by omega
      subst hij'
      have hlb : lbK s (L.map fun q => q.1) = i := lbK_is (by rw [List.length_map]; have := hn.out; omega) H1.out H2.out
      have HLb := Lib.hid hlb; clear hlb
      by_cases hlt2 : i < n
      · have hlk : i < L.length := by have := hn.out; omega
        have hlk' : lbK s (L.map fun q => q.1) < (L.map fun q => q.1).length := by rw [HLb.out, List.length_map]; exact hlk
        have hhas := hasK_at hs.out hlk'
        simp only [HLb.out, List.getElem_map] at hhas
        obtain ⟨g, o, hAe, hg, hq⟩ := (hr.out.later hb).at (i := i) (hlk)
        subst hAe
        skip
        obtain ⟨q, hqe⟩ : ∃ q, q = L[i] := ⟨_, rfl⟩
        rw [← hqe] at hq hhas
        have HQ := Lib.hid hq
        clear hq hqe hlk'
        have hcc := (hb.cell (p := ⟨c, 0, none⟩) hclt).trans hc.out
        have hz := cmpB_zero (q.1) s
        obtain ⟨r, hre⟩ : ∃ r, r = Lib.compareBytes (q.1).data.toList s.data.toList := ⟨_, rfl⟩
        have k2 := K1.out q wr hcc
        rw [← hre] at k2 hz
        have K2 := Lib.hid k2
        have hpi : i = p := (HP.out.trans HLb.out).symm
        have hfi : decide (r = 0) = f := by rw [hz, ← hhas]; exact HF.out.symm
        subst hpi hfi
        clear k2 hre hcc hhas hz
        go_wp2_with (first | (with_reducible refine load_rg rfl 55 _ rfl g (o + i * 4) rfl q.arr _ HQ.out.rg Tryz.underlying55 rfl (by kernel_rfl) ?_))
        refine K2.out.mono ?_; rintro e w2 ⟨rfl, hb2⟩
        go_wp2_with fail
        exact bodyPost_ret (v := .tuple #[.int .i64 i, .bool (decide (r = 0))]) (by simp [results, Tryz.results218, go_sem]; rfl) rfl ⟨rfl, hb.trans (hb2.mono hb.size)⟩
      · have hin : i = n := by omega
        have hhas : hasK s (L.map fun q => q.1) = false := hasK_end (by rw [HLb.out, List.length_map, hin]; exact hn.out)
        have hpi : i = p := (HP.out.trans HLb.out).symm
        have hfi : false = f := (HF.out.trans hhas).symm
        subst hpi hfi
        go_wp2_with fail
        exact bodyPost_ret (v := .tuple #[.int .i64 i, .bool false]) (by simp [results, Tryz.results218, go_sem]) rfl ⟨rfl, hb⟩

set_option maxHeartbeats 3200000 in
set_option maxRecDepth 100000 in
theorem findQ_any (A : Option Addr) (n cap : Nat) (L : List Qx) (s : ByteArray) (w : World) (hn : Hid (n = L.length)) (hr : Hid (RdQ w A (L))) (hbig : n ≤ 1000) (hs : Hid (AscK (L.map fun q => q.1))) :
    Calls Tryz.prog 129 #[.slice A n cap, .string s, .func (.func 123) #[] #[]] w fun e w' => e = .returned (.tuple #[.int .i64 (lbK s (L.map fun q => q.1)), .bool (hasK s (L.map fun q => q.1))]) ∧ Below w.heap.size w w' := by
  have k1 := fun (c : Nat) (W : World) (h1 : Hid (RdQ W A (L))) (h2 : Hid (W.cell? ⟨c, 0, none⟩ = some (.func (.func 123) #[] #[]))) => searchQ_any A n cap L s c W hn h1 hbig hs h2
  obtain ⟨p, hp⟩ : ∃ p, p = lbK s (L.map fun q => q.1) := ⟨_, rfl⟩
  obtain ⟨f, hf⟩ : ∃ f, f = hasK s (L.map fun q => q.1) := ⟨_, rfl⟩
  rw [← hp, ← hf] at k1 ⊢
  have K1 := Lib.hid k1; clear k1 hp hf hs
  go_enter Tryz.func129, Tryz.ntmps129
  go_wp2_with fail
  refine (K1.out w.heap.size _ (hr.out.later ((Below.refl _ _).alloc (Nat.le_refl _) _)) (by show World.cell? _ _ = _; simp)).mono ?_; rintro e w2 ⟨rfl, hb2⟩
  go_wp2_with fail
  exact bodyPost_ret (v := .tuple #[.int .i64 p, .bool f]) (by simp [results, Tryz.results129, go_sem]) rfl ⟨rfl, ((Below.refl _ _).alloc (Nat.le_refl _) _).trans (hb2.mono (by simp))⟩

set_option maxHeartbeats 1600000 in
theorem nameM_any (q : Ml) (w : World) : Calls Tryz.prog 120 #[.agg q.1.arr] w fun e w' => e = .returned (.string q.1.nm) ∧ Below w.heap.size w w' := by
  obtain ⟨⟨a0, a1, a2, a3, a4, a5, a6, a7, a8⟩, a9⟩ := q
  go_enter Tryz.func120, Tryz.ntmps120
  go_wp2
  go_ret
  exact ⟨rfl, (Below.refl _ _).alloc (Nat.le_refl _) _⟩
set_option maxHeartbeats 3200000 in
set_option maxRecDepth 100000 in
theorem findM1_any (q : Ml) (s : ByteArray) (c : Nat) (w : World) (hc : w.cell? ⟨c, 0, none⟩ = some (.func (.func 120) #[] #[])) :
    Calls Tryz.prog 223 #[.agg q.1.arr, .string s, .pointer (some ⟨c, 0, none⟩)] w fun e w' => e = .returned (.int .i64 (Lib.compareBytes (q.1.nm).data.toList s.data.toList)) ∧ Below w.heap.size w w' := by
  have k1 := fun W => nameM_any q W
  have k2 := fun W => compare_any (q.1.nm) s W
  obtain ⟨⟨a0, a1, a2, a3, a4, a5, a6, a7, a8⟩, a9⟩ := q
  simp only at k1 k2 ⊢
  have hlt := World.block_lt_of_cell? w _ hc
  generalize Lib.compareBytes a0.data.toList s.data.toList = r at k2 ⊢
  have K1 := Lib.hid k1; have K2 := Lib.hid k2; clear k1 k2
  have hc' : (w.alloc (.cells #[.string a0, .int .i64 a1, .int .i64 a2, .int .i64 a3, .slice a4 a5 a6, .bool a7, .int .i64 a8] 93)).cell? ⟨c, 0, none⟩ = some (.func (.func 120) #[] #[]) := Lib.cell?_alloc_some _ hc
  have HB : Hid (Bk (w.alloc (.cells #[.string a0, .int .i64 a1, .int .i64 a2, .int .i64 a3, .slice a4 a5 a6, .bool a7, .int .i64 a8] 93)) w.heap.size 93 #[.string a0, .int .i64 a1, .int .i64 a2, .int .i64 a3, .slice a4 a5 a6, .bool a7, .int .i64 a8]) := Bk.fresh _ _ _
  go_enter Tryz.func223, Tryz.ntmps223
  go_wp2_with ((with_reducible refine load_bk rfl 93 _ rfl w.heap.size 0 rfl 93 #[.string a0, .int .i64 a1, .int .i64 a2, .int .i64 a3, .slice a4 a5 a6, .bool a7, .int .i64 a8] #[.string a0, .int .i64 a1, .int .i64 a2, .int .i64 a3, .slice a4 a5 a6, .bool a7, .int .i64 a8] _ HB.out (Part.whole _) Tryz.underlying93 rfl (by kernel_rfl) ?_))
  refine (K1.out _).mono ?_; rintro e w1 ⟨rfl, hb1⟩
  go_wp2_with fail
  refine (K2.out _).mono ?_; rintro e w2 ⟨rfl, rfl⟩
  go_wp2_with fail
  go_ret
  exact ⟨rfl, ((Below.refl _ _).alloc (Nat.le_refl _) _).trans (hb1.mono (by simp))⟩

set_option maxHeartbeats 6400000 in
set_option maxRecDepth 100000 in
theorem searchM_any (A : Option Addr) (n cap : Nat) (L : List Ml) (s : ByteArray) (c : Nat) (w : World) (hn : Hid (n = L.length)) (hr : Hid (RdM w A (mcs L))) (hbig : n ≤ 1000) (hs : Hid (AscK (L.map fun q => q.1.nm))) (hc : Hid (w.cell? ⟨c, 0, none⟩ = some (.func (.func 120) #[] #[]))) :
    Calls Tryz.prog 222 #[.slice A n cap, .string s, .func (.func 223) #[] #[.pointer (some ⟨c, 0, none⟩)]] w fun e w' => e = .returned (.tuple #[.int .i64 (lbK s (L.map fun q => q.1.nm)), .bool (hasK s (L.map fun q => q.1.nm))]) ∧ Below w.heap.size w w' := by
  have k1 := fun (q : Ml) (W : World) (h : W.cell? ⟨c, 0, none⟩ = some (.func (.func 120) #[] #[])) => findM1_any q s c W h
  obtain ⟨p, hp⟩ : ∃ p, p = lbK s (L.map fun q => q.1.nm) := ⟨_, rfl⟩
  obtain ⟨f, hf⟩ : ∃ f, f = hasK s (L.map fun q => q.1.nm) := ⟨_, rfl⟩
  rw [← hp, ← hf]
  have HP := Lib.hid hp; have HF := Lib.hid hf
  have K1 := Lib.hid k1; clear k1 hp hf
  have hclt := World.block_lt_of_cell? w _ hc.out
  go_enter Tryz.func222, Tryz.ntmps222
  go_wp2_with fail
  go_loopw [9, 10] (fun vi vj wr => ∃ i j : Nat, vi = .int .i64 i ∧ vj = .int .i64 j ∧ i ≤ j ∧ j ≤ n ∧ Hid (∀ t (ht : t < (L.map fun q => q.1.nm).length), t < i → sL (L.map fun q => q.1.nm)[t] s = true) ∧ Hid (∀ t (ht : t < (L.map fun q => q.1.nm).length), j ≤ t → sL (L.map fun q => q.1.nm)[t] s = false) ∧ Below w.heap.size w wr) (fun vi vj wr => (intOf vj).toNat - (intOf vi).toNat)
  case atStart => exact ⟨0, n, rfl, rfl, Nat.zero_le _, Nat.le_refl _, (show ∀ t (ht : t < _), t < 0 → _ from fun t ht h => by omega), (show ∀ t (ht : t < _), n ≤ t → _ from fun t ht h => by rw [List.length_map] at ht; have := hn.out; omega), Below.refl _ _⟩
  case round =>
    obtain ⟨i, j, rfl, rfl, hij, hjn, H1, H2, hb⟩ := hrel
    by_cases hlt : i < j
    · obtain ⟨h, hh⟩ : ∃ h, h = (i + j) / 2 := ⟨_, rfl⟩
      have hhi : i ≤ h := by omega
      have hhj : h < j := by omega
      have hhn : h < n := by omega
      have hlk : h < L.length := by have := hn.out; omega
      have HH := Lib.hid hh
      obtain ⟨g, o, hAe, hg, hq⟩ := (hr.out.later hb).at (i := h) (by rw [List.length_map]; exact hlk)
      subst hAe
      rw [mcs_at (by assumption)] at hq
      obtain ⟨q, hqe⟩ : ∃ q, q = L[h] := ⟨_, rfl⟩
      rw [← hqe] at hq
      have HQ := Lib.hid hq; have HQe := Lib.hid hqe
      clear hq hqe hh
      have hcc := (hb.cell (p := ⟨c, 0, none⟩) hclt).trans hc.out
      have hkey : (L.map fun q => q.1.nm)[h]'(by rw [List.length_map]; exact hlk) = q.1.nm := by rw [List.getElem_map, ← HQe.out]
      obtain ⟨r, hre⟩ : ∃ r, r = Lib.compareBytes (q.1.nm).data.toList s.data.toList := ⟨_, rfl⟩
      have hneg := cmpB_neg (q.1.nm) s
      have k2 := K1.out q wr hcc
      rw [← hre] at k2 hneg
      have K2 := Lib.hid k2; have HKey := Lib.hid hkey
      clear k2 hre hkey hcc
      have HQ2 := HQ.out.rg
      rw [HH.out] at HQ2
      have HQ3 := Lib.hid HQ2; clear HQ2
      go_wp2_with ((with_reducible refine load_rg rfl 93 _ rfl g (o + (i + j) / 2 * 7) rfl q.1.arr _ HQ3.out Tryz.underlying93 rfl (by kernel_rfl) ?_))
      refine K2.out.mono ?_; rintro e w2 ⟨rfl, hb2⟩
      have hB2 : Below w.heap.size w w2 := hb.trans (hb2.mono hb.size)
      cases hC : sL (q.1.nm) s
      · rw [hC] at hneg
        have H3 : Hid (∀ t (ht : t < (L.map fun q => q.1.nm).length), h ≤ t → sL (L.map fun q => q.1.nm)[t] s = false) := fun t ht h1 => by
          rcases Nat.eq_or_lt_of_le h1 with e | hlt'
          · subst e; rw [HKey.out]; exact hC
          · rw [Bool.eq_false_iff]; intro h2
            have h3 := sL_trans (hs.out h t (by rw [List.length_map]; exact hlk) ht hlt') h2
            rw [HKey.out, hC] at h3; cases h3
        clear hC
        go_wp2_with fail
        go_round
        case rel => exact ⟨i, h, rfl, by have := HH.out; go_num, by omega, by omega, H1, H3, hB2⟩
        case measure => simp [intOf]; omega
      · rw [hC] at hneg
        have H3 : Hid (∀ t (ht : t < (L.map fun q => q.1.nm).length), t < h + 1 → sL (L.map fun q => q.1.nm)[t] s = true) := fun t ht h1 => by
          rcases Nat.eq_or_lt_of_le (Nat.le_of_lt_succ h1) with e | hlt'
          · subst e; rw [HKey.out]; exact hC
          · have h2 := hs.out t h ht (by rw [List.length_map]; exact hlk) hlt'
            rw [HKey.out] at h2
            exact sL_trans h2 hC
        clear hC
        go_wp2_with fail
        go_round
        case rel => exact ⟨h + 1, j, by have := HH.out; go_num, rfl, by omega, by omega, H3, H2, hB2⟩
        case measure => simp [intOf]; omega
    · have hij' : i = j := by omega
      subst hij'
      have hlb : lbK s (L.map fun q => q.1.nm) = i := lbK_is (by rw [List.length_map]; have := hn.out; omega) H1.out H2.out
      have HLb := Lib.hid hlb; clear hlb
      by_cases hlt2 : i < n
      · have hlk : i < L.length := by have := hn.out; omega
        have hlk' : lbK s (L.map fun q => q.1.nm) < (L.map fun q => q.1.nm).length := by rw [HLb.out, List.length_map]; exact hlk
        have hhas := hasK_at hs.out hlk'
        simp only [HLb.out, List.getElem_map] at hhas
        obtain ⟨g, o, hAe, hg, hq⟩ := (hr.out.later hb).at (i := i) (by rw [List.length_map]; exact hlk)
        subst hAe
        rw [mcs_at (by assumption)] at hq
        obtain ⟨q, hqe⟩ : ∃ q, q = L[i] := ⟨_, rfl⟩
        rw [← hqe] at hq hhas
        have HQ := Lib.hid hq
        clear hq hqe hlk'
        have hcc := (hb.cell (p := ⟨c, 0, none⟩) hclt).trans hc.out
        have hz := cmpB_zero (q.1.nm) s
        obtain ⟨r, hre⟩ : ∃ r, r = Lib.compareBytes (q.1.nm).data.toList s.data.toList := ⟨_, rfl⟩
        have k2 := K1.out q wr hcc
        rw [← hre] at k2 hz
        have K2 := Lib.hid k2
        have hpi : i = p := (HP.out.trans HLb.out).symm
        have hfi : decide (r = 0) = f := by rw [hz, ← hhas]; exact HF.out.symm
        subst hpi hfi
        clear k2 hre hcc hhas hz
        go_wp2_with (first | (with_reducible refine load_rg rfl 93 _ rfl g (o + i * 7) rfl q.1.arr _ HQ.out.rg Tryz.underlying93 rfl (by kernel_rfl) ?_))
        refine K2.out.mono ?_; rintro e w2 ⟨rfl, hb2⟩
        go_wp2_with fail
        exact bodyPost_ret (v := .tuple #[.int .i64 i, .bool (decide (r = 0))]) (by simp [results, Tryz.results222, go_sem]; rfl) rfl ⟨rfl, hb.trans (hb2.mono hb.size)⟩
      · have hin : i = n := by omega
        have hhas : hasK s (L.map fun q => q.1.nm) = false := hasK_end (by rw [HLb.out, List.length_map, hin]; exact hn.out)
        have hpi : i = p := (HP.out.trans HLb.out).symm
        have hfi : false = f := (HF.out.trans hhas).symm
        subst hpi hfi
        go_wp2_with fail
        exact bodyPost_ret (v := .tuple #[.int .i64 i, .bool false]) (by simp [results, Tryz.results222, go_sem]) rfl ⟨rfl, hb⟩

set_option maxHeartbeats 3200000 in
set_option maxRecDepth 100000 in
theorem findM_any (A : Option Addr) (n cap : Nat) (L : List Ml) (s : ByteArray) (w : World) (hn : Hid (n = L.length)) (hr : Hid (RdM w A (mcs L))) (hbig : n ≤ 1000) (hs : Hid (AscK (L.map fun q => q.1.nm))) :
    Calls Tryz.prog 133 #[.slice A n cap, .string s, .func (.func 120) #[] #[]] w fun e w' => e = .returned (.tuple #[.int .i64 (lbK s (L.map fun q => q.1.nm)), .bool (hasK s (L.map fun q => q.1.nm))]) ∧ Below w.heap.size w w' := by
  have k1 := fun (c : Nat) (W : World) (h1 : Hid (RdM W A (mcs L))) (h2 : Hid (W.cell? ⟨c, 0, none⟩ = some (.func (.func 120) #[] #[]))) => searchM_any A n cap L s c W hn h1 hbig hs h2
  obtain ⟨p, hp⟩ : ∃ p, p = lbK s (L.map fun q => q.1.nm) := ⟨_, rfl⟩
  obtain ⟨f, hf⟩ : ∃ f, f = hasK s (L.map fun q => q.1.nm) := ⟨_, rfl⟩
  rw [← hp, ← hf] at k1 ⊢
  have K1 := Lib.hid k1; clear k1 hp hf hs
  go_enter Tryz.func133, Tryz.ntmps133
  go_wp2_with fail
  refine (K1.out w.heap.size _ (hr.out.later ((Below.refl _ _).alloc (Nat.le_refl _) _)) (by show World.cell? _ _ = _; simp)).mono ?_; rintro e w2 ⟨rfl, hb2⟩
  go_wp2_with fail
  exact bodyPost_ret (v := .tuple #[.int .i64 p, .bool f]) (by simp [results, Tryz.results133, go_sem]) rfl ⟨rfl, ((Below.refl _ _).alloc (Nat.le_refl _) _).trans (hb2.mono (by simp))⟩
end Go.Proofs.YtjgojgmgicpgaaaGreat
