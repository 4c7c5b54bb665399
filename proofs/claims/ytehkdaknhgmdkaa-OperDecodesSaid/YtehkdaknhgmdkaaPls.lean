/- What the program writes of labels: the contract of putLabels. Conditions: at most four labels of short texts; a short beginning. -/
import Derived.Test.YtehkdaknhgmdkaaEnc
namespace Go.Proofs.Ytehkdaknhgmdkaa
open Go.RowKit
set_option linter.unusedSimpArgs false
set_option linter.unusedVariables false

/-- Short texts. -/
def Short (l : List Lb) : Prop := ∀ x ∈ l, x.1.size ≤ 16 ∧ x.2.size ≤ 16
theorem Short.at {l : List Lb} (h : Short l) {i : Nat} (hi : i < l.length) : l[i].1.size ≤ 16 ∧ l[i].2.size ≤ 16 := h _ (List.getElem_mem hi)
/-- What was written of the first k. -/
def lbs (l : List Lb) (k : Nat) : List UInt8 := (l.take k).flatMap lbEnc
theorem lbs_zero (l : List Lb) : lbs l 0 = [] := rfl
theorem lbs_succ {l : List Lb} {k : Nat} (h : k < l.length) : lbs l (k + 1) = lbs l k ++ lbEnc l[k] := by
  unfold lbs; rw [List.take_succ_eq_append_getElem h, List.flatMap_append]; simp
theorem lbs_full (l : List Lb) {k : Nat} (h : l.length ≤ k) : lbs l k = l.flatMap lbEnc := by unfold lbs; rw [List.take_of_length_le h]
theorem lbEnc_le {x : Lb} (h : x.1.size ≤ 16 ∧ x.2.size ≤ 16) : (lbEnc x).length ≤ 50 := by
  have := encT_le h.1; have := encT_le h.2; rw [lbEnc, List.length_append]; omega
theorem lbs_le {l : List Lb} (h : Short l) : ∀ k, k ≤ l.length → (lbs l k).length ≤ k * 50
  | 0, _ => by simp [lbs]
  | k + 1, hk => by
    have := lbs_le h k (by omega)
    have := lbEnc_le (h.at (i := k) (by omega))
    rw [lbs_succ (by omega), List.length_append]; omega

set_option maxHeartbeats 3200000 in
set_option maxRecDepth 100000 in
theorem putLabels_any (B : Option Addr) (d m : Nat) (A : Option Addr) (n cp N : Nat) (b : List UInt8) (l : List Lb) (w : World) (hm : Hid (m = b.length)) (hq : Hid (Rd w B b)) (hs : m ≤ 100000)
    (hn : Hid (n = l.length)) (hr : Hid (RdL w A l)) (hz : Hid (Short l)) (hc : n ≤ cp) (hc2 : cp ≤ 9223372036854775807) (h4 : n ≤ 4) (hN : Hid (N = (b ++ labEnc l).length)) :
    Calls Try.prog 54 #[.slice B m d, .slice A n cp] w (Got w N (b ++ labEnc l)) := by
  obtain ⟨N1, hN1⟩ : ∃ N1, N1 = (b ++ enc n).length := ⟨_, rfl⟩
  have e1 : N1 ≤ 100009 := by have := enc_le (n := n) (by omega); have := hm.out; rw [hN1, List.length_append]; omega
  have HN1 := Lib.hid hN1
  clear hN1
  go_enter Try.func54, Try.ntmps54
  go_wp2_with fail
  refine (putNumber_any B d m n N1 b _ (by omega) hm HN1 hq (by omega)).mono ?_
  rintro e w1 ⟨A1, c1, rfl, r1, p1, q1, x1, hb1⟩
  have R1 := Lib.hid r1
  have X1 := Lib.hid x1
  clear r1 x1
  go_wp2_with fail
  go_loopw [0, 6, 13] (fun b' _ i wr => ∃ (k K : Nat) (A' : Option Addr) (c' : Nat), k ≤ n ∧ i = .int .i64 k ∧ b' = .slice A' K c' ∧ Hid (K = (b ++ enc n ++ lbs l k).length) ∧ Hid (Rd wr A' (b ++ enc n ++ lbs l k)) ∧ K ≤ 100009 + k * 50 ∧ K ≤ c' ∧ c' ≤ 9223372036854775807 ∧ Hid (A' = none ∨ ∃ g, A' = some ⟨g, 0, none⟩) ∧ Below w.heap.size w wr) (fun _ _ i wr => n - (intOf i).toNat)
  case atStart => exact ⟨0, N1, A1, c1, Nat.zero_le _, rfl, rfl, (by show _ = _; rw [lbs_zero, List.append_nil]; exact HN1.out), (by show Rd _ _ _; rw [lbs_zero, List.append_nil]; exact R1.out), by omega, p1, q1, X1.out, hb1⟩
  case round =>
    obtain ⟨k, K, A', c', hk, rfl, rfl, hK, hR, hKb, hKc, hcc, hX, hb⟩ := hrel
    by_cases hlt : k < n
    · have hl : k < l.length := by have := hn.out; omega
      obtain ⟨g, o, rfl, hg, h1, h2⟩ := (hr.out.later hb).at hl
      obtain ⟨z1, z2⟩ := hz.out.at hl
      obtain ⟨K1, hK1⟩ : ∃ K1, K1 = (b ++ enc n ++ lbs l k ++ encT l[k].1).length := ⟨_, rfl⟩
      obtain ⟨K2, hK2⟩ : ∃ K2, K2 = (b ++ enc n ++ lbs l k ++ encT l[k].1 ++ encT l[k].2).length := ⟨_, rfl⟩
      have s1 : K1 ≤ K + 25 := by have := encT_le z1; have := hK.out; rw [hK1, List.length_append]; omega
      have s2 : K2 ≤ K + 50 := by have := encT_le z2; rw [hK2, List.length_append, ← hK1]; omega
      have hS : Hid (b ++ enc n ++ lbs l (k + 1) = b ++ enc n ++ lbs l k ++ encT l[k].1 ++ encT l[k].2) := by show _ = _; rw [lbs_succ hl]; simp [lbEnc]
      obtain ⟨ka, hka⟩ : ∃ ka, ka = l[k].1 := ⟨_, rfl⟩
      obtain ⟨kb, hkb⟩ : ∃ kb, kb = l[k].2 := ⟨_, rfl⟩
      rw [← hka] at h1 z1 hK1 hK2 hS
      rw [← hkb] at h2 z2 hK2 hS
      have HK1 := Lib.hid hK1
      have HK2 := Lib.hid hK2
      clear hK1 hK2 hka hkb
      have c1' := fun A c W (h : Rd W A (b ++ enc n ++ lbs l k)) => putText_any A c K K1 ka (b ++ enc n ++ lbs l k) W hK HK1 (Lib.hid h) (by omega)
      have c2' := fun A c W (h : Rd W A (b ++ enc n ++ lbs l k ++ encT ka)) => putText_any A c K1 K2 kb (b ++ enc n ++ lbs l k ++ encT ka) W HK1 HK2 (Lib.hid h) (by omega)
      have C1 := Lib.hid c1'
      have C2 := Lib.hid c2'
      clear c1' c2'
      have hsz := hb.size
      go_wp2_with fail
      go_region_with (first
        | ((with_reducible refine (C1.out _ _ _ (hR.out.below (by (repeat' (first | (with_reducible exact Below.refl _ _) | (with_reducible refine bdrewN ?_ _) | (with_reducible refine Below.drew ?_) | (with_reducible refine Below.setCell ?_ ?_ _) | (with_reducible refine Below.alloc ?_ ?_ _) | (with_reducible exact Nat.le_refl _) | (with_reducible assumption) | omega | (simp only [World.size_alloc, World.size_setCell, World.size_drew, sz_drewN]; omega)))))).mono ?_); rintro e w2 ⟨g2, d2, rfl, ho2, hb2⟩; have hc2a := bcell hb2; obtain ⟨hca, hfa⟩ := hc2a; have O2 := Lib.hid ho2; clear ho2)
        | ((with_reducible refine (C2.out _ _ _ (O2.out.rd.below (by (repeat' (first | (with_reducible exact Below.refl _ _) | (with_reducible refine bdrewN ?_ _) | (with_reducible refine Below.drew ?_) | (with_reducible refine Below.setCell ?_ ?_ _) | (with_reducible refine Below.alloc ?_ ?_ _) | (with_reducible exact Nat.le_refl _) | (with_reducible assumption) | omega | (simp only [World.size_alloc, World.size_setCell, World.size_drew, sz_drewN]; omega)))))).mono ?_); rintro e w3 ⟨g3, d3, rfl, ho3, hb3⟩; have O3 := Lib.hid ho3; clear ho3))
      all_goals
        have hca3 := O3.out.caps
        have hl3 := HK2.out
        unfold maxLen at hca3
        rw [← hl3] at hca3
        have hz2 : wr.heap.size < w2.heap.size := (by have h := hb2.size; (try simp only [World.size_alloc, World.size_setCell, World.size_drew, sz_drewN] at h); omega)
        have hz3 : w2.heap.size ≤ w3.heap.size := (by have h := hb3.size; (try simp only [World.size_alloc, World.size_setCell, World.size_drew, sz_drewN] at h); omega)
        clear hca hfa hl3
        go_wp2
        go_round
        case rel => exact ⟨k + 1, K2, some ⟨g3, 0, none⟩, d3, by omega, by go_num, rfl, (by show _ = _; rw [hS.out]; exact HK2.out), (by show Rd _ _ _; rw [hS.out]; exact O3.out.rd), by omega, hca3.1, hca3.2, .inr ⟨g3, rfl⟩, (by (repeat' (first | (with_reducible exact Below.refl _ _) | (with_reducible refine bdrewN ?_ _) | (with_reducible refine Below.drew ?_) | (with_reducible refine Below.setCell ?_ ?_ _) | (with_reducible refine Below.alloc ?_ ?_ _) | (with_reducible refine Below.trans ?_ (Below.mono hb3 ?_)) | (with_reducible refine Below.trans ?_ (Below.mono hb2 ?_)) | (with_reducible refine Below.trans ?_ (Below.mono hb ?_)) | (with_reducible exact Nat.le_refl _) | (with_reducible assumption) | omega | (simp only [World.size_alloc, World.size_setCell, World.size_drew, sz_drewN]; omega))))⟩
        case measure => simp [intOf]; omega
    · have hkn : k = l.length := by have := hn.out; omega
      have hE : Hid (b ++ enc n ++ lbs l k = b ++ labEnc l) := by
        show _ = _
        rw [lbs_full l (Nat.le_of_eq hkn.symm), hn.out]; simp [labEnc]
      have hKN : K = N := by have := hK.out; rw [hE.out, ← hN.out] at this; exact this
      subst hKN
      clear hkn
      go_wp2
      go_ret
      exact ⟨A', c', rfl, (by rw [← hE.out]; exact hR.out), hKc, hcc, hX.out, hb⟩
end Go.Proofs.Ytehkdaknhgmdkaa
