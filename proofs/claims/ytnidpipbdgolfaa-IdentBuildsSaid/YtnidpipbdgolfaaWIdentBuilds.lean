/- The walk of IdentBuilds: a name with one more byte is a name just where it may be. Conditions: the arguments are ones that Go can have. -/
import Derived.Test.YtnidpipbdgolfaaAwk
namespace Go.Proofs.Ytnidpipbdgolfaa.identBuilds
open Go.RowKit
set_option linter.unusedSimpArgs false
set_option linter.unusedVariables false

theorem nameL_parts {l : List UInt8} (h : nameL l = true) : 1 ≤ l.length ∧ l.length ≤ 16 ∧ (l.head? == some 45) = false ∧ l.all (fun c => okI c.toNat) = true := by
  unfold nameL at h
  simp only [Bool.and_eq_true, decide_eq_true_eq, Bool.not_eq_true'] at h
  exact ⟨h.1.1.1, h.1.1.2, h.1.2, h.2⟩
theorem nameL_more {l : List UInt8} (b : UInt8) (h : nameL l = true) : nameL (l ++ [b]) = (okI b.toNat && decide (l.length < 16)) := by
  obtain ⟨h1, h2, h3, h4⟩ := nameL_parts h
  unfold nameL
  rw [List.all_append, h4]
  have e1 : (l ++ [b]).head? = l.head? := by
    cases l with
    | nil => simp at h1
    | cons x r => rfl
  rw [e1, h3]
  simp only [List.length_append, List.length_cons, List.length_nil, List.all_cons, List.all_nil, Bool.and_true, Bool.true_and, Bool.not_false]
  rw [show decide (1 ≤ l.length + (0 + 1)) = true from decide_eq_true (by omega)]
  by_cases c : l.length < 16
  · rw [decide_eq_true c, show decide (l.length + (0 + 1) ≤ 16) = true from decide_eq_true (by omega)]; cases okI b.toNat <;> rfl
  · rw [decide_eq_false c, show decide (l.length + (0 + 1) ≤ 16) = false from decide_eq_false (by omega)]; cases okI b.toNat <;> rfl
theorem nameL_dashed (l : List UInt8) : nameL (45 :: l) = false := nameL_dash rfl

set_option maxHeartbeats 4000000 in
set_option maxRecDepth 100000 in
theorem walk (s : ByteArray) (x : Int) (w : World) (hs : s.size ≤ 140737488351232) (hx : (Lit.int .u8 x).wf = true) :
    Calls Try.prog 7 #[.string s, .int .u8 x] w fun e w' => e = .returned (.bool true) ∧ Below w.heap.size w w' := by
  by_cases h1000 : 1000 < s.size
  · have h1000z : (1000 : Int) < (s.size : Int) := by omega
    go_enter Try.func7, Try.ntmps7
    go_wp2_with fail
    refine (awake_any _).mono ?_
    rintro e w1 ⟨rfl, hb1⟩
    have hsz1 := hb1.size
    go_wp2_with fail
    refine (awake_any _).mono ?_
    rintro e w2 ⟨rfl, hb2⟩
    go_wp2
    go_ret
    exact ⟨rfl, (by (repeat' (first | (with_reducible exact Below.refl _ _) | (with_reducible refine bdrewN ?_ _) | (with_reducible refine Below.drew ?_) | (with_reducible refine Below.setCell ?_ ?_ _) | (with_reducible refine Below.alloc ?_ ?_ _) | (with_reducible refine Below.trans ?_ (Below.mono hb2 ?_)) | (with_reducible refine Below.trans ?_ (Below.mono hb1 ?_)) | (with_reducible exact Nat.le_refl _) | (with_reducible assumption) | omega | (simp only [World.size_alloc, World.size_setCell, World.size_drew, sz_drewN]; omega))))⟩
  have hname := fun W => name_any s W (by omega)
  by_cases hN : nameB s = true
  · rw [hN] at hname
    have HNm := Lib.hid hname
    clear hname
    have h16 : s.size ≤ 16 := by
      have := (nameL_parts hN).2.1; simpa using this
    have hx2 : 0 ≤ x ∧ x ≤ 255 := by simpa [Lit.wf, IntKind.min, IntKind.max, IntKind.signed, IntKind.bits] using hx
    obtain ⟨b, hbx⟩ : ∃ b : UInt8, x = (b.toNat : Int) := ⟨UInt8.ofNat x.toNat, by simp; omega⟩
    have hmore : nameB (s ++ ⟨#[b]⟩) = (okI x && decide (s.size < 16)) := by
      rw [hbx]
      have := nameL_more b hN
      unfold nameB
      rw [ByteArray.data_append, Array.toList_append]
      rw [show s.data.toList.length = s.size by simp] at this
      exact this
    have hcva : ∀ (w1 : World) (cc : Nat), (convert 35 9 (.slice (some ⟨w1.heap.size, 0, none⟩) 1 cc)).run Try.prog (w1.alloc (.cells #[.int .u8 x] 5)) = .ok (.string ⟨#[b]⟩) (w1.alloc (.cells #[.int .u8 x] 5)) := fun w1 cc => by
      rw [hbx]
      exact run_convert_bytes_back (P := Try.prog) (w1.alloc (.cells #[.int .u8 (b.toNat : Int)] 5)) 35 9 5 ⟨w1.heap.size, 0, none⟩ cc [b] Try.underlying35 Try.underlying5 Try.underlying9 (fun j hj => by
        obtain rfl : j = 0 := by simp at hj; omega
        simp [Addr.add])
    have HCV := Lib.hid hcva
    clear hcva hbx
    have hdash : nameB (⟨#[45]⟩ ++ s) = false := by
      unfold nameB
      rw [ByteArray.data_append, Array.toList_append]
      exact nameL_dashed _
    have hempty : nameB ⟨#[]⟩ = false := rfl
    have h1 := fun W => name_any (s ++ ⟨#[b]⟩) W (by rw [ByteArray.size_append]; have : (ByteArray.mk #[b]).size = 1 := rfl; omega)
    have h2 := fun W => name_any (⟨#[45]⟩ ++ s) W (by rw [ByteArray.size_append]; have : (ByteArray.mk #[45]).size = 1 := rfl; omega)
    have h3 := fun W => name_any ⟨#[]⟩ W (by decide)
    rw [hmore] at h1
    rw [hdash] at h2
    rw [hempty] at h3
    have H2 := Lib.hid h2
    have H3 := Lib.hid h3
    have hz1 : ¬ (1000 : Int) < (s.size : Int) := by omega
    have hz2 : (s.size : Int) ≤ 16 := by omega
    clear hmore hdash hempty h2 h3 hx hN
    by_cases c1 : 97 ≤ x <;> by_cases c2 : x ≤ 122 <;> by_cases c3 : 48 ≤ x <;> by_cases c4 : x ≤ 57 <;> by_cases c5 : x = 45 <;> by_cases c6 : s.size < 16
    all_goals first
      | (exfalso; omega)
      | (first
          | (have hk : okI x = true := decide_eq_true (by omega)
             rw [hk] at h1
             clear hk)
          | (have hk : okI x = false := decide_eq_false (by omega)
             rw [hk] at h1
             clear hk)
         first
          | (have c5' : (x == 45) = false := by simpa using c5)
          | subst c5
         first
          | (have c6' : (s.size : Int) < 16 := by omega
             rw [decide_eq_true c6] at h1)
          | (have c6' : ¬ (s.size : Int) < 16 := by omega
             rw [decide_eq_false c6] at h1)
         have H1 := Lib.hid h1
         clear h1
         go_enter Try.func7, Try.ntmps7
         go_wp2_with fail
         refine (awake_any _).mono ?_
         rintro e w1 ⟨rfl, hb1⟩
         have hsz1 := hb1.size
         have hsa : s.size + 1 ≤ 9223372036854775807 := by omega
         have hsb : 1 + s.size ≤ 9223372036854775807 := by omega
         have hcv := fun cc => HCV.out w1 cc
         go_wp2_with fail
         refine (HNm.out _).mono ?_
         rintro e w' ⟨rfl, rfl⟩
         go_wp2_with fail
         refine (H1.out _).mono ?_
         rintro e w' ⟨rfl, rfl⟩
         go_wp2_with fail
         refine (H2.out _).mono ?_
         rintro e w' ⟨rfl, rfl⟩
         go_wp2_with fail
         refine (H3.out _).mono ?_
         rintro e w' ⟨rfl, rfl⟩
         go_wp2
         go_ret
         exact ⟨ret_bool' (by first | rfl | (simp; omega) | (simp; done)), (by (repeat' (first | (with_reducible exact Below.refl _ _) | (with_reducible refine bdrewN ?_ _) | (with_reducible refine Below.drew ?_) | (with_reducible refine Below.setCell ?_ ?_ _) | (with_reducible refine Below.alloc ?_ ?_ _) | (with_reducible refine Below.trans ?_ (Below.mono hb1 ?_)) | (with_reducible exact Nat.le_refl _) | (with_reducible assumption) | omega | (simp only [World.size_alloc, World.size_setCell, World.size_drew, sz_drewN]; omega))))⟩)
  · have hN' : nameB s = false := by simpa using hN
    rw [hN'] at hname
    have HNm := Lib.hid hname
    clear hname hN hN'
    have hz1 : ¬ (1000 : Int) < (s.size : Int) := by omega
    go_enter Try.func7, Try.ntmps7
    go_wp2_with fail
    refine (awake_any _).mono ?_
    rintro e w1 ⟨rfl, hb1⟩
    have hsz1 := hb1.size
    go_wp2_with fail
    refine (HNm.out _).mono ?_
    rintro e w' ⟨rfl, rfl⟩
    go_wp2
    go_ret
    exact ⟨rfl, (by (repeat' (first | (with_reducible exact Below.refl _ _) | (with_reducible refine bdrewN ?_ _) | (with_reducible refine Below.drew ?_) | (with_reducible refine Below.setCell ?_ ?_ _) | (with_reducible refine Below.alloc ?_ ?_ _) | (with_reducible refine Below.trans ?_ (Below.mono hb1 ?_)) | (with_reducible exact Nat.le_refl _) | (with_reducible assumption) | omega | (simp only [World.size_alloc, World.size_setCell, World.size_drew, sz_drewN]; omega))))⟩
end Go.Proofs.Ytnidpipbdgolfaa.identBuilds
