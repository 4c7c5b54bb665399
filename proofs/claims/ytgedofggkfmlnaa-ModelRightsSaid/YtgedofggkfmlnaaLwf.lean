/- The statements' own small functions: labels and few (sizes that are looked at), place, and awake, which is true. Conditions: texts and slices that Go can have. -/
import Derived.Test.YtgedofggkfmlnaaSam
namespace Go.Proofs.Ytgedofggkfmlnaa
open Go.RowKit
set_option linter.unusedSimpArgs false
set_option linter.unusedVariables false

/-- Are labels of a size that is looked at? -/
def labsB (l : List Lb) : Bool := decide (l.length ≤ 100) && l.all smallB
set_option maxHeartbeats 1600000 in
theorem labs_any (A : Option Addr) (n c : Nat) (l : List Lb) (w : World) (hn : Hid (n = l.length)) (hr : Hid (RdL w A l)) (hz : Hid (Sz l)) (hc : n ≤ c) (hc2 : c ≤ 9223372036854775807) :
    Calls Try.prog 31 #[.slice A n c] w fun e w' => e = .returned (.bool (labsB l)) ∧ Below w.heap.size w w' := by
  by_cases h300 : 100 < n
  · have hr : labsB l = false := by unfold labsB; rw [show decide (l.length ≤ 100) = false from decide_eq_false (by have := hn.out; omega)]; rfl
    rw [hr]
    go_enter Try.func31, Try.ntmps31
    go_wp2
    go_ret
    exact ⟨rfl, Below.refl _ _⟩
  have HR : Hid (labsB l = l.all smallB) := by show _ = _; unfold labsB; rw [show decide (l.length ≤ 100) = true from decide_eq_true (by have := hn.out; omega)]; rfl
  go_enter Try.func31, Try.ntmps31
  go_wp2
  go_loopw [3, 9] (fun _ i wr => ∃ k : Nat, k ≤ n ∧ i = .int .i64 k ∧ Hid ((l.take k).all smallB = true) ∧ Below w.heap.size w wr) (fun _ i wr => n - (intOf i).toNat)
  case atStart => exact ⟨0, Nat.zero_le _, rfl, rfl, Below.refl _ _⟩
  case round =>
    obtain ⟨k, hk, rfl, HA, hb⟩ := hrel
    by_cases hlt : k < n
    · have hlt' : k < l.length := by have := hn.out; omega
      obtain ⟨g, o, rfl, hg, h1, h2⟩ := (hr.out.later hb).at hlt'
      obtain ⟨z1, z2⟩ := hz.out.at hlt'
      have HS : Hid ((l.take (k + 1)).all smallB = ((l.take k).all smallB && smallB l[k])) := all_takeL hlt'
      have HF : Hid (smallB l[k] = false → l.all smallB = false) := fun h => all_take_falseL hlt' h
      by_cases hok : l[k].1.size + l[k].2.size ≤ 1000
      · have HK : Hid (smallB l[k] = true) := decide_eq_true hok
        have hok' : (l[k].1.size : Int) + (l[k].2.size : Int) ≤ 1000 := by omega
        go_wp2_with fail
        go_quiet (fail)
        go_wp2
        go_round
        case rel => exact ⟨k + 1, by omega, by go_num, (show _ = _ by rw [HS.out, HA.out, HK.out]; rfl), (by (repeat' (first | (with_reducible exact Below.refl _ _) | (with_reducible refine bdrewN ?_ _) | (with_reducible refine Below.drew ?_) | (with_reducible refine Below.setCell ?_ ?_ _) | (with_reducible refine Below.alloc ?_ ?_ _) | (with_reducible refine Below.trans ?_ (Below.mono hb ?_)) | (with_reducible exact Nat.le_refl _) | (with_reducible assumption) | omega | (simp only [World.size_alloc, World.size_setCell, World.size_drew, sz_drewN]; omega))))⟩
        case measure => simp [intOf]; omega
      · have HK : Hid (labsB l = false) := by show _ = _; rw [HR.out]; exact HF.out (decide_eq_false hok)
        have hok' : ¬ (l[k].1.size : Int) + (l[k].2.size : Int) ≤ 1000 := by omega
        go_wp2_with fail
        go_quiet (fail)
        go_wp2
        go_ret
        exact ⟨ret_bool' HK.out.symm, (by (repeat' (first | (with_reducible exact Below.refl _ _) | (with_reducible refine bdrewN ?_ _) | (with_reducible refine Below.drew ?_) | (with_reducible refine Below.setCell ?_ ?_ _) | (with_reducible refine Below.alloc ?_ ?_ _) | (with_reducible refine Below.trans ?_ (Below.mono hb ?_)) | (with_reducible exact Nat.le_refl _) | (with_reducible assumption) | omega | (simp only [World.size_alloc, World.size_setCell, World.size_drew, sz_drewN]; omega))))⟩
    · have hkn : k = n := by omega
      have HK : Hid (labsB l = true) := by show _ = _; rw [HR.out, ← HA.out, List.take_of_length_le (by have := hn.out; omega)]
      go_wp2
      go_ret
      exact ⟨ret_bool' HK.out.symm, (by (repeat' (first | (with_reducible exact Below.refl _ _) | (with_reducible refine bdrewN ?_ _) | (with_reducible refine Below.drew ?_) | (with_reducible refine Below.setCell ?_ ?_ _) | (with_reducible refine Below.alloc ?_ ?_ _) | (with_reducible refine Below.trans ?_ (Below.mono hb ?_)) | (with_reducible exact Nat.le_refl _) | (with_reducible assumption) | omega | (simp only [World.size_alloc, World.size_setCell, World.size_drew, sz_drewN]; omega))))⟩

/-- Is all of a size that is looked at? -/
def fewP (l k : List Lb) (t : Nat) : Bool := labsB l && labsB k && decide (t < 5000)

set_option maxHeartbeats 3200000 in
set_option maxRecDepth 100000 in
theorem few_law (n0 : ByteArray) (na nb nc : Int) (A : Option Addr) (n cp : Nat) (l : List Lb) (q0 : ByteArray) (qa qb qc : Int) (t0 t1 : ByteArray) (tp ta tb tc : Int) (B : Option Addr) (m dp : Nat) (k : List Lb) (t2 t3 : ByteArray) (ts : Int) (w : World)
    (z0 : n0.size ≤ 140737488351232) (z1 : q0.size ≤ 140737488351232) (z2 : t0.size ≤ 140737488351232) (z3 : t1.size ≤ 140737488351232) (z4 : t2.size ≤ 140737488351232) (z5 : t3.size ≤ 140737488351232)
    (hn : Hid (n = l.length)) (hr : Hid (RdL w A l)) (hz : Hid (Sz l)) (hc : n ≤ cp) (hc2 : cp ≤ 9223372036854775807) (hm : Hid (m = k.length)) (hq : Hid (RdL w B k)) (hy : Hid (Sz k)) (hd : m ≤ dp) (hd2 : dp ≤ 9223372036854775807) :
    Calls Try.prog 9 #[.agg #[.string n0, .int .i64 na, .int .i64 nb, .int .i64 nc, .slice A n cp], .agg #[.string q0, .int .i64 qa, .int .i64 qb, .int .i64 qc], .agg #[.string t0, .string t1, .int .i64 tp, .int .i64 ta, .int .i64 tb, .int .i64 tc, .slice B m dp, .string t2, .string t3, .int .i64 ts]] w
      fun e w' => e = .returned (.bool (fewP l k (n0.size + q0.size + t0.size + t1.size + t2.size + t3.size))) ∧ Below w.heap.size w w' := by
  have h1 := fun W (h : RdL W A l) => labs_any A n cp l W hn (Lib.hid h) hz hc hc2
  have h2 := fun W (h : RdL W B k) => labs_any B m dp k W hm (Lib.hid h) hy hd hd2
  by_cases c1 : labsB l = true
  case neg =>
    have c1' : labsB l = false := by simpa using c1
    have hres : fewP l k (n0.size + q0.size + t0.size + t1.size + t2.size + t3.size) = false := by unfold fewP; rw [c1']; rfl
    rw [hres]
    rw [c1'] at h1
    have H1 := Lib.hid h1
    clear hres h1 h2 c1 c1'
    go_enter Try.func9, Try.ntmps9
    go_wp2_with fail
    refine (H1.out _ (hr.out.later (by (repeat' (first | (with_reducible exact Below.refl _ _) | (with_reducible refine bdrewN ?_ _) | (with_reducible refine Below.drew ?_) | (with_reducible refine Below.setCell ?_ ?_ _) | (with_reducible refine Below.alloc ?_ ?_ _) | (with_reducible exact Nat.le_refl _) | (with_reducible assumption) | omega | (simp only [World.size_alloc, World.size_setCell, World.size_drew, sz_drewN]; omega)))))).mono ?_
    rintro e w1 ⟨rfl, hb1⟩
    have hB1 : Below w.heap.size w w1 := Below.trans (by (repeat' (first | (with_reducible exact Below.refl _ _) | (with_reducible refine bdrewN ?_ _) | (with_reducible refine Below.drew ?_) | (with_reducible refine Below.setCell ?_ ?_ _) | (with_reducible refine Below.alloc ?_ ?_ _) | (with_reducible exact Nat.le_refl _) | (with_reducible assumption) | omega | (simp only [World.size_alloc, World.size_setCell, World.size_drew, sz_drewN]; omega)))) (hb1.mono (by simp; omega))
    go_wp2
    go_ret
    exact ⟨rfl, hB1⟩
  case pos =>
    rw [c1] at h1
    by_cases c2 : labsB k = true
    case neg =>
      have c2' : labsB k = false := by simpa using c2
      have hres : fewP l k (n0.size + q0.size + t0.size + t1.size + t2.size + t3.size) = false := by unfold fewP; rw [c1, c2']; rfl
      rw [hres]
      rw [c2'] at h2
      have H1 := Lib.hid h1
      have H2 := Lib.hid h2
      clear hres h1 h2 c1 c2 c2'
      go_enter Try.func9, Try.ntmps9
      go_wp2_with fail
      refine (H1.out _ (hr.out.later (by (repeat' (first | (with_reducible exact Below.refl _ _) | (with_reducible refine bdrewN ?_ _) | (with_reducible refine Below.drew ?_) | (with_reducible refine Below.setCell ?_ ?_ _) | (with_reducible refine Below.alloc ?_ ?_ _) | (with_reducible exact Nat.le_refl _) | (with_reducible assumption) | omega | (simp only [World.size_alloc, World.size_setCell, World.size_drew, sz_drewN]; omega)))))).mono ?_
      rintro e w1 ⟨rfl, hb1⟩
      have hB1 : Below w.heap.size w w1 := Below.trans (by (repeat' (first | (with_reducible exact Below.refl _ _) | (with_reducible refine bdrewN ?_ _) | (with_reducible refine Below.drew ?_) | (with_reducible refine Below.setCell ?_ ?_ _) | (with_reducible refine Below.alloc ?_ ?_ _) | (with_reducible exact Nat.le_refl _) | (with_reducible assumption) | omega | (simp only [World.size_alloc, World.size_setCell, World.size_drew, sz_drewN]; omega)))) (hb1.mono (by simp; omega))
      have hz1 : w.heap.size + 2 < w1.heap.size := by have h := hb1.size; simp only [World.size_alloc] at h; omega
      obtain ⟨hc1, hf1⟩ := bcell hb1
      go_wp2_with fail
      refine (H2.out _ (hq.out.later hB1)).mono ?_
      rintro e w2 ⟨rfl, hb2⟩
      have hB2 : Below w.heap.size w w2 := hB1.trans (hb2.mono hB1.size)
      go_wp2
      go_ret
      exact ⟨rfl, hB2⟩
    case pos =>
      have hres : fewP l k (n0.size + q0.size + t0.size + t1.size + t2.size + t3.size) = decide ((n0.size : Int) + (q0.size : Int) + (t0.size : Int) + (t1.size : Int) + (t2.size : Int) + (t3.size : Int) < 5000) := by
        unfold fewP; rw [c1, c2]
        exact decide_eq_decide.2 (by omega)
      rw [hres]
      rw [c2] at h2
      have H1 := Lib.hid h1
      have H2 := Lib.hid h2
      clear hres h1 h2 c1 c2
      go_enter Try.func9, Try.ntmps9
      go_wp2_with fail
      refine (H1.out _ (hr.out.later (by (repeat' (first | (with_reducible exact Below.refl _ _) | (with_reducible refine bdrewN ?_ _) | (with_reducible refine Below.drew ?_) | (with_reducible refine Below.setCell ?_ ?_ _) | (with_reducible refine Below.alloc ?_ ?_ _) | (with_reducible exact Nat.le_refl _) | (with_reducible assumption) | omega | (simp only [World.size_alloc, World.size_setCell, World.size_drew, sz_drewN]; omega)))))).mono ?_
      rintro e w1 ⟨rfl, hb1⟩
      have hB1 : Below w.heap.size w w1 := Below.trans (by (repeat' (first | (with_reducible exact Below.refl _ _) | (with_reducible refine bdrewN ?_ _) | (with_reducible refine Below.drew ?_) | (with_reducible refine Below.setCell ?_ ?_ _) | (with_reducible refine Below.alloc ?_ ?_ _) | (with_reducible exact Nat.le_refl _) | (with_reducible assumption) | omega | (simp only [World.size_alloc, World.size_setCell, World.size_drew, sz_drewN]; omega)))) (hb1.mono (by simp; omega))
      have hz1 : w.heap.size + 2 < w1.heap.size := by have h := hb1.size; simp only [World.size_alloc] at h; omega
      obtain ⟨hc1, hf1⟩ := bcell hb1
      go_wp2_with fail
      refine (H2.out _ (hq.out.later hB1)).mono ?_
      rintro e w2 ⟨rfl, hb2⟩
      have hB2 : Below w.heap.size w w2 := hB1.trans (hb2.mono hB1.size)
      have hx : ∀ b o, b < w.heap.size + 3 → w2.cell? ⟨b, o, none⟩ = (((w.alloc (.cells #[.string n0, .int .i64 na, .int .i64 nb, .int .i64 nc, .slice A n cp] 26)).alloc (.cells #[.string q0, .int .i64 qa, .int .i64 qb, .int .i64 qc] 28)).alloc (.cells #[.string t0, .string t1, .int .i64 tp, .int .i64 ta, .int .i64 tb, .int .i64 tc, .slice B m dp, .string t2, .string t3, .int .i64 ts] 30)).cell? ⟨b, o, none⟩ := fun b o h => (hb2.cell (p := ⟨b, o, none⟩) (by simp; omega)).trans (hc1 b o (by simp; omega))
      clear hc1 hf1
      go_wp2
      go_ret
      exact ⟨rfl, hB2⟩

set_option maxHeartbeats 1600000 in
theorem place_yes (R : Nat) (s : ByteArray) (nx er : Int) (w : World) (hR : RdR w R s (nx, er)) (h : ¬ er = 0 → nx = 0) :
    Calls Try.prog 30 #[.int .i64 nx, .int .i64 er, .pointer (some ⟨R, 0, none⟩)] w fun e w' => e = .returned (.bool true) ∧ w = w' := by
  obtain ⟨at_, hB, hat⟩ := hR
  have k2 : w.cell? ⟨R, 2, none⟩ = some (.int .i64 er) := hB.cellAt 2
  have k1 : w.cell? ⟨R, 1, none⟩ = some (.int .i64 at_) := hB.cellAt 1
  have hlt := hB.here
  by_cases h0 : er = 0
  · have e := hat h0
    simp only [] at e
    subst h0 e
    clear hB hat h
    go_enter Try.func30, Try.ntmps30
    go_wp2
    go_ret
    exact ⟨rfl, rfl⟩
  · obtain rfl := h h0
    have h1 : (er == 0) = false := by simpa using h0
    have h2 : (er != 0) = true := by simpa using h0
    clear hB hat h h0
    go_enter Try.func30, Try.ntmps30
    go_wp2
    go_ret
    exact ⟨rfl, rfl⟩

/-! ### The program does something -/
theorem enc_0 : enc 0 = [0] := by unfold enc; rw [digs_zero]; rfl
theorem enc_1 : enc 1 = [1, 1] := by
  have h1 : digs 1 = [1] := by rw [digs_pos (by decide), show 1 / 256 = 0 from rfl, digs_zero]; rfl
  unfold enc; rw [h1]; rfl
theorem name_q : nameB ⟨#[113]⟩ = true := by simp [nameB, nameL, okI]
theorem queue_q (a : Int) (h : 0 ≤ a ∧ a ≤ 1048576) : queueB ⟨#[113]⟩ a 0 0 = true := by
  unfold queueB; rw [name_q, rB_mk (by omega)]; rfl
theorem bytes_q : queueBytes ⟨#[113]⟩ 1 0 0 = [1, 1, 113, 1, 1, 0, 0] := by
  unfold queueBytes
  rw [if_pos (queue_q 1 (by omega)), queueEnc, encT, vecEnc]
  rw [show (⟨#[113]⟩ : ByteArray).size = 1 from rfl, show (1 : Int).toNat = 1 from rfl, show (0 : Int).toNat = 0 from rfl, enc_1, enc_0]
  rfl

set_option maxHeartbeats 1600000 in
set_option maxRecDepth 100000 in
theorem awake_any (w : World) : Calls Try.prog 8 #[] w fun e w' => e = .returned (.bool true) ∧ Below w.heap.size w w' := by
  have hp := fun W => putQueue_any none 0 0 [] ⟨#[113]⟩ 1 0 0 7 W rfl (Rd.nil _ _) (by decide) (by decide) (by show _ = _; rw [bytes_q]; rfl)
  rw [bytes_q, List.nil_append] at hp
  have hq := fun W => queue_any ⟨#[113]⟩ 0 0 0 W (by decide)
  rw [queue_q 0 (by omega)] at hq
  have HP := Lib.hid hp
  have HQ := Lib.hid hq
  clear hp hq
  go_enter Try.func8, Try.ntmps8
  go_wp2_with fail
  refine (HP.out _).mono ?_
  rintro e w1 ⟨A, c, rfl, hr, h7, hc, hx, hb1⟩
  obtain ⟨g, o, rfl, hc2⟩ := hr 2 113 rfl
  have hg := World.block_lt_of_cell? w1 _ hc2
  simp only [] at hg
  go_wp2_with fail
  refine (HQ.out _).mono ?_
  rintro e w2 ⟨rfl, hb2⟩
  have hc3 : w2.cell? ⟨g, o + 2, none⟩ = some (.int .u8 113) := (hb2.cell (p := ⟨g, o + 2, none⟩) hg).trans hc2
  have hB : Below w.heap.size w w2 := hb1.trans (hb2.mono hb1.size)
  clear hr hx hc2
  go_wp2
  go_ret
  exact ⟨rfl, hB⟩
end Go.Proofs.Ytgedofggkfmlnaa
