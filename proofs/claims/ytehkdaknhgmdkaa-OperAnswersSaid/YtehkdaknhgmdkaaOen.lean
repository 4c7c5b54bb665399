/- The contracts of oper.Encode, and of the document's own Bytes and Encode. Condition: texts and slices are ones that Go can have. -/
import Derived.Test.YtehkdaknhgmdkaaOrt
import Derived.Test.YtehkdaknhgmdkaaPts
namespace Go.Proofs.Ytehkdaknhgmdkaa
open Go.RowKit
set_option linter.unusedSimpArgs false
set_option linter.unusedVariables false

/-- A call has returned a slice of N bytes that reads as l, and an error; what there was has not changed. -/
def Got2 (w : World) (N : Nat) (l : List UInt8) (er : Int) (e : Ending) (w' : World) : Prop :=
  ∃ A c, e = .returned (.tuple #[.slice A N c, .int .i64 er]) ∧ Rd w' A l ∧ N ≤ c ∧ c ≤ 9223372036854775807 ∧ (A = none ∨ ∃ g, A = some ⟨g, 0, none⟩) ∧ Below w.heap.size w w'
theorem opBytes_no {x : Ov} (h : opB x = false) : opBytes x = [] := if_neg (by rw [h]; simp)
theorem opBytes_yes {x : Ov} (h : opB x = true) : opBytes x = opEnc x := if_pos h
theorem opErr_no {x : Ov} (h : opB x = false) : opErr x = 1 := if_neg (by rw [h]; simp)
theorem opErr_yes {x : Ov} (h : opB x = true) : opErr x = 0 := if_pos h
theorem encH1 (n : Nat) (h0 : n ≠ 0) (h : n < 256) : Hid ((2 : Nat) = ([] ++ enc n).length) := (enc_two h0 h).symm
theorem encH2 (n : Nat) (h0 : n ≠ 0) (h : n < 256) : Hid ((2 : Nat) = (enc n).length) := (enc_two h0 h).symm
theorem opB_kind {x : Ov} (h : opB x = true) : 1 ≤ x.k ∧ x.k ≤ 9 := by
  by_cases hk : 1 ≤ x.k ∧ x.k ≤ 9
  · exact hk
  · rw [opB_no hk] at h; cases h

set_option maxHeartbeats 6400000 in
set_option maxRecDepth 100000 in
theorem opEncode_any (k : Int) (nn : ByteArray) (a1 b1 c1 : Int) (A1 : Option Addr) (m1 p1 : Nat) (l1 : List Lb) (qn : ByteArray) (a2 b2 c2 : Int) (tn tq : ByteArray) (tp a3 b3 c3 : Int) (A3 : Option Addr) (m3 p3 : Nat) (l3 : List Lb) (ta tg : ByteArray) (ts : Int) (s : ByteArray) (N : Nat) (w : World) (hn1 : Hid (m1 = l1.length)) (hp1 : m1 ≤ p1) (hq1 : p1 ≤ 9223372036854775807) (hn3 : Hid (m3 = l3.length)) (hp3 : m3 ≤ p3) (hq3 : p3 ≤ 9223372036854775807) (hr1 : Hid (RdL w A1 l1)) (hr3 : Hid (RdL w A3 l3)) (hz1 : Hid (Sz l1)) (hz3 : Hid (Sz l3)) (hnn : nn.size ≤ 140737488351232) (hqn : qn.size ≤ 140737488351232) (htn : tn.size ≤ 140737488351232) (htq : tq.size ≤ 140737488351232) (hta : ta.size ≤ 140737488351232) (htg : tg.size ≤ 140737488351232) (hs : s.size ≤ 140737488351232) (hN : Hid (N = (opBytes ⟨k, nn, a1, b1, c1, l1, qn, a2, b2, c2, tn, tq, tp, a3, b3, c3, l3, ta, tg, ts, s⟩).length)) : Calls Try.prog 10 #[.agg #[.int .i64 k, .string nn, .int .i64 a1, .int .i64 b1, .int .i64 c1, .slice A1 m1 p1, .string qn, .int .i64 a2, .int .i64 b2, .int .i64 c2, .string tn, .string tq, .int .i64 tp, .int .i64 a3, .int .i64 b3, .int .i64 c3, .slice A3 m3 p3, .string ta, .string tg, .int .i64 ts, .string s]] w (Got2 w N (opBytes ⟨k, nn, a1, b1, c1, l1, qn, a2, b2, c2, tn, tq, tp, a3, b3, c3, l3, ta, tg, ts, s⟩) (opErr ⟨k, nn, a1, b1, c1, l1, qn, a2, b2, c2, tn, tq, tp, a3, b3, c3, l3, ta, tg, ts, s⟩)) := by
  have kr := fun W (h : RdL W A1 l1) (g : RdL W A3 l3) => opRight_any k nn a1 b1 c1 A1 m1 p1 l1 qn a2 b2 c2 tn tq tp a3 b3 c3 A3 m3 p3 l3 ta tg ts s W hn1 hp1 hq1 hn3 hp3 hq3 (Lib.hid h) (Lib.hid g) hz1 hz3 hnn hqn htn htq hta htg hs
  by_cases hv : opB ⟨k, nn, a1, b1, c1, l1, qn, a2, b2, c2, tn, tq, tp, a3, b3, c3, l3, ta, tg, ts, s⟩ = true
  case neg =>
    have hv' : opB ⟨k, nn, a1, b1, c1, l1, qn, a2, b2, c2, tn, tq, tp, a3, b3, c3, l3, ta, tg, ts, s⟩ = false := by simpa using hv
    rw [hv'] at kr
    rw [opBytes_no hv'] at hN ⊢
    rw [opErr_no hv']
    have hN0 : N = 0 := hN.out
    subst hN0
    have KR := Lib.hid kr
    clear kr hv hv' hnn hqn htn htq hta htg hs
    go_enter Try.func10, Try.ntmps10
    go_wp2_with (with_reducible refine load_bk rfl 32 _ rfl w.heap.size 0 rfl 32 #[.int .i64 k, .string nn, .int .i64 a1, .int .i64 b1, .int .i64 c1, .slice A1 m1 p1, .string qn, .int .i64 a2, .int .i64 b2, .int .i64 c2, .string tn, .string tq, .int .i64 tp, .int .i64 a3, .int .i64 b3, .int .i64 c3, .slice A3 m3 p3, .string ta, .string tg, .int .i64 ts, .string s] #[.int .i64 k, .string nn, .int .i64 a1, .int .i64 b1, .int .i64 c1, .slice A1 m1 p1, .string qn, .int .i64 a2, .int .i64 b2, .int .i64 c2, .string tn, .string tq, .int .i64 tp, .int .i64 a3, .int .i64 b3, .int .i64 c3, .slice A3 m3 p3, .string ta, .string tg, .int .i64 ts, .string s] _ (Bk.fresh _ _ _) (Part.whole _) Try.underlying32 rfl (by kernel_rfl) ?_)
    refine (KR.out _ (hr1.out.later (by (repeat' (first | (with_reducible exact Below.refl _ _) | (with_reducible refine bdrewN ?_ _) | (with_reducible refine Below.drew ?_) | (with_reducible refine Below.setCell ?_ ?_ _) | (with_reducible refine Below.alloc ?_ ?_ _) | (with_reducible exact Nat.le_refl _) | (with_reducible assumption) | omega | (simp only [World.size_alloc, World.size_setCell, World.size_drew, sz_drewN]; omega))))) (hr3.out.later (by (repeat' (first | (with_reducible exact Below.refl _ _) | (with_reducible refine bdrewN ?_ _) | (with_reducible refine Below.drew ?_) | (with_reducible refine Below.setCell ?_ ?_ _) | (with_reducible refine Below.alloc ?_ ?_ _) | (with_reducible exact Nat.le_refl _) | (with_reducible assumption) | omega | (simp only [World.size_alloc, World.size_setCell, World.size_drew, sz_drewN]; omega)))))).mono ?_
    rintro e w1 ⟨rfl, hb1⟩
    have hB1 : Below w.heap.size w w1 := (by (repeat' (first | (with_reducible exact Below.refl _ _) | (with_reducible refine bdrewN ?_ _) | (with_reducible refine Below.drew ?_) | (with_reducible refine Below.setCell ?_ ?_ _) | (with_reducible refine Below.alloc ?_ ?_ _) | (with_reducible refine Below.trans ?_ (Below.mono hb1 ?_)) | (with_reducible exact Nat.le_refl _) | (with_reducible assumption) | omega | (simp only [World.size_alloc, World.size_setCell, World.size_drew, sz_drewN]; omega))))
    go_wp2
    go_ret2
    exact ⟨none, 0, rfl, Rd.nil _ _, Nat.le_refl 0, by decide, .inl rfl, hB1⟩
  case pos =>
  have hk := opB_kind hv
  simp only [] at hk
  have hk : k = 1 ∨ k = 3 ∨ k = 5 ∨ k = 2 ∨ k = 4 ∨ k = 6 ∨ k = 7 ∨ k = 8 ∨ k = 9 := by omega
  rw [hv] at kr
  rw [opBytes_yes hv] at hN ⊢
  rw [opErr_yes hv]
  rcases hk with rfl | rfl | rfl | rfl | rfl | rfl | rfl | rfl | rfl
  · have hp : nodeB nn a1 b1 c1 l1 = true := by
      have h := hv
      rw [opB_1 rfl] at h
      simp only [Bool.and_eq_true] at h
      exact h.1.1.1
    have he : opEnc ⟨1, nn, a1, b1, c1, l1, qn, a2, b2, c2, tn, tq, tp, a3, b3, c3, l3, ta, tg, ts, s⟩ = enc 1 ++ nodeEnc nn a1 b1 c1 l1 := opEnc_1 rfl
    rw [he] at hN ⊢
    have kp : ∀ W, Calls Try.prog 21 #[.slice none 0 0, .int .u64 1] W (Made W 2 (enc 1)) := fun W => put_any none 0 0 1 2 [] W (by decide) (show Hid ((0 : Nat) = ([] : List UInt8).length) from rfl) (encH1 1 (by decide) (by decide)) (Lib.hid (Rd.nil _ _)) (by decide)
    have hb : nodeBytes nn a1 b1 c1 l1 = nodeEnc nn a1 b1 c1 l1 := if_pos hp
    have kk := fun G d W (hq : Rd W G (enc 1)) (h : RdL W A1 l1) => putNode_any G d 2 (enc 1) nn a1 b1 c1 A1 m1 p1 l1 N W (encH2 1 (by decide) (by decide)) (Lib.hid hq) (by decide) (by omega) hn1 (Lib.hid h) hz1 hp1 hq1 (show Hid (N = (enc 1 ++ nodeBytes nn a1 b1 c1 l1).length) from by rw [hb]; exact hN)
    rw [hb] at kk
    clear hb
    have KR := Lib.hid kr
    have KP := Lib.hid kp
    have KK := Lib.hid kk
    clear kr kp hv he hnn hqn htn htq hta htg hs kk hp
    go_enter Try.func10, Try.ntmps10
    go_wp2_with (with_reducible refine load_bk rfl 32 _ rfl w.heap.size 0 rfl 32 #[.int .i64 1, .string nn, .int .i64 a1, .int .i64 b1, .int .i64 c1, .slice A1 m1 p1, .string qn, .int .i64 a2, .int .i64 b2, .int .i64 c2, .string tn, .string tq, .int .i64 tp, .int .i64 a3, .int .i64 b3, .int .i64 c3, .slice A3 m3 p3, .string ta, .string tg, .int .i64 ts, .string s] #[.int .i64 1, .string nn, .int .i64 a1, .int .i64 b1, .int .i64 c1, .slice A1 m1 p1, .string qn, .int .i64 a2, .int .i64 b2, .int .i64 c2, .string tn, .string tq, .int .i64 tp, .int .i64 a3, .int .i64 b3, .int .i64 c3, .slice A3 m3 p3, .string ta, .string tg, .int .i64 ts, .string s] _ (Bk.fresh _ _ _) (Part.whole _) Try.underlying32 rfl (by kernel_rfl) ?_)
    refine (KR.out _ (hr1.out.later (by (repeat' (first | (with_reducible exact Below.refl _ _) | (with_reducible refine bdrewN ?_ _) | (with_reducible refine Below.drew ?_) | (with_reducible refine Below.setCell ?_ ?_ _) | (with_reducible refine Below.alloc ?_ ?_ _) | (with_reducible exact Nat.le_refl _) | (with_reducible assumption) | omega | (simp only [World.size_alloc, World.size_setCell, World.size_drew, sz_drewN]; omega))))) (hr3.out.later (by (repeat' (first | (with_reducible exact Below.refl _ _) | (with_reducible refine bdrewN ?_ _) | (with_reducible refine Below.drew ?_) | (with_reducible refine Below.setCell ?_ ?_ _) | (with_reducible refine Below.alloc ?_ ?_ _) | (with_reducible exact Nat.le_refl _) | (with_reducible assumption) | omega | (simp only [World.size_alloc, World.size_setCell, World.size_drew, sz_drewN]; omega)))))).mono ?_
    rintro e w1 ⟨rfl, hb1⟩
    have T1 : Hid (Below w.heap.size w w1 ∧ Bk w1 w.heap.size 32 #[.int .i64 1, .string nn, .int .i64 a1, .int .i64 b1, .int .i64 c1, .slice A1 m1 p1, .string qn, .int .i64 a2, .int .i64 b2, .int .i64 c2, .string tn, .string tq, .int .i64 tp, .int .i64 a3, .int .i64 b3, .int .i64 c3, .slice A3 m3 p3, .string ta, .string tg, .int .i64 ts, .string s]) := ⟨(by (repeat' (first | (with_reducible exact Below.refl _ _) | (with_reducible refine bdrewN ?_ _) | (with_reducible refine Below.drew ?_) | (with_reducible refine Below.setCell ?_ ?_ _) | (with_reducible refine Below.alloc ?_ ?_ _) | (with_reducible refine Below.trans ?_ (Below.mono hb1 ?_)) | (with_reducible exact Nat.le_refl _) | (with_reducible assumption) | omega | (simp only [World.size_alloc, World.size_setCell, World.size_drew, sz_drewN]; omega)))), (Bk.fresh _ _ _).later hb1⟩
    clear hb1
    have f0_w1 : w1.cell? ⟨w.heap.size, 0, none⟩ = some (.int .i64 1) := T1.out.2.cellAt 0
    have f20_w1 : w1.cell? ⟨w.heap.size, 20, none⟩ = some (.string s) := T1.out.2.cellAt 20
    go_wp2_with fail
    refine (KP.out _).mono ?_
    rintro e w2 ⟨g, cap, rfl, ho, hb2⟩
    have T2 : Hid (Below w.heap.size w w2 ∧ Bk w2 w.heap.size 32 #[.int .i64 1, .string nn, .int .i64 a1, .int .i64 b1, .int .i64 c1, .slice A1 m1 p1, .string qn, .int .i64 a2, .int .i64 b2, .int .i64 c2, .string tn, .string tq, .int .i64 tp, .int .i64 a3, .int .i64 b3, .int .i64 c3, .slice A3 m3 p3, .string ta, .string tg, .int .i64 ts, .string s]) := ⟨T1.out.1.trans (hb2.mono T1.out.1.size), T1.out.2.later hb2⟩
    have HO := Lib.hid ho
    clear ho hb2 T1 f0_w1 f20_w1
    have f0_w2 : w2.cell? ⟨w.heap.size, 0, none⟩ = some (.int .i64 1) := T2.out.2.cellAt 0
    have f20_w2 : w2.cell? ⟨w.heap.size, 20, none⟩ = some (.string s) := T2.out.2.cellAt 20
    go_wp2_with (with_reducible refine load_bk rfl 26 _ rfl w.heap.size 1 rfl 32 #[.int .i64 1, .string nn, .int .i64 a1, .int .i64 b1, .int .i64 c1, .slice A1 m1 p1, .string qn, .int .i64 a2, .int .i64 b2, .int .i64 c2, .string tn, .string tq, .int .i64 tp, .int .i64 a3, .int .i64 b3, .int .i64 c3, .slice A3 m3 p3, .string ta, .string tg, .int .i64 ts, .string s] #[.string nn, .int .i64 a1, .int .i64 b1, .int .i64 c1, .slice A1 m1 p1] _ T2.out.2 (Part.of rfl) Try.underlying26 rfl (by kernel_rfl) ?_)
    refine (KK.out _ _ _ HO.out.rd (hr1.out.later T2.out.1)).mono ?_
    rintro e w3 ⟨A, c, rfl, r1, r2, r3, r4, hb3⟩
    have HR : Hid (Rd w3 A _ ∧ _ ∧ _ ∧ _ ∧ Below w.heap.size w w3) := ⟨r1, r2, r3, r4, T2.out.1.trans (hb3.mono T2.out.1.size)⟩
    clear r1 r2 r3 r4 hb3
    go_wp2
    go_ret2
    exact ⟨_, _, rfl, HR.out⟩
  · have hp : queueB qn a2 b2 c2 = true := by
      have h := hv
      rw [opB_3 rfl] at h
      simp only [Bool.and_eq_true] at h
      exact h.1.1.1
    have he : opEnc ⟨3, nn, a1, b1, c1, l1, qn, a2, b2, c2, tn, tq, tp, a3, b3, c3, l3, ta, tg, ts, s⟩ = enc 3 ++ queueEnc qn a2 b2 c2 := opEnc_3 rfl
    rw [he] at hN ⊢
    have kp : ∀ W, Calls Try.prog 21 #[.slice none 0 0, .int .u64 3] W (Made W 2 (enc 3)) := fun W => put_any none 0 0 3 2 [] W (by decide) (show Hid ((0 : Nat) = ([] : List UInt8).length) from rfl) (encH1 3 (by decide) (by decide)) (Lib.hid (Rd.nil _ _)) (by decide)
    have hb : queueBytes qn a2 b2 c2 = queueEnc qn a2 b2 c2 := if_pos hp
    have kk := fun G d W (hq : Rd W G (enc 3)) => putQueue_any G d 2 (enc 3) qn a2 b2 c2 N W (encH2 3 (by decide) (by decide)) (Lib.hid hq) (by decide) (by omega) (show Hid (N = (enc 3 ++ queueBytes qn a2 b2 c2).length) from by rw [hb]; exact hN)
    rw [hb] at kk
    clear hb
    have KR := Lib.hid kr
    have KP := Lib.hid kp
    have KK := Lib.hid kk
    clear kr kp hv he hnn hqn htn htq hta htg hs kk hp
    go_enter Try.func10, Try.ntmps10
    go_wp2_with (with_reducible refine load_bk rfl 32 _ rfl w.heap.size 0 rfl 32 #[.int .i64 3, .string nn, .int .i64 a1, .int .i64 b1, .int .i64 c1, .slice A1 m1 p1, .string qn, .int .i64 a2, .int .i64 b2, .int .i64 c2, .string tn, .string tq, .int .i64 tp, .int .i64 a3, .int .i64 b3, .int .i64 c3, .slice A3 m3 p3, .string ta, .string tg, .int .i64 ts, .string s] #[.int .i64 3, .string nn, .int .i64 a1, .int .i64 b1, .int .i64 c1, .slice A1 m1 p1, .string qn, .int .i64 a2, .int .i64 b2, .int .i64 c2, .string tn, .string tq, .int .i64 tp, .int .i64 a3, .int .i64 b3, .int .i64 c3, .slice A3 m3 p3, .string ta, .string tg, .int .i64 ts, .string s] _ (Bk.fresh _ _ _) (Part.whole _) Try.underlying32 rfl (by kernel_rfl) ?_)
    refine (KR.out _ (hr1.out.later (by (repeat' (first | (with_reducible exact Below.refl _ _) | (with_reducible refine bdrewN ?_ _) | (with_reducible refine Below.drew ?_) | (with_reducible refine Below.setCell ?_ ?_ _) | (with_reducible refine Below.alloc ?_ ?_ _) | (with_reducible exact Nat.le_refl _) | (with_reducible assumption) | omega | (simp only [World.size_alloc, World.size_setCell, World.size_drew, sz_drewN]; omega))))) (hr3.out.later (by (repeat' (first | (with_reducible exact Below.refl _ _) | (with_reducible refine bdrewN ?_ _) | (with_reducible refine Below.drew ?_) | (with_reducible refine Below.setCell ?_ ?_ _) | (with_reducible refine Below.alloc ?_ ?_ _) | (with_reducible exact Nat.le_refl _) | (with_reducible assumption) | omega | (simp only [World.size_alloc, World.size_setCell, World.size_drew, sz_drewN]; omega)))))).mono ?_
    rintro e w1 ⟨rfl, hb1⟩
    have T1 : Hid (Below w.heap.size w w1 ∧ Bk w1 w.heap.size 32 #[.int .i64 3, .string nn, .int .i64 a1, .int .i64 b1, .int .i64 c1, .slice A1 m1 p1, .string qn, .int .i64 a2, .int .i64 b2, .int .i64 c2, .string tn, .string tq, .int .i64 tp, .int .i64 a3, .int .i64 b3, .int .i64 c3, .slice A3 m3 p3, .string ta, .string tg, .int .i64 ts, .string s]) := ⟨(by (repeat' (first | (with_reducible exact Below.refl _ _) | (with_reducible refine bdrewN ?_ _) | (with_reducible refine Below.drew ?_) | (with_reducible refine Below.setCell ?_ ?_ _) | (with_reducible refine Below.alloc ?_ ?_ _) | (with_reducible refine Below.trans ?_ (Below.mono hb1 ?_)) | (with_reducible exact Nat.le_refl _) | (with_reducible assumption) | omega | (simp only [World.size_alloc, World.size_setCell, World.size_drew, sz_drewN]; omega)))), (Bk.fresh _ _ _).later hb1⟩
    clear hb1
    have f0_w1 : w1.cell? ⟨w.heap.size, 0, none⟩ = some (.int .i64 3) := T1.out.2.cellAt 0
    have f20_w1 : w1.cell? ⟨w.heap.size, 20, none⟩ = some (.string s) := T1.out.2.cellAt 20
    go_wp2_with fail
    refine (KP.out _).mono ?_
    rintro e w2 ⟨g, cap, rfl, ho, hb2⟩
    have T2 : Hid (Below w.heap.size w w2 ∧ Bk w2 w.heap.size 32 #[.int .i64 3, .string nn, .int .i64 a1, .int .i64 b1, .int .i64 c1, .slice A1 m1 p1, .string qn, .int .i64 a2, .int .i64 b2, .int .i64 c2, .string tn, .string tq, .int .i64 tp, .int .i64 a3, .int .i64 b3, .int .i64 c3, .slice A3 m3 p3, .string ta, .string tg, .int .i64 ts, .string s]) := ⟨T1.out.1.trans (hb2.mono T1.out.1.size), T1.out.2.later hb2⟩
    have HO := Lib.hid ho
    clear ho hb2 T1 f0_w1 f20_w1
    have f0_w2 : w2.cell? ⟨w.heap.size, 0, none⟩ = some (.int .i64 3) := T2.out.2.cellAt 0
    have f20_w2 : w2.cell? ⟨w.heap.size, 20, none⟩ = some (.string s) := T2.out.2.cellAt 20
    go_wp2_with (with_reducible refine load_bk rfl 28 _ rfl w.heap.size 6 rfl 32 #[.int .i64 3, .string nn, .int .i64 a1, .int .i64 b1, .int .i64 c1, .slice A1 m1 p1, .string qn, .int .i64 a2, .int .i64 b2, .int .i64 c2, .string tn, .string tq, .int .i64 tp, .int .i64 a3, .int .i64 b3, .int .i64 c3, .slice A3 m3 p3, .string ta, .string tg, .int .i64 ts, .string s] #[.string qn, .int .i64 a2, .int .i64 b2, .int .i64 c2] _ T2.out.2 (Part.of rfl) Try.underlying28 rfl (by kernel_rfl) ?_)
    refine (KK.out _ _ _ HO.out.rd).mono ?_
    rintro e w3 ⟨A, c, rfl, r1, r2, r3, r4, hb3⟩
    have HR : Hid (Rd w3 A _ ∧ _ ∧ _ ∧ _ ∧ Below w.heap.size w w3) := ⟨r1, r2, r3, r4, T2.out.1.trans (hb3.mono T2.out.1.size)⟩
    clear r1 r2 r3 r4 hb3
    go_wp2
    go_ret2
    exact ⟨_, _, rfl, HR.out⟩
  · have hp : taskB tn tq tp a3 b3 c3 l3 ta tg ts = true := by
      have h := hv
      rw [opB_5 rfl] at h
      simp only [Bool.and_eq_true] at h
      exact h.1.1.1
    have he : opEnc ⟨5, nn, a1, b1, c1, l1, qn, a2, b2, c2, tn, tq, tp, a3, b3, c3, l3, ta, tg, ts, s⟩ = enc 5 ++ taskEnc tn tq tp a3 b3 c3 l3 ta tg ts := opEnc_5 rfl
    rw [he] at hN ⊢
    have kp : ∀ W, Calls Try.prog 21 #[.slice none 0 0, .int .u64 5] W (Made W 2 (enc 5)) := fun W => put_any none 0 0 5 2 [] W (by decide) (show Hid ((0 : Nat) = ([] : List UInt8).length) from rfl) (encH1 5 (by decide) (by decide)) (Lib.hid (Rd.nil _ _)) (by decide)
    have hb : taskBytes tn tq tp a3 b3 c3 l3 ta tg ts = taskEnc tn tq tp a3 b3 c3 l3 ta tg ts := if_pos hp
    have kk := fun G d W (hq : Rd W G (enc 5)) (h : RdL W A3 l3) => putTask_any G d 2 (enc 5) tn tq tp a3 b3 c3 A3 m3 p3 l3 ta tg ts N W (encH2 5 (by decide) (by decide)) (Lib.hid hq) (by decide) (by omega) (by omega) hn3 (Lib.hid h) hz3 hp3 hq3 (by omega) (by omega) (show Hid (N = (enc 5 ++ taskBytes tn tq tp a3 b3 c3 l3 ta tg ts).length) from by rw [hb]; exact hN)
    rw [hb] at kk
    clear hb
    have KR := Lib.hid kr
    have KP := Lib.hid kp
    have KK := Lib.hid kk
    clear kr kp hv he hnn hqn htn htq hta htg hs kk hp
    go_enter Try.func10, Try.ntmps10
    go_wp2_with (with_reducible refine load_bk rfl 32 _ rfl w.heap.size 0 rfl 32 #[.int .i64 5, .string nn, .int .i64 a1, .int .i64 b1, .int .i64 c1, .slice A1 m1 p1, .string qn, .int .i64 a2, .int .i64 b2, .int .i64 c2, .string tn, .string tq, .int .i64 tp, .int .i64 a3, .int .i64 b3, .int .i64 c3, .slice A3 m3 p3, .string ta, .string tg, .int .i64 ts, .string s] #[.int .i64 5, .string nn, .int .i64 a1, .int .i64 b1, .int .i64 c1, .slice A1 m1 p1, .string qn, .int .i64 a2, .int .i64 b2, .int .i64 c2, .string tn, .string tq, .int .i64 tp, .int .i64 a3, .int .i64 b3, .int .i64 c3, .slice A3 m3 p3, .string ta, .string tg, .int .i64 ts, .string s] _ (Bk.fresh _ _ _) (Part.whole _) Try.underlying32 rfl (by kernel_rfl) ?_)
    refine (KR.out _ (hr1.out.later (by (repeat' (first | (with_reducible exact Below.refl _ _) | (with_reducible refine bdrewN ?_ _) | (with_reducible refine Below.drew ?_) | (with_reducible refine Below.setCell ?_ ?_ _) | (with_reducible refine Below.alloc ?_ ?_ _) | (with_reducible exact Nat.le_refl _) | (with_reducible assumption) | omega | (simp only [World.size_alloc, World.size_setCell, World.size_drew, sz_drewN]; omega))))) (hr3.out.later (by (repeat' (first | (with_reducible exact Below.refl _ _) | (with_reducible refine bdrewN ?_ _) | (with_reducible refine Below.drew ?_) | (with_reducible refine Below.setCell ?_ ?_ _) | (with_reducible refine Below.alloc ?_ ?_ _) | (with_reducible exact Nat.le_refl _) | (with_reducible assumption) | omega | (simp only [World.size_alloc, World.size_setCell, World.size_drew, sz_drewN]; omega)))))).mono ?_
    rintro e w1 ⟨rfl, hb1⟩
    have T1 : Hid (Below w.heap.size w w1 ∧ Bk w1 w.heap.size 32 #[.int .i64 5, .string nn, .int .i64 a1, .int .i64 b1, .int .i64 c1, .slice A1 m1 p1, .string qn, .int .i64 a2, .int .i64 b2, .int .i64 c2, .string tn, .string tq, .int .i64 tp, .int .i64 a3, .int .i64 b3, .int .i64 c3, .slice A3 m3 p3, .string ta, .string tg, .int .i64 ts, .string s]) := ⟨(by (repeat' (first | (with_reducible exact Below.refl _ _) | (with_reducible refine bdrewN ?_ _) | (with_reducible refine Below.drew ?_) | (with_reducible refine Below.setCell ?_ ?_ _) | (with_reducible refine Below.alloc ?_ ?_ _) | (with_reducible refine Below.trans ?_ (Below.mono hb1 ?_)) | (with_reducible exact Nat.le_refl _) | (with_reducible assumption) | omega | (simp only [World.size_alloc, World.size_setCell, World.size_drew, sz_drewN]; omega)))), (Bk.fresh _ _ _).later hb1⟩
    clear hb1
    have f0_w1 : w1.cell? ⟨w.heap.size, 0, none⟩ = some (.int .i64 5) := T1.out.2.cellAt 0
    have f20_w1 : w1.cell? ⟨w.heap.size, 20, none⟩ = some (.string s) := T1.out.2.cellAt 20
    go_wp2_with fail
    refine (KP.out _).mono ?_
    rintro e w2 ⟨g, cap, rfl, ho, hb2⟩
    have T2 : Hid (Below w.heap.size w w2 ∧ Bk w2 w.heap.size 32 #[.int .i64 5, .string nn, .int .i64 a1, .int .i64 b1, .int .i64 c1, .slice A1 m1 p1, .string qn, .int .i64 a2, .int .i64 b2, .int .i64 c2, .string tn, .string tq, .int .i64 tp, .int .i64 a3, .int .i64 b3, .int .i64 c3, .slice A3 m3 p3, .string ta, .string tg, .int .i64 ts, .string s]) := ⟨T1.out.1.trans (hb2.mono T1.out.1.size), T1.out.2.later hb2⟩
    have HO := Lib.hid ho
    clear ho hb2 T1 f0_w1 f20_w1
    have f0_w2 : w2.cell? ⟨w.heap.size, 0, none⟩ = some (.int .i64 5) := T2.out.2.cellAt 0
    have f20_w2 : w2.cell? ⟨w.heap.size, 20, none⟩ = some (.string s) := T2.out.2.cellAt 20
    go_wp2_with (with_reducible refine load_bk rfl 30 _ rfl w.heap.size 10 rfl 32 #[.int .i64 5, .string nn, .int .i64 a1, .int .i64 b1, .int .i64 c1, .slice A1 m1 p1, .string qn, .int .i64 a2, .int .i64 b2, .int .i64 c2, .string tn, .string tq, .int .i64 tp, .int .i64 a3, .int .i64 b3, .int .i64 c3, .slice A3 m3 p3, .string ta, .string tg, .int .i64 ts, .string s] #[.string tn, .string tq, .int .i64 tp, .int .i64 a3, .int .i64 b3, .int .i64 c3, .slice A3 m3 p3, .string ta, .string tg, .int .i64 ts] _ T2.out.2 (Part.of rfl) Try.underlying30 rfl (by kernel_rfl) ?_)
    refine (KK.out _ _ _ HO.out.rd (hr3.out.later T2.out.1)).mono ?_
    rintro e w3 ⟨A, c, rfl, r1, r2, r3, r4, hb3⟩
    have HR : Hid (Rd w3 A _ ∧ _ ∧ _ ∧ _ ∧ Below w.heap.size w w3) := ⟨r1, r2, r3, r4, T2.out.1.trans (hb3.mono T2.out.1.size)⟩
    clear r1 r2 r3 r4 hb3
    go_wp2
    go_ret2
    exact ⟨_, _, rfl, HR.out⟩
  · have hp : nameB s = true := by
      have h := hv
      rw [opB_nm (by simp)] at h
      simp only [Bool.and_eq_true] at h
      exact h.1.1.1
    have he : opEnc ⟨2, nn, a1, b1, c1, l1, qn, a2, b2, c2, tn, tq, tp, a3, b3, c3, l3, ta, tg, ts, s⟩ = enc 2 ++ encT s := opEnc_nm (by simp)
    rw [he] at hN ⊢
    have kp : ∀ W, Calls Try.prog 21 #[.slice none 0 0, .int .u64 2] W (Made W 2 (enc 2)) := fun W => put_any none 0 0 2 2 [] W (by decide) (show Hid ((0 : Nat) = ([] : List UInt8).length) from rfl) (encH1 2 (by decide) (by decide)) (Lib.hid (Rd.nil _ _)) (by decide)
    have kk := fun G d W (hq : Rd W G (enc 2)) => putText_any G d 2 N s (enc 2) W (encH2 2 (by decide) (by decide)) hN (Lib.hid hq) (by omega)
    have KR := Lib.hid kr
    have KP := Lib.hid kp
    have KK := Lib.hid kk
    clear kr kp hv he hnn hqn htn htq hta htg hs kk hp
    go_enter Try.func10, Try.ntmps10
    go_wp2_with (with_reducible refine load_bk rfl 32 _ rfl w.heap.size 0 rfl 32 #[.int .i64 2, .string nn, .int .i64 a1, .int .i64 b1, .int .i64 c1, .slice A1 m1 p1, .string qn, .int .i64 a2, .int .i64 b2, .int .i64 c2, .string tn, .string tq, .int .i64 tp, .int .i64 a3, .int .i64 b3, .int .i64 c3, .slice A3 m3 p3, .string ta, .string tg, .int .i64 ts, .string s] #[.int .i64 2, .string nn, .int .i64 a1, .int .i64 b1, .int .i64 c1, .slice A1 m1 p1, .string qn, .int .i64 a2, .int .i64 b2, .int .i64 c2, .string tn, .string tq, .int .i64 tp, .int .i64 a3, .int .i64 b3, .int .i64 c3, .slice A3 m3 p3, .string ta, .string tg, .int .i64 ts, .string s] _ (Bk.fresh _ _ _) (Part.whole _) Try.underlying32 rfl (by kernel_rfl) ?_)
    refine (KR.out _ (hr1.out.later (by (repeat' (first | (with_reducible exact Below.refl _ _) | (with_reducible refine bdrewN ?_ _) | (with_reducible refine Below.drew ?_) | (with_reducible refine Below.setCell ?_ ?_ _) | (with_reducible refine Below.alloc ?_ ?_ _) | (with_reducible exact Nat.le_refl _) | (with_reducible assumption) | omega | (simp only [World.size_alloc, World.size_setCell, World.size_drew, sz_drewN]; omega))))) (hr3.out.later (by (repeat' (first | (with_reducible exact Below.refl _ _) | (with_reducible refine bdrewN ?_ _) | (with_reducible refine Below.drew ?_) | (with_reducible refine Below.setCell ?_ ?_ _) | (with_reducible refine Below.alloc ?_ ?_ _) | (with_reducible exact Nat.le_refl _) | (with_reducible assumption) | omega | (simp only [World.size_alloc, World.size_setCell, World.size_drew, sz_drewN]; omega)))))).mono ?_
    rintro e w1 ⟨rfl, hb1⟩
    have T1 : Hid (Below w.heap.size w w1 ∧ Bk w1 w.heap.size 32 #[.int .i64 2, .string nn, .int .i64 a1, .int .i64 b1, .int .i64 c1, .slice A1 m1 p1, .string qn, .int .i64 a2, .int .i64 b2, .int .i64 c2, .string tn, .string tq, .int .i64 tp, .int .i64 a3, .int .i64 b3, .int .i64 c3, .slice A3 m3 p3, .string ta, .string tg, .int .i64 ts, .string s]) := ⟨(by (repeat' (first | (with_reducible exact Below.refl _ _) | (with_reducible refine bdrewN ?_ _) | (with_reducible refine Below.drew ?_) | (with_reducible refine Below.setCell ?_ ?_ _) | (with_reducible refine Below.alloc ?_ ?_ _) | (with_reducible refine Below.trans ?_ (Below.mono hb1 ?_)) | (with_reducible exact Nat.le_refl _) | (with_reducible assumption) | omega | (simp only [World.size_alloc, World.size_setCell, World.size_drew, sz_drewN]; omega)))), (Bk.fresh _ _ _).later hb1⟩
    clear hb1
    have f0_w1 : w1.cell? ⟨w.heap.size, 0, none⟩ = some (.int .i64 2) := T1.out.2.cellAt 0
    have f20_w1 : w1.cell? ⟨w.heap.size, 20, none⟩ = some (.string s) := T1.out.2.cellAt 20
    go_wp2_with fail
    refine (KP.out _).mono ?_
    rintro e w2 ⟨g, cap, rfl, ho, hb2⟩
    have T2 : Hid (Below w.heap.size w w2 ∧ Bk w2 w.heap.size 32 #[.int .i64 2, .string nn, .int .i64 a1, .int .i64 b1, .int .i64 c1, .slice A1 m1 p1, .string qn, .int .i64 a2, .int .i64 b2, .int .i64 c2, .string tn, .string tq, .int .i64 tp, .int .i64 a3, .int .i64 b3, .int .i64 c3, .slice A3 m3 p3, .string ta, .string tg, .int .i64 ts, .string s]) := ⟨T1.out.1.trans (hb2.mono T1.out.1.size), T1.out.2.later hb2⟩
    have HO := Lib.hid ho
    clear ho hb2 T1 f0_w1 f20_w1
    have f0_w2 : w2.cell? ⟨w.heap.size, 0, none⟩ = some (.int .i64 2) := T2.out.2.cellAt 0
    have f20_w2 : w2.cell? ⟨w.heap.size, 20, none⟩ = some (.string s) := T2.out.2.cellAt 20
    go_wp2_with fail
    refine (KK.out _ _ _ HO.out.rd).mono ?_
    rintro e w3 ⟨g2, cap2, rfl, ho2, hb3⟩
    have HR : Hid (Own w3 w2.heap.size 5 g2 cap2 _ ∧ Below w.heap.size w w3) := ⟨ho2, T2.out.1.trans (hb3.mono T2.out.1.size)⟩
    clear ho2 hb3
    go_wp2
    go_ret2
    have hc := HR.out.1.caps
    have hN2 := hN.out
    unfold maxLen at hc
    exact ⟨_, _, rfl, HR.out.1.rd, by rw [hN2]; exact hc.1, by omega, .inr ⟨_, rfl⟩, HR.out.2⟩
  · have hp : nameB s = true := by
      have h := hv
      rw [opB_nm (by simp)] at h
      simp only [Bool.and_eq_true] at h
      exact h.1.1.1
    have he : opEnc ⟨4, nn, a1, b1, c1, l1, qn, a2, b2, c2, tn, tq, tp, a3, b3, c3, l3, ta, tg, ts, s⟩ = enc 4 ++ encT s := opEnc_nm (by simp)
    rw [he] at hN ⊢
    have kp : ∀ W, Calls Try.prog 21 #[.slice none 0 0, .int .u64 4] W (Made W 2 (enc 4)) := fun W => put_any none 0 0 4 2 [] W (by decide) (show Hid ((0 : Nat) = ([] : List UInt8).length) from rfl) (encH1 4 (by decide) (by decide)) (Lib.hid (Rd.nil _ _)) (by decide)
    have kk := fun G d W (hq : Rd W G (enc 4)) => putText_any G d 2 N s (enc 4) W (encH2 4 (by decide) (by decide)) hN (Lib.hid hq) (by omega)
    have KR := Lib.hid kr
    have KP := Lib.hid kp
    have KK := Lib.hid kk
    clear kr kp hv he hnn hqn htn htq hta htg hs kk hp
    go_enter Try.func10, Try.ntmps10
    go_wp2_with (with_reducible refine load_bk rfl 32 _ rfl w.heap.size 0 rfl 32 #[.int .i64 4, .string nn, .int .i64 a1, .int .i64 b1, .int .i64 c1, .slice A1 m1 p1, .string qn, .int .i64 a2, .int .i64 b2, .int .i64 c2, .string tn, .string tq, .int .i64 tp, .int .i64 a3, .int .i64 b3, .int .i64 c3, .slice A3 m3 p3, .string ta, .string tg, .int .i64 ts, .string s] #[.int .i64 4, .string nn, .int .i64 a1, .int .i64 b1, .int .i64 c1, .slice A1 m1 p1, .string qn, .int .i64 a2, .int .i64 b2, .int .i64 c2, .string tn, .string tq, .int .i64 tp, .int .i64 a3, .int .i64 b3, .int .i64 c3, .slice A3 m3 p3, .string ta, .string tg, .int .i64 ts, .string s] _ (Bk.fresh _ _ _) (Part.whole _) Try.underlying32 rfl (by kernel_rfl) ?_)
    refine (KR.out _ (hr1.out.later (by (repeat' (first | (with_reducible exact Below.refl _ _) | (with_reducible refine bdrewN ?_ _) | (with_reducible refine Below.drew ?_) | (with_reducible refine Below.setCell ?_ ?_ _) | (with_reducible refine Below.alloc ?_ ?_ _) | (with_reducible exact Nat.le_refl _) | (with_reducible assumption) | omega | (simp only [World.size_alloc, World.size_setCell, World.size_drew, sz_drewN]; omega))))) (hr3.out.later (by (repeat' (first | (with_reducible exact Below.refl _ _) | (with_reducible refine bdrewN ?_ _) | (with_reducible refine Below.drew ?_) | (with_reducible refine Below.setCell ?_ ?_ _) | (with_reducible refine Below.alloc ?_ ?_ _) | (with_reducible exact Nat.le_refl _) | (with_reducible assumption) | omega | (simp only [World.size_alloc, World.size_setCell, World.size_drew, sz_drewN]; omega)))))).mono ?_
    rintro e w1 ⟨rfl, hb1⟩
    have T1 : Hid (Below w.heap.size w w1 ∧ Bk w1 w.heap.size 32 #[.int .i64 4, .string nn, .int .i64 a1, .int .i64 b1, .int .i64 c1, .slice A1 m1 p1, .string qn, .int .i64 a2, .int .i64 b2, .int .i64 c2, .string tn, .string tq, .int .i64 tp, .int .i64 a3, .int .i64 b3, .int .i64 c3, .slice A3 m3 p3, .string ta, .string tg, .int .i64 ts, .string s]) := ⟨(by (repeat' (first | (with_reducible exact Below.refl _ _) | (with_reducible refine bdrewN ?_ _) | (with_reducible refine Below.drew ?_) | (with_reducible refine Below.setCell ?_ ?_ _) | (with_reducible refine Below.alloc ?_ ?_ _) | (with_reducible refine Below.trans ?_ (Below.mono hb1 ?_)) | (with_reducible exact Nat.le_refl _) | (with_reducible assumption) | omega | (simp only [World.size_alloc, World.size_setCell, World.size_drew, sz_drewN]; omega)))), (Bk.fresh _ _ _).later hb1⟩
    clear hb1
    have f0_w1 : w1.cell? ⟨w.heap.size, 0, none⟩ = some (.int .i64 4) := T1.out.2.cellAt 0
    have f20_w1 : w1.cell? ⟨w.heap.size, 20, none⟩ = some (.string s) := T1.out.2.cellAt 20
    go_wp2_with fail
    refine (KP.out _).mono ?_
    rintro e w2 ⟨g, cap, rfl, ho, hb2⟩
    have T2 : Hid (Below w.heap.size w w2 ∧ Bk w2 w.heap.size 32 #[.int .i64 4, .string nn, .int .i64 a1, .int .i64 b1, .int .i64 c1, .slice A1 m1 p1, .string qn, .int .i64 a2, .int .i64 b2, .int .i64 c2, .string tn, .string tq, .int .i64 tp, .int .i64 a3, .int .i64 b3, .int .i64 c3, .slice A3 m3 p3, .string ta, .string tg, .int .i64 ts, .string s]) := ⟨T1.out.1.trans (hb2.mono T1.out.1.size), T1.out.2.later hb2⟩
    have HO := Lib.hid ho
    clear ho hb2 T1 f0_w1 f20_w1
    have f0_w2 : w2.cell? ⟨w.heap.size, 0, none⟩ = some (.int .i64 4) := T2.out.2.cellAt 0
    have f20_w2 : w2.cell? ⟨w.heap.size, 20, none⟩ = some (.string s) := T2.out.2.cellAt 20
    go_wp2_with fail
    refine (KK.out _ _ _ HO.out.rd).mono ?_
    rintro e w3 ⟨g2, cap2, rfl, ho2, hb3⟩
    have HR : Hid (Own w3 w2.heap.size 5 g2 cap2 _ ∧ Below w.heap.size w w3) := ⟨ho2, T2.out.1.trans (hb3.mono T2.out.1.size)⟩
    clear ho2 hb3
    go_wp2
    go_ret2
    have hc := HR.out.1.caps
    have hN2 := hN.out
    unfold maxLen at hc
    exact ⟨_, _, rfl, HR.out.1.rd, by rw [hN2]; exact hc.1, by omega, .inr ⟨_, rfl⟩, HR.out.2⟩
  · have hp : nameB s = true := by
      have h := hv
      rw [opB_nm (by simp)] at h
      simp only [Bool.and_eq_true] at h
      exact h.1.1.1
    have he : opEnc ⟨6, nn, a1, b1, c1, l1, qn, a2, b2, c2, tn, tq, tp, a3, b3, c3, l3, ta, tg, ts, s⟩ = enc 6 ++ encT s := opEnc_nm (by simp)
    rw [he] at hN ⊢
    have kp : ∀ W, Calls Try.prog 21 #[.slice none 0 0, .int .u64 6] W (Made W 2 (enc 6)) := fun W => put_any none 0 0 6 2 [] W (by decide) (show Hid ((0 : Nat) = ([] : List UInt8).length) from rfl) (encH1 6 (by decide) (by decide)) (Lib.hid (Rd.nil _ _)) (by decide)
    have kk := fun G d W (hq : Rd W G (enc 6)) => putText_any G d 2 N s (enc 6) W (encH2 6 (by decide) (by decide)) hN (Lib.hid hq) (by omega)
    have KR := Lib.hid kr
    have KP := Lib.hid kp
    have KK := Lib.hid kk
    clear kr kp hv he hnn hqn htn htq hta htg hs kk hp
    go_enter Try.func10, Try.ntmps10
    go_wp2_with (with_reducible refine load_bk rfl 32 _ rfl w.heap.size 0 rfl 32 #[.int .i64 6, .string nn, .int .i64 a1, .int .i64 b1, .int .i64 c1, .slice A1 m1 p1, .string qn, .int .i64 a2, .int .i64 b2, .int .i64 c2, .string tn, .string tq, .int .i64 tp, .int .i64 a3, .int .i64 b3, .int .i64 c3, .slice A3 m3 p3, .string ta, .string tg, .int .i64 ts, .string s] #[.int .i64 6, .string nn, .int .i64 a1, .int .i64 b1, .int .i64 c1, .slice A1 m1 p1, .string qn, .int .i64 a2, .int .i64 b2, .int .i64 c2, .string tn, .string tq, .int .i64 tp, .int .i64 a3, .int .i64 b3, .int .i64 c3, .slice A3 m3 p3, .string ta, .string tg, .int .i64 ts, .string s] _ (Bk.fresh _ _ _) (Part.whole _) Try.underlying32 rfl (by kernel_rfl) ?_)
    refine (KR.out _ (hr1.out.later (by (repeat' (first | (with_reducible exact Below.refl _ _) | (with_reducible refine bdrewN ?_ _) | (with_reducible refine Below.drew ?_) | (with_reducible refine Below.setCell ?_ ?_ _) | (with_reducible refine Below.alloc ?_ ?_ _) | (with_reducible exact Nat.le_refl _) | (with_reducible assumption) | omega | (simp only [World.size_alloc, World.size_setCell, World.size_drew, sz_drewN]; omega))))) (hr3.out.later (by (repeat' (first | (with_reducible exact Below.refl _ _) | (with_reducible refine bdrewN ?_ _) | (with_reducible refine Below.drew ?_) | (with_reducible refine Below.setCell ?_ ?_ _) | (with_reducible refine Below.alloc ?_ ?_ _) | (with_reducible exact Nat.le_refl _) | (with_reducible assumption) | omega | (simp only [World.size_alloc, World.size_setCell, World.size_drew, sz_drewN]; omega)))))).mono ?_
    rintro e w1 ⟨rfl, hb1⟩
    have T1 : Hid (Below w.heap.size w w1 ∧ Bk w1 w.heap.size 32 #[.int .i64 6, .string nn, .int .i64 a1, .int .i64 b1, .int .i64 c1, .slice A1 m1 p1, .string qn, .int .i64 a2, .int .i64 b2, .int .i64 c2, .string tn, .string tq, .int .i64 tp, .int .i64 a3, .int .i64 b3, .int .i64 c3, .slice A3 m3 p3, .string ta, .string tg, .int .i64 ts, .string s]) := ⟨(by (repeat' (first | (with_reducible exact Below.refl _ _) | (with_reducible refine bdrewN ?_ _) | (with_reducible refine Below.drew ?_) | (with_reducible refine Below.setCell ?_ ?_ _) | (with_reducible refine Below.alloc ?_ ?_ _) | (with_reducible refine Below.trans ?_ (Below.mono hb1 ?_)) | (with_reducible exact Nat.le_refl _) | (with_reducible assumption) | omega | (simp only [World.size_alloc, World.size_setCell, World.size_drew, sz_drewN]; omega)))), (Bk.fresh _ _ _).later hb1⟩
    clear hb1
    have f0_w1 : w1.cell? ⟨w.heap.size, 0, none⟩ = some (.int .i64 6) := T1.out.2.cellAt 0
    have f20_w1 : w1.cell? ⟨w.heap.size, 20, none⟩ = some (.string s) := T1.out.2.cellAt 20
    go_wp2_with fail
    refine (KP.out _).mono ?_
    rintro e w2 ⟨g, cap, rfl, ho, hb2⟩
    have T2 : Hid (Below w.heap.size w w2 ∧ Bk w2 w.heap.size 32 #[.int .i64 6, .string nn, .int .i64 a1, .int .i64 b1, .int .i64 c1, .slice A1 m1 p1, .string qn, .int .i64 a2, .int .i64 b2, .int .i64 c2, .string tn, .string tq, .int .i64 tp, .int .i64 a3, .int .i64 b3, .int .i64 c3, .slice A3 m3 p3, .string ta, .string tg, .int .i64 ts, .string s]) := ⟨T1.out.1.trans (hb2.mono T1.out.1.size), T1.out.2.later hb2⟩
    have HO := Lib.hid ho
    clear ho hb2 T1 f0_w1 f20_w1
    have f0_w2 : w2.cell? ⟨w.heap.size, 0, none⟩ = some (.int .i64 6) := T2.out.2.cellAt 0
    have f20_w2 : w2.cell? ⟨w.heap.size, 20, none⟩ = some (.string s) := T2.out.2.cellAt 20
    go_wp2_with fail
    refine (KK.out _ _ _ HO.out.rd).mono ?_
    rintro e w3 ⟨g2, cap2, rfl, ho2, hb3⟩
    have HR : Hid (Own w3 w2.heap.size 5 g2 cap2 _ ∧ Below w.heap.size w w3) := ⟨ho2, T2.out.1.trans (hb3.mono T2.out.1.size)⟩
    clear ho2 hb3
    go_wp2
    go_ret2
    have hc := HR.out.1.caps
    have hN2 := hN.out
    unfold maxLen at hc
    exact ⟨_, _, rfl, HR.out.1.rd, by rw [hN2]; exact hc.1, by omega, .inr ⟨_, rfl⟩, HR.out.2⟩
  · have hp : nameB s = true := by
      have h := hv
      rw [opB_nm (by simp)] at h
      simp only [Bool.and_eq_true] at h
      exact h.1.1.1
    have he : opEnc ⟨7, nn, a1, b1, c1, l1, qn, a2, b2, c2, tn, tq, tp, a3, b3, c3, l3, ta, tg, ts, s⟩ = enc 7 ++ encT s := opEnc_nm (by simp)
    rw [he] at hN ⊢
    have kp : ∀ W, Calls Try.prog 21 #[.slice none 0 0, .int .u64 7] W (Made W 2 (enc 7)) := fun W => put_any none 0 0 7 2 [] W (by decide) (show Hid ((0 : Nat) = ([] : List UInt8).length) from rfl) (encH1 7 (by decide) (by decide)) (Lib.hid (Rd.nil _ _)) (by decide)
    have kk := fun G d W (hq : Rd W G (enc 7)) => putText_any G d 2 N s (enc 7) W (encH2 7 (by decide) (by decide)) hN (Lib.hid hq) (by omega)
    have KR := Lib.hid kr
    have KP := Lib.hid kp
    have KK := Lib.hid kk
    clear kr kp hv he hnn hqn htn htq hta htg hs kk hp
    go_enter Try.func10, Try.ntmps10
    go_wp2_with (with_reducible refine load_bk rfl 32 _ rfl w.heap.size 0 rfl 32 #[.int .i64 7, .string nn, .int .i64 a1, .int .i64 b1, .int .i64 c1, .slice A1 m1 p1, .string qn, .int .i64 a2, .int .i64 b2, .int .i64 c2, .string tn, .string tq, .int .i64 tp, .int .i64 a3, .int .i64 b3, .int .i64 c3, .slice A3 m3 p3, .string ta, .string tg, .int .i64 ts, .string s] #[.int .i64 7, .string nn, .int .i64 a1, .int .i64 b1, .int .i64 c1, .slice A1 m1 p1, .string qn, .int .i64 a2, .int .i64 b2, .int .i64 c2, .string tn, .string tq, .int .i64 tp, .int .i64 a3, .int .i64 b3, .int .i64 c3, .slice A3 m3 p3, .string ta, .string tg, .int .i64 ts, .string s] _ (Bk.fresh _ _ _) (Part.whole _) Try.underlying32 rfl (by kernel_rfl) ?_)
    refine (KR.out _ (hr1.out.later (by (repeat' (first | (with_reducible exact Below.refl _ _) | (with_reducible refine bdrewN ?_ _) | (with_reducible refine Below.drew ?_) | (with_reducible refine Below.setCell ?_ ?_ _) | (with_reducible refine Below.alloc ?_ ?_ _) | (with_reducible exact Nat.le_refl _) | (with_reducible assumption) | omega | (simp only [World.size_alloc, World.size_setCell, World.size_drew, sz_drewN]; omega))))) (hr3.out.later (by (repeat' (first | (with_reducible exact Below.refl _ _) | (with_reducible refine bdrewN ?_ _) | (with_reducible refine Below.drew ?_) | (with_reducible refine Below.setCell ?_ ?_ _) | (with_reducible refine Below.alloc ?_ ?_ _) | (with_reducible exact Nat.le_refl _) | (with_reducible assumption) | omega | (simp only [World.size_alloc, World.size_setCell, World.size_drew, sz_drewN]; omega)))))).mono ?_
    rintro e w1 ⟨rfl, hb1⟩
    have T1 : Hid (Below w.heap.size w w1 ∧ Bk w1 w.heap.size 32 #[.int .i64 7, .string nn, .int .i64 a1, .int .i64 b1, .int .i64 c1, .slice A1 m1 p1, .string qn, .int .i64 a2, .int .i64 b2, .int .i64 c2, .string tn, .string tq, .int .i64 tp, .int .i64 a3, .int .i64 b3, .int .i64 c3, .slice A3 m3 p3, .string ta, .string tg, .int .i64 ts, .string s]) := ⟨(by (repeat' (first | (with_reducible exact Below.refl _ _) | (with_reducible refine bdrewN ?_ _) | (with_reducible refine Below.drew ?_) | (with_reducible refine Below.setCell ?_ ?_ _) | (with_reducible refine Below.alloc ?_ ?_ _) | (with_reducible refine Below.trans ?_ (Below.mono hb1 ?_)) | (with_reducible exact Nat.le_refl _) | (with_reducible assumption) | omega | (simp only [World.size_alloc, World.size_setCell, World.size_drew, sz_drewN]; omega)))), (Bk.fresh _ _ _).later hb1⟩
    clear hb1
    have f0_w1 : w1.cell? ⟨w.heap.size, 0, none⟩ = some (.int .i64 7) := T1.out.2.cellAt 0
    have f20_w1 : w1.cell? ⟨w.heap.size, 20, none⟩ = some (.string s) := T1.out.2.cellAt 20
    go_wp2_with fail
    refine (KP.out _).mono ?_
    rintro e w2 ⟨g, cap, rfl, ho, hb2⟩
    have T2 : Hid (Below w.heap.size w w2 ∧ Bk w2 w.heap.size 32 #[.int .i64 7, .string nn, .int .i64 a1, .int .i64 b1, .int .i64 c1, .slice A1 m1 p1, .string qn, .int .i64 a2, .int .i64 b2, .int .i64 c2, .string tn, .string tq, .int .i64 tp, .int .i64 a3, .int .i64 b3, .int .i64 c3, .slice A3 m3 p3, .string ta, .string tg, .int .i64 ts, .string s]) := ⟨T1.out.1.trans (hb2.mono T1.out.1.size), T1.out.2.later hb2⟩
    have HO := Lib.hid ho
    clear ho hb2 T1 f0_w1 f20_w1
    have f0_w2 : w2.cell? ⟨w.heap.size, 0, none⟩ = some (.int .i64 7) := T2.out.2.cellAt 0
    have f20_w2 : w2.cell? ⟨w.heap.size, 20, none⟩ = some (.string s) := T2.out.2.cellAt 20
    go_wp2_with fail
    refine (KK.out _ _ _ HO.out.rd).mono ?_
    rintro e w3 ⟨g2, cap2, rfl, ho2, hb3⟩
    have HR : Hid (Own w3 w2.heap.size 5 g2 cap2 _ ∧ Below w.heap.size w w3) := ⟨ho2, T2.out.1.trans (hb3.mono T2.out.1.size)⟩
    clear ho2 hb3
    go_wp2
    go_ret2
    have hc := HR.out.1.caps
    have hN2 := hN.out
    unfold maxLen at hc
    exact ⟨_, _, rfl, HR.out.1.rd, by rw [hN2]; exact hc.1, by omega, .inr ⟨_, rfl⟩, HR.out.2⟩
  · have hp : nameB s = true := by
      have h := hv
      rw [opB_nm (by simp)] at h
      simp only [Bool.and_eq_true] at h
      exact h.1.1.1
    have he : opEnc ⟨8, nn, a1, b1, c1, l1, qn, a2, b2, c2, tn, tq, tp, a3, b3, c3, l3, ta, tg, ts, s⟩ = enc 8 ++ encT s := opEnc_nm (by simp)
    rw [he] at hN ⊢
    have kp : ∀ W, Calls Try.prog 21 #[.slice none 0 0, .int .u64 8] W (Made W 2 (enc 8)) := fun W => put_any none 0 0 8 2 [] W (by decide) (show Hid ((0 : Nat) = ([] : List UInt8).length) from rfl) (encH1 8 (by decide) (by decide)) (Lib.hid (Rd.nil _ _)) (by decide)
    have kk := fun G d W (hq : Rd W G (enc 8)) => putText_any G d 2 N s (enc 8) W (encH2 8 (by decide) (by decide)) hN (Lib.hid hq) (by omega)
    have KR := Lib.hid kr
    have KP := Lib.hid kp
    have KK := Lib.hid kk
    clear kr kp hv he hnn hqn htn htq hta htg hs kk hp
    go_enter Try.func10, Try.ntmps10
    go_wp2_with (with_reducible refine load_bk rfl 32 _ rfl w.heap.size 0 rfl 32 #[.int .i64 8, .string nn, .int .i64 a1, .int .i64 b1, .int .i64 c1, .slice A1 m1 p1, .string qn, .int .i64 a2, .int .i64 b2, .int .i64 c2, .string tn, .string tq, .int .i64 tp, .int .i64 a3, .int .i64 b3, .int .i64 c3, .slice A3 m3 p3, .string ta, .string tg, .int .i64 ts, .string s] #[.int .i64 8, .string nn, .int .i64 a1, .int .i64 b1, .int .i64 c1, .slice A1 m1 p1, .string qn, .int .i64 a2, .int .i64 b2, .int .i64 c2, .string tn, .string tq, .int .i64 tp, .int .i64 a3, .int .i64 b3, .int .i64 c3, .slice A3 m3 p3, .string ta, .string tg, .int .i64 ts, .string s] _ (Bk.fresh _ _ _) (Part.whole _) Try.underlying32 rfl (by kernel_rfl) ?_)
    refine (KR.out _ (hr1.out.later (by (repeat' (first | (with_reducible exact Below.refl _ _) | (with_reducible refine bdrewN ?_ _) | (with_reducible refine Below.drew ?_) | (with_reducible refine Below.setCell ?_ ?_ _) | (with_reducible refine Below.alloc ?_ ?_ _) | (with_reducible exact Nat.le_refl _) | (with_reducible assumption) | omega | (simp only [World.size_alloc, World.size_setCell, World.size_drew, sz_drewN]; omega))))) (hr3.out.later (by (repeat' (first | (with_reducible exact Below.refl _ _) | (with_reducible refine bdrewN ?_ _) | (with_reducible refine Below.drew ?_) | (with_reducible refine Below.setCell ?_ ?_ _) | (with_reducible refine Below.alloc ?_ ?_ _) | (with_reducible exact Nat.le_refl _) | (with_reducible assumption) | omega | (simp only [World.size_alloc, World.size_setCell, World.size_drew, sz_drewN]; omega)))))).mono ?_
    rintro e w1 ⟨rfl, hb1⟩
    have T1 : Hid (Below w.heap.size w w1 ∧ Bk w1 w.heap.size 32 #[.int .i64 8, .string nn, .int .i64 a1, .int .i64 b1, .int .i64 c1, .slice A1 m1 p1, .string qn, .int .i64 a2, .int .i64 b2, .int .i64 c2, .string tn, .string tq, .int .i64 tp, .int .i64 a3, .int .i64 b3, .int .i64 c3, .slice A3 m3 p3, .string ta, .string tg, .int .i64 ts, .string s]) := ⟨(by (repeat' (first | (with_reducible exact Below.refl _ _) | (with_reducible refine bdrewN ?_ _) | (with_reducible refine Below.drew ?_) | (with_reducible refine Below.setCell ?_ ?_ _) | (with_reducible refine Below.alloc ?_ ?_ _) | (with_reducible refine Below.trans ?_ (Below.mono hb1 ?_)) | (with_reducible exact Nat.le_refl _) | (with_reducible assumption) | omega | (simp only [World.size_alloc, World.size_setCell, World.size_drew, sz_drewN]; omega)))), (Bk.fresh _ _ _).later hb1⟩
    clear hb1
    have f0_w1 : w1.cell? ⟨w.heap.size, 0, none⟩ = some (.int .i64 8) := T1.out.2.cellAt 0
    have f20_w1 : w1.cell? ⟨w.heap.size, 20, none⟩ = some (.string s) := T1.out.2.cellAt 20
    go_wp2_with fail
    refine (KP.out _).mono ?_
    rintro e w2 ⟨g, cap, rfl, ho, hb2⟩
    have T2 : Hid (Below w.heap.size w w2 ∧ Bk w2 w.heap.size 32 #[.int .i64 8, .string nn, .int .i64 a1, .int .i64 b1, .int .i64 c1, .slice A1 m1 p1, .string qn, .int .i64 a2, .int .i64 b2, .int .i64 c2, .string tn, .string tq, .int .i64 tp, .int .i64 a3, .int .i64 b3, .int .i64 c3, .slice A3 m3 p3, .string ta, .string tg, .int .i64 ts, .string s]) := ⟨T1.out.1.trans (hb2.mono T1.out.1.size), T1.out.2.later hb2⟩
    have HO := Lib.hid ho
    clear ho hb2 T1 f0_w1 f20_w1
    have f0_w2 : w2.cell? ⟨w.heap.size, 0, none⟩ = some (.int .i64 8) := T2.out.2.cellAt 0
    have f20_w2 : w2.cell? ⟨w.heap.size, 20, none⟩ = some (.string s) := T2.out.2.cellAt 20
    go_wp2_with fail
    refine (KK.out _ _ _ HO.out.rd).mono ?_
    rintro e w3 ⟨g2, cap2, rfl, ho2, hb3⟩
    have HR : Hid (Own w3 w2.heap.size 5 g2 cap2 _ ∧ Below w.heap.size w w3) := ⟨ho2, T2.out.1.trans (hb3.mono T2.out.1.size)⟩
    clear ho2 hb3
    go_wp2
    go_ret2
    have hc := HR.out.1.caps
    have hN2 := hN.out
    unfold maxLen at hc
    exact ⟨_, _, rfl, HR.out.1.rd, by rw [hN2]; exact hc.1, by omega, .inr ⟨_, rfl⟩, HR.out.2⟩
  · have he : opEnc ⟨9, nn, a1, b1, c1, l1, qn, a2, b2, c2, tn, tq, tp, a3, b3, c3, l3, ta, tg, ts, s⟩ = enc 9 := opEnc_9 rfl
    rw [he] at hN ⊢
    have kp : ∀ W, Calls Try.prog 21 #[.slice none 0 0, .int .u64 9] W (Made W 2 (enc 9)) := fun W => put_any none 0 0 9 2 [] W (by decide) (show Hid ((0 : Nat) = ([] : List UInt8).length) from rfl) (encH1 9 (by decide) (by decide)) (Lib.hid (Rd.nil _ _)) (by decide)
    have KR := Lib.hid kr
    have KP := Lib.hid kp
    have hN2 : N = 2 := hN.out.trans (enc_two (by decide) (by decide))
    subst hN2
    clear kr kp hv he hnn hqn htn htq hta htg hs
    go_enter Try.func10, Try.ntmps10
    go_wp2_with (with_reducible refine load_bk rfl 32 _ rfl w.heap.size 0 rfl 32 #[.int .i64 9, .string nn, .int .i64 a1, .int .i64 b1, .int .i64 c1, .slice A1 m1 p1, .string qn, .int .i64 a2, .int .i64 b2, .int .i64 c2, .string tn, .string tq, .int .i64 tp, .int .i64 a3, .int .i64 b3, .int .i64 c3, .slice A3 m3 p3, .string ta, .string tg, .int .i64 ts, .string s] #[.int .i64 9, .string nn, .int .i64 a1, .int .i64 b1, .int .i64 c1, .slice A1 m1 p1, .string qn, .int .i64 a2, .int .i64 b2, .int .i64 c2, .string tn, .string tq, .int .i64 tp, .int .i64 a3, .int .i64 b3, .int .i64 c3, .slice A3 m3 p3, .string ta, .string tg, .int .i64 ts, .string s] _ (Bk.fresh _ _ _) (Part.whole _) Try.underlying32 rfl (by kernel_rfl) ?_)
    refine (KR.out _ (hr1.out.later (by (repeat' (first | (with_reducible exact Below.refl _ _) | (with_reducible refine bdrewN ?_ _) | (with_reducible refine Below.drew ?_) | (with_reducible refine Below.setCell ?_ ?_ _) | (with_reducible refine Below.alloc ?_ ?_ _) | (with_reducible exact Nat.le_refl _) | (with_reducible assumption) | omega | (simp only [World.size_alloc, World.size_setCell, World.size_drew, sz_drewN]; omega))))) (hr3.out.later (by (repeat' (first | (with_reducible exact Below.refl _ _) | (with_reducible refine bdrewN ?_ _) | (with_reducible refine Below.drew ?_) | (with_reducible refine Below.setCell ?_ ?_ _) | (with_reducible refine Below.alloc ?_ ?_ _) | (with_reducible exact Nat.le_refl _) | (with_reducible assumption) | omega | (simp only [World.size_alloc, World.size_setCell, World.size_drew, sz_drewN]; omega)))))).mono ?_
    rintro e w1 ⟨rfl, hb1⟩
    have T1 : Hid (Below w.heap.size w w1 ∧ Bk w1 w.heap.size 32 #[.int .i64 9, .string nn, .int .i64 a1, .int .i64 b1, .int .i64 c1, .slice A1 m1 p1, .string qn, .int .i64 a2, .int .i64 b2, .int .i64 c2, .string tn, .string tq, .int .i64 tp, .int .i64 a3, .int .i64 b3, .int .i64 c3, .slice A3 m3 p3, .string ta, .string tg, .int .i64 ts, .string s]) := ⟨(by (repeat' (first | (with_reducible exact Below.refl _ _) | (with_reducible refine bdrewN ?_ _) | (with_reducible refine Below.drew ?_) | (with_reducible refine Below.setCell ?_ ?_ _) | (with_reducible refine Below.alloc ?_ ?_ _) | (with_reducible refine Below.trans ?_ (Below.mono hb1 ?_)) | (with_reducible exact Nat.le_refl _) | (with_reducible assumption) | omega | (simp only [World.size_alloc, World.size_setCell, World.size_drew, sz_drewN]; omega)))), (Bk.fresh _ _ _).later hb1⟩
    clear hb1
    have f0_w1 : w1.cell? ⟨w.heap.size, 0, none⟩ = some (.int .i64 9) := T1.out.2.cellAt 0
    have f20_w1 : w1.cell? ⟨w.heap.size, 20, none⟩ = some (.string s) := T1.out.2.cellAt 20
    go_wp2_with fail
    refine (KP.out _).mono ?_
    rintro e w2 ⟨g, cap, rfl, ho, hb2⟩
    have T2 : Hid (Below w.heap.size w w2 ∧ Bk w2 w.heap.size 32 #[.int .i64 9, .string nn, .int .i64 a1, .int .i64 b1, .int .i64 c1, .slice A1 m1 p1, .string qn, .int .i64 a2, .int .i64 b2, .int .i64 c2, .string tn, .string tq, .int .i64 tp, .int .i64 a3, .int .i64 b3, .int .i64 c3, .slice A3 m3 p3, .string ta, .string tg, .int .i64 ts, .string s]) := ⟨T1.out.1.trans (hb2.mono T1.out.1.size), T1.out.2.later hb2⟩
    have HO := Lib.hid ho
    clear ho hb2 T1 f0_w1 f20_w1
    have f0_w2 : w2.cell? ⟨w.heap.size, 0, none⟩ = some (.int .i64 9) := T2.out.2.cellAt 0
    have f20_w2 : w2.cell? ⟨w.heap.size, 20, none⟩ = some (.string s) := T2.out.2.cellAt 20
    go_wp2
    go_ret2
    have hc := HO.out.caps
    unfold maxLen at hc
    rw [enc_two (by decide) (by decide)] at hc
    exact ⟨_, _, rfl, HO.out.rd, hc.1, by omega, .inr ⟨_, rfl⟩, T2.out.1⟩
end Go.Proofs.Ytehkdaknhgmdkaa
