/- The contracts of the document's own Bytes and Encode. Condition: texts and slices are ones that Go can have. -/
import Derived.Test.YtehkdaknhgmdkaaOle
import Derived.Test.YtehkdaknhgmdkaaOrr
import Derived.Test.YtehkdaknhgmdkaaRen
namespace Go.Proofs.Ytehkdaknhgmdkaa
open Go.RowKit
set_option linter.unusedSimpArgs false
set_option linter.unusedVariables false

set_option maxHeartbeats 6400000 in
set_option maxRecDepth 100000 in
theorem rBytes_any (k : Int) (nn : ByteArray) (a1 b1 c1 : Int) (A1 : Option Addr) (m1 p1 : Nat) (l1 : List Lb) (qn : ByteArray) (a2 b2 c2 : Int) (tn tq : ByteArray) (tp a3 b3 c3 : Int) (A3 : Option Addr) (m3 p3 : Nat) (l3 : List Lb) (ta tg : ByteArray) (ts : Int) (s : ByteArray) (w : World) (hn1 : Hid (m1 = l1.length)) (hp1 : m1 ≤ p1) (hq1 : p1 ≤ 9223372036854775807) (hn3 : Hid (m3 = l3.length)) (hp3 : m3 ≤ p3) (hq3 : p3 ≤ 9223372036854775807) (hr1 : Hid (RdL w A1 l1)) (hr3 : Hid (RdL w A3 l3)) (hz1 : Hid (Sz l1)) (hz3 : Hid (Sz l3)) (hnn : nn.size ≤ 140737488351232) (hqn : qn.size ≤ 140737488351232) (htn : tn.size ≤ 140737488351232) (htq : tq.size ≤ 140737488351232) (hta : ta.size ≤ 140737488351232) (htg : tg.size ≤ 140737488351232) (hs : s.size ≤ 140737488351232) (hv : opB ⟨k, nn, a1, b1, c1, l1, qn, a2, b2, c2, tn, tq, tp, a3, b3, c3, l3, ta, tg, ts, s⟩ = true) : Calls Try.prog 26 #[.agg #[.int .i64 k, .string nn, .int .i64 a1, .int .i64 b1, .int .i64 c1, .slice A1 m1 p1, .string qn, .int .i64 a2, .int .i64 b2, .int .i64 c2, .string tn, .string tq, .int .i64 tp, .int .i64 a3, .int .i64 b3, .int .i64 c3, .slice A3 m3 p3, .string ta, .string tg, .int .i64 ts, .string s]] w fun e w' => e = .returned (.string (S (opEnc ⟨k, nn, a1, b1, c1, l1, qn, a2, b2, c2, tn, tq, tp, a3, b3, c3, l3, ta, tg, ts, s⟩))) ∧ Below w.heap.size w w' := by
  have hk := opB_kind hv
  simp only [] at hk
  have hk : k = 1 ∨ k = 3 ∨ k = 5 ∨ k = 2 ∨ k = 4 ∨ k = 6 ∨ k = 7 ∨ k = 8 ∨ k = 9 := by omega
  obtain ⟨E, hE⟩ : ∃ E, E = S (opEnc ⟨k, nn, a1, b1, c1, l1, qn, a2, b2, c2, tn, tq, tp, a3, b3, c3, l3, ta, tg, ts, s⟩) := ⟨_, rfl⟩
  rw [← hE]
  rcases hk with rfl | rfl | rfl | rfl | rfl | rfl | rfl | rfl | rfl
  · have hp : nodeB nn a1 b1 c1 l1 = true := by
      have h := hv
      rw [opB_1 rfl] at h
      simp only [Bool.and_eq_true] at h
      exact h.1.1.1
    have he : opEnc ⟨1, nn, a1, b1, c1, l1, qn, a2, b2, c2, tn, tq, tp, a3, b3, c3, l3, ta, tg, ts, s⟩ = enc 1 ++ nodeEnc nn a1 b1 c1 l1 := opEnc_1 rfl
    rw [he, ← S_append] at hE
    have kp : ∀ W, Calls Try.prog 57 #[.int .u64 1] W fun e w' => e = .returned (.string (S (enc 1))) ∧ Below W.heap.size W w' := fun W => refNumber_any 1 W (by decide)
    have hb : nodeBytes nn a1 b1 c1 l1 = nodeEnc nn a1 b1 c1 l1 := if_pos hp
    have kk := fun W (h : RdL W A1 l1) => rnodeBytes_any nn a1 b1 c1 A1 m1 p1 l1 W (by omega) hn1 (Lib.hid h) hz1 hp1 hq1
    rw [hb] at kk
    clear hb
    have xs : (S (enc 1)).size = 2 := by rw [S_size]; exact enc_two (by decide) (by decide)
    have ys : (S (nodeEnc nn a1 b1 c1 l1)).size ≤ 1000 := by rw [S_size]; exact nodeEnc_le hp
    obtain ⟨X, hX⟩ : ∃ X, X = S (enc 1) := ⟨_, rfl⟩
    rw [← hX] at kp hE xs
    clear hX
    obtain ⟨Y, hY⟩ : ∃ Y, Y = S (nodeEnc nn a1 b1 c1 l1) := ⟨_, rfl⟩
    rw [← hY] at kk hE ys
    have xys : X.size + Y.size ≤ 9223372036854775807 := by omega
    clear hY xs ys
    have KK := Lib.hid kk
    have KP := Lib.hid kp
    have HE := Lib.hid hE
    clear kp hv he hE hnn hqn htn htq hta htg hs kk hp
    go_enter Try.func26, Try.ntmps26
    go_wp2_with fail
    refine (KP.out _).mono ?_
    rintro e w1 ⟨rfl, hb1⟩
    have T1 : Hid (Below w.heap.size w w1 ∧ Bk w1 w.heap.size 32 #[.int .i64 1, .string nn, .int .i64 a1, .int .i64 b1, .int .i64 c1, .slice A1 m1 p1, .string qn, .int .i64 a2, .int .i64 b2, .int .i64 c2, .string tn, .string tq, .int .i64 tp, .int .i64 a3, .int .i64 b3, .int .i64 c3, .slice A3 m3 p3, .string ta, .string tg, .int .i64 ts, .string s]) := ⟨(by (repeat' (first | (with_reducible exact Below.refl _ _) | (with_reducible refine bdrewN ?_ _) | (with_reducible refine Below.drew ?_) | (with_reducible refine Below.setCell ?_ ?_ _) | (with_reducible refine Below.alloc ?_ ?_ _) | (with_reducible refine Below.trans ?_ (Below.mono hb1 ?_)) | (with_reducible exact Nat.le_refl _) | (with_reducible assumption) | omega | (simp only [World.size_alloc, World.size_setCell, World.size_drew, sz_drewN]; omega)))), (Bk.fresh _ _ _).later hb1⟩
    clear hb1
    have f0_w1 : w1.cell? ⟨w.heap.size, 0, none⟩ = some (.int .i64 1) := T1.out.2.cellAt 0
    have f20_w1 : w1.cell? ⟨w.heap.size, 20, none⟩ = some (.string s) := T1.out.2.cellAt 20
    go_wp2_with (with_reducible refine load_bk rfl 26 _ rfl w.heap.size 1 rfl 32 #[.int .i64 1, .string nn, .int .i64 a1, .int .i64 b1, .int .i64 c1, .slice A1 m1 p1, .string qn, .int .i64 a2, .int .i64 b2, .int .i64 c2, .string tn, .string tq, .int .i64 tp, .int .i64 a3, .int .i64 b3, .int .i64 c3, .slice A3 m3 p3, .string ta, .string tg, .int .i64 ts, .string s] #[.string nn, .int .i64 a1, .int .i64 b1, .int .i64 c1, .slice A1 m1 p1] _ T1.out.2 (Part.of rfl) Try.underlying26 rfl (by kernel_rfl) ?_)
    refine (KK.out _ (hr1.out.later T1.out.1)).mono ?_
    rintro e w2 ⟨rfl, hb2⟩
    have hB2 := T1.out.1.trans (hb2.mono T1.out.1.size)
    go_wp2
    go_ret
    exact ⟨ret_str HE.out.symm, hB2⟩
  · have hp : queueB qn a2 b2 c2 = true := by
      have h := hv
      rw [opB_3 rfl] at h
      simp only [Bool.and_eq_true] at h
      exact h.1.1.1
    have he : opEnc ⟨3, nn, a1, b1, c1, l1, qn, a2, b2, c2, tn, tq, tp, a3, b3, c3, l3, ta, tg, ts, s⟩ = enc 3 ++ queueEnc qn a2 b2 c2 := opEnc_3 rfl
    rw [he, ← S_append] at hE
    have kp : ∀ W, Calls Try.prog 57 #[.int .u64 3] W fun e w' => e = .returned (.string (S (enc 3))) ∧ Below W.heap.size W w' := fun W => refNumber_any 3 W (by decide)
    have hb : queueBytes qn a2 b2 c2 = queueEnc qn a2 b2 c2 := if_pos hp
    have kk := fun W => rqueueBytes_any qn a2 b2 c2 W (by omega)
    rw [hb] at kk
    clear hb
    have xs : (S (enc 3)).size = 2 := by rw [S_size]; exact enc_two (by decide) (by decide)
    have ys : (S (queueEnc qn a2 b2 c2)).size ≤ 1000 := by rw [S_size]; exact queueEnc_le hp
    obtain ⟨X, hX⟩ : ∃ X, X = S (enc 3) := ⟨_, rfl⟩
    rw [← hX] at kp hE xs
    clear hX
    obtain ⟨Y, hY⟩ : ∃ Y, Y = S (queueEnc qn a2 b2 c2) := ⟨_, rfl⟩
    rw [← hY] at kk hE ys
    have xys : X.size + Y.size ≤ 9223372036854775807 := by omega
    clear hY xs ys
    have KK := Lib.hid kk
    have KP := Lib.hid kp
    have HE := Lib.hid hE
    clear kp hv he hE hnn hqn htn htq hta htg hs kk hp
    go_enter Try.func26, Try.ntmps26
    go_wp2_with fail
    refine (KP.out _).mono ?_
    rintro e w1 ⟨rfl, hb1⟩
    have T1 : Hid (Below w.heap.size w w1 ∧ Bk w1 w.heap.size 32 #[.int .i64 3, .string nn, .int .i64 a1, .int .i64 b1, .int .i64 c1, .slice A1 m1 p1, .string qn, .int .i64 a2, .int .i64 b2, .int .i64 c2, .string tn, .string tq, .int .i64 tp, .int .i64 a3, .int .i64 b3, .int .i64 c3, .slice A3 m3 p3, .string ta, .string tg, .int .i64 ts, .string s]) := ⟨(by (repeat' (first | (with_reducible exact Below.refl _ _) | (with_reducible refine bdrewN ?_ _) | (with_reducible refine Below.drew ?_) | (with_reducible refine Below.setCell ?_ ?_ _) | (with_reducible refine Below.alloc ?_ ?_ _) | (with_reducible refine Below.trans ?_ (Below.mono hb1 ?_)) | (with_reducible exact Nat.le_refl _) | (with_reducible assumption) | omega | (simp only [World.size_alloc, World.size_setCell, World.size_drew, sz_drewN]; omega)))), (Bk.fresh _ _ _).later hb1⟩
    clear hb1
    have f0_w1 : w1.cell? ⟨w.heap.size, 0, none⟩ = some (.int .i64 3) := T1.out.2.cellAt 0
    have f20_w1 : w1.cell? ⟨w.heap.size, 20, none⟩ = some (.string s) := T1.out.2.cellAt 20
    go_wp2_with (with_reducible refine load_bk rfl 28 _ rfl w.heap.size 6 rfl 32 #[.int .i64 3, .string nn, .int .i64 a1, .int .i64 b1, .int .i64 c1, .slice A1 m1 p1, .string qn, .int .i64 a2, .int .i64 b2, .int .i64 c2, .string tn, .string tq, .int .i64 tp, .int .i64 a3, .int .i64 b3, .int .i64 c3, .slice A3 m3 p3, .string ta, .string tg, .int .i64 ts, .string s] #[.string qn, .int .i64 a2, .int .i64 b2, .int .i64 c2] _ T1.out.2 (Part.of rfl) Try.underlying28 rfl (by kernel_rfl) ?_)
    refine (KK.out _).mono ?_
    rintro e w2 ⟨rfl, hb2⟩
    have hB2 := T1.out.1.trans (hb2.mono T1.out.1.size)
    go_wp2
    go_ret
    exact ⟨ret_str HE.out.symm, hB2⟩
  · have hp : taskB tn tq tp a3 b3 c3 l3 ta tg ts = true := by
      have h := hv
      rw [opB_5 rfl] at h
      simp only [Bool.and_eq_true] at h
      exact h.1.1.1
    have he : opEnc ⟨5, nn, a1, b1, c1, l1, qn, a2, b2, c2, tn, tq, tp, a3, b3, c3, l3, ta, tg, ts, s⟩ = enc 5 ++ taskEnc tn tq tp a3 b3 c3 l3 ta tg ts := opEnc_5 rfl
    rw [he, ← S_append] at hE
    have kp : ∀ W, Calls Try.prog 57 #[.int .u64 5] W fun e w' => e = .returned (.string (S (enc 5))) ∧ Below W.heap.size W w' := fun W => refNumber_any 5 W (by decide)
    have hb : taskBytes tn tq tp a3 b3 c3 l3 ta tg ts = taskEnc tn tq tp a3 b3 c3 l3 ta tg ts := if_pos hp
    have kk := fun W (h : RdL W A3 l3) => rtaskBytes_any tn tq tp a3 b3 c3 A3 m3 p3 l3 ta tg ts W (by omega) (by omega) hn3 (Lib.hid h) hz3 hp3 hq3 (by omega) (by omega)
    rw [hb] at kk
    clear hb
    have xs : (S (enc 5)).size = 2 := by rw [S_size]; exact enc_two (by decide) (by decide)
    have ys : (S (taskEnc tn tq tp a3 b3 c3 l3 ta tg ts)).size ≤ 1000 := by rw [S_size]; exact taskEnc_le hp
    obtain ⟨X, hX⟩ : ∃ X, X = S (enc 5) := ⟨_, rfl⟩
    rw [← hX] at kp hE xs
    clear hX
    obtain ⟨Y, hY⟩ : ∃ Y, Y = S (taskEnc tn tq tp a3 b3 c3 l3 ta tg ts) := ⟨_, rfl⟩
    rw [← hY] at kk hE ys
    have xys : X.size + Y.size ≤ 9223372036854775807 := by omega
    clear hY xs ys
    have KK := Lib.hid kk
    have KP := Lib.hid kp
    have HE := Lib.hid hE
    clear kp hv he hE hnn hqn htn htq hta htg hs kk hp
    go_enter Try.func26, Try.ntmps26
    go_wp2_with fail
    refine (KP.out _).mono ?_
    rintro e w1 ⟨rfl, hb1⟩
    have T1 : Hid (Below w.heap.size w w1 ∧ Bk w1 w.heap.size 32 #[.int .i64 5, .string nn, .int .i64 a1, .int .i64 b1, .int .i64 c1, .slice A1 m1 p1, .string qn, .int .i64 a2, .int .i64 b2, .int .i64 c2, .string tn, .string tq, .int .i64 tp, .int .i64 a3, .int .i64 b3, .int .i64 c3, .slice A3 m3 p3, .string ta, .string tg, .int .i64 ts, .string s]) := ⟨(by (repeat' (first | (with_reducible exact Below.refl _ _) | (with_reducible refine bdrewN ?_ _) | (with_reducible refine Below.drew ?_) | (with_reducible refine Below.setCell ?_ ?_ _) | (with_reducible refine Below.alloc ?_ ?_ _) | (with_reducible refine Below.trans ?_ (Below.mono hb1 ?_)) | (with_reducible exact Nat.le_refl _) | (with_reducible assumption) | omega | (simp only [World.size_alloc, World.size_setCell, World.size_drew, sz_drewN]; omega)))), (Bk.fresh _ _ _).later hb1⟩
    clear hb1
    have f0_w1 : w1.cell? ⟨w.heap.size, 0, none⟩ = some (.int .i64 5) := T1.out.2.cellAt 0
    have f20_w1 : w1.cell? ⟨w.heap.size, 20, none⟩ = some (.string s) := T1.out.2.cellAt 20
    go_wp2_with (with_reducible refine load_bk rfl 30 _ rfl w.heap.size 10 rfl 32 #[.int .i64 5, .string nn, .int .i64 a1, .int .i64 b1, .int .i64 c1, .slice A1 m1 p1, .string qn, .int .i64 a2, .int .i64 b2, .int .i64 c2, .string tn, .string tq, .int .i64 tp, .int .i64 a3, .int .i64 b3, .int .i64 c3, .slice A3 m3 p3, .string ta, .string tg, .int .i64 ts, .string s] #[.string tn, .string tq, .int .i64 tp, .int .i64 a3, .int .i64 b3, .int .i64 c3, .slice A3 m3 p3, .string ta, .string tg, .int .i64 ts] _ T1.out.2 (Part.of rfl) Try.underlying30 rfl (by kernel_rfl) ?_)
    refine (KK.out _ (hr3.out.later T1.out.1)).mono ?_
    rintro e w2 ⟨rfl, hb2⟩
    have hB2 := T1.out.1.trans (hb2.mono T1.out.1.size)
    go_wp2
    go_ret
    exact ⟨ret_str HE.out.symm, hB2⟩
  · have hp : nameB s = true := by
      have h := hv
      rw [opB_nm (by simp)] at h
      simp only [Bool.and_eq_true] at h
      exact h.1.1.1
    have he : opEnc ⟨2, nn, a1, b1, c1, l1, qn, a2, b2, c2, tn, tq, tp, a3, b3, c3, l3, ta, tg, ts, s⟩ = enc 2 ++ encT s := opEnc_nm (by simp)
    rw [he, ← S_append] at hE
    have kp : ∀ W, Calls Try.prog 57 #[.int .u64 2] W fun e w' => e = .returned (.string (S (enc 2))) ∧ Below W.heap.size W w' := fun W => refNumber_any 2 W (by decide)
    have kk := fun W => rtext_any s W (by omega)
    have xs : (S (enc 2)).size = 2 := by rw [S_size]; exact enc_two (by decide) (by decide)
    have ys : (S (encT s)).size ≤ 1000 := by rw [S_size]; exact nameEnc_le hp
    obtain ⟨X, hX⟩ : ∃ X, X = S (enc 2) := ⟨_, rfl⟩
    rw [← hX] at kp hE xs
    clear hX
    obtain ⟨Y, hY⟩ : ∃ Y, Y = S (encT s) := ⟨_, rfl⟩
    rw [← hY] at kk hE ys
    have xys : X.size + Y.size ≤ 9223372036854775807 := by omega
    clear hY xs ys
    have KK := Lib.hid kk
    have KP := Lib.hid kp
    have HE := Lib.hid hE
    clear kp hv he hE hnn hqn htn htq hta htg hs kk hp
    go_enter Try.func26, Try.ntmps26
    go_wp2_with fail
    refine (KP.out _).mono ?_
    rintro e w1 ⟨rfl, hb1⟩
    have T1 : Hid (Below w.heap.size w w1 ∧ Bk w1 w.heap.size 32 #[.int .i64 2, .string nn, .int .i64 a1, .int .i64 b1, .int .i64 c1, .slice A1 m1 p1, .string qn, .int .i64 a2, .int .i64 b2, .int .i64 c2, .string tn, .string tq, .int .i64 tp, .int .i64 a3, .int .i64 b3, .int .i64 c3, .slice A3 m3 p3, .string ta, .string tg, .int .i64 ts, .string s]) := ⟨(by (repeat' (first | (with_reducible exact Below.refl _ _) | (with_reducible refine bdrewN ?_ _) | (with_reducible refine Below.drew ?_) | (with_reducible refine Below.setCell ?_ ?_ _) | (with_reducible refine Below.alloc ?_ ?_ _) | (with_reducible refine Below.trans ?_ (Below.mono hb1 ?_)) | (with_reducible exact Nat.le_refl _) | (with_reducible assumption) | omega | (simp only [World.size_alloc, World.size_setCell, World.size_drew, sz_drewN]; omega)))), (Bk.fresh _ _ _).later hb1⟩
    clear hb1
    have f0_w1 : w1.cell? ⟨w.heap.size, 0, none⟩ = some (.int .i64 2) := T1.out.2.cellAt 0
    have f20_w1 : w1.cell? ⟨w.heap.size, 20, none⟩ = some (.string s) := T1.out.2.cellAt 20
    go_wp2_with fail
    refine (KK.out _).mono ?_
    rintro e w2 ⟨rfl, hb2⟩
    have hB2 := T1.out.1.trans (hb2.mono T1.out.1.size)
    go_wp2
    go_ret
    exact ⟨ret_str HE.out.symm, hB2⟩
  · have hp : nameB s = true := by
      have h := hv
      rw [opB_nm (by simp)] at h
      simp only [Bool.and_eq_true] at h
      exact h.1.1.1
    have he : opEnc ⟨4, nn, a1, b1, c1, l1, qn, a2, b2, c2, tn, tq, tp, a3, b3, c3, l3, ta, tg, ts, s⟩ = enc 4 ++ encT s := opEnc_nm (by simp)
    rw [he, ← S_append] at hE
    have kp : ∀ W, Calls Try.prog 57 #[.int .u64 4] W fun e w' => e = .returned (.string (S (enc 4))) ∧ Below W.heap.size W w' := fun W => refNumber_any 4 W (by decide)
    have kk := fun W => rtext_any s W (by omega)
    have xs : (S (enc 4)).size = 2 := by rw [S_size]; exact enc_two (by decide) (by decide)
    have ys : (S (encT s)).size ≤ 1000 := by rw [S_size]; exact nameEnc_le hp
    obtain ⟨X, hX⟩ : ∃ X, X = S (enc 4) := ⟨_, rfl⟩
    rw [← hX] at kp hE xs
    clear hX
    obtain ⟨Y, hY⟩ : ∃ Y, Y = S (encT s) := ⟨_, rfl⟩
    rw [← hY] at kk hE ys
    have xys : X.size + Y.size ≤ 9223372036854775807 := by omega
    clear hY xs ys
    have KK := Lib.hid kk
    have KP := Lib.hid kp
    have HE := Lib.hid hE
    clear kp hv he hE hnn hqn htn htq hta htg hs kk hp
    go_enter Try.func26, Try.ntmps26
    go_wp2_with fail
    refine (KP.out _).mono ?_
    rintro e w1 ⟨rfl, hb1⟩
    have T1 : Hid (Below w.heap.size w w1 ∧ Bk w1 w.heap.size 32 #[.int .i64 4, .string nn, .int .i64 a1, .int .i64 b1, .int .i64 c1, .slice A1 m1 p1, .string qn, .int .i64 a2, .int .i64 b2, .int .i64 c2, .string tn, .string tq, .int .i64 tp, .int .i64 a3, .int .i64 b3, .int .i64 c3, .slice A3 m3 p3, .string ta, .string tg, .int .i64 ts, .string s]) := ⟨(by (repeat' (first | (with_reducible exact Below.refl _ _) | (with_reducible refine bdrewN ?_ _) | (with_reducible refine Below.drew ?_) | (with_reducible refine Below.setCell ?_ ?_ _) | (with_reducible refine Below.alloc ?_ ?_ _) | (with_reducible refine Below.trans ?_ (Below.mono hb1 ?_)) | (with_reducible exact Nat.le_refl _) | (with_reducible assumption) | omega | (simp only [World.size_alloc, World.size_setCell, World.size_drew, sz_drewN]; omega)))), (Bk.fresh _ _ _).later hb1⟩
    clear hb1
    have f0_w1 : w1.cell? ⟨w.heap.size, 0, none⟩ = some (.int .i64 4) := T1.out.2.cellAt 0
    have f20_w1 : w1.cell? ⟨w.heap.size, 20, none⟩ = some (.string s) := T1.out.2.cellAt 20
    go_wp2_with fail
    refine (KK.out _).mono ?_
    rintro e w2 ⟨rfl, hb2⟩
    have hB2 := T1.out.1.trans (hb2.mono T1.out.1.size)
    go_wp2
    go_ret
    exact ⟨ret_str HE.out.symm, hB2⟩
  · have hp : nameB s = true := by
      have h := hv
      rw [opB_nm (by simp)] at h
      simp only [Bool.and_eq_true] at h
      exact h.1.1.1
    have he : opEnc ⟨6, nn, a1, b1, c1, l1, qn, a2, b2, c2, tn, tq, tp, a3, b3, c3, l3, ta, tg, ts, s⟩ = enc 6 ++ encT s := opEnc_nm (by simp)
    rw [he, ← S_append] at hE
    have kp : ∀ W, Calls Try.prog 57 #[.int .u64 6] W fun e w' => e = .returned (.string (S (enc 6))) ∧ Below W.heap.size W w' := fun W => refNumber_any 6 W (by decide)
    have kk := fun W => rtext_any s W (by omega)
    have xs : (S (enc 6)).size = 2 := by rw [S_size]; exact enc_two (by decide) (by decide)
    have ys : (S (encT s)).size ≤ 1000 := by rw [S_size]; exact nameEnc_le hp
    obtain ⟨X, hX⟩ : ∃ X, X = S (enc 6) := ⟨_, rfl⟩
    rw [← hX] at kp hE xs
    clear hX
    obtain ⟨Y, hY⟩ : ∃ Y, Y = S (encT s) := ⟨_, rfl⟩
    rw [← hY] at kk hE ys
    have xys : X.size + Y.size ≤ 9223372036854775807 := by omega
    clear hY xs ys
    have KK := Lib.hid kk
    have KP := Lib.hid kp
    have HE := Lib.hid hE
    clear kp hv he hE hnn hqn htn htq hta htg hs kk hp
    go_enter Try.func26, Try.ntmps26
    go_wp2_with fail
    refine (KP.out _).mono ?_
    rintro e w1 ⟨rfl, hb1⟩
    have T1 : Hid (Below w.heap.size w w1 ∧ Bk w1 w.heap.size 32 #[.int .i64 6, .string nn, .int .i64 a1, .int .i64 b1, .int .i64 c1, .slice A1 m1 p1, .string qn, .int .i64 a2, .int .i64 b2, .int .i64 c2, .string tn, .string tq, .int .i64 tp, .int .i64 a3, .int .i64 b3, .int .i64 c3, .slice A3 m3 p3, .string ta, .string tg, .int .i64 ts, .string s]) := ⟨(by (repeat' (first | (with_reducible exact Below.refl _ _) | (with_reducible refine bdrewN ?_ _) | (with_reducible refine Below.drew ?_) | (with_reducible refine Below.setCell ?_ ?_ _) | (with_reducible refine Below.alloc ?_ ?_ _) | (with_reducible refine Below.trans ?_ (Below.mono hb1 ?_)) | (with_reducible exact Nat.le_refl _) | (with_reducible assumption) | omega | (simp only [World.size_alloc, World.size_setCell, World.size_drew, sz_drewN]; omega)))), (Bk.fresh _ _ _).later hb1⟩
    clear hb1
    have f0_w1 : w1.cell? ⟨w.heap.size, 0, none⟩ = some (.int .i64 6) := T1.out.2.cellAt 0
    have f20_w1 : w1.cell? ⟨w.heap.size, 20, none⟩ = some (.string s) := T1.out.2.cellAt 20
    go_wp2_with fail
    refine (KK.out _).mono ?_
    rintro e w2 ⟨rfl, hb2⟩
    have hB2 := T1.out.1.trans (hb2.mono T1.out.1.size)
    go_wp2
    go_ret
    exact ⟨ret_str HE.out.symm, hB2⟩
  · have hp : nameB s = true := by
      have h := hv
      rw [opB_nm (by simp)] at h
      simp only [Bool.and_eq_true] at h
      exact h.1.1.1
    have he : opEnc ⟨7, nn, a1, b1, c1, l1, qn, a2, b2, c2, tn, tq, tp, a3, b3, c3, l3, ta, tg, ts, s⟩ = enc 7 ++ encT s := opEnc_nm (by simp)
    rw [he, ← S_append] at hE
    have kp : ∀ W, Calls Try.prog 57 #[.int .u64 7] W fun e w' => e = .returned (.string (S (enc 7))) ∧ Below W.heap.size W w' := fun W => refNumber_any 7 W (by decide)
    have kk := fun W => rtext_any s W (by omega)
    have xs : (S (enc 7)).size = 2 := by rw [S_size]; exact enc_two (by decide) (by decide)
    have ys : (S (encT s)).size ≤ 1000 := by rw [S_size]; exact nameEnc_le hp
    obtain ⟨X, hX⟩ : ∃ X, X = S (enc 7) := ⟨_, rfl⟩
    rw [← hX] at kp hE xs
    clear hX
    obtain ⟨Y, hY⟩ : ∃ Y, Y = S (encT s) := ⟨_, rfl⟩
    rw [← hY] at kk hE ys
    have xys : X.size + Y.size ≤ 9223372036854775807 := by omega
    clear hY xs ys
    have KK := Lib.hid kk
    have KP := Lib.hid kp
    have HE := Lib.hid hE
    clear kp hv he hE hnn hqn htn htq hta htg hs kk hp
    go_enter Try.func26, Try.ntmps26
    go_wp2_with fail
    refine (KP.out _).mono ?_
    rintro e w1 ⟨rfl, hb1⟩
    have T1 : Hid (Below w.heap.size w w1 ∧ Bk w1 w.heap.size 32 #[.int .i64 7, .string nn, .int .i64 a1, .int .i64 b1, .int .i64 c1, .slice A1 m1 p1, .string qn, .int .i64 a2, .int .i64 b2, .int .i64 c2, .string tn, .string tq, .int .i64 tp, .int .i64 a3, .int .i64 b3, .int .i64 c3, .slice A3 m3 p3, .string ta, .string tg, .int .i64 ts, .string s]) := ⟨(by (repeat' (first | (with_reducible exact Below.refl _ _) | (with_reducible refine bdrewN ?_ _) | (with_reducible refine Below.drew ?_) | (with_reducible refine Below.setCell ?_ ?_ _) | (with_reducible refine Below.alloc ?_ ?_ _) | (with_reducible refine Below.trans ?_ (Below.mono hb1 ?_)) | (with_reducible exact Nat.le_refl _) | (with_reducible assumption) | omega | (simp only [World.size_alloc, World.size_setCell, World.size_drew, sz_drewN]; omega)))), (Bk.fresh _ _ _).later hb1⟩
    clear hb1
    have f0_w1 : w1.cell? ⟨w.heap.size, 0, none⟩ = some (.int .i64 7) := T1.out.2.cellAt 0
    have f20_w1 : w1.cell? ⟨w.heap.size, 20, none⟩ = some (.string s) := T1.out.2.cellAt 20
    go_wp2_with fail
    refine (KK.out _).mono ?_
    rintro e w2 ⟨rfl, hb2⟩
    have hB2 := T1.out.1.trans (hb2.mono T1.out.1.size)
    go_wp2
    go_ret
    exact ⟨ret_str HE.out.symm, hB2⟩
  · have hp : nameB s = true := by
      have h := hv
      rw [opB_nm (by simp)] at h
      simp only [Bool.and_eq_true] at h
      exact h.1.1.1
    have he : opEnc ⟨8, nn, a1, b1, c1, l1, qn, a2, b2, c2, tn, tq, tp, a3, b3, c3, l3, ta, tg, ts, s⟩ = enc 8 ++ encT s := opEnc_nm (by simp)
    rw [he, ← S_append] at hE
    have kp : ∀ W, Calls Try.prog 57 #[.int .u64 8] W fun e w' => e = .returned (.string (S (enc 8))) ∧ Below W.heap.size W w' := fun W => refNumber_any 8 W (by decide)
    have kk := fun W => rtext_any s W (by omega)
    have xs : (S (enc 8)).size = 2 := by rw [S_size]; exact enc_two (by decide) (by decide)
    have ys : (S (encT s)).size ≤ 1000 := by rw [S_size]; exact nameEnc_le hp
    obtain ⟨X, hX⟩ : ∃ X, X = S (enc 8) := ⟨_, rfl⟩
    rw [← hX] at kp hE xs
    clear hX
    obtain ⟨Y, hY⟩ : ∃ Y, Y = S (encT s) := ⟨_, rfl⟩
    rw [← hY] at kk hE ys
    have xys : X.size + Y.size ≤ 9223372036854775807 := by omega
    clear hY xs ys
    have KK := Lib.hid kk
    have KP := Lib.hid kp
    have HE := Lib.hid hE
    clear kp hv he hE hnn hqn htn htq hta htg hs kk hp
    go_enter Try.func26, Try.ntmps26
    go_wp2_with fail
    refine (KP.out _).mono ?_
    rintro e w1 ⟨rfl, hb1⟩
    have T1 : Hid (Below w.heap.size w w1 ∧ Bk w1 w.heap.size 32 #[.int .i64 8, .string nn, .int .i64 a1, .int .i64 b1, .int .i64 c1, .slice A1 m1 p1, .string qn, .int .i64 a2, .int .i64 b2, .int .i64 c2, .string tn, .string tq, .int .i64 tp, .int .i64 a3, .int .i64 b3, .int .i64 c3, .slice A3 m3 p3, .string ta, .string tg, .int .i64 ts, .string s]) := ⟨(by (repeat' (first | (with_reducible exact Below.refl _ _) | (with_reducible refine bdrewN ?_ _) | (with_reducible refine Below.drew ?_) | (with_reducible refine Below.setCell ?_ ?_ _) | (with_reducible refine Below.alloc ?_ ?_ _) | (with_reducible refine Below.trans ?_ (Below.mono hb1 ?_)) | (with_reducible exact Nat.le_refl _) | (with_reducible assumption) | omega | (simp only [World.size_alloc, World.size_setCell, World.size_drew, sz_drewN]; omega)))), (Bk.fresh _ _ _).later hb1⟩
    clear hb1
    have f0_w1 : w1.cell? ⟨w.heap.size, 0, none⟩ = some (.int .i64 8) := T1.out.2.cellAt 0
    have f20_w1 : w1.cell? ⟨w.heap.size, 20, none⟩ = some (.string s) := T1.out.2.cellAt 20
    go_wp2_with fail
    refine (KK.out _).mono ?_
    rintro e w2 ⟨rfl, hb2⟩
    have hB2 := T1.out.1.trans (hb2.mono T1.out.1.size)
    go_wp2
    go_ret
    exact ⟨ret_str HE.out.symm, hB2⟩
  · have he : opEnc ⟨9, nn, a1, b1, c1, l1, qn, a2, b2, c2, tn, tq, tp, a3, b3, c3, l3, ta, tg, ts, s⟩ = enc 9 := opEnc_9 rfl
    rw [he] at hE
    have kp : ∀ W, Calls Try.prog 57 #[.int .u64 9] W fun e w' => e = .returned (.string (S (enc 9))) ∧ Below W.heap.size W w' := fun W => refNumber_any 9 W (by decide)
    rw [← hE] at kp
    have KP := Lib.hid kp
    have HE := Lib.hid hE
    clear kp hv he hE hnn hqn htn htq hta htg hs
    go_enter Try.func26, Try.ntmps26
    go_wp2_with fail
    refine (KP.out _).mono ?_
    rintro e w1 ⟨rfl, hb1⟩
    have T1 : Hid (Below w.heap.size w w1 ∧ Bk w1 w.heap.size 32 #[.int .i64 9, .string nn, .int .i64 a1, .int .i64 b1, .int .i64 c1, .slice A1 m1 p1, .string qn, .int .i64 a2, .int .i64 b2, .int .i64 c2, .string tn, .string tq, .int .i64 tp, .int .i64 a3, .int .i64 b3, .int .i64 c3, .slice A3 m3 p3, .string ta, .string tg, .int .i64 ts, .string s]) := ⟨(by (repeat' (first | (with_reducible exact Below.refl _ _) | (with_reducible refine bdrewN ?_ _) | (with_reducible refine Below.drew ?_) | (with_reducible refine Below.setCell ?_ ?_ _) | (with_reducible refine Below.alloc ?_ ?_ _) | (with_reducible refine Below.trans ?_ (Below.mono hb1 ?_)) | (with_reducible exact Nat.le_refl _) | (with_reducible assumption) | omega | (simp only [World.size_alloc, World.size_setCell, World.size_drew, sz_drewN]; omega)))), (Bk.fresh _ _ _).later hb1⟩
    clear hb1
    have f0_w1 : w1.cell? ⟨w.heap.size, 0, none⟩ = some (.int .i64 9) := T1.out.2.cellAt 0
    have f20_w1 : w1.cell? ⟨w.heap.size, 20, none⟩ = some (.string s) := T1.out.2.cellAt 20
    go_wp2
    go_ret
    exact ⟨rfl, T1.out.1⟩

set_option maxHeartbeats 3200000 in
set_option maxRecDepth 100000 in
theorem rEncode_any (k : Int) (nn : ByteArray) (a1 b1 c1 : Int) (A1 : Option Addr) (m1 p1 : Nat) (l1 : List Lb) (qn : ByteArray) (a2 b2 c2 : Int) (tn tq : ByteArray) (tp a3 b3 c3 : Int) (A3 : Option Addr) (m3 p3 : Nat) (l3 : List Lb) (ta tg : ByteArray) (ts : Int) (s : ByteArray) (w : World) (hn1 : Hid (m1 = l1.length)) (hp1 : m1 ≤ p1) (hq1 : p1 ≤ 9223372036854775807) (hn3 : Hid (m3 = l3.length)) (hp3 : m3 ≤ p3) (hq3 : p3 ≤ 9223372036854775807) (hr1 : Hid (RdL w A1 l1)) (hr3 : Hid (RdL w A3 l3)) (hz1 : Hid (Sz l1)) (hz3 : Hid (Sz l3)) (hnn : nn.size ≤ 140737488351232) (hqn : qn.size ≤ 140737488351232) (htn : tn.size ≤ 140737488351232) (htq : tq.size ≤ 140737488351232) (hta : ta.size ≤ 140737488351232) (htg : tg.size ≤ 140737488351232) (hs : s.size ≤ 140737488351232) : Calls Try.prog 11 #[.agg #[.int .i64 k, .string nn, .int .i64 a1, .int .i64 b1, .int .i64 c1, .slice A1 m1 p1, .string qn, .int .i64 a2, .int .i64 b2, .int .i64 c2, .string tn, .string tq, .int .i64 tp, .int .i64 a3, .int .i64 b3, .int .i64 c3, .slice A3 m3 p3, .string ta, .string tg, .int .i64 ts, .string s]] w fun e w' => e = .returned (.tuple #[.string (S (opBytes ⟨k, nn, a1, b1, c1, l1, qn, a2, b2, c2, tn, tq, tp, a3, b3, c3, l3, ta, tg, ts, s⟩)), .int .i64 (opErr ⟨k, nn, a1, b1, c1, l1, qn, a2, b2, c2, tn, tq, tp, a3, b3, c3, l3, ta, tg, ts, s⟩)]) ∧ Below w.heap.size w w' := by
  have kr := fun W (h : RdL W A1 l1) (g : RdL W A3 l3) => rRight_any k nn a1 b1 c1 A1 m1 p1 l1 qn a2 b2 c2 tn tq tp a3 b3 c3 A3 m3 p3 l3 ta tg ts s W hn1 hp1 hq1 hn3 hp3 hq3 (Lib.hid h) (Lib.hid g) hz1 hz3 hnn hqn htn htq hta htg hs
  by_cases hv : opB ⟨k, nn, a1, b1, c1, l1, qn, a2, b2, c2, tn, tq, tp, a3, b3, c3, l3, ta, tg, ts, s⟩ = true
  case neg =>
    have hv' : opB ⟨k, nn, a1, b1, c1, l1, qn, a2, b2, c2, tn, tq, tp, a3, b3, c3, l3, ta, tg, ts, s⟩ = false := by simpa using hv
    rw [hv'] at kr
    rw [opBytes_no hv', opErr_no hv', S_nil]
    have KR := Lib.hid kr
    clear kr hv hv'
    go_enter Try.func11, Try.ntmps11
    go_wp2_with (with_reducible refine load_bk rfl 32 _ rfl w.heap.size 0 rfl 32 #[.int .i64 k, .string nn, .int .i64 a1, .int .i64 b1, .int .i64 c1, .slice A1 m1 p1, .string qn, .int .i64 a2, .int .i64 b2, .int .i64 c2, .string tn, .string tq, .int .i64 tp, .int .i64 a3, .int .i64 b3, .int .i64 c3, .slice A3 m3 p3, .string ta, .string tg, .int .i64 ts, .string s] #[.int .i64 k, .string nn, .int .i64 a1, .int .i64 b1, .int .i64 c1, .slice A1 m1 p1, .string qn, .int .i64 a2, .int .i64 b2, .int .i64 c2, .string tn, .string tq, .int .i64 tp, .int .i64 a3, .int .i64 b3, .int .i64 c3, .slice A3 m3 p3, .string ta, .string tg, .int .i64 ts, .string s] _ (Bk.fresh _ _ _) (Part.whole _) Try.underlying32 rfl (by kernel_rfl) ?_)
    refine (KR.out _ (hr1.out.later (by (repeat' (first | (with_reducible exact Below.refl _ _) | (with_reducible refine bdrewN ?_ _) | (with_reducible refine Below.drew ?_) | (with_reducible refine Below.setCell ?_ ?_ _) | (with_reducible refine Below.alloc ?_ ?_ _) | (with_reducible exact Nat.le_refl _) | (with_reducible assumption) | omega | (simp only [World.size_alloc, World.size_setCell, World.size_drew, sz_drewN]; omega))))) (hr3.out.later (by (repeat' (first | (with_reducible exact Below.refl _ _) | (with_reducible refine bdrewN ?_ _) | (with_reducible refine Below.drew ?_) | (with_reducible refine Below.setCell ?_ ?_ _) | (with_reducible refine Below.alloc ?_ ?_ _) | (with_reducible exact Nat.le_refl _) | (with_reducible assumption) | omega | (simp only [World.size_alloc, World.size_setCell, World.size_drew, sz_drewN]; omega)))))).mono ?_
    rintro e w1 ⟨rfl, hb1⟩
    have hB1 : Below w.heap.size w w1 := (by (repeat' (first | (with_reducible exact Below.refl _ _) | (with_reducible refine bdrewN ?_ _) | (with_reducible refine Below.drew ?_) | (with_reducible refine Below.setCell ?_ ?_ _) | (with_reducible refine Below.alloc ?_ ?_ _) | (with_reducible refine Below.trans ?_ (Below.mono hb1 ?_)) | (with_reducible exact Nat.le_refl _) | (with_reducible assumption) | omega | (simp only [World.size_alloc, World.size_setCell, World.size_drew, sz_drewN]; omega))))
    go_wp2
    go_ret2
    exact ⟨rfl, hB1⟩
  case pos =>
    have kb := fun W (h : RdL W A1 l1) (g : RdL W A3 l3) => rBytes_any k nn a1 b1 c1 A1 m1 p1 l1 qn a2 b2 c2 tn tq tp a3 b3 c3 A3 m3 p3 l3 ta tg ts s W hn1 hp1 hq1 hn3 hp3 hq3 (Lib.hid h) (Lib.hid g) hz1 hz3 hnn hqn htn htq hta htg hs hv
    rw [hv] at kr
    rw [opBytes_yes hv, opErr_yes hv]
    generalize S (opEnc ⟨k, nn, a1, b1, c1, l1, qn, a2, b2, c2, tn, tq, tp, a3, b3, c3, l3, ta, tg, ts, s⟩) = E at kb ⊢
    have KR := Lib.hid kr
    have KB := Lib.hid kb
    clear kr kb hv
    go_enter Try.func11, Try.ntmps11
    go_wp2_with (with_reducible refine load_bk rfl 32 _ rfl w.heap.size 0 rfl 32 #[.int .i64 k, .string nn, .int .i64 a1, .int .i64 b1, .int .i64 c1, .slice A1 m1 p1, .string qn, .int .i64 a2, .int .i64 b2, .int .i64 c2, .string tn, .string tq, .int .i64 tp, .int .i64 a3, .int .i64 b3, .int .i64 c3, .slice A3 m3 p3, .string ta, .string tg, .int .i64 ts, .string s] #[.int .i64 k, .string nn, .int .i64 a1, .int .i64 b1, .int .i64 c1, .slice A1 m1 p1, .string qn, .int .i64 a2, .int .i64 b2, .int .i64 c2, .string tn, .string tq, .int .i64 tp, .int .i64 a3, .int .i64 b3, .int .i64 c3, .slice A3 m3 p3, .string ta, .string tg, .int .i64 ts, .string s] _ (Bk.fresh _ _ _) (Part.whole _) Try.underlying32 rfl (by kernel_rfl) ?_)
    refine (KR.out _ (hr1.out.later (by (repeat' (first | (with_reducible exact Below.refl _ _) | (with_reducible refine bdrewN ?_ _) | (with_reducible refine Below.drew ?_) | (with_reducible refine Below.setCell ?_ ?_ _) | (with_reducible refine Below.alloc ?_ ?_ _) | (with_reducible exact Nat.le_refl _) | (with_reducible assumption) | omega | (simp only [World.size_alloc, World.size_setCell, World.size_drew, sz_drewN]; omega))))) (hr3.out.later (by (repeat' (first | (with_reducible exact Below.refl _ _) | (with_reducible refine bdrewN ?_ _) | (with_reducible refine Below.drew ?_) | (with_reducible refine Below.setCell ?_ ?_ _) | (with_reducible refine Below.alloc ?_ ?_ _) | (with_reducible exact Nat.le_refl _) | (with_reducible assumption) | omega | (simp only [World.size_alloc, World.size_setCell, World.size_drew, sz_drewN]; omega)))))).mono ?_
    rintro e w1 ⟨rfl, hb1⟩
    have T1 : Hid (Below w.heap.size w w1 ∧ Bk w1 w.heap.size 32 #[.int .i64 k, .string nn, .int .i64 a1, .int .i64 b1, .int .i64 c1, .slice A1 m1 p1, .string qn, .int .i64 a2, .int .i64 b2, .int .i64 c2, .string tn, .string tq, .int .i64 tp, .int .i64 a3, .int .i64 b3, .int .i64 c3, .slice A3 m3 p3, .string ta, .string tg, .int .i64 ts, .string s]) := ⟨(by (repeat' (first | (with_reducible exact Below.refl _ _) | (with_reducible refine bdrewN ?_ _) | (with_reducible refine Below.drew ?_) | (with_reducible refine Below.setCell ?_ ?_ _) | (with_reducible refine Below.alloc ?_ ?_ _) | (with_reducible refine Below.trans ?_ (Below.mono hb1 ?_)) | (with_reducible exact Nat.le_refl _) | (with_reducible assumption) | omega | (simp only [World.size_alloc, World.size_setCell, World.size_drew, sz_drewN]; omega)))), (Bk.fresh _ _ _).later hb1⟩
    clear hb1
    go_wp2_with (with_reducible refine load_bk rfl 32 _ rfl w.heap.size 0 rfl 32 #[.int .i64 k, .string nn, .int .i64 a1, .int .i64 b1, .int .i64 c1, .slice A1 m1 p1, .string qn, .int .i64 a2, .int .i64 b2, .int .i64 c2, .string tn, .string tq, .int .i64 tp, .int .i64 a3, .int .i64 b3, .int .i64 c3, .slice A3 m3 p3, .string ta, .string tg, .int .i64 ts, .string s] #[.int .i64 k, .string nn, .int .i64 a1, .int .i64 b1, .int .i64 c1, .slice A1 m1 p1, .string qn, .int .i64 a2, .int .i64 b2, .int .i64 c2, .string tn, .string tq, .int .i64 tp, .int .i64 a3, .int .i64 b3, .int .i64 c3, .slice A3 m3 p3, .string ta, .string tg, .int .i64 ts, .string s] _ T1.out.2 (Part.whole _) Try.underlying32 rfl (by kernel_rfl) ?_)
    refine (KB.out _ (hr1.out.later T1.out.1) (hr3.out.later T1.out.1)).mono ?_
    rintro e w2 ⟨rfl, hb2⟩
    have hB2 := T1.out.1.trans (hb2.mono T1.out.1.size)
    go_wp2
    go_ret2
    exact ⟨rfl, hB2⟩

end Go.Proofs.Ytehkdaknhgmdkaa
