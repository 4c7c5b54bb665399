/- Operations there and back, plainly: what was encoded is decoded as it was; cut off it isn't; with one more behind it isn't; what is decoded is just its own bytes. No condition. -/
import Derived.Test.YtehkdaknhgmdkaaOle
import Derived.Test.YtehkdaknhgmdkaaOdd
import Derived.Test.YtehkdaknhgmdkaaAtm
namespace Go.Proofs.Ytehkdaknhgmdkaa
open Go.RowKit
set_option linter.unusedSimpArgs false
set_option linter.unusedVariables false

theorem blankN_of {nm : ByteArray} {a b c : Int} {l : List Lb} (h : blankN nm a b c l = true) : nm = ⟨#[]⟩ ∧ a = 0 ∧ b = 0 ∧ c = 0 ∧ l = [] := by
  unfold blankN sameNodeB eq3 sameB at h
  simp only [Bool.and_eq_true, beq_iff_eq, decide_eq_true_eq] at h
  exact ⟨sE_iff.1 h.1.1, h.1.2.1.1, h.1.2.1.2, h.1.2.2, h.2⟩
theorem blankQ_of {nm : ByteArray} {a b c : Int} (h : blankQ nm a b c = true) : nm = ⟨#[]⟩ ∧ a = 0 ∧ b = 0 ∧ c = 0 := by
  unfold blankQ eq3 at h
  simp only [Bool.and_eq_true, beq_iff_eq] at h
  exact ⟨sE_iff.1 h.1, h.2.1.1, h.2.1.2, h.2.2⟩
theorem blankT_of {nm qu : ByteArray} {pr a b c : Int} {l : List Lb} {ap ga : ByteArray} {sz : Int} (h : blankT nm qu pr a b c l ap ga sz = true) : nm = ⟨#[]⟩ ∧ qu = ⟨#[]⟩ ∧ pr = 0 ∧ a = 0 ∧ b = 0 ∧ c = 0 ∧ l = [] ∧ ap = ⟨#[]⟩ ∧ ga = ⟨#[]⟩ ∧ sz = 0 := by
  unfold blankT sameTaskB eq3 sameB at h
  simp only [Bool.and_eq_true, beq_iff_eq, decide_eq_true_eq] at h
  obtain ⟨⟨⟨⟨⟨⟨⟨h1, h2⟩, h3⟩, ⟨h4, h5⟩, h6⟩, h7⟩, h8⟩, h9⟩, h10⟩ := h
  exact ⟨sE_iff.1 h1, sE_iff.1 h2, h3, h4, h5, h6, h7, sE_iff.1 h8, sE_iff.1 h9, h10⟩
theorem nat_of {a : Int} (h : 0 ≤ a) : ((a.toNat : Nat) : Int) = a := by omega
/-- The five kinds of kinds. -/
theorem kinds_of {x : Ov} (h : opB x = true) : x.k = 1 ∨ x.k = 3 ∨ x.k = 5 ∨ x.k = 9 ∨ (x.k = 2 ∨ x.k = 4 ∨ x.k = 6 ∨ x.k = 7 ∨ x.k = 8) := by have := opB_kind h; omega

theorem ov_1 {x : Ov} (hk : x.k = 1) (h : opB x = true) : x = ⟨1, x.nn, x.a1, x.b1, x.c1, x.l1, ⟨#[]⟩, 0, 0, 0, ⟨#[]⟩, ⟨#[]⟩, 0, 0, 0, 0, [], ⟨#[]⟩, ⟨#[]⟩, 0, ⟨#[]⟩⟩ ∧ nodeB x.nn x.a1 x.b1 x.c1 x.l1 = true := by
  rw [opB_1 hk] at h
  simp only [Bool.and_eq_true] at h
  obtain ⟨⟨⟨h1, h2⟩, h3⟩, h4⟩ := h
  obtain ⟨q1, q2, q3, q4⟩ := blankQ_of h2
  obtain ⟨t1, t2, t3, t4, t5, t6, t7, t8, t9, t10⟩ := blankT_of h3
  have s1 := sE_iff.1 h4
  refine ⟨?_, h1⟩
  cases x
  simp only at hk q1 q2 q3 q4 t1 t2 t3 t4 t5 t6 t7 t8 t9 t10 s1
  subst hk q1 q2 q3 q4 t1 t2 t3 t4 t5 t6 t7 t8 t9 t10 s1
  rfl
theorem ov_3 {x : Ov} (hk : x.k = 3) (h : opB x = true) : x = ⟨3, ⟨#[]⟩, 0, 0, 0, [], x.qn, x.a2, x.b2, x.c2, ⟨#[]⟩, ⟨#[]⟩, 0, 0, 0, 0, [], ⟨#[]⟩, ⟨#[]⟩, 0, ⟨#[]⟩⟩ ∧ queueB x.qn x.a2 x.b2 x.c2 = true := by
  rw [opB_3 hk] at h
  simp only [Bool.and_eq_true] at h
  obtain ⟨⟨⟨h1, h2⟩, h3⟩, h4⟩ := h
  obtain ⟨q1, q2, q3, q4, q5⟩ := blankN_of h2
  obtain ⟨t1, t2, t3, t4, t5, t6, t7, t8, t9, t10⟩ := blankT_of h3
  have s1 := sE_iff.1 h4
  refine ⟨?_, h1⟩
  cases x
  simp only at hk q1 q2 q3 q4 q5 t1 t2 t3 t4 t5 t6 t7 t8 t9 t10 s1
  subst hk q1 q2 q3 q4 q5 t1 t2 t3 t4 t5 t6 t7 t8 t9 t10 s1
  rfl
theorem ov_5 {x : Ov} (hk : x.k = 5) (h : opB x = true) : x = ⟨5, ⟨#[]⟩, 0, 0, 0, [], ⟨#[]⟩, 0, 0, 0, x.tn, x.tq, x.tp, x.a3, x.b3, x.c3, x.l3, x.ta, x.tg, x.ts, ⟨#[]⟩⟩ ∧ taskB x.tn x.tq x.tp x.a3 x.b3 x.c3 x.l3 x.ta x.tg x.ts = true := by
  rw [opB_5 hk] at h
  simp only [Bool.and_eq_true] at h
  obtain ⟨⟨⟨h1, h2⟩, h3⟩, h4⟩ := h
  obtain ⟨q1, q2, q3, q4, q5⟩ := blankN_of h2
  obtain ⟨t1, t2, t3, t4⟩ := blankQ_of h3
  have s1 := sE_iff.1 h4
  refine ⟨?_, h1⟩
  cases x
  simp only at hk q1 q2 q3 q4 q5 t1 t2 t3 t4 s1
  subst hk q1 q2 q3 q4 q5 t1 t2 t3 t4 s1
  rfl
theorem ov_9 {x : Ov} (hk : x.k = 9) (h : opB x = true) : x = ovS 9 ⟨#[]⟩ := by
  rw [opB_9 hk] at h
  simp only [Bool.and_eq_true] at h
  obtain ⟨⟨⟨h1, h2⟩, h3⟩, h4⟩ := h
  obtain ⟨n1, n2, n3, n4, n5⟩ := blankN_of h1
  obtain ⟨q1, q2, q3, q4⟩ := blankQ_of h2
  obtain ⟨t1, t2, t3, t4, t5, t6, t7, t8, t9, t10⟩ := blankT_of h3
  have s1 := sE_iff.1 h4
  cases x
  simp only at hk n1 n2 n3 n4 n5 q1 q2 q3 q4 t1 t2 t3 t4 t5 t6 t7 t8 t9 t10 s1
  subst hk n1 n2 n3 n4 n5 q1 q2 q3 q4 t1 t2 t3 t4 t5 t6 t7 t8 t9 t10 s1
  rfl
theorem ov_nm {x : Ov} (hk : x.k = 2 ∨ x.k = 4 ∨ x.k = 6 ∨ x.k = 7 ∨ x.k = 8) (h : opB x = true) : x = ovS x.k x.s ∧ nameB x.s = true := by
  rw [opB_nm hk] at h
  simp only [Bool.and_eq_true] at h
  obtain ⟨⟨⟨h1, h2⟩, h3⟩, h4⟩ := h
  obtain ⟨n1, n2, n3, n4, n5⟩ := blankN_of h2
  obtain ⟨q1, q2, q3, q4⟩ := blankQ_of h3
  obtain ⟨t1, t2, t3, t4, t5, t6, t7, t8, t9, t10⟩ := blankT_of h4
  refine ⟨?_, h1⟩
  cases x
  simp only at n1 n2 n3 n4 n5 q1 q2 q3 q4 t1 t2 t3 t4 t5 t6 t7 t8 t9 t10
  subst n1 n2 n3 n4 n5 q1 q2 q3 q4 t1 t2 t3 t4 t5 t6 t7 t8 t9 t10
  rfl

/-- The kind is taken first. -/
theorem kind_at {n : Nat} (h0 : n ≠ 0) (h : n < 256) (y : List UInt8) : takeP (enc n ++ y) 0 = (n, 2, 0) := by
  have := takeP_mid [] y n (by omega)
  rw [List.nil_append, enc_two h0 h] at this
  simpa using this
theorem kind_cut {n j : Nat} (h0 : n ≠ 0) (h : n < 256) (y : List UInt8) (hj : j < 2) : takeP ((enc n ++ y).take j) 0 = (0, 0, 2) := by
  have := takeP_cut [] n j (by omega) (by rw [enc_two h0 h]; exact hj)
  rw [List.nil_append] at this
  rw [List.take_append_of_le_length (by rw [enc_two h0 h]; omega)]
  simpa using this
theorem take_behind {n j : Nat} (h0 : n ≠ 0) (h : n < 256) (y : List UInt8) (hj : 2 ≤ j) : (enc n ++ y).take j = enc n ++ y.take (j - 2) := by
  rw [List.take_append, List.take_of_length_le (by rw [enc_two h0 h]; omega), enc_two h0 h]
theorem name_at {n : Nat} (h0 : n ≠ 0) (h : n < 256) (y : List UInt8) {s : ByteArray} (hs : nameB s = true) : tName (enc n ++ (encT s ++ y)) 2 = (s, (((enc n ++ encT s).length : Nat) : Int), 0) := by
  have h16 := (nameB_le hs).2
  have ht := textP_at (enc n) y s 16 (by omega) (by omega)
  rw [enc_two h0 h] at ht
  unfold tName
  rw [show ((2 : Nat) : Int) = 2 from rfl] at ht
  rw [ht]
  have e : (⟨s.data.toList.toArray⟩ : ByteArray) = s := by cases s; simp
  simp only [e, hs, if_true]
theorem name_cut {n j : Nat} (h0 : n ≠ 0) (h : n < 256) {s : ByteArray} (hs : nameB s = true) (hj : j < (encT s).length) : ¬ (tName (enc n ++ (encT s).take j) 2).2.2 = 0 := by
  intro hc
  have h2 := enc_two h0 h
  have h16 := (nameB_le hs).2
  have e1 : (enc n ++ encT s).take ((enc n).length + j) = enc n ++ (encT s).take j := by rw [List.take_append, List.take_of_length_le (by omega), Nat.add_sub_cancel_left]
  have ht : (textP (enc n ++ (encT s).take j) 2 16).2.2 = 0 := by
    unfold tName at hc
    by_cases hx : (textP (enc n ++ (encT s).take j) 2 16).2.2 = 0
    · exact hx
    · simp only [if_neg hx] at hc; exact absurd hc hx
  obtain ⟨_, g1, g2, g3⟩ := text_ate ht
  rw [show (2 : Int) = (((enc n).length : Nat) : Int) from by rw [h2]; rfl] at g1 g2 g3 ht
  rw [← e1] at g1 g2 g3 ht
  have hlen := textP_len ((enc n ++ encT s).take ((enc n).length + j)) (((enc n).length : Nat) : Int) 16
  generalize textP ((enc n ++ encT s).take ((enc n).length + j)) (((enc n).length : Nat) : Int) 16 = r at *
  obtain ⟨q, nx, er⟩ := r
  simp only [] at *
  rw [Int.toNat_natCast] at g3
  obtain ⟨s1, s2⟩ := pre_split (nx := nx.toNat) hj (by omega) (by omega) g3
  have sz : (⟨q.toArray⟩ : ByteArray).size = q.length := by show q.toArray.size = _; simp
  have h16' : (16 : Int).toNat = 16 := rfl
  have f1 := textP_at (enc n) [] s 16 (by omega) (by omega)
  have f2 := textP_at (enc n) ((encT s).drop (encT ⟨q.toArray⟩).length) ⟨q.toArray⟩ 16 (by omega) (by omega)
  rw [List.append_nil, s2, f2] at f1
  injection f1 with _ f3
  injection f3 with f4 _
  simp only [List.length_append, List.length_drop] at f4
  omega

/-- What was encoded is taken as it was, whatever stands behind it. -/
theorem op_mid {x : Ov} (h : opB x = true) (y : List UInt8) : pTake (opEnc x ++ y) = (x, (((opEnc x).length : Nat) : Int), 0) := by
  rcases kinds_of h with hk | hk | hk | hk | hk
  · obtain ⟨hx, hv⟩ := ov_1 hk h
    rw [opEnc_1 hk, List.append_assoc]
    have hr := hv
    unfold nodeB at hr
    simp only [Bool.and_eq_true] at hr
    have hb := rB_bd hr.1.2
    rw [← nat_of hb.1, ← nat_of hb.2.2.1, ← nat_of hb.2.2.2.2.1] at hv
    have hn := node_at (x := enc 1) (y := y) hv rfl
    rw [nat_of hb.1, nat_of hb.2.2.1, nat_of hb.2.2.2.2.1, enc_two (by decide) (by decide)] at hn
    rw [pTake_1 (kind_at (by decide) (by decide) _), show (2 : Int) = ((2 : Nat) : Int) from rfl, hn]
    refine Prod.ext ?_ rfl
    show ovN _ = x
    rw [hx]
    unfold ovN Ov.zero
    simp only [nat_of hb.1, nat_of hb.2.2.1, nat_of hb.2.2.2.2.1]
  · obtain ⟨hx, hv⟩ := ov_3 hk h
    rw [opEnc_3 hk, List.append_assoc]
    have hr := hv
    unfold queueB at hr
    simp only [Bool.and_eq_true] at hr
    have hb := rB_bd hr.2
    rw [← nat_of hb.1, ← nat_of hb.2.2.1, ← nat_of hb.2.2.2.2.1] at hv
    have hn := queue_at (x := enc 3) (y := y) hv rfl
    rw [nat_of hb.1, nat_of hb.2.2.1, nat_of hb.2.2.2.2.1, enc_two (by decide) (by decide)] at hn
    rw [pTake_3 (kind_at (by decide) (by decide) _), show (2 : Int) = ((2 : Nat) : Int) from rfl, hn]
    refine Prod.ext ?_ rfl
    show ovQ _ = x
    rw [hx]
    unfold ovQ Ov.zero
    simp only [nat_of hb.1, nat_of hb.2.2.1, nat_of hb.2.2.2.2.1]
  · obtain ⟨hx, hv⟩ := ov_5 hk h
    rw [opEnc_5 hk, List.append_assoc]
    have hr := hv
    unfold taskB at hr
    simp only [Bool.and_eq_true, decide_eq_true_eq] at hr
    obtain ⟨⟨⟨⟨⟨⟨⟨v1, v2⟩, v3⟩, v4⟩, v5⟩, v6⟩, v7⟩, v8⟩ := hr
    have hb := rB_bd v5
    have hg := (gangB_le v8).2.1
    rw [← nat_of hb.1, ← nat_of hb.2.2.1, ← nat_of hb.2.2.2.2.1, ← nat_of v3, ← nat_of hg] at hv
    have hn := task_at (x := enc 5) (y := y) hv rfl
    rw [nat_of hb.1, nat_of hb.2.2.1, nat_of hb.2.2.2.2.1, nat_of v3, nat_of hg, enc_two (by decide) (by decide)] at hn
    rw [pTake_5 (kind_at (by decide) (by decide) _), show (2 : Int) = ((2 : Nat) : Int) from rfl, hn]
    refine Prod.ext ?_ rfl
    show ovT _ = x
    rw [hx]
    unfold ovT Ov.zero
    simp only [nat_of hb.1, nat_of hb.2.2.1, nat_of hb.2.2.2.2.1, nat_of v3, nat_of hg]
  · have hx := ov_9 hk h
    rw [opEnc_9 hk, pTake_9 (kind_at (by decide) (by decide) _), enc_two (by decide) (by decide), ← hx]
    rfl
  · obtain ⟨hx, hv⟩ := ov_nm hk h
    have k0 : x.k.toNat ≠ 0 := by omega
    have k1 : x.k.toNat < 256 := by omega
    rw [opEnc_nm hk, List.append_assoc, pTake_nm (kind_at k0 k1 _) (by omega), name_at k0 k1 y hv, nat_of (by omega), ← hx]
/-- What was encoded is decoded as it was; with more behind it isn't. -/
theorem op_back {x : Ov} (h : opB x = true) : dOp (opEnc x) = (x, 0) := by
  have := op_mid h []
  rw [List.append_nil] at this
  unfold dOp
  rw [this]
  exact opFin_ok rfl
theorem op_more {x : Ov} (h : opB x = true) (m : UInt8) : dOp (opEnc x ++ [m]) = (Ov.zero, 3) := by
  unfold dOp
  rw [op_mid h [m]]
  exact opFin_long (by rw [List.length_append, List.length_singleton]; omega)
theorem fin_no {l : List UInt8} {x : Ov} {e : Int × Int} (h : ¬ e.2 = 0) : ¬ (opFin l x e).2 = 0 := by
  unfold opFin; rw [if_neg h]; exact h
/-- Cut off it isn't decoded. -/
theorem op_cut {x : Ov} (h : opB x = true) {j : Nat} (hj : j < (opEnc x).length) : ¬ (dOp ((opEnc x).take j)).2 = 0 := by
  have hk9 := opB_kind h
  have k0 : x.k.toNat ≠ 0 := by omega
  have k1 : x.k.toNat < 256 := by omega
  by_cases hj2 : j < 2
  · have hc : takeP ((opEnc x).take j) 0 = (0, 0, 2) := by unfold opEnc; exact kind_cut k0 k1 _ hj2
    unfold dOp
    rw [pTake_no hc (by decide)]
    exact fin_no (by decide)
  · have hj2 : 2 ≤ j := by omega
    rcases kinds_of h with hk | hk | hk | hk | hk
    · obtain ⟨hx, hv⟩ := ov_1 hk h
      rw [opEnc_1 hk] at hj ⊢
      rw [List.length_append, enc_two (by decide) (by decide)] at hj
      have hr := hv
      unfold nodeB at hr
      simp only [Bool.and_eq_true] at hr
      have hb := rB_bd hr.1.2
      rw [← nat_of hb.1, ← nat_of hb.2.2.1, ← nat_of hb.2.2.2.2.1] at hv hj ⊢
      have hc := node_cut (x := enc 1) (j := j - 2) hv (by omega)
      rw [enc_two (by decide) (by decide), show 2 + (j - 2) = j from by omega] at hc
      rw [take_behind (by decide) (by decide) _ hj2] at hc ⊢
      unfold dOp
      rw [pTake_1 (kind_at (by decide) (by decide) _)]
      exact fin_no hc
    · obtain ⟨hx, hv⟩ := ov_3 hk h
      rw [opEnc_3 hk] at hj ⊢
      rw [List.length_append, enc_two (by decide) (by decide)] at hj
      have hr := hv
      unfold queueB at hr
      simp only [Bool.and_eq_true] at hr
      have hb := rB_bd hr.2
      rw [← nat_of hb.1, ← nat_of hb.2.2.1, ← nat_of hb.2.2.2.2.1] at hv hj ⊢
      have hc := queue_cut (x := enc 3) (j := j - 2) hv (by omega)
      rw [enc_two (by decide) (by decide), show 2 + (j - 2) = j from by omega] at hc
      rw [take_behind (by decide) (by decide) _ hj2] at hc ⊢
      unfold dOp
      rw [pTake_3 (kind_at (by decide) (by decide) _)]
      exact fin_no hc
    · obtain ⟨hx, hv⟩ := ov_5 hk h
      rw [opEnc_5 hk] at hj ⊢
      rw [List.length_append, enc_two (by decide) (by decide)] at hj
      have hr := hv
      unfold taskB at hr
      simp only [Bool.and_eq_true, decide_eq_true_eq] at hr
      obtain ⟨⟨⟨⟨⟨⟨⟨v1, v2⟩, v3⟩, v4⟩, v5⟩, v6⟩, v7⟩, v8⟩ := hr
      have hb := rB_bd v5
      have hg := (gangB_le v8).2.1
      rw [← nat_of hb.1, ← nat_of hb.2.2.1, ← nat_of hb.2.2.2.2.1, ← nat_of v3, ← nat_of hg] at hv hj ⊢
      have hc := task_cut (x := enc 5) (j := j - 2) hv (by omega)
      rw [enc_two (by decide) (by decide), show 2 + (j - 2) = j from by omega] at hc
      rw [take_behind (by decide) (by decide) _ hj2] at hc ⊢
      unfold dOp
      rw [pTake_5 (kind_at (by decide) (by decide) _)]
      exact fin_no hc
    · rw [opEnc_9 hk, enc_two (by decide) (by decide)] at hj
      omega
    · obtain ⟨hx, hv⟩ := ov_nm hk h
      rw [opEnc_nm hk] at hj ⊢
      rw [List.length_append, enc_two k0 k1] at hj
      have hc := name_cut k0 k1 hv (j := j - 2) (by omega)
      rw [take_behind k0 k1 _ hj2]
      unfold dOp
      rw [pTake_nm (kind_at k0 k1 _) (by omega)]
      exact fin_no hc

theorem fin_ok {l : List UInt8} {x : Ov} {e : Int × Int} (h : (opFin l x e).2 = 0) : e.2 = 0 ∧ e.1 = (l.length : Int) ∧ (opFin l x e).1 = x := by
  by_cases h0 : e.2 = 0
  · by_cases h1 : e.1 = (l.length : Int)
    · exact ⟨h0, h1, by unfold opFin; rw [if_pos h0, if_pos h1]⟩
    · unfold opFin at h; rw [if_pos h0, if_neg h1] at h; exact absurd h (by decide)
  · exact absurd h (fin_no h0)
theorem fin_zero {l : List UInt8} {x : Ov} {e : Int × Int} (h : ¬ (opFin l x e).2 = 0) : (opFin l x e).1 = Ov.zero := by
  unfold opFin at h ⊢
  split at h
  · split at h
    · exact absurd rfl h
    · rw [if_pos (by assumption), if_neg (by assumption)]
  · rw [if_neg (by assumption)]
theorem dOp_no {l : List UInt8} (h : ¬ (dOp l).2 = 0) : (dOp l).1 = Ov.zero := fin_zero h
theorem whole_of {l : List UInt8} {k : Nat} {p nx : Int} {E : List UInt8} (h1 : enc k = l.take p.toNat) (h0 : 0 ≤ p) (h2 : E = (l.drop p.toNat).take (nx.toNat - p.toNat)) (h3 : nx = (l.length : Int)) : enc k ++ E = l := by
  have e : (l.drop p.toNat).take (nx.toNat - p.toNat) = l.drop p.toNat := List.take_of_length_le (by rw [List.length_drop]; omega)
  rw [h1, h2, e, List.take_append_drop]
theorem zN_zero {x : Ov} (h : x.nn = ⟨#[]⟩ ∧ x.a1 = 0 ∧ x.b1 = 0 ∧ x.c1 = 0 ∧ x.l1 = []) : x.zN = true := by unfold Ov.zN; rw [h.1, h.2.1, h.2.2.1, h.2.2.2.1, h.2.2.2.2]; exact blankN_none
/-- What is decoded can be, and its bytes are just those that were read. -/
theorem op_one {l : List UInt8} (h : (dOp l).2 = 0) : opB (dOp l).1 = true ∧ opEnc (dOp l).1 = l := by
  unfold dOp at h ⊢
  obtain ⟨e0, e1, e2⟩ := fin_ok h
  rw [e2]
  clear h e2
  obtain ⟨k, p, e, ht⟩ : ∃ a b c, takeP l 0 = (a, b, c) := ⟨_, _, _, rfl⟩
  by_cases he : e = 0
  · subst he
    obtain ⟨a0, a1, a2, a3⟩ := num_ate (l := l) (p := 0) (by rw [ht])
    rw [ht] at a1 a2 a3
    simp only [Int.toNat_zero, List.drop_zero, Nat.sub_zero] at a1 a2 a3
    by_cases h1 : k = 1
    · subst h1
      rw [pTake_1 ht] at e0 e1 ⊢
      simp only [] at e0 e1 ⊢
      obtain ⟨ok, _, g1, g2, g3⟩ := one_node e0
      generalize tNode l p = r at *
      obtain ⟨⟨nm, a, b, c, ls⟩, nx, er⟩ := r
      simp only [Nd.ok] at *
      have hw := whole_of a3 a1 g3 e1
      refine ⟨?_, ?_⟩
      · rw [opB_1 rfl]
        show (nodeB nm a b c ls && blankQ ⟨#[]⟩ 0 0 0 && blankT ⟨#[]⟩ ⟨#[]⟩ 0 0 0 0 [] ⟨#[]⟩ ⟨#[]⟩ 0 && sE ⟨#[]⟩ ⟨#[]⟩) = true
        rw [ok, blankQ_none, blankT_none, sE_none]; rfl
      · rw [opEnc_1 rfl]; exact hw
    by_cases h3 : k = 3
    · subst h3
      rw [pTake_3 ht] at e0 e1 ⊢
      simp only [] at e0 e1 ⊢
      obtain ⟨ok, _, g1, g2, g3⟩ := one_queue e0
      generalize tQueue l p = r at *
      obtain ⟨⟨nm, a, b, c⟩, nx, er⟩ := r
      simp only [Qu.ok] at *
      have hw := whole_of a3 a1 g3 e1
      refine ⟨?_, ?_⟩
      · rw [opB_3 rfl]
        show (queueB nm a b c && blankN ⟨#[]⟩ 0 0 0 [] && blankT ⟨#[]⟩ ⟨#[]⟩ 0 0 0 0 [] ⟨#[]⟩ ⟨#[]⟩ 0 && sE ⟨#[]⟩ ⟨#[]⟩) = true
        rw [ok, blankN_none, blankT_none, sE_none]; rfl
      · rw [opEnc_3 rfl]; exact hw
    by_cases h5 : k = 5
    · subst h5
      rw [pTake_5 ht] at e0 e1 ⊢
      simp only [] at e0 e1 ⊢
      obtain ⟨ok, _, g1, g2, g3⟩ := one_task e0
      generalize tTask l p = r at *
      obtain ⟨⟨nm, qu, pr, a, b, c, ls, ap, ga, sz⟩, nx, er⟩ := r
      simp only [Tk.ok] at *
      have hw := whole_of a3 a1 g3 e1
      refine ⟨?_, ?_⟩
      · rw [opB_5 rfl]
        show (taskB nm qu pr a b c ls ap ga sz && blankN ⟨#[]⟩ 0 0 0 [] && blankQ ⟨#[]⟩ 0 0 0 && sE ⟨#[]⟩ ⟨#[]⟩) = true
        rw [ok, blankN_none, blankQ_none, sE_none]; rfl
      · rw [opEnc_5 rfl]; exact hw
    by_cases h9 : k = 9
    · subst h9
      rw [pTake_9 ht] at e0 e1 ⊢
      simp only [] at e0 e1 ⊢
      refine ⟨?_, ?_⟩
      · rw [opB_9 rfl]
        show (blankN ⟨#[]⟩ 0 0 0 [] && blankQ ⟨#[]⟩ 0 0 0 && blankT ⟨#[]⟩ ⟨#[]⟩ 0 0 0 0 [] ⟨#[]⟩ ⟨#[]⟩ 0 && sE ⟨#[]⟩ ⟨#[]⟩) = true
        rw [blankN_none, blankQ_none, blankT_none, sE_none]; rfl
      · rw [opEnc_9 rfl, a3, e1, Int.toNat_natCast, List.take_of_length_le (Nat.le_refl _)]
    by_cases hn : k = 2 ∨ k = 4 ∨ k = 6 ∨ k = 7 ∨ k = 8
    · rw [pTake_nm ht hn] at e0 e1 ⊢
      simp only [] at e0 e1 ⊢
      have hq : (textP l p 16).2.2 = 0 ∧ nameB (tName l p).1 = true := by
        unfold tName at e0 ⊢
        simp only [] at e0 ⊢
        by_cases hx : (textP l p 16).2.2 = 0
        · rw [if_pos hx] at e0
          by_cases hy : nameB ⟨(textP l p 16).1.toArray⟩ = true
          · exact ⟨hx, hy⟩
          · rw [if_neg hy] at e0; exact absurd e0 (by decide)
        · rw [if_neg hx] at e0; exact absurd e0 hx
      obtain ⟨_, g1, g2, g3⟩ := text_ate hq.1
      have hw := whole_of (E := encT (tName l p).1) a3 a1 g3 e1
      have hkk : (ovS (k : Int) (tName l p).1).k = 2 ∨ (ovS (k : Int) (tName l p).1).k = 4 ∨ (ovS (k : Int) (tName l p).1).k = 6 ∨ (ovS (k : Int) (tName l p).1).k = 7 ∨ (ovS (k : Int) (tName l p).1).k = 8 := by
        show (k : Int) = 2 ∨ (k : Int) = 4 ∨ (k : Int) = 6 ∨ (k : Int) = 7 ∨ (k : Int) = 8
        omega
      refine ⟨?_, ?_⟩
      · rw [opB_nm hkk]
        show (nameB (tName l p).1 && blankN ⟨#[]⟩ 0 0 0 [] && blankQ ⟨#[]⟩ 0 0 0 && blankT ⟨#[]⟩ ⟨#[]⟩ 0 0 0 0 [] ⟨#[]⟩ ⟨#[]⟩ 0) = true
        rw [hq.2, blankN_none, blankQ_none, blankT_none]; rfl
      · rw [opEnc_nm hkk]; exact hw
    · rw [pTake_other ht (by omega)] at e0
      exact absurd e0 (by decide)
  · rw [pTake_no ht he] at e0
    exact absurd e0 he
end Go.Proofs.Ytehkdaknhgmdkaa
