/- What the program writes of nodes, queues and tasks: the contracts of PutNode, PutQueue, PutTask. Conditions: texts and slices that Go can have; a beginning of at most 2^47 - 4096 bytes. -/
import Derived.Test.YtehkdaknhgmdkaaPls
namespace Go.Proofs.Ytehkdaknhgmdkaa
open Go.RowKit
set_option linter.unusedSimpArgs false
set_option linter.unusedVariables false

/-- The encodings of a node, a queue, a task. -/
def nodeEnc (nm : ByteArray) (a b c : Int) (l : List Lb) : List UInt8 := encT nm ++ (vecEnc a.toNat b.toNat c.toNat ++ labEnc l)
def queueEnc (nm : ByteArray) (a b c : Int) : List UInt8 := encT nm ++ vecEnc a.toNat b.toNat c.toNat
def taskEnc (nm qu : ByteArray) (pr a b c : Int) (l : List Lb) (ap ga : ByteArray) (sz : Int) : List UInt8 :=
  encT nm ++ (encT qu ++ (enc pr.toNat ++ (vecEnc a.toNat b.toNat c.toNat ++ (labEnc l ++ (encT ap ++ (encT ga ++ enc sz.toNat))))))
/-- What is written of what is valid, and of what isn't. -/
def nodeBytes (nm : ByteArray) (a b c : Int) (l : List Lb) : List UInt8 := if nodeB nm a b c l = true then nodeEnc nm a b c l else []
def queueBytes (nm : ByteArray) (a b c : Int) : List UInt8 := if queueB nm a b c = true then queueEnc nm a b c else []
def taskBytes (nm qu : ByteArray) (pr a b c : Int) (l : List Lb) (ap ga : ByteArray) (sz : Int) : List UInt8 :=
  if taskB nm qu pr a b c l ap ga sz = true then taskEnc nm qu pr a b c l ap ga sz else []

theorem nameB_le {s : ByteArray} (h : nameB s = true) : 1 ≤ s.size ∧ s.size ≤ 16 := by
  unfold nameB nameL at h
  simp only [Bool.and_eq_true, decide_eq_true_eq] at h
  have e : s.data.toList.length = s.size := by simp
  omega
theorem labelsB_le {l : List Lb} (h : labelsB l = true) : l.length ≤ 4 ∧ Short l := by
  unfold labelsB at h
  rw [Bool.and_eq_true, decide_eq_true_eq] at h
  refine ⟨h.1, fun x hx => ?_⟩
  obtain ⟨i, hi, rfl⟩ := List.getElem_of_mem hx
  have := List.all_eq_true.1 h.2 i (List.mem_range.2 hi)
  rw [labAt_lt hi, Bool.and_eq_true, Bool.and_eq_true] at this
  exact ⟨(nameB_le this.1.1).2, (nameB_le this.1.2).2⟩
theorem apartB_le {s : ByteArray} (h : apartB s = true) : s.size ≤ 16 := by
  by_cases h0 : s.size = 0
  · omega
  · rw [apartB_full h0] at h; exact (nameB_le h).2
theorem gangB_le {s : ByteArray} {k : Int} (h : gangB s k = true) : s.size ≤ 16 ∧ 0 ≤ k ∧ k ≤ 4 := by
  by_cases h0 : s.size = 0
  · obtain rfl := empty_of h0
    rw [gangB_empty, decide_eq_true_eq] at h
    exact ⟨by decide, by omega, by omega⟩
  · rw [gangB_full h0, Bool.and_eq_true, Bool.and_eq_true, decide_eq_true_eq, decide_eq_true_eq] at h
    exact ⟨(nameB_le h.1.1).2, by omega, by omega⟩
theorem vecEnc_le {a b c : Nat} (ha : a ≤ 1048576) (hb : b ≤ 1048576) (hc : c ≤ 1048576) : (vecEnc a b c).length ≤ 27 := by
  have := enc_le (n := a) (by omega); have := enc_le (n := b) (by omega); have := enc_le (n := c) (by omega)
  rw [vecEnc, List.length_append, List.length_append]; omega
theorem labEnc_le {l : List Lb} (h : l.length ≤ 4) (hs : Short l) : (labEnc l).length ≤ 209 := by
  have := enc_le (n := l.length) (by omega)
  have := lbs_le hs l.length (Nat.le_refl _)
  rw [lbs_full l (Nat.le_refl _)] at this
  rw [labEnc, List.length_append]; omega

theorem box_keep {w0 w1 w2 : World} {p : Nat} (hz : p < w1.heap.size) (h : ∀ o, w1.cell? ⟨p, o, none⟩ = w0.cell? ⟨p, o, none⟩) (hb : Below w1.heap.size w1 w2) : ∀ o, w2.cell? ⟨p, o, none⟩ = w0.cell? ⟨p, o, none⟩ :=
  fun o => (hb.cell (p := ⟨p, o, none⟩) hz).trans (h o)
theorem OwnB.got {w w' : World} {N base : Nat} {v : Value} {l : List UInt8} (hN : N = l.length) (h : OwnB w' base v l) (hb : Below w.heap.size w w') : Got w N l (.returned v) w' := by
  obtain ⟨A, c, s⟩ := h.sl
  have h1 := s.cap
  have h2 := s.cap2
  unfold maxLen at h2
  exact ⟨A, c, by rw [s.val, hN], s.rd, by omega, by omega, s.head, hb⟩

set_option maxHeartbeats 3200000 in
set_option maxRecDepth 100000 in
theorem putNode_any (G : Option Addr) (d m : Nat) (bs : List UInt8) (nm : ByteArray) (a b c : Int) (A : Option Addr) (n cp : Nat) (l : List Lb) (N : Nat) (w : World) (hm : Hid (m = bs.length)) (hq : Hid (Rd w G bs)) (hs : m ≤ 140737488351232) (hnm : nm.size ≤ 9223372036854775807) (hn : Hid (n = l.length)) (hr : Hid (RdL w A l)) (hz : Hid (Sz l)) (hc : n ≤ cp) (hc2 : cp ≤ 9223372036854775807) (hN : Hid (N = (bs ++ nodeBytes nm a b c l).length)) :
    Calls Try.prog 22 #[.slice G m d, .agg #[.string nm, .int .i64 a, .int .i64 b, .int .i64 c, .slice A n cp]] w (Got w N (bs ++ nodeBytes nm a b c l)) := by
  have kv := fun W (h : RdL W A l) => node_any nm a b c A n cp l W hnm hn (Lib.hid h) hz hc hc2
  by_cases hv : nodeB nm a b c l = true
  case neg =>
    have hv' : nodeB nm a b c l = false := by simpa using hv
    have hbyt : nodeBytes nm a b c l = [] := if_neg hv
    rw [hv'] at kv
    rw [hbyt] at hN ⊢
    have KV := Lib.hid kv
    clear kv hv hv' hbyt
    go_enter Try.func22, Try.ntmps22
    go_wp2_with fail
    refine (KV.out _ (hr.out.later ((Below.refl _ _).alloc (Nat.le_refl _) _))).mono ?_; rintro e w1 ⟨rfl, hb1⟩
    have hB1 : Below w.heap.size w w1 := ((Below.refl _ _).alloc (Nat.le_refl _) _).trans (hb1.mono (by simp))
    go_wp2_with fail
    refine (concat_any _ G none m d 0 0 bs [] _ (by simp) (by simp) hm (Lib.hid rfl) (Lib.hid ((hq.out.below hB1).alloc _)) (Lib.hid (Rd.nil _ _)) (by omega)).mono ?_; rintro e w2 ⟨v2, rfl, ho2, hb2⟩
    have O2 := Lib.hid ho2; clear ho2
    have hz1 := hb1.size; simp only [World.size_alloc] at hz1
    have hB2 : Below w.heap.size w w2 := (hB1.alloc (by omega) _).trans (hb2.mono (by simp only [World.size_alloc]; omega))
    go_wp2
    go_ret
    exact O2.out.got hN.out hB2
  case pos =>
    have hbyt : nodeBytes nm a b c l = nodeEnc nm a b c l := if_pos hv
    rw [hv] at kv
    rw [hbyt] at hN ⊢
    have hv2 := hv
    unfold nodeB at hv2
    rw [Bool.and_eq_true, Bool.and_eq_true] at hv2
    obtain ⟨⟨v1, v2⟩, v3⟩ := hv2
    have u1 := (nameB_le v1).2
    have u2 := rB_bd v2
    obtain ⟨u3, u4⟩ := labelsB_le v3
    have h4 : n ≤ 4 := by have := hn.out; omega
    have HSh := Lib.hid u4
    clear v1 v2 v3 u3 u4
    obtain ⟨a, rfl⟩ : ∃ x : Nat, a = (x : Int) := ⟨a.toNat, by omega⟩
    obtain ⟨b, rfl⟩ : ∃ x : Nat, b = (x : Int) := ⟨b.toNat, by omega⟩
    obtain ⟨c, rfl⟩ : ∃ x : Nat, c = (x : Int) := ⟨c.toNat, by omega⟩
    have KV := Lib.hid kv
    clear kv hv hbyt
    obtain ⟨N1, hN1⟩ : ∃ N1, N1 = (encT nm).length := ⟨_, rfl⟩
    have s1 : N1 ≤ 25 := by rw [hN1]; first | exact (encT_le (by assumption)).2 | omega
    obtain ⟨N2, hN2⟩ : ∃ N2, N2 = ((encT nm) ++ vecEnc a b c).length := ⟨_, rfl⟩
    have s2 : N2 ≤ N1 + 27 := by have := vecEnc_le (a := a) (b := b) (c := c) (by omega) (by omega) (by omega); rw [hN2, List.length_append, ← hN1]; omega
    obtain ⟨N3, hN3⟩ : ∃ N3, N3 = (((encT nm) ++ vecEnc a b c) ++ labEnc l).length := ⟨_, rfl⟩
    have s3 : N3 ≤ N2 + 209 := by have := labEnc_le (by have := hn.out; omega) HSh.out; rw [hN3, List.length_append, ← hN2]; omega
    have HN1 := Lib.hid hN1
    have HN2 := Lib.hid hN2
    have HN3 := Lib.hid hN3
    clear hN1 hN2 hN3
    have HE : Hid ((((encT nm) ++ vecEnc a b c) ++ labEnc l) = nodeEnc nm a b c l) := by show _ = _; simp [nodeEnc, List.append_assoc]
    go_enter Try.func22, Try.ntmps22
    go_wp2_with fail
    refine (KV.out _ (hr.out.later ((Below.refl _ _).alloc (Nat.le_refl _) _))).mono ?_; rintro e w1 ⟨rfl, hb1⟩
    have hB1 : Below w.heap.size w w1 := ((Below.refl _ _).alloc (Nat.le_refl _) _).trans (hb1.mono (by simp))
    have hz1 : w.heap.size < w1.heap.size := by have h := hb1.size; simp only [World.size_alloc] at h; omega
    have hx1 : ∀ o, w1.cell? ⟨w.heap.size, o, none⟩ = (w.alloc (.cells #[.string nm, .int .i64 a, .int .i64 b, .int .i64 c, .slice A n cp] 26)).cell? ⟨w.heap.size, o, none⟩ := box_keep (by simp) (fun _ => rfl) hb1
    go_wp2_with fail
    refine (putText_any none 0 0 N1 nm [] _ (Lib.hid rfl) HN1 (Lib.hid (Rd.nil _ _)) (by omega)).mono ?_; intro e w2 hm2
    obtain ⟨A1, c1, rfl, r1, p1, q1, x1, hb2⟩ := Made.got HN1.out hm2
    have R1 := Lib.hid r1; clear r1 x1; (try clear hm2)
    have hB2 : Below w.heap.size w w2 := hB1.trans (hb2.mono hB1.size)
    have hz2 : w.heap.size < w2.heap.size := Nat.lt_of_lt_of_le hz1 hb2.size
    have hx2 := box_keep hz1 hx1 hb2
    clear hx1
    go_wp2_with fail
    refine (putVector_any A1 c1 N1 a b c N2 (encT nm) _ (by omega) (by omega) (by omega) HN1 HN2 R1 (by omega)).mono ?_; intro e w3 hm3
    obtain ⟨A2, c2, rfl, r2, p2, q2, x2, hb3⟩ := hm3
    have R2 := Lib.hid r2; clear r2 x2; (try clear hm3)
    have hB3 : Below w.heap.size w w3 := hB2.trans (hb3.mono hB2.size)
    have hz3 : w.heap.size < w3.heap.size := Nat.lt_of_lt_of_le hz2 hb3.size
    have hx3 := box_keep hz2 hx2 hb3
    clear hx2
    go_wp2_with fail
    refine (putLabels_any A2 c2 N2 A n cp N3 ((encT nm) ++ vecEnc a b c) l _ HN2 R2 (by omega) hn (Lib.hid (hr.out.later hB3)) HSh hc hc2 h4 HN3).mono ?_; intro e w4 hm4
    obtain ⟨A3, c3, rfl, r3, p3, q3, x3, hb4⟩ := hm4
    have R3 := Lib.hid r3; clear r3 x3; (try clear hm4)
    have hB4 : Below w.heap.size w w4 := hB3.trans (hb4.mono hB3.size)
    have hz4 : w.heap.size < w4.heap.size := Nat.lt_of_lt_of_le hz3 hb4.size
    have hx4 := box_keep hz3 hx3 hb4
    clear hx3
    go_wp2_with fail
    refine (concat_any _ G A3 m d N3 c3 bs (((encT nm) ++ vecEnc a b c) ++ labEnc l) _ (by simp) (by simp) hm HN3 (Lib.hid ((hq.out.below hB4).alloc _)) (Lib.hid (R3.out.alloc _)) (by omega)).mono ?_; rintro e w5 ⟨v, rfl, ho, hb5⟩
    have O := Lib.hid ho; clear ho
    have hB5 : Below w.heap.size w w5 := (hB4.alloc (by omega) _).trans (hb5.mono (by simp only [World.size_alloc]; omega))
    go_wp2
    go_ret
    rw [← HE.out] at hN ⊢
    exact O.out.got hN.out hB5

set_option maxHeartbeats 3200000 in
set_option maxRecDepth 100000 in
theorem putQueue_any (G : Option Addr) (d m : Nat) (bs : List UInt8) (nm : ByteArray) (a b c : Int) (N : Nat) (w : World) (hm : Hid (m = bs.length)) (hq : Hid (Rd w G bs)) (hs : m ≤ 140737488351232) (hnm : nm.size ≤ 9223372036854775807) (hN : Hid (N = (bs ++ queueBytes nm a b c).length)) :
    Calls Try.prog 23 #[.slice G m d, .agg #[.string nm, .int .i64 a, .int .i64 b, .int .i64 c]] w (Got w N (bs ++ queueBytes nm a b c)) := by
  have kv := fun W => queue_any nm a b c W hnm
  by_cases hv : queueB nm a b c = true
  case neg =>
    have hv' : queueB nm a b c = false := by simpa using hv
    have hbyt : queueBytes nm a b c = [] := if_neg hv
    rw [hv'] at kv
    rw [hbyt] at hN ⊢
    have KV := Lib.hid kv
    clear kv hv hv' hbyt
    go_enter Try.func23, Try.ntmps23
    go_wp2_with fail
    refine (KV.out _).mono ?_; rintro e w1 ⟨rfl, hb1⟩
    have hB1 : Below w.heap.size w w1 := ((Below.refl _ _).alloc (Nat.le_refl _) _).trans (hb1.mono (by simp))
    go_wp2_with fail
    refine (concat_any _ G none m d 0 0 bs [] _ (by simp) (by simp) hm (Lib.hid rfl) (Lib.hid ((hq.out.below hB1).alloc _)) (Lib.hid (Rd.nil _ _)) (by omega)).mono ?_; rintro e w2 ⟨v2, rfl, ho2, hb2⟩
    have O2 := Lib.hid ho2; clear ho2
    have hz1 := hb1.size; simp only [World.size_alloc] at hz1
    have hB2 : Below w.heap.size w w2 := (hB1.alloc (by omega) _).trans (hb2.mono (by simp only [World.size_alloc]; omega))
    go_wp2
    go_ret
    exact O2.out.got hN.out hB2
  case pos =>
    have hbyt : queueBytes nm a b c = queueEnc nm a b c := if_pos hv
    rw [hv] at kv
    rw [hbyt] at hN ⊢
    have hv2 := hv
    unfold queueB at hv2
    rw [Bool.and_eq_true] at hv2
    obtain ⟨v1, v2⟩ := hv2
    have u1 := (nameB_le v1).2
    have u2 := rB_bd v2
    clear v1 v2
    obtain ⟨a, rfl⟩ : ∃ x : Nat, a = (x : Int) := ⟨a.toNat, by omega⟩
    obtain ⟨b, rfl⟩ : ∃ x : Nat, b = (x : Int) := ⟨b.toNat, by omega⟩
    obtain ⟨c, rfl⟩ : ∃ x : Nat, c = (x : Int) := ⟨c.toNat, by omega⟩
    have KV := Lib.hid kv
    clear kv hv hbyt
    obtain ⟨N1, hN1⟩ : ∃ N1, N1 = (encT nm).length := ⟨_, rfl⟩
    have s1 : N1 ≤ 25 := by rw [hN1]; first | exact (encT_le (by assumption)).2 | omega
    obtain ⟨N2, hN2⟩ : ∃ N2, N2 = ((encT nm) ++ vecEnc a b c).length := ⟨_, rfl⟩
    have s2 : N2 ≤ N1 + 27 := by have := vecEnc_le (a := a) (b := b) (c := c) (by omega) (by omega) (by omega); rw [hN2, List.length_append, ← hN1]; omega
    have HN1 := Lib.hid hN1
    have HN2 := Lib.hid hN2
    clear hN1 hN2
    have HE : Hid (((encT nm) ++ vecEnc a b c) = queueEnc nm a b c) := by show _ = _; simp [queueEnc, List.append_assoc]
    go_enter Try.func23, Try.ntmps23
    go_wp2_with fail
    refine (KV.out _).mono ?_; rintro e w1 ⟨rfl, hb1⟩
    have hB1 : Below w.heap.size w w1 := ((Below.refl _ _).alloc (Nat.le_refl _) _).trans (hb1.mono (by simp))
    have hz1 : w.heap.size < w1.heap.size := by have h := hb1.size; simp only [World.size_alloc] at h; omega
    have hx1 : ∀ o, w1.cell? ⟨w.heap.size, o, none⟩ = (w.alloc (.cells #[.string nm, .int .i64 a, .int .i64 b, .int .i64 c] 28)).cell? ⟨w.heap.size, o, none⟩ := box_keep (by simp) (fun _ => rfl) hb1
    go_wp2_with fail
    refine (putText_any none 0 0 N1 nm [] _ (Lib.hid rfl) HN1 (Lib.hid (Rd.nil _ _)) (by omega)).mono ?_; intro e w2 hm2
    obtain ⟨A1, c1, rfl, r1, p1, q1, x1, hb2⟩ := Made.got HN1.out hm2
    have R1 := Lib.hid r1; clear r1 x1; (try clear hm2)
    have hB2 : Below w.heap.size w w2 := hB1.trans (hb2.mono hB1.size)
    have hz2 : w.heap.size < w2.heap.size := Nat.lt_of_lt_of_le hz1 hb2.size
    have hx2 := box_keep hz1 hx1 hb2
    clear hx1
    go_wp2_with fail
    refine (putVector_any A1 c1 N1 a b c N2 (encT nm) _ (by omega) (by omega) (by omega) HN1 HN2 R1 (by omega)).mono ?_; intro e w3 hm3
    obtain ⟨A2, c2, rfl, r2, p2, q2, x2, hb3⟩ := hm3
    have R2 := Lib.hid r2; clear r2 x2; (try clear hm3)
    have hB3 : Below w.heap.size w w3 := hB2.trans (hb3.mono hB2.size)
    have hz3 : w.heap.size < w3.heap.size := Nat.lt_of_lt_of_le hz2 hb3.size
    have hx3 := box_keep hz2 hx2 hb3
    clear hx2
    go_wp2_with fail
    refine (concat_any _ G A2 m d N2 c2 bs ((encT nm) ++ vecEnc a b c) _ (by simp) (by simp) hm HN2 (Lib.hid ((hq.out.below hB3).alloc _)) (Lib.hid (R2.out.alloc _)) (by omega)).mono ?_; rintro e w4 ⟨v, rfl, ho, hb4⟩
    have O := Lib.hid ho; clear ho
    have hB4 : Below w.heap.size w w4 := (hB3.alloc (by omega) _).trans (hb4.mono (by simp only [World.size_alloc]; omega))
    go_wp2
    go_ret
    rw [← HE.out] at hN ⊢
    exact O.out.got hN.out hB4

set_option maxHeartbeats 3200000 in
set_option maxRecDepth 100000 in
theorem putTask_any (G : Option Addr) (d m : Nat) (bs : List UInt8) (nm qu : ByteArray) (pr a b c : Int) (A : Option Addr) (n cp : Nat) (l : List Lb) (ap ga : ByteArray) (sz : Int) (N : Nat) (w : World) (hm : Hid (m = bs.length)) (hq : Hid (Rd w G bs)) (hs : m ≤ 140737488351232) (hnm : nm.size ≤ 9223372036854775807) (hqu : qu.size ≤ 9223372036854775807) (hn : Hid (n = l.length)) (hr : Hid (RdL w A l)) (hz : Hid (Sz l)) (hc : n ≤ cp) (hc2 : cp ≤ 9223372036854775807) (hap : ap.size ≤ 9223372036854775807) (hga : ga.size ≤ 9223372036854775807) (hN : Hid (N = (bs ++ taskBytes nm qu pr a b c l ap ga sz).length)) :
    Calls Try.prog 24 #[.slice G m d, .agg #[.string nm, .string qu, .int .i64 pr, .int .i64 a, .int .i64 b, .int .i64 c, .slice A n cp, .string ap, .string ga, .int .i64 sz]] w (Got w N (bs ++ taskBytes nm qu pr a b c l ap ga sz)) := by
  have kv := fun W (h : RdL W A l) => task_any nm qu pr a b c A n cp l ap ga sz W hnm hqu hn (Lib.hid h) hz hc hc2 hap hga
  by_cases hv : taskB nm qu pr a b c l ap ga sz = true
  case neg =>
    have hv' : taskB nm qu pr a b c l ap ga sz = false := by simpa using hv
    have hbyt : taskBytes nm qu pr a b c l ap ga sz = [] := if_neg hv
    rw [hv'] at kv
    rw [hbyt] at hN ⊢
    have KV := Lib.hid kv
    clear kv hv hv' hbyt
    go_enter Try.func24, Try.ntmps24
    go_wp2_with fail
    refine (KV.out _ (hr.out.later ((Below.refl _ _).alloc (Nat.le_refl _) _))).mono ?_; rintro e w1 ⟨rfl, hb1⟩
    have hB1 : Below w.heap.size w w1 := ((Below.refl _ _).alloc (Nat.le_refl _) _).trans (hb1.mono (by simp))
    go_wp2_with fail
    refine (concat_any _ G none m d 0 0 bs [] _ (by simp) (by simp) hm (Lib.hid rfl) (Lib.hid ((hq.out.below hB1).alloc _)) (Lib.hid (Rd.nil _ _)) (by omega)).mono ?_; rintro e w2 ⟨v2, rfl, ho2, hb2⟩
    have O2 := Lib.hid ho2; clear ho2
    have hz1 := hb1.size; simp only [World.size_alloc] at hz1
    have hB2 : Below w.heap.size w w2 := (hB1.alloc (by omega) _).trans (hb2.mono (by simp only [World.size_alloc]; omega))
    go_wp2
    go_ret
    exact O2.out.got hN.out hB2
  case pos =>
    have hbyt : taskBytes nm qu pr a b c l ap ga sz = taskEnc nm qu pr a b c l ap ga sz := if_pos hv
    rw [hv] at kv
    rw [hbyt] at hN ⊢
    have hv2 := hv
    unfold taskB at hv2
    simp only [Bool.and_eq_true, decide_eq_true_eq] at hv2
    obtain ⟨⟨⟨⟨⟨⟨⟨v1, v2⟩, v3⟩, v4⟩, v5⟩, v6⟩, v7⟩, v8⟩ := hv2
    have u1 := (nameB_le v1).2
    have u2 := (nameB_le v2).2
    have u5 := rB_bd v5
    obtain ⟨u3, u4⟩ := labelsB_le v6
    have u7 := apartB_le v7
    obtain ⟨u8, u9, u10⟩ := gangB_le v8
    have h4 : n ≤ 4 := by have := hn.out; omega
    have HSh := Lib.hid u4
    clear v1 v2 v5 v6 v7 v8 u3 u4
    obtain ⟨a, rfl⟩ : ∃ x : Nat, a = (x : Int) := ⟨a.toNat, by omega⟩
    obtain ⟨b, rfl⟩ : ∃ x : Nat, b = (x : Int) := ⟨b.toNat, by omega⟩
    obtain ⟨c, rfl⟩ : ∃ x : Nat, c = (x : Int) := ⟨c.toNat, by omega⟩
    obtain ⟨pr, rfl⟩ : ∃ x : Nat, pr = (x : Int) := ⟨pr.toNat, by omega⟩
    obtain ⟨sz, rfl⟩ : ∃ x : Nat, sz = (x : Int) := ⟨sz.toNat, by omega⟩
    have KV := Lib.hid kv
    clear kv hv hbyt
    obtain ⟨N1, hN1⟩ : ∃ N1, N1 = (encT nm).length := ⟨_, rfl⟩
    have s1 : N1 ≤ 25 := by rw [hN1]; first | exact (encT_le (by assumption)).2 | omega
    obtain ⟨N2, hN2⟩ : ∃ N2, N2 = ((encT nm) ++ encT qu).length := ⟨_, rfl⟩
    have s2 : N2 ≤ N1 + 25 := by have := encT_le (s := qu) (by omega); rw [hN2, List.length_append, ← hN1]; omega
    obtain ⟨N3, hN3⟩ : ∃ N3, N3 = (((encT nm) ++ encT qu) ++ enc pr).length := ⟨_, rfl⟩
    have s3 : N3 ≤ N2 + 9 := by have := enc_le (n := pr) (by omega); rw [hN3, List.length_append, ← hN2]; omega
    obtain ⟨N4, hN4⟩ : ∃ N4, N4 = ((((encT nm) ++ encT qu) ++ enc pr) ++ vecEnc a b c).length := ⟨_, rfl⟩
    have s4 : N4 ≤ N3 + 27 := by have := vecEnc_le (a := a) (b := b) (c := c) (by omega) (by omega) (by omega); rw [hN4, List.length_append, ← hN3]; omega
    obtain ⟨N5, hN5⟩ : ∃ N5, N5 = (((((encT nm) ++ encT qu) ++ enc pr) ++ vecEnc a b c) ++ labEnc l).length := ⟨_, rfl⟩
    have s5 : N5 ≤ N4 + 209 := by have := labEnc_le (by have := hn.out; omega) HSh.out; rw [hN5, List.length_append, ← hN4]; omega
    obtain ⟨N6, hN6⟩ : ∃ N6, N6 = ((((((encT nm) ++ encT qu) ++ enc pr) ++ vecEnc a b c) ++ labEnc l) ++ encT ap).length := ⟨_, rfl⟩
    have s6 : N6 ≤ N5 + 25 := by have := encT_le (s := ap) (by omega); rw [hN6, List.length_append, ← hN5]; omega
    obtain ⟨N7, hN7⟩ : ∃ N7, N7 = (((((((encT nm) ++ encT qu) ++ enc pr) ++ vecEnc a b c) ++ labEnc l) ++ encT ap) ++ encT ga).length := ⟨_, rfl⟩
    have s7 : N7 ≤ N6 + 25 := by have := encT_le (s := ga) (by omega); rw [hN7, List.length_append, ← hN6]; omega
    obtain ⟨N8, hN8⟩ : ∃ N8, N8 = ((((((((encT nm) ++ encT qu) ++ enc pr) ++ vecEnc a b c) ++ labEnc l) ++ encT ap) ++ encT ga) ++ enc sz).length := ⟨_, rfl⟩
    have s8 : N8 ≤ N7 + 9 := by have := enc_le (n := sz) (by omega); rw [hN8, List.length_append, ← hN7]; omega
    have HN1 := Lib.hid hN1
    have HN2 := Lib.hid hN2
    have HN3 := Lib.hid hN3
    have HN4 := Lib.hid hN4
    have HN5 := Lib.hid hN5
    have HN6 := Lib.hid hN6
    have HN7 := Lib.hid hN7
    have HN8 := Lib.hid hN8
    clear hN1 hN2 hN3 hN4 hN5 hN6 hN7 hN8
    have HE : Hid (((((((((encT nm) ++ encT qu) ++ enc pr) ++ vecEnc a b c) ++ labEnc l) ++ encT ap) ++ encT ga) ++ enc sz) = taskEnc nm qu pr a b c l ap ga sz) := by show _ = _; simp [taskEnc, List.append_assoc]
    go_enter Try.func24, Try.ntmps24
    go_wp2_with fail
    refine (KV.out _ (hr.out.later ((Below.refl _ _).alloc (Nat.le_refl _) _))).mono ?_; rintro e w1 ⟨rfl, hb1⟩
    have hB1 : Below w.heap.size w w1 := ((Below.refl _ _).alloc (Nat.le_refl _) _).trans (hb1.mono (by simp))
    have hz1 : w.heap.size < w1.heap.size := by have h := hb1.size; simp only [World.size_alloc] at h; omega
    have hx1 : ∀ o, w1.cell? ⟨w.heap.size, o, none⟩ = (w.alloc (.cells #[.string nm, .string qu, .int .i64 pr, .int .i64 a, .int .i64 b, .int .i64 c, .slice A n cp, .string ap, .string ga, .int .i64 sz] 30)).cell? ⟨w.heap.size, o, none⟩ := box_keep (by simp) (fun _ => rfl) hb1
    go_wp2_with fail
    refine (putText_any none 0 0 N1 nm [] _ (Lib.hid rfl) HN1 (Lib.hid (Rd.nil _ _)) (by omega)).mono ?_; intro e w2 hm2
    obtain ⟨A1, c1, rfl, r1, p1, q1, x1, hb2⟩ := Made.got HN1.out hm2
    have R1 := Lib.hid r1; clear r1 x1; (try clear hm2)
    have hB2 : Below w.heap.size w w2 := hB1.trans (hb2.mono hB1.size)
    have hz2 : w.heap.size < w2.heap.size := Nat.lt_of_lt_of_le hz1 hb2.size
    have hx2 := box_keep hz1 hx1 hb2
    clear hx1
    go_wp2_with fail
    refine (putText_any A1 c1 N1 N2 qu (encT nm) _ HN1 HN2 R1 (by omega)).mono ?_; intro e w3 hm3
    obtain ⟨A2, c2, rfl, r2, p2, q2, x2, hb3⟩ := Made.got HN2.out hm3
    have R2 := Lib.hid r2; clear r2 x2; (try clear hm3)
    have hB3 : Below w.heap.size w w3 := hB2.trans (hb3.mono hB2.size)
    have hz3 : w.heap.size < w3.heap.size := Nat.lt_of_lt_of_le hz2 hb3.size
    have hx3 := box_keep hz2 hx2 hb3
    clear hx2
    go_wp2_with fail
    refine (putNumber_any A2 c2 N2 pr N3 ((encT nm) ++ encT qu) _ (by omega) HN2 HN3 R2 (by omega)).mono ?_; intro e w4 hm4
    obtain ⟨A3, c3, rfl, r3, p3, q3, x3, hb4⟩ := hm4
    have R3 := Lib.hid r3; clear r3 x3; (try clear hm4)
    have hB4 : Below w.heap.size w w4 := hB3.trans (hb4.mono hB3.size)
    have hz4 : w.heap.size < w4.heap.size := Nat.lt_of_lt_of_le hz3 hb4.size
    have hx4 := box_keep hz3 hx3 hb4
    clear hx3
    go_wp2_with fail
    refine (putVector_any A3 c3 N3 a b c N4 (((encT nm) ++ encT qu) ++ enc pr) _ (by omega) (by omega) (by omega) HN3 HN4 R3 (by omega)).mono ?_; intro e w5 hm5
    obtain ⟨A4, c4, rfl, r4, p4, q4, x4, hb5⟩ := hm5
    have R4 := Lib.hid r4; clear r4 x4; (try clear hm5)
    have hB5 : Below w.heap.size w w5 := hB4.trans (hb5.mono hB4.size)
    have hz5 : w.heap.size < w5.heap.size := Nat.lt_of_lt_of_le hz4 hb5.size
    have hx5 := box_keep hz4 hx4 hb5
    clear hx4
    go_wp2_with fail
    refine (putLabels_any A4 c4 N4 A n cp N5 ((((encT nm) ++ encT qu) ++ enc pr) ++ vecEnc a b c) l _ HN4 R4 (by omega) hn (Lib.hid (hr.out.later hB5)) HSh hc hc2 h4 HN5).mono ?_; intro e w6 hm6
    obtain ⟨A5, c5, rfl, r5, p5, q5, x5, hb6⟩ := hm6
    have R5 := Lib.hid r5; clear r5 x5; (try clear hm6)
    have hB6 : Below w.heap.size w w6 := hB5.trans (hb6.mono hB5.size)
    have hz6 : w.heap.size < w6.heap.size := Nat.lt_of_lt_of_le hz5 hb6.size
    have hx6 := box_keep hz5 hx5 hb6
    clear hx5
    go_wp2_with fail
    refine (putText_any A5 c5 N5 N6 ap (((((encT nm) ++ encT qu) ++ enc pr) ++ vecEnc a b c) ++ labEnc l) _ HN5 HN6 R5 (by omega)).mono ?_; intro e w7 hm7
    obtain ⟨A6, c6, rfl, r6, p6, q6, x6, hb7⟩ := Made.got HN6.out hm7
    have R6 := Lib.hid r6; clear r6 x6; (try clear hm7)
    have hB7 : Below w.heap.size w w7 := hB6.trans (hb7.mono hB6.size)
    have hz7 : w.heap.size < w7.heap.size := Nat.lt_of_lt_of_le hz6 hb7.size
    have hx7 := box_keep hz6 hx6 hb7
    clear hx6
    go_wp2_with fail
    refine (putText_any A6 c6 N6 N7 ga ((((((encT nm) ++ encT qu) ++ enc pr) ++ vecEnc a b c) ++ labEnc l) ++ encT ap) _ HN6 HN7 R6 (by omega)).mono ?_; intro e w8 hm8
    obtain ⟨A7, c7, rfl, r7, p7, q7, x7, hb8⟩ := Made.got HN7.out hm8
    have R7 := Lib.hid r7; clear r7 x7; (try clear hm8)
    have hB8 : Below w.heap.size w w8 := hB7.trans (hb8.mono hB7.size)
    have hz8 : w.heap.size < w8.heap.size := Nat.lt_of_lt_of_le hz7 hb8.size
    have hx8 := box_keep hz7 hx7 hb8
    clear hx7
    go_wp2_with fail
    refine (putNumber_any A7 c7 N7 sz N8 (((((((encT nm) ++ encT qu) ++ enc pr) ++ vecEnc a b c) ++ labEnc l) ++ encT ap) ++ encT ga) _ (by omega) HN7 HN8 R7 (by omega)).mono ?_; intro e w9 hm9
    obtain ⟨A8, c8, rfl, r8, p8, q8, x8, hb9⟩ := hm9
    have R8 := Lib.hid r8; clear r8 x8; (try clear hm9)
    have hB9 : Below w.heap.size w w9 := hB8.trans (hb9.mono hB8.size)
    have hz9 : w.heap.size < w9.heap.size := Nat.lt_of_lt_of_le hz8 hb9.size
    have hx9 := box_keep hz8 hx8 hb9
    clear hx8
    go_wp2_with fail
    refine (concat_any _ G A8 m d N8 c8 bs ((((((((encT nm) ++ encT qu) ++ enc pr) ++ vecEnc a b c) ++ labEnc l) ++ encT ap) ++ encT ga) ++ enc sz) _ (by simp) (by simp) hm HN8 (Lib.hid ((hq.out.below hB9).alloc _)) (Lib.hid (R8.out.alloc _)) (by omega)).mono ?_; rintro e w10 ⟨v, rfl, ho, hb10⟩
    have O := Lib.hid ho; clear ho
    have hB10 : Below w.heap.size w w10 := (hB9.alloc (by omega) _).trans (hb10.mono (by simp only [World.size_alloc]; omega))
    go_wp2
    go_ret
    rw [← HE.out] at hN ⊢
    exact O.out.got hN.out hB10

end Go.Proofs.Ytehkdaknhgmdkaa
