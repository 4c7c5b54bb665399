/- What the document writes: the contracts of the document's own number, amount, labels, NodeBytes, QueueBytes, TaskBytes. Conditions: texts and slices that Go can have. -/
import Derived.Test.YtehkdaknhgmdkaaPts
import Derived.Test.YtehkdaknhgmdkaaRts
import Derived.Test.YtehkdaknhgmdkaaRtk
namespace Go.Proofs.Ytehkdaknhgmdkaa
open Go.RowKit
set_option linter.unusedSimpArgs false
set_option linter.unusedVariables false

/-- Bytes as a string. -/
def S (l : List UInt8) : ByteArray := ⟨l.toArray⟩
theorem S_append (x y : List UInt8) : S x ++ S y = S (x ++ y) := by
  apply ByteArray.ext; apply Array.ext'; simp [S]
theorem S_size (l : List UInt8) : (S l).size = l.length := by show l.toArray.size = _; simp
theorem S_list (l : List UInt8) : (S l).data.toList = l := rfl
theorem S_nil : S [] = ⟨#[]⟩ := rfl
theorem ret_str {a b : ByteArray} (h : a = b) : Ending.returned (.string a) = .returned (.string b) := by rw [h]

set_option maxHeartbeats 800000 in
theorem rnumber_any (k : Nat) (w : World) (hk : k < 9223372036854775808) :
    Calls Try.prog 86 #[.int .i64 (k : Int)] w fun e w' => e = .returned (.string (S (enc k))) ∧ Below w.heap.size w w' := by
  have h : ∀ W, Calls Try.prog 57 #[.int .u64 (k : Int)] W fun e w' => e = .returned (.string (S (enc k))) ∧ Below W.heap.size W w' := fun W => refNumber_any k W (by omega)
  generalize S (enc k) = E at h ⊢
  have H := Lib.hid h
  clear h
  go_enter Try.func86, Try.ntmps86
  go_wp2_with fail
  refine (H.out _).mono ?_; rintro e w1 ⟨rfl, hb1⟩
  go_wp2
  go_ret
  exact ⟨rfl, hb1⟩

theorem rtext_any (s : ByteArray) (w : World) (hs : s.size ≤ 140737488351232) :
    Calls Try.prog 61 #[.string s] w fun e w' => e = .returned (.string (S (encT s))) ∧ Below w.heap.size w w' := refText_any s w (by omega)

set_option maxHeartbeats 1600000 in
theorem amount_any (a b c : Nat) (w : World) (ha : a ≤ 1048576) (hb : b ≤ 1048576) (hc : c ≤ 1048576) :
    Calls Try.prog 84 #[.agg #[.int .i64 (a : Int), .int .i64 (b : Int), .int .i64 (c : Int)]] w fun e w' => e = .returned (.string (S (vecEnc a b c))) ∧ Below w.heap.size w w' := by
  have h1 := fun W => rnumber_any a W (by omega)
  have h2 := fun W => rnumber_any b W (by omega)
  have h3 := fun W => rnumber_any c W (by omega)
  have s1 : (S (enc a)).size ≤ 9 := by rw [S_size]; exact (enc_le (by omega)).2
  have s2 : (S (enc b)).size ≤ 9 := by rw [S_size]; exact (enc_le (by omega)).2
  have s3 : (S (enc c)).size ≤ 9 := by rw [S_size]; exact (enc_le (by omega)).2
  have he : S (vecEnc a b c) = S (enc a) ++ S (enc b) ++ S (enc c) := by rw [S_append, S_append, vecEnc, List.append_assoc]
  rw [he]
  clear he
  generalize S (enc a) = E1 at h1 s1 ⊢
  generalize S (enc b) = E2 at h2 s2 ⊢
  generalize S (enc c) = E3 at h3 s3 ⊢
  have H1 := Lib.hid h1
  have H2 := Lib.hid h2
  have H3 := Lib.hid h3
  clear h1 h2 h3
  go_enter Try.func84, Try.ntmps84
  go_wp2_with fail
  refine wp_region_later (by kernel_rfl) (by kernel_rfl) ?_; have hL : ∀ (w : World) (x : Later w) (b o : Nat), b < w.heap.size → x.to.cell? ⟨b, o, none⟩ = w.cell? ⟨b, o, none⟩ := fun w x b o hb => x.cell hb; have hN := Later.some; (repeat (go_big_quiet_step (((go_at_call 86; first | (with_reducible exact Later.call (H1.out _)) | (with_reducible exact Later.call (H2.out _)) | (with_reducible exact Later.call (H3.out _))))))); refine wpQuiet_nil ?_; intro w1 hw1; have hb1 := Later.out hw1; clear hw1 hL hN
  go_wp2
  go_ret
  exact ⟨rfl, (by (repeat' (first | (with_reducible exact Below.refl _ _) | (with_reducible refine bdrewN ?_ _) | (with_reducible refine Below.drew ?_) | (with_reducible refine Below.setCell ?_ ?_ _) | (with_reducible refine Below.alloc ?_ ?_ _) | (with_reducible refine Below.trans ?_ (Below.mono hb1 ?_)) | (with_reducible exact Nat.le_refl _) | (with_reducible assumption) | omega | (simp only [World.size_alloc, World.size_setCell, World.size_drew, sz_drewN]; omega))))⟩

set_option maxHeartbeats 3200000 in
set_option maxRecDepth 100000 in
theorem rlabs_any (A : Option Addr) (n cp : Nat) (l : List Lb) (w : World) (hn : Hid (n = l.length)) (hr : Hid (RdL w A l)) (hz : Hid (Short l)) (hc : n ≤ cp) (hc2 : cp ≤ 9223372036854775807) (h4 : n ≤ 4) :
    Calls Try.prog 85 #[.slice A n cp] w fun e w' => e = .returned (.string (S (labEnc l))) ∧ Below w.heap.size w w' := by
  have hnum := fun W => rnumber_any n W (by omega)
  obtain ⟨E, hE⟩ : ∃ E, E = S (enc n) := ⟨_, rfl⟩
  have sE : E.size ≤ 9 := by rw [hE, S_size]; exact (enc_le (by omega)).2
  rw [← hE] at hnum
  have HN := Lib.hid hnum
  have HE := Lib.hid hE
  clear hnum hE
  go_enter Try.func85, Try.ntmps85
  go_wp2_with fail
  refine (HN.out _).mono ?_; rintro e w1 ⟨rfl, hb1⟩
  go_wp2_with fail
  go_loopw [3, 4, 10] (fun s _ i wr => ∃ (k : Nat) (T : ByteArray), k ≤ n ∧ i = .int .i64 k ∧ s = .string T ∧ Hid (T = S (enc n ++ lbs l k)) ∧ T.size ≤ 9 + k * 50 ∧ Below w.heap.size w wr) (fun _ _ i wr => n - (intOf i).toNat)
  case atStart => exact ⟨0, E, Nat.zero_le _, rfl, rfl, (by show _ = _; rw [lbs_zero, List.append_nil]; exact HE.out), by omega, hb1⟩
  case round =>
    obtain ⟨k, T, hk, rfl, rfl, hT, hTs, hb⟩ := hrel
    by_cases hlt : k < n
    · have hl : k < l.length := by have := hn.out; omega
      obtain ⟨g, o, rfl, hg, h1, h2⟩ := (hr.out.later hb).at hl
      obtain ⟨z1, z2⟩ := hz.out.at hl
      have hS : Hid (S (enc n ++ lbs l (k + 1)) = S (enc n ++ lbs l k) ++ S (encT l[k].1) ++ S (encT l[k].2)) := by show _ = _; rw [lbs_succ hl, S_append, S_append]; simp [lbEnc]
      have t1 := fun W => rtext_any l[k].1 W (by omega)
      have t2 := fun W => rtext_any l[k].2 W (by omega)
      have y1 : (S (encT l[k].1)).size ≤ 25 := by rw [S_size]; exact (encT_le z1).2
      have y2 : (S (encT l[k].2)).size ≤ 25 := by rw [S_size]; exact (encT_le z2).2
      generalize S (encT l[k].1) = Y1 at t1 y1 hS
      generalize S (encT l[k].2) = Y2 at t2 y2 hS
      generalize l[k].1 = ka at h1 t1
      generalize l[k].2 = kb at h2 t2
      have T1 := Lib.hid t1
      have T2 := Lib.hid t2
      clear t1 t2 z1 z2
      have yT : T.size + Y1.size ≤ 1000 := by omega
      have hsz := hb.size
      go_wp2_with fail
      refine wp_region_later (by kernel_rfl) (by kernel_rfl) ?_; have hL : ∀ (w : World) (x : Later w) (b o : Nat), b < w.heap.size → x.to.cell? ⟨b, o, none⟩ = w.cell? ⟨b, o, none⟩ := fun w x b o hb => x.cell hb; have hN := Later.some; (repeat (go_big_quiet_step (((go_at_call 61; first | (with_reducible exact Later.call (T1.out _)) | (with_reducible exact Later.call (T2.out _))))))); refine wpQuiet_nil ?_; intro w2 hw2; have hb2 := Later.out hw2; clear hw2 hL hN
      go_wp2
      go_round
      case rel => exact ⟨k + 1, T ++ Y1 ++ Y2, by omega, by go_num, rfl, (by show _ = _; rw [hS.out, hT.out]), (by simp only [ByteArray.size_append]; omega), (by (repeat' (first | (with_reducible exact Below.refl _ _) | (with_reducible refine bdrewN ?_ _) | (with_reducible refine Below.drew ?_) | (with_reducible refine Below.setCell ?_ ?_ _) | (with_reducible refine Below.alloc ?_ ?_ _) | (with_reducible refine Below.trans ?_ (Below.mono hb2 ?_)) | (with_reducible refine Below.trans ?_ (Below.mono hb ?_)) | (with_reducible exact Nat.le_refl _) | (with_reducible assumption) | omega | (simp only [World.size_alloc, World.size_setCell, World.size_drew, sz_drewN]; omega))))⟩
      case measure => simp [intOf]; omega
    · have hkn : l.length ≤ k := by have := hn.out; omega
      have hR : Hid (T = S (labEnc l)) := by show _ = _; rw [hT.out, lbs_full l hkn, hn.out]; rfl
      clear hkn
      go_wp2
      go_ret
      exact ⟨ret_str hR.out, hb⟩
theorem RdL.of_later {w : World} {A : Option Addr} {l : List Lb} (x : Later w) (h : RdL w A l) : RdL x.to A l := h.later x.below

set_option maxHeartbeats 3200000 in
set_option maxRecDepth 100000 in
theorem rnodeBytes_any (nm : ByteArray) (a b c : Int) (A : Option Addr) (n cp : Nat) (l : List Lb) (w : World) (hnm : nm.size ≤ 9223372036854775807) (hn : Hid (n = l.length)) (hr : Hid (RdL w A l)) (hz : Hid (Sz l)) (hc : n ≤ cp) (hc2 : cp ≤ 9223372036854775807) :
    Calls Try.prog 58 #[.agg #[.string nm, .int .i64 a, .int .i64 b, .int .i64 c, .slice A n cp]] w fun e w' => e = .returned (.string (S (nodeBytes nm a b c l))) ∧ Below w.heap.size w w' := by
  have kv := fun W (h : RdL W A l) => rnode_any nm a b c A n cp l W hnm hn (Lib.hid h) hz hc hc2
  by_cases hv : nodeB nm a b c l = true
  case neg =>
    have hv' : nodeB nm a b c l = false := by simpa using hv
    have hbyt : nodeBytes nm a b c l = [] := if_neg hv
    rw [hv'] at kv
    rw [hbyt, S_nil]
    have KV := Lib.hid kv
    clear kv hv hv' hbyt
    go_enter Try.func58, Try.ntmps58
    go_wp2_with fail
    refine (KV.out _ (hr.out.later ((Below.refl _ _).alloc (Nat.le_refl _) _))).mono ?_; rintro e w1 ⟨rfl, hb1⟩
    have hB1 : Below w.heap.size w w1 := ((Below.refl _ _).alloc (Nat.le_refl _) _).trans (hb1.mono (by simp))
    go_wp2
    go_ret
    exact ⟨rfl, hB1⟩
  case pos =>
    have hbyt : nodeBytes nm a b c l = nodeEnc nm a b c l := if_pos hv
    rw [hv] at kv
    rw [hbyt]
    have hv2 := hv
    unfold nodeB at hv2
    rw [Bool.and_eq_true, Bool.and_eq_true] at hv2
    obtain ⟨⟨v1, v2⟩, v3⟩ := hv2
    have u1 := (nameB_le v1).2
    have u2 := rB_bd v2
    obtain ⟨u3, u4⟩ := labelsB_le v3
    have h4 : n ≤ 4 := by have := hn.out; omega
    have HSh := Lib.hid u4
    clear v1 v2 v3 u3 u4
    obtain ⟨a, rfl⟩ : ∃ x : Nat, a = (x : Int) := ⟨a.toNat, by omega⟩
    obtain ⟨b, rfl⟩ : ∃ x : Nat, b = (x : Int) := ⟨b.toNat, by omega⟩
    obtain ⟨c, rfl⟩ : ∃ x : Nat, c = (x : Int) := ⟨c.toNat, by omega⟩
    have KV := Lib.hid kv
    clear kv hv hbyt
    have he : S (nodeEnc nm a b c l) = S (encT nm) ++ S (vecEnc a b c) ++ S (labEnc l) := by simp only [S_append]; congr 1; simp [nodeEnc, List.append_assoc]
    rw [he]
    clear he
    have t1 := fun W => rtext_any nm W (by omega)
    have y1 : (S (encT nm)).size ≤ 25 := by rw [S_size]; have := encT_le (s := nm) (by omega); omega
    generalize S (encT nm) = Y1 at t1 y1 ⊢
    have T1 := Lib.hid t1
    clear t1
    have t2 := fun W => amount_any a b c W (by omega) (by omega) (by omega)
    have y2 : (S (vecEnc a b c)).size ≤ 27 := by rw [S_size]; have := vecEnc_le (a := a) (b := b) (c := c) (by omega) (by omega) (by omega); omega
    generalize S (vecEnc a b c) = Y2 at t2 y2 ⊢
    have T2 := Lib.hid t2
    clear t2
    have t3 := fun W (h : RdL W A l) => rlabs_any A n cp l W hn (Lib.hid h) HSh hc hc2 h4
    have y3 : (S (labEnc l)).size ≤ 209 := by rw [S_size]; have := labEnc_le (by have := hn.out; omega) HSh.out; omega
    generalize S (labEnc l) = Y3 at t3 y3 ⊢
    have T3 := Lib.hid t3
    clear t3
    go_enter Try.func58, Try.ntmps58
    go_wp2_with fail
    refine (KV.out _ (hr.out.later ((Below.refl _ _).alloc (Nat.le_refl _) _))).mono ?_; rintro e w1 ⟨rfl, hb1⟩
    have hB1 : Below w.heap.size w w1 := ((Below.refl _ _).alloc (Nat.le_refl _) _).trans (hb1.mono (by simp))
    have hz1 : w.heap.size < w1.heap.size := by have h := hb1.size; simp only [World.size_alloc] at h; omega
    have hx1 : ∀ o, w1.cell? ⟨w.heap.size, o, none⟩ = (w.alloc (.cells #[.string nm, .int .i64 a, .int .i64 b, .int .i64 c, .slice A n cp] 26)).cell? ⟨w.heap.size, o, none⟩ := box_keep (by simp) (fun _ => rfl) hb1
    have HR1 := Lib.hid (hr.out.later hB1)
    go_wp2_with fail
    refine wp_region_later (by kernel_rfl) (by kernel_rfl) ?_; have hL : ∀ (w : World) (x : Later w) (b o : Nat), b < w.heap.size → x.to.cell? ⟨b, o, none⟩ = w.cell? ⟨b, o, none⟩ := fun w x b o hb => x.cell hb; have hN := Later.some; (repeat (go_big_quiet_step (((first | (go_at_call 61; first | (with_reducible exact Later.call (T1.out _))) | (go_at_call 84; first | (with_reducible exact Later.call (T2.out _))) | (go_at_call 85; first | (with_reducible exact Later.call (T3.out _ (RdL.of_later _ HR1.out))))))))); refine wpQuiet_nil ?_; intro w2 hw2; have hb2 := Later.out hw2; clear hw2 hL hN
    have hB2 : Below w.heap.size w w2 := hB1.trans (hb2.mono hB1.size)
    have hz2 : w.heap.size < w2.heap.size := Nat.lt_of_lt_of_le hz1 hb2.size
    have hx2 := box_keep hz1 hx1 hb2
    clear hx1
    have HR2 := Lib.hid (HR1.out.later hb2)
    go_wp2
    go_ret
    exact ⟨rfl, hB2⟩

set_option maxHeartbeats 3200000 in
set_option maxRecDepth 100000 in
theorem rqueueBytes_any (nm : ByteArray) (a b c : Int) (w : World) (hnm : nm.size ≤ 9223372036854775807) :
    Calls Try.prog 59 #[.agg #[.string nm, .int .i64 a, .int .i64 b, .int .i64 c]] w fun e w' => e = .returned (.string (S (queueBytes nm a b c))) ∧ Below w.heap.size w w' := by
  have kv := fun W => rqueue_any nm a b c W hnm
  by_cases hv : queueB nm a b c = true
  case neg =>
    have hv' : queueB nm a b c = false := by simpa using hv
    have hbyt : queueBytes nm a b c = [] := if_neg hv
    rw [hv'] at kv
    rw [hbyt, S_nil]
    have KV := Lib.hid kv
    clear kv hv hv' hbyt
    go_enter Try.func59, Try.ntmps59
    go_wp2_with fail
    refine (KV.out _).mono ?_; rintro e w1 ⟨rfl, hb1⟩
    have hB1 : Below w.heap.size w w1 := ((Below.refl _ _).alloc (Nat.le_refl _) _).trans (hb1.mono (by simp))
    go_wp2
    go_ret
    exact ⟨rfl, hB1⟩
  case pos =>
    have hbyt : queueBytes nm a b c = queueEnc nm a b c := if_pos hv
    rw [hv] at kv
    rw [hbyt]
    have hv2 := hv
    unfold queueB at hv2
    rw [Bool.and_eq_true] at hv2
    obtain ⟨v1, v2⟩ := hv2
    have u1 := (nameB_le v1).2
    have u2 := rB_bd v2
    clear v1 v2
    obtain ⟨a, rfl⟩ : ∃ x : Nat, a = (x : Int) := ⟨a.toNat, by omega⟩
    obtain ⟨b, rfl⟩ : ∃ x : Nat, b = (x : Int) := ⟨b.toNat, by omega⟩
    obtain ⟨c, rfl⟩ : ∃ x : Nat, c = (x : Int) := ⟨c.toNat, by omega⟩
    have KV := Lib.hid kv
    clear kv hv hbyt
    have he : S (queueEnc nm a b c) = S (encT nm) ++ S (vecEnc a b c) := by simp only [S_append]; rfl
    rw [he]
    clear he
    have t1 := fun W => rtext_any nm W (by omega)
    have y1 : (S (encT nm)).size ≤ 25 := by rw [S_size]; have := encT_le (s := nm) (by omega); omega
    generalize S (encT nm) = Y1 at t1 y1 ⊢
    have T1 := Lib.hid t1
    clear t1
    have t2 := fun W => amount_any a b c W (by omega) (by omega) (by omega)
    have y2 : (S (vecEnc a b c)).size ≤ 27 := by rw [S_size]; have := vecEnc_le (a := a) (b := b) (c := c) (by omega) (by omega) (by omega); omega
    generalize S (vecEnc a b c) = Y2 at t2 y2 ⊢
    have T2 := Lib.hid t2
    clear t2
    go_enter Try.func59, Try.ntmps59
    go_wp2_with fail
    refine (KV.out _).mono ?_; rintro e w1 ⟨rfl, hb1⟩
    have hB1 : Below w.heap.size w w1 := ((Below.refl _ _).alloc (Nat.le_refl _) _).trans (hb1.mono (by simp))
    have hz1 : w.heap.size < w1.heap.size := by have h := hb1.size; simp only [World.size_alloc] at h; omega
    have hx1 : ∀ o, w1.cell? ⟨w.heap.size, o, none⟩ = (w.alloc (.cells #[.string nm, .int .i64 a, .int .i64 b, .int .i64 c] 28)).cell? ⟨w.heap.size, o, none⟩ := box_keep (by simp) (fun _ => rfl) hb1
    go_wp2_with fail
    refine wp_region_later (by kernel_rfl) (by kernel_rfl) ?_; have hL : ∀ (w : World) (x : Later w) (b o : Nat), b < w.heap.size → x.to.cell? ⟨b, o, none⟩ = w.cell? ⟨b, o, none⟩ := fun w x b o hb => x.cell hb; have hN := Later.some; (repeat (go_big_quiet_step (((first | (go_at_call 61; first | (with_reducible exact Later.call (T1.out _))) | (go_at_call 84; first | (with_reducible exact Later.call (T2.out _)))))))); refine wpQuiet_nil ?_; intro w2 hw2; have hb2 := Later.out hw2; clear hw2 hL hN
    have hB2 : Below w.heap.size w w2 := hB1.trans (hb2.mono hB1.size)
    have hz2 : w.heap.size < w2.heap.size := Nat.lt_of_lt_of_le hz1 hb2.size
    have hx2 := box_keep hz1 hx1 hb2
    clear hx1
    go_wp2
    go_ret
    exact ⟨rfl, hB2⟩

set_option maxHeartbeats 3200000 in
set_option maxRecDepth 100000 in
theorem rtaskBytes_any (nm qu : ByteArray) (pr a b c : Int) (A : Option Addr) (n cp : Nat) (l : List Lb) (ap ga : ByteArray) (sz : Int) (w : World) (hnm : nm.size ≤ 9223372036854775807) (hqu : qu.size ≤ 9223372036854775807) (hn : Hid (n = l.length)) (hr : Hid (RdL w A l)) (hz : Hid (Sz l)) (hc : n ≤ cp) (hc2 : cp ≤ 9223372036854775807) (hap : ap.size ≤ 9223372036854775807) (hga : ga.size ≤ 9223372036854775807) :
    Calls Try.prog 60 #[.agg #[.string nm, .string qu, .int .i64 pr, .int .i64 a, .int .i64 b, .int .i64 c, .slice A n cp, .string ap, .string ga, .int .i64 sz]] w fun e w' => e = .returned (.string (S (taskBytes nm qu pr a b c l ap ga sz))) ∧ Below w.heap.size w w' := by
  have kv := fun W (h : RdL W A l) => rtask_any nm qu pr a b c A n cp l ap ga sz W hnm hqu hn (Lib.hid h) hz hc hc2 hap hga
  by_cases hv : taskB nm qu pr a b c l ap ga sz = true
  case neg =>
    have hv' : taskB nm qu pr a b c l ap ga sz = false := by simpa using hv
    have hbyt : taskBytes nm qu pr a b c l ap ga sz = [] := if_neg hv
    rw [hv'] at kv
    rw [hbyt, S_nil]
    have KV := Lib.hid kv
    clear kv hv hv' hbyt
    go_enter Try.func60, Try.ntmps60
    go_wp2_with fail
    refine (KV.out _ (hr.out.later ((Below.refl _ _).alloc (Nat.le_refl _) _))).mono ?_; rintro e w1 ⟨rfl, hb1⟩
    have hB1 : Below w.heap.size w w1 := ((Below.refl _ _).alloc (Nat.le_refl _) _).trans (hb1.mono (by simp))
    go_wp2
    go_ret
    exact ⟨rfl, hB1⟩
  case pos =>
    have hbyt : taskBytes nm qu pr a b c l ap ga sz = taskEnc nm qu pr a b c l ap ga sz := if_pos hv
    rw [hv] at kv
    rw [hbyt]
    have hv2 := hv
    unfold taskB at hv2
    simp only [Bool.and_eq_true, decide_eq_true_eq] at hv2
    obtain ⟨⟨⟨⟨⟨⟨⟨v1, v2⟩, v3⟩, v4⟩, v5⟩, v6⟩, v7⟩, v8⟩ := hv2
    have u1 := (nameB_le v1).2
    have u2 := (nameB_le v2).2
    have u5 := rB_bd v5
    obtain ⟨u3, u4⟩ := labelsB_le v6
    have u7 := apartB_le v7
    obtain ⟨u8, u9, u10⟩ := gangB_le v8
    have h4 : n ≤ 4 := by have := hn.out; omega
    have HSh := Lib.hid u4
    clear v1 v2 v5 v6 v7 v8 u3 u4
    obtain ⟨a, rfl⟩ : ∃ x : Nat, a = (x : Int) := ⟨a.toNat, by omega⟩
    obtain ⟨b, rfl⟩ : ∃ x : Nat, b = (x : Int) := ⟨b.toNat, by omega⟩
    obtain ⟨c, rfl⟩ : ∃ x : Nat, c = (x : Int) := ⟨c.toNat, by omega⟩
    obtain ⟨pr, rfl⟩ : ∃ x : Nat, pr = (x : Int) := ⟨pr.toNat, by omega⟩
    obtain ⟨sz, rfl⟩ : ∃ x : Nat, sz = (x : Int) := ⟨sz.toNat, by omega⟩
    have KV := Lib.hid kv
    clear kv hv hbyt
    have he : S (taskEnc nm qu pr a b c l ap ga sz) = S (encT nm) ++ S (encT qu) ++ S (enc pr) ++ S (vecEnc a b c) ++ S (labEnc l) ++ S (encT ap) ++ S (encT ga) ++ S (enc sz) := by simp only [S_append]; simp [taskEnc, List.append_assoc]
    rw [he]
    clear he
    have t1 := fun W => rtext_any nm W (by omega)
    have y1 : (S (encT nm)).size ≤ 25 := by rw [S_size]; have := encT_le (s := nm) (by omega); omega
    generalize S (encT nm) = Y1 at t1 y1 ⊢
    have T1 := Lib.hid t1
    clear t1
    have t2 := fun W => rtext_any qu W (by omega)
    have y2 : (S (encT qu)).size ≤ 25 := by rw [S_size]; have := encT_le (s := qu) (by omega); omega
    generalize S (encT qu) = Y2 at t2 y2 ⊢
    have T2 := Lib.hid t2
    clear t2
    have t3 := fun W => rnumber_any pr W (by omega)
    have y3 : (S (enc pr)).size ≤ 9 := by rw [S_size]; have := enc_le (n := pr) (by omega); omega
    generalize S (enc pr) = Y3 at t3 y3 ⊢
    have T3 := Lib.hid t3
    clear t3
    have t4 := fun W => amount_any a b c W (by omega) (by omega) (by omega)
    have y4 : (S (vecEnc a b c)).size ≤ 27 := by rw [S_size]; have := vecEnc_le (a := a) (b := b) (c := c) (by omega) (by omega) (by omega); omega
    generalize S (vecEnc a b c) = Y4 at t4 y4 ⊢
    have T4 := Lib.hid t4
    clear t4
    have t5 := fun W (h : RdL W A l) => rlabs_any A n cp l W hn (Lib.hid h) HSh hc hc2 h4
    have y5 : (S (labEnc l)).size ≤ 209 := by rw [S_size]; have := labEnc_le (by have := hn.out; omega) HSh.out; omega
    generalize S (labEnc l) = Y5 at t5 y5 ⊢
    have T5 := Lib.hid t5
    clear t5
    have t6 := fun W => rtext_any ap W (by omega)
    have y6 : (S (encT ap)).size ≤ 25 := by rw [S_size]; have := encT_le (s := ap) (by omega); omega
    generalize S (encT ap) = Y6 at t6 y6 ⊢
    have T6 := Lib.hid t6
    clear t6
    have t7 := fun W => rtext_any ga W (by omega)
    have y7 : (S (encT ga)).size ≤ 25 := by rw [S_size]; have := encT_le (s := ga) (by omega); omega
    generalize S (encT ga) = Y7 at t7 y7 ⊢
    have T7 := Lib.hid t7
    clear t7
    have t8 := fun W => rnumber_any sz W (by omega)
    have y8 : (S (enc sz)).size ≤ 9 := by rw [S_size]; have := enc_le (n := sz) (by omega); omega
    generalize S (enc sz) = Y8 at t8 y8 ⊢
    have T8 := Lib.hid t8
    clear t8
    go_enter Try.func60, Try.ntmps60
    go_wp2_with fail
    refine (KV.out _ (hr.out.later ((Below.refl _ _).alloc (Nat.le_refl _) _))).mono ?_; rintro e w1 ⟨rfl, hb1⟩
    have hB1 : Below w.heap.size w w1 := ((Below.refl _ _).alloc (Nat.le_refl _) _).trans (hb1.mono (by simp))
    have hz1 : w.heap.size < w1.heap.size := by have h := hb1.size; simp only [World.size_alloc] at h; omega
    have hx1 : ∀ o, w1.cell? ⟨w.heap.size, o, none⟩ = (w.alloc (.cells #[.string nm, .string qu, .int .i64 pr, .int .i64 a, .int .i64 b, .int .i64 c, .slice A n cp, .string ap, .string ga, .int .i64 sz] 30)).cell? ⟨w.heap.size, o, none⟩ := box_keep (by simp) (fun _ => rfl) hb1
    have HR1 := Lib.hid (hr.out.later hB1)
    go_wp2_with fail
    refine wp_region_later (by kernel_rfl) (by kernel_rfl) ?_; have hL : ∀ (w : World) (x : Later w) (b o : Nat), b < w.heap.size → x.to.cell? ⟨b, o, none⟩ = w.cell? ⟨b, o, none⟩ := fun w x b o hb => x.cell hb; have hN := Later.some; (repeat (go_big_quiet_step (((first | (go_at_call 61; first | (with_reducible exact Later.call (T1.out _)) | (with_reducible exact Later.call (T2.out _))) | (go_at_call 86; first | (with_reducible exact Later.call (T3.out _))) | (go_at_call 84; first | (with_reducible exact Later.call (T4.out _))) | (go_at_call 85; first | (with_reducible exact Later.call (T5.out _ (RdL.of_later _ HR1.out))))))))); refine wpQuiet_nil ?_; intro w2 hw2; have hb2 := Later.out hw2; clear hw2 hL hN
    have hB2 : Below w.heap.size w w2 := hB1.trans (hb2.mono hB1.size)
    have hz2 : w.heap.size < w2.heap.size := Nat.lt_of_lt_of_le hz1 hb2.size
    have hx2 := box_keep hz1 hx1 hb2
    clear hx1
    have HR2 := Lib.hid (HR1.out.later hb2)
    go_wp2_with fail
    refine wp_region_later (by kernel_rfl) (by kernel_rfl) ?_; have hL : ∀ (w : World) (x : Later w) (b o : Nat), b < w.heap.size → x.to.cell? ⟨b, o, none⟩ = w.cell? ⟨b, o, none⟩ := fun w x b o hb => x.cell hb; have hN := Later.some; (repeat (go_big_quiet_step (((first | (go_at_call 61; first | (with_reducible exact Later.call (T6.out _)) | (with_reducible exact Later.call (T7.out _))) | (go_at_call 86; first | (with_reducible exact Later.call (T8.out _)))))))); refine wpQuiet_nil ?_; intro w3 hw3; have hb3 := Later.out hw3; clear hw3 hL hN
    have hB3 : Below w.heap.size w w3 := hB2.trans (hb3.mono hB2.size)
    have hz3 : w.heap.size < w3.heap.size := Nat.lt_of_lt_of_le hz2 hb3.size
    have hx3 := box_keep hz2 hx2 hb3
    clear hx2
    have HR3 := Lib.hid (HR2.out.later hb3)
    go_wp2
    go_ret
    exact ⟨rfl, hB3⟩

end Go.Proofs.Ytehkdaknhgmdkaa
