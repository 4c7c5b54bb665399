/- The plain mathematics of what was written: it is read as it was, wherever it stands; cut off it isn't. No condition. -/
import Derived.Test.YtehkdaknhgmdkaaOne
import Derived.Test.YtehkdaknhgmdkaaBck
namespace Go.Proofs.Ytehkdaknhgmdkaa
open Go.RowKit
set_option linter.unusedSimpArgs false
set_option linter.unusedVariables false

theorem textP_at (x y : List UInt8) (s : ByteArray) (m : Int) (hm : (s.size : Int) ≤ m) (hs : s.size < 18446744073709551616) : textP (x ++ (encT s ++ y)) (x.length : Int) m = (s.data.toList, ((x ++ encT s).length : Int), 0) := by
  have h := takeP_mid x (s.data.toList ++ y) s.size hs
  have e : x ++ (encT s ++ y) = x ++ enc s.size ++ (s.data.toList ++ y) := by unfold encT; simp
  unfold textP
  rw [e, h, if_neg (by omega)]
  simp only []
  rw [if_neg (by simp), if_neg (by omega), if_neg (by simp only [List.length_append, str_len]; omega)]
  have e2 : ((x.length : Int) + ((enc s.size).length : Int)).toNat = (x ++ enc s.size).length := by rw [List.length_append]; omega
  rw [e2, List.drop_left, ← str_len s, List.take_left]
  simp only [encT, List.length_append, str_len]
  simp
  omega
theorem rTx_at {l x y : List UInt8} {s : ByteArray} (h : s.size ≤ 16) (hl : l = x ++ (encT s ++ y)) : rTx l ((x.length : Int), 0) = (s, (((x ++ encT s).length : Int), 0)) := by
  rw [rTx_yes rfl, hl]
  simp only []
  rw [textP_at x y s 16 (by omega) (by omega)]
theorem rNu_at {l x y : List UInt8} {n m : Nat} {e : Int} (h : n ≤ m) (hn : n < 18446744073709551616) (hl : l = x ++ (enc n ++ y)) : rNu l m e ((x.length : Int), 0) = (n, (((x ++ enc n).length : Int), 0)) := by
  have ht := takeP_mid x y n hn
  rw [List.append_assoc] at ht
  rw [rNu_yes rfl, hl]
  simp only []
  rw [ht]
  simp only []
  rw [if_pos trivial, if_neg (by omega)]
  simp only [List.length_append]
  rw [show ((x.length + (enc n).length : Nat) : Int) = (x.length : Int) + ((enc n).length : Int) by omega]
theorem rVe_at {l x y : List UInt8} {a b c : Nat} (ha : a ≤ 1048576) (hb : b ≤ 1048576) (hc : c ≤ 1048576) (hl : l = x ++ (vecEnc a b c ++ y)) : rVe l ((x.length : Int), 0) = ((a, b, c), (((x ++ vecEnc a b c).length : Int), 0)) := by
  have h1 := rNu_at (l := l) (x := x) (y := enc b ++ (enc c ++ y)) (n := a) (m := 1048576) (e := 3) ha (by omega) (by rw [hl]; simp [vecEnc])
  have h2 := rNu_at (l := l) (x := x ++ enc a) (y := enc c ++ y) (n := b) (m := 1048576) (e := 3) hb (by omega) (by rw [hl]; simp [vecEnc])
  have h3 := rNu_at (l := l) (x := x ++ enc a ++ enc b) (y := y) (n := c) (m := 1048576) (e := 3) hc (by omega) (by rw [hl]; simp [vecEnc])
  unfold rVe
  simp only [h1, h2, h3]
  simp [vecEnc]
theorem rLk_at {l x y : List UInt8} {ls : List Lb} (hs : Short ls) (hl : l = x ++ (ls.flatMap lbEnc ++ y)) : ∀ k, k ≤ ls.length → rLk l k ((x.length : Int), 0) = (ls.take k, (((x ++ lbs ls k).length : Int), 0))
  | 0, _ => by simp [rLk, lbs]
  | k + 1, hk => by
    have ih := rLk_at hs hl k (by omega)
    have hk' : k < ls.length := by omega
    have hz := hs.at hk'
    have hsplit : l = x ++ lbs ls k ++ (encT ls[k].1 ++ (encT ls[k].2 ++ ((ls.drop (k + 1)).flatMap lbEnc ++ y))) := by
      rw [hl]
      have : ls.flatMap lbEnc = lbs ls k ++ (lbEnc ls[k] ++ (ls.drop (k + 1)).flatMap lbEnc) := by
        conv => lhs; rw [← List.take_append_drop k ls, List.drop_eq_getElem_cons hk', List.flatMap_append, List.flatMap_cons]
        rfl
      rw [this]
      simp [lbEnc]
    have h1 := rTx_at (x := x ++ lbs ls k) hz.1 hsplit
    have h2 := rTx_at (l := l) (x := x ++ lbs ls k ++ encT ls[k].1) (y := (ls.drop (k + 1)).flatMap lbEnc ++ y) hz.2 (by rw [hsplit]; simp)
    rw [rLk_succ, ih]
    simp only [h1, h2]
    rw [lbs_succ hk']
    refine Prod.ext (List.take_succ_eq_append_getElem hk').symm ?_
    simp [lbEnc]
theorem rLa_at {l x y : List UInt8} {ls : List Lb} (hs : Short ls) (h4 : ls.length ≤ 4) (hl : l = x ++ (labEnc ls ++ y)) : rLa l ((x.length : Int), 0) = (ls, (((x ++ labEnc ls).length : Int), 0)) := by
  have h1 := rNu_at (l := l) (x := x) (y := ls.flatMap lbEnc ++ y) (n := ls.length) (m := 4) (e := 4) h4 (by omega) (by rw [hl]; simp [labEnc])
  have h2 := rLk_at (l := l) (x := x ++ enc ls.length) (y := y) hs (by rw [hl]; simp [labEnc]) ls.length (Nat.le_refl _)
  unfold rLa
  rw [h1]
  simp only []
  rw [h2, List.take_length, lbs_full ls (Nat.le_refl _)]
  simp [labEnc]

theorem node_at {l x y : List UInt8} {nm : ByteArray} {a b c : Nat} {ls : List Lb} (hv : nodeB nm a b c ls = true) (hl : l = x ++ (nodeEnc nm a b c ls ++ y)) : tNode l (x.length : Int) = (⟨nm, a, b, c, ls⟩, (((x ++ nodeEnc nm a b c ls).length : Int), 0)) := by
  have hv2 := hv
  unfold nodeB at hv2
  simp only [Bool.and_eq_true] at hv2
  have u1 := (nameB_le hv2.1.1).2
  have u2 := rB_bd hv2.1.2
  have u3 := labelsB_le hv2.2
  have h1 := rTx_at (l := l) (x := x) (y := vecEnc a b c ++ (labEnc ls ++ y)) u1 (by rw [hl]; simp [nodeEnc])
  have h2 := rVe_at (l := l) (x := x ++ encT nm) (y := labEnc ls ++ y) (a := a) (b := b) (c := c) (by omega) (by omega) (by omega) (by rw [hl]; simp [nodeEnc])
  have h3 := rLa_at (l := l) (x := x ++ encT nm ++ vecEnc a b c) (y := y) u3.2 u3.1 (by rw [hl]; simp [nodeEnc])
  unfold tNode rNode
  simp only [h1, h2, h3, Nd.ok, hv]
  simp [rEnd, nodeEnc]
theorem queue_at {l x y : List UInt8} {nm : ByteArray} {a b c : Nat} (hv : queueB nm a b c = true) (hl : l = x ++ (queueEnc nm a b c ++ y)) : tQueue l (x.length : Int) = (⟨nm, a, b, c⟩, (((x ++ queueEnc nm a b c).length : Int), 0)) := by
  have hv2 := hv
  unfold queueB at hv2
  simp only [Bool.and_eq_true] at hv2
  have u1 := (nameB_le hv2.1).2
  have u2 := rB_bd hv2.2
  have h1 := rTx_at (l := l) (x := x) (y := vecEnc a b c ++ y) u1 (by rw [hl]; simp [queueEnc])
  have h2 := rVe_at (l := l) (x := x ++ encT nm) (y := y) (a := a) (b := b) (c := c) (by omega) (by omega) (by omega) (by rw [hl]; simp [queueEnc])
  unfold tQueue rQueue
  simp only [h1, h2, Qu.ok, hv]
  simp [rEnd, queueEnc]
theorem task_at {l x y : List UInt8} {nm qu : ByteArray} {pr a b c : Nat} {ls : List Lb} {ap ga : ByteArray} {sz : Nat} (hv : taskB nm qu pr a b c ls ap ga sz = true) (hl : l = x ++ (taskEnc nm qu pr a b c ls ap ga sz ++ y)) :
    tTask l (x.length : Int) = (⟨nm, qu, pr, a, b, c, ls, ap, ga, sz⟩, (((x ++ taskEnc nm qu pr a b c ls ap ga sz).length : Int), 0)) := by
  have hv2 := hv
  unfold taskB at hv2
  simp only [Bool.and_eq_true, decide_eq_true_eq] at hv2
  obtain ⟨⟨⟨⟨⟨⟨⟨v1, v2⟩, v3⟩, v4⟩, v5⟩, v6⟩, v7⟩, v8⟩ := hv2
  have u1 := (nameB_le v1).2
  have u2 := (nameB_le v2).2
  have u3 := rB_bd v5
  have u4 := labelsB_le v6
  have u5 := apartB_le v7
  have u6 := gangB_le v8
  have h1 := rTx_at (l := l) (x := x) (y := encT qu ++ (enc pr ++ (vecEnc a b c ++ (labEnc ls ++ (encT ap ++ (encT ga ++ (enc sz ++ y))))))) u1 (by rw [hl]; simp [taskEnc])
  have h2 := rTx_at (l := l) (x := x ++ encT nm) (y := enc pr ++ (vecEnc a b c ++ (labEnc ls ++ (encT ap ++ (encT ga ++ (enc sz ++ y)))))) u2 (by rw [hl]; simp [taskEnc])
  have h3 := rNu_at (l := l) (x := x ++ encT nm ++ encT qu) (y := vecEnc a b c ++ (labEnc ls ++ (encT ap ++ (encT ga ++ (enc sz ++ y))))) (n := pr) (m := 1048576) (e := 3) (by omega) (by omega) (by rw [hl]; simp [taskEnc])
  have h4 := rVe_at (l := l) (x := x ++ encT nm ++ encT qu ++ enc pr) (y := labEnc ls ++ (encT ap ++ (encT ga ++ (enc sz ++ y)))) (a := a) (b := b) (c := c) (by omega) (by omega) (by omega) (by rw [hl]; simp [taskEnc])
  have h5 := rLa_at (l := l) (x := x ++ encT nm ++ encT qu ++ enc pr ++ vecEnc a b c) (y := encT ap ++ (encT ga ++ (enc sz ++ y))) u4.2 u4.1 (by rw [hl]; simp [taskEnc])
  have h6 := rTx_at (l := l) (x := x ++ encT nm ++ encT qu ++ enc pr ++ vecEnc a b c ++ labEnc ls) (y := encT ga ++ (enc sz ++ y)) u5 (by rw [hl]; simp [taskEnc])
  have h7 := rTx_at (l := l) (x := x ++ encT nm ++ encT qu ++ enc pr ++ vecEnc a b c ++ labEnc ls ++ encT ap) (y := enc sz ++ y) u6.1 (by rw [hl]; simp [taskEnc])
  have h8 := rNu_at (l := l) (x := x ++ encT nm ++ encT qu ++ enc pr ++ vecEnc a b c ++ labEnc ls ++ encT ap ++ encT ga) (y := y) (n := sz) (m := 1048576) (e := 3) (by omega) (by omega) (by rw [hl]; simp [taskEnc])
  unfold tTask rTask
  simp only [h1, h2, h3, h4, h5, h6, h7, h8, Tk.ok, hv]
  simp [rEnd, taskEnc]

/-- A beginning of bytes that is read whole is read whole in the bytes, too: what is cut off within an encoding isn't read. -/
theorem pre_split {x E : List UInt8} {j nx : Nat} (hj : j < E.length) (h1 : x.length ≤ nx) (h2 : nx ≤ ((x ++ E).take (x.length + j)).length) {B : List UInt8} (hB : B = (((x ++ E).take (x.length + j)).drop x.length).take (nx - x.length)) :
    B.length < E.length ∧ x ++ E = x ++ (B ++ (E.drop B.length)) := by
  have e1 : (x ++ E).take (x.length + j) = x ++ E.take j := by rw [List.take_append, List.take_of_length_le (by omega), Nat.add_sub_cancel_left]
  rw [e1, List.drop_left] at hB
  rw [e1] at h2
  simp only [List.length_append, List.length_take] at h2
  have e2 : B = E.take (nx - x.length) := by rw [hB, List.take_take]; congr 1; omega
  have e3 : B.length = nx - x.length := by rw [e2, List.length_take]; omega
  refine ⟨by omega, ?_⟩
  rw [e3, e2, List.take_append_drop]
theorem node_cut {x : List UInt8} {nm : ByteArray} {a b c : Nat} {ls : List Lb} {j : Nat} (hv : nodeB nm a b c ls = true) (hj : j < (nodeEnc nm a b c ls).length) : ¬ (tNode ((x ++ nodeEnc nm a b c ls).take (x.length + j)) (x.length : Int)).2.2 = 0 := by
  intro h0
  obtain ⟨ok, _, g1, g2, g3⟩ := one_node h0
  generalize tNode ((x ++ nodeEnc nm a b c ls).take (x.length + j)) (x.length : Int) = r at *
  obtain ⟨⟨nm', a', b', c', ls'⟩, nx, er⟩ := r
  simp only [Nd.ok] at *
  rw [Int.toNat_natCast] at g3
  obtain ⟨s1, s2⟩ := pre_split (nx := nx.toNat) hj (by omega) (by omega) g3
  have f1 := node_at (x := x) (y := []) hv (by rw [List.append_nil])
  have f2 := node_at (x := x) ok s2
  rw [f1] at f2
  injection f2 with _ f3
  injection f3 with f4 _
  simp only [List.length_append] at f4
  omega
theorem queue_cut {x : List UInt8} {nm : ByteArray} {a b c : Nat} {j : Nat} (hv : queueB nm a b c = true) (hj : j < (queueEnc nm a b c).length) : ¬ (tQueue ((x ++ queueEnc nm a b c).take (x.length + j)) (x.length : Int)).2.2 = 0 := by
  intro h0
  obtain ⟨ok, _, g1, g2, g3⟩ := one_queue h0
  generalize tQueue ((x ++ queueEnc nm a b c).take (x.length + j)) (x.length : Int) = r at *
  obtain ⟨⟨nm', a', b', c'⟩, nx, er⟩ := r
  simp only [Qu.ok] at *
  rw [Int.toNat_natCast] at g3
  obtain ⟨s1, s2⟩ := pre_split (nx := nx.toNat) hj (by omega) (by omega) g3
  have f1 := queue_at (x := x) (y := []) hv (by rw [List.append_nil])
  have f2 := queue_at (x := x) ok s2
  rw [f1] at f2
  injection f2 with _ f3
  injection f3 with f4 _
  simp only [List.length_append] at f4
  omega
theorem task_cut {x : List UInt8} {nm qu : ByteArray} {pr a b c : Nat} {ls : List Lb} {ap ga : ByteArray} {sz j : Nat} (hv : taskB nm qu pr a b c ls ap ga sz = true) (hj : j < (taskEnc nm qu pr a b c ls ap ga sz).length) :
    ¬ (tTask ((x ++ taskEnc nm qu pr a b c ls ap ga sz).take (x.length + j)) (x.length : Int)).2.2 = 0 := by
  intro h0
  obtain ⟨ok, _, g1, g2, g3⟩ := one_task h0
  generalize tTask ((x ++ taskEnc nm qu pr a b c ls ap ga sz).take (x.length + j)) (x.length : Int) = r at *
  obtain ⟨⟨nm', qu', pr', a', b', c', ls', ap', ga', sz'⟩, nx, er⟩ := r
  simp only [Tk.ok] at *
  rw [Int.toNat_natCast] at g3
  obtain ⟨s1, s2⟩ := pre_split (nx := nx.toNat) hj (by omega) (by omega) g3
  have f1 := task_at (x := x) (y := []) hv (by rw [List.append_nil])
  have f2 := task_at (x := x) ok s2
  rw [f1] at f2
  injection f2 with _ f3
  injection f3 with f4 _
  simp only [List.length_append] at f4
  omega
end Go.Proofs.Ytehkdaknhgmdkaa
