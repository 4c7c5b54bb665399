/- Plain facts for PackBack: an encoding is taken back wherever it stands, and cut off it ends too early; and an append that must lay a new row. -/
import Derived.Test.YtehkdaknhgmdkaaRtk
namespace Go.Proofs.Ytehkdaknhgmdkaa
open Go.RowKit

theorem ofNat_len {n : Nat} (hn : n < 18446744073709551616) : (UInt8.ofNat (digs n).length).toNat = (digs n).length := by
  have := digs_len8 hn
  simp
  omega

theorem takeP_mid (x y : List UInt8) (n : Nat) (hn : n < 18446744073709551616) : takeP (x ++ enc n ++ y) (x.length : Int) = (n, (x.length : Int) + ((enc n).length : Int), 0) := by
  have h8 := digs_len8 hn
  have hk := ofNat_len hn
  unfold takeP
  rw [if_neg (by simp only [List.length_append]; omega), Int.toNat_natCast, List.append_assoc, List.drop_left]
  unfold enc
  simp only [List.cons_append]
  rw [hk, if_neg (by omega), if_neg (by simp), if_neg ?_]
  · rw [List.take_left, val_digs]
    simp
    omega
  · intro ⟨h1, h2⟩
    rw [List.getElem?_append_left h1, List.getElem?_eq_getElem h1] at h2
    exact digs_head_ne h1 (Option.some.inj h2)

theorem takeP_cut (x : List UInt8) (n j : Nat) (hn : n < 18446744073709551616) (hj : j < (enc n).length) : (takeP ((x ++ enc n).take (x.length + j)) (x.length : Int)) = (0, 0, 2) := by
  have h8 := digs_len8 hn
  have hk := ofNat_len hn
  rw [enc_length] at hj
  have hd : ((x ++ enc n).take (x.length + j)) = x ++ (enc n).take j := by rw [List.take_append, List.take_of_length_le (by omega), Nat.add_sub_cancel_left]
  rw [hd]
  unfold takeP
  rw [if_neg (by simp only [List.length_append]; omega), Int.toNat_natCast, List.drop_left]
  cases j with
  | zero => simp
  | succ j =>
    unfold enc
    simp only [List.take_succ_cons]
    rw [hk, if_neg (by omega), if_pos (by rw [List.length_take]; omega)]

theorem textP_mid (x y : List UInt8) (s : ByteArray) (hs : s.size < 18446744073709551616) : textP (x ++ encT s ++ y) (x.length : Int) (s.size : Int) = (s.data.toList, (x.length : Int) + ((encT s).length : Int), 0) := by
  have h := takeP_mid x (s.data.toList ++ y) s.size hs
  have e : x ++ encT s ++ y = x ++ enc s.size ++ (s.data.toList ++ y) := by unfold encT; simp
  unfold textP
  rw [e, h, if_neg (by omega)]
  simp only []
  rw [if_neg (by simp), if_neg (by omega), if_neg (by simp only [List.length_append, str_len]; omega)]
  have e2 : ((x.length : Int) + ((enc s.size).length : Int)).toNat = (x ++ enc s.size).length := by rw [List.length_append]; omega
  rw [e2, List.drop_left, ← str_len s, List.take_left]
  simp only [encT, List.length_append, str_len]
  simp
  omega

section
variable {P : Program} (w : World)
/-- Appending a string to a slice that reads as l and has no room: the new slice reads as l and the string, wherever it lies; what there was has not changed. -/
theorem run_append_cut {t u ty e : TypeId} {i : TypeInfo} {g n : Nat} {l : List UInt8} {s : ByteArray} (ht : P.underlying t = some (.slice e)) (hu : P.underlying u = some .string) (hi : P.info? e = some i) (hz : i.zero = some (.int .u8 0))
    (hsize : i.size = 1) (hby : i.bytes = 1) (hr : Rd w (some ⟨g, 0, none⟩) l) (hn : n = l.length) (hb : n + s.size ≤ 70368744177664) :
    ∃ A c w', (Builtin.append_ #[t, u] ty #[.slice (some ⟨g, 0, none⟩) n n, .string s]).run P w = .ok (.slice A (n + s.size) c) w' ∧ Rd w' A (l ++ s.data.toList) ∧ Below w.heap.size w w' ∧ n + s.size ≤ c ∧ c ≤ maxLen := by
  subst hn
  by_cases h0 : s.size = 0
  · have hs0 : s.data.toList = [] := List.eq_nil_of_length_eq_zero (by rw [str_len]; exact h0)
    refine ⟨some ⟨g, 0, none⟩, l.length, w, ?_, by rw [hs0, List.append_nil]; exact hr, Below.refl _ _, by omega, by unfold maxLen; omega⟩
    have hf := Lib.run_firstCells_string (P := P) w 1 s
    have hc : Lib.strCells s = [] := List.eq_nil_of_length_eq_zero (by rw [Lib.strCells_length]; exact h0)
    rw [h0, hc] at hf
    simp [Builtin.append_, run_underlying ht, run_underlying hu, sizeOf, typeInfo, hi, hsize, Builtin.lenOf, h0, hf, storeCells]
  · have hrun := Lib.run_append_grow_string (P := P) w t u ty e i (.int .u8 0) ht hu hi hz ⟨g, 0, none⟩ l.length l.length (cells l) (by rw [cells_length, hsize, Nat.mul_one]) (hr.news _ rfl) s (by omega) (by omega) (by rw [hby]; exact growslice_fits (by omega) (by omega))
    refine ⟨_, _, _, hrun, ?_, (Below.refl _ _).drew.alloc (Nat.le_refl _) _, grownCap_ge w _ _ e, grownCap_le_maxLen w _ _ e (by unfold maxLen; omega)⟩
    intro k b hb
    refine ⟨_, _, rfl, ?_⟩
    rw [Nat.zero_add]
    have hk := (List.getElem?_eq_some_iff.1 hb).1
    refine (cell_of_row _ w.heap.size k _ e (0, 0) (heap_alloc_new w.drew _)).trans ?_
    rw [Array.getElem?_append_left (by simp [cells_length, Lib.strCells_length]; simpa using hk)]
    have := cells_at hb
    rw [cells_append, ← cells_str] at this
    simpa using this

theorem wpList_append_cut {ops : Array Oper} {rest : List Oper} {o : Oper} {a : Act} {Q : Exit → Act → World → Prop}
    (hgd : o.guard = none) (sl x : Operand) (t u : TypeId) (hop : o.op = Op.call { callee := Callee.builtin Builtin.append, args := #[sl, x], argTypes := #[t, u] })
    (e : Nat) (i : TypeInfo) (ht : P.underlying t = some (.slice e)) (hu : P.underlying u = some .string) (hi : P.info? e = some i) (hz : i.zero = some (.int .u8 0)) (hsize : i.size = 1) (hby : i.bytes = 1)
    (g n : Nat) (l : List UInt8) (s : ByteArray) (hs : a.eval sl = .slice (some ⟨g, 0, none⟩) n n) (hx : a.eval x = .string s) (hr : Rd w (some ⟨g, 0, none⟩) l) (hn : n = l.length) (hb : n + s.size ≤ 70368744177664)
    (hK : ∀ A c w', Rd w' A (l ++ s.data.toList) → Below w.heap.size w w' → n + s.size ≤ c → c ≤ maxLen → wpList P ops Q rest (a.put o.dst (.slice A (n + s.size) c)) w') :
    wpList P ops Q (o :: rest) a w := by
  refine wpList_plain hgd fun K hK' => ?_
  obtain ⟨A, c, w', hrun, r1, r2, r3, r4⟩ := run_append_cut (P := P) (ty := o.type) w ht hu hi hz hsize hby hr hn hb
  unfold Oper.wp
  simp [execOp, hop, resolve, invoke, builtin, hs, hx, hrun, Result.andThen]
  exact hK' _ _ (hK A c w' r1 r2 r3 r4)
end
end Go.Proofs.Ytehkdaknhgmdkaa
