/- Top; slices.Delete of the last entry. No condition. -/
import Derived.Test.YtkadcaihihgceaaHp4
import Derived.Deep.RegionLaw
namespace Go.Proofs.Ytkadcaihihgceaa
open Go.RowKit
set_option linter.unusedSimpArgs false
set_option linter.unusedVariables false
abbrev zP : Value := .agg #[.int .i64 0, .int .i64 0]
abbrev zS : Value := .string ⟨#[]⟩
theorem oneZP : ∀ u ∈ (Value.agg #[.int .i64 0, .int .i64 0, .int .i64 0]).cells.toList, u.oneCell' = true := by
  intro u hu
  simp only [Value.cells, List.mem_cons, List.not_mem_nil, or_false] at hu
  rcases hu with rfl | rfl | rfl <;> rfl
theorem oneZS : ∀ u ∈ (Value.agg #[.string ⟨#[]⟩, .int .i64 0]).cells.toList, u.oneCell' = true := by
  intro u hu
  simp only [Value.cells, List.mem_cons, List.not_mem_nil, or_false] at hu
  rcases hu with rfl | rfl <;> rfl
set_option maxHeartbeats 1600000 in
set_option maxRecDepth 100000 in
theorem topP_some (b h : Nat) (F v : Value) (m : Int) (l : List (Px × Int)) (x : Px × Int) (w : World) (hx : Hid (l[0]? = some x)) (hH : Hid (HpP w b h F v m l)) :
    Calls Try.prog 15 #[.pointer (some ⟨h, 0, none⟩)] w fun e w' => e = .returned (.tuple #[vP x.1, .bool true]) ∧ Below w.heap.size w w' := by
  obtain ⟨h0, hx0⟩ := List.getElem?_eq_some_iff.1 hx.out
  obtain ⟨A, c, hv, hc1, hc2, har⟩ := hH.out.sl
  obtain ⟨g, hA, hgh, hr⟩ := har 0 h0
  subst hv hA
  rw [hx0, Nat.zero_mul] at hr
  have HR := Lib.hid hr
  have K1 := Lib.hid (fun (W : World) (hb : Below w.heap.size w W) => lenP_any b h F _ m l W (Lib.hid (hH.out.below hb)))
  have hne : ((l.length : Int) == 0) = false := by simp; intro e; rw [e] at h0; simp at h0
  have hc : w.cell? ⟨h, 1, none⟩ = some (.slice (some ⟨g, 0, none⟩) l.length c) := hH.out.bk.cellAt 1
  have hlt : h < w.heap.size := hH.out.bk.here
  have hglt : g < w.heap.size := range_lt hr (by simp)
  have hlt1 : h < w.heap.size + 1 := by omega
  have hglt1 : g < w.heap.size + 1 := by omega
  have HRP : Hid ((w.alloc (.cells #[.int .i64 0, .int .i64 0] 27)).rangeAt g 0 [.int .i64 x.1.1, .int .i64 x.1.2]) := range_keep (fun j u hu => by
    have := HR.out j u (by
      match j, hu with
      | 0, hu => simpa using hu
      | 1, hu => simpa using hu
      | j + 2, hu => simp at hu)
    exact this) ((Below.refl _ _).alloc (Nat.le_refl _) _)
  clear hr har hx0
  go_enter Try.func15, Try.ntmps15
  go_wp2_with fail
  refine (K1.out _ ((Below.refl _ _).alloc (Nat.le_refl _) _)).mono ?_; rintro e w1 ⟨rfl, hw1⟩; rw [hw1]; clear hw1 w1
  go_wp2_with (with_reducible refine load_rg rfl 27 _ rfl g 0 rfl #[.int .i64 x.1.1, .int .i64 x.1.2] _ HRP.out Try.underlying27 rfl (by kernel_rfl) ?_)
  exact bodyPost_ret (v := .tuple #[vP x.1, .bool true]) (results_bk2 rfl _ _ w.heap.size 27 #[.int .i64 x.1.1, .int .i64 x.1.2] _ (.bool true) rfl rfl (Bk.fresh _ _ _) Try.underlying27 rfl (by kernel_rfl)) rfl ⟨rfl, (Below.refl _ _).alloc (Nat.le_refl _) _⟩
set_option maxHeartbeats 1600000 in
set_option maxRecDepth 100000 in
theorem topP_none (r : Value) (w : World) (hr : Hid (∀ W, Below w.heap.size w W → Calls Try.prog 22 #[r] W fun e w' => e = .returned (.int .i64 0) ∧ w' = W)) :
    Calls Try.prog 15 #[r] w fun e w' => e = .returned (.tuple #[zP, .bool false]) ∧ Below w.heap.size w w' := by
  go_enter Try.func15, Try.ntmps15
  go_wp2_with fail
  refine (hr.out _ ((Below.refl _ _).alloc (Nat.le_refl _) _)).mono ?_; rintro e w1 ⟨rfl, hw1⟩; rw [hw1]; clear hw1 w1
  go_wp2_with fail
  exact bodyPost_ret (v := .tuple #[zP, .bool false]) (results_bk2 rfl _ _ w.heap.size 27 #[.int .i64 0, .int .i64 0] _ (.bool false) rfl rfl (by first | exact Bk.fresh _ _ _ | exact (Bk.fresh _ _ _).later ((Below.refl _ _).alloc (Nat.le_refl _) _)) Try.underlying27 rfl (by kernel_rfl)) rfl ⟨rfl, by first | exact (Below.refl _ _).alloc (Nat.le_refl _) _ | exact ((Below.refl _ _).alloc (Nat.le_refl _) _).alloc (by simp) _⟩
theorem topP_nil (w : World) : Calls Try.prog 15 #[.pointer none] w fun e w' => e = .returned (.tuple #[zP, .bool false]) ∧ Below w.heap.size w w' := topP_none _ w fun W _ => lenP_nil W
theorem topP_empty (b h : Nat) (F v : Value) (m : Int) (w : World) (hH : Hid (HpP w b h F v m [])) : Calls Try.prog 15 #[.pointer (some ⟨h, 0, none⟩)] w fun e w' => e = .returned (.tuple #[zP, .bool false]) ∧ Below w.heap.size w w' :=
  topP_none _ w fun W hb => lenP_any b h F v m [] W (Lib.hid (hH.out.below hb))
set_option maxHeartbeats 3200000 in
set_option maxRecDepth 100000 in
theorem delP_far (base g c i : Nat) (l S : List (List Value)) (w : World) (hl : Hid (l.length = i + 1)) (hbig : i + 1 ≤ 1000) (hR : Hid (RowK w g 62 3 (l ++ S))) (hS : Hid (i + 1 + S.length = c)) (hnc : i + 1 ≤ c) (hbg : Hid (base ≤ g)) (hc2 : c ≤ 9223372036854775807) (hc3 : Hid (c ≤ maxLen)) (hce : ¬ (c = i + 1)) :
    Calls Try.prog 30 #[.slice (some ⟨g, 0, none⟩) (i + 1) c, .int .i64 i, .int .i64 ((i : Int) + 1)] w fun e w' => e = .returned (.slice (some ⟨g, 0, none⟩) i c) ∧ OwnK w' base 62 3 (.slice (some ⟨g, 0, none⟩) i c) (l.take i) ∧ w.grownBy w' (some g) ∧ w'.heap.size = w.heap.size := by
  have hL : Hid ((l ++ S).length = c) := by show _ = _; rw [List.length_append, hl.out]; exact hS.out
  have hne1 : ((i : Int) == (i : Int) + 1) = false := by simp; omega
  have hb1 : (0 : Int) ≤ (i : Int) + 1 := by omega
  have hin : i ≤ i + 1 := by omega
  have htn : ((i : Int) + 1).toNat = i + 1 := by omega
  have hb3 : (i : Int) + 1 ≤ (i : Int) + 1 := by omega
  have hb5 : ¬ (c = i) := by omega
  have hic : i ≤ c := by omega
  have hb7 : (i : Int) ≤ (i : Int) + 1 := by omega
  have hb8 : (i : Int) + 1 ≤ (c : Int) := by omega
  go_enter Try.func30, Try.ntmps30
  go_wp2_with fail
  go_region_law (refine step_room_k rfl (.tmp 22) (.tmp 25) 58 rfl 62 3 Try.underlying58 (by kernel_rfl) g i c (l ++ S) hR.out.drew (by simp [Act.eval, Act.put]) ⟨g, (i + 1) * 3, none⟩ 0 (c - (i + 1)) (by simp [Act.eval, Act.put]) [] (by simp) (by simp) rfl (by simp) i (by omega) (by omega) (by rw [hL.out]; omega) ?_; intro w1 r1 g1 z1)
  have T := Lib.hid (drew_grown g1)
  have R1 := Lib.hid r1
  have Z1 : Hid (w1.heap.size = w.heap.size) := z1
  clear g1 r1 z1
  go_wp2_with (first
    | (with_reducible refine clear1_k _ rfl (.tmp 31) 58 rfl 62 _ 3 24 Try.underlying58 infoEP rfl (by omega) oneZP g i (i * 3) _ rfl _ R1.out _ rfl (by omega) (by have h1 := hL.out; have h3 := hl.out; have h4 := hS.out; simp only [List.append_nil] at *; simp only [List.length_append, List.length_take, List.length_drop] at *; omega) ?_; intro w2 zx r2 g2 z2))
  all_goals go_ret
  all_goals
    have q := r2.own (n := i) (c := c) hbg.out (by have h1 := hL.out; have h3 := hl.out; have h4 := hS.out; simp only [List.length_append, List.length_take, List.length_drop, List.length_singleton, List.length_nil] at *; omega) hc3.out (by omega)
    have e : (((l ++ S).take i ++ [] ++ (l ++ S).drop i).take i ++ [zx] ++ ((l ++ S).take i ++ [] ++ (l ++ S).drop i).drop (i + 1)).take i = l.take i := by
      have h3 := hl.out
      rw [List.append_nil, List.take_append_drop, List.append_assoc, List.take_append_of_le_length (by rw [List.length_take, List.length_append]; omega), List.take_take, Nat.min_self, List.take_append_of_le_length (by omega)]
    rw [e] at q
    exact ⟨rfl, q, ⟨g2.os.trans T.out.os, g2.tape.trans T.out.tape, g2.output.trans T.out.output, Nat.le_trans T.out.size g2.size, fun k hk hn => (g2.block k (Nat.lt_of_lt_of_le hk T.out.size) hn).trans (T.out.block k hk hn)⟩, z2.trans Z1.out⟩
set_option maxHeartbeats 3200000 in
set_option maxRecDepth 100000 in
theorem delP_near (base g i : Nat) (l : List (List Value)) (w : World) (hl : Hid (l.length = i + 1)) (hbig : i + 1 ≤ 1000) (hR : Hid (RowK w g 62 3 l)) (hbg : Hid (base ≤ g)) (hc3 : Hid (i + 1 ≤ maxLen)) :
    Calls Try.prog 30 #[.slice (some ⟨g, 0, none⟩) (i + 1) (i + 1), .int .i64 i, .int .i64 ((i : Int) + 1)] w fun e w' => e = .returned (.slice (some ⟨g, 0, none⟩) i (i + 1)) ∧ OwnK w' base 62 3 (.slice (some ⟨g, 0, none⟩) i (i + 1)) (l.take i) ∧ w.grownBy w' (some g) ∧ w'.heap.size = w.heap.size := by
  have hne1 : ((i : Int) == (i : Int) + 1) = false := by simp; omega
  have hb1 : (0 : Int) ≤ (i : Int) + 1 := by omega
  have htn : ((i : Int) + 1).toNat = i + 1 := by omega
  have hb3 : (i : Int) + 1 ≤ (i : Int) + 1 := by omega
  have hic : i ≤ i + 1 := by omega
  have hb6 : ¬ (i + 1 = i) := by omega
  have hb7 : (i : Int) ≤ (i : Int) + 1 := by omega
  go_enter Try.func30, Try.ntmps30
  go_wp2_with fail
  go_region_law (refine step_room_k rfl (.tmp 22) (.tmp 25) 58 rfl 62 3 Try.underlying58 (by kernel_rfl) g i (i + 1) l hR.out.drew (by simp [Act.eval, Act.put]) ⟨g, 0, none⟩ 0 0 (by simp [Act.eval, Act.put]) [] (by simp) (by simp) rfl (by simp) i (by omega) (by omega) (by rw [hl.out]; omega) ?_; intro w1 r1 g1 z1)
  have T := Lib.hid (drew_grown g1)
  have R1 := Lib.hid r1
  have Z1 : Hid (w1.heap.size = w.heap.size) := z1
  clear g1 r1 z1
  go_wp2_with (first
    | (with_reducible refine clear1_k _ rfl (.tmp 31) 58 rfl 62 _ 3 24 Try.underlying58 infoEP rfl (by omega) oneZP g i (i * 3) _ rfl _ R1.out _ rfl (by omega) (by have h3 := hl.out; simp only [List.append_nil] at *; simp only [List.length_append, List.length_take, List.length_drop] at *; omega) ?_; intro w2 zx r2 g2 z2))
  all_goals go_ret
  all_goals
    have q := r2.own (n := i) (c := i + 1) hbg.out (by have h3 := hl.out; simp only [List.length_append, List.length_take, List.length_drop, List.length_singleton, List.length_nil] at *; omega) hc3.out (by omega)
    have e : ((l.take i ++ [] ++ l.drop i).take i ++ [zx] ++ (l.take i ++ [] ++ l.drop i).drop (i + 1)).take i = l.take i := by
      rw [List.append_nil, List.take_append_drop, List.append_assoc, List.take_append_of_le_length (by rw [List.length_take, hl.out]; omega), List.take_take, Nat.min_self]
    rw [e] at q
    exact ⟨rfl, q, ⟨g2.os.trans T.out.os, g2.tape.trans T.out.tape, g2.output.trans T.out.output, Nat.le_trans T.out.size g2.size, fun k hk hn => (g2.block k (Nat.lt_of_lt_of_le hk T.out.size) hn).trans (T.out.block k hk hn)⟩, z2.trans Z1.out⟩
/-- The last entry is deleted out of a row that the call owns. -/
theorem delP_any (base g n c : Nat) (L : List (Px × Int)) (i : Nat) (w : World) (hbig : L.length ≤ 1000) (hi : L.length = i + 1) (hO : Hid (OwnK w base 62 3 (.slice (some ⟨g, 0, none⟩) n c) (L.map eP))) :
    Calls Try.prog 30 #[.slice (some ⟨g, 0, none⟩) n c, .int .i64 i, .int .i64 ((i : Int) + 1)] w fun e w' => e = .returned (.slice (some ⟨g, 0, none⟩) i c) ∧ OwnK w' base 62 3 (.slice (some ⟨g, 0, none⟩) i c) ((L.take i).map eP) ∧ w.grownBy w' (some g) ∧ w'.heap.size = w.heap.size := by
  obtain ⟨S, hR, hS, hn, hm, hb⟩ := hO.out.whole
  rw [List.length_map] at hn hS
  have hl : (L.map eP).length = i + 1 := by rw [List.length_map]; exact hi
  rw [List.map_take]
  have hn2 : n = i + 1 := by omega
  subst hn2
  by_cases hc : c = i + 1
  · subst hc
    have hS0 : S = [] := List.length_eq_zero_iff.1 (by omega)
    subst hS0
    rw [List.append_nil] at hR
    exact delP_near base g i _ w hl (by omega) hR hb hm
  · exact delP_far base g c i _ S w hl (by omega) hR (show _ = _ by omega) (by omega) hb (by unfold maxLen at hm; omega) hm hc
set_option maxHeartbeats 1600000 in
set_option maxRecDepth 100000 in
theorem topS_some (b h : Nat) (F v : Value) (m : Int) (l : List (ByteArray × Int)) (x : ByteArray × Int) (w : World) (hx : Hid (l[0]? = some x)) (hH : Hid (HpS w b h F v m l)) :
    Calls Try.prog 40 #[.pointer (some ⟨h, 0, none⟩)] w fun e w' => e = .returned (.tuple #[vS x.1, .bool true]) ∧ Below w.heap.size w w' := by
  obtain ⟨h0, hx0⟩ := List.getElem?_eq_some_iff.1 hx.out
  obtain ⟨A, c, hv, hc1, hc2, har⟩ := hH.out.sl
  obtain ⟨g, hA, hgh, hr⟩ := har 0 h0
  subst hv hA
  rw [hx0, Nat.zero_mul] at hr
  have HR := Lib.hid hr
  have K1 := Lib.hid (fun (W : World) (hb : Below w.heap.size w W) => lenS_any b h F _ m l W (Lib.hid (hH.out.below hb)))
  have hne : ((l.length : Int) == 0) = false := by simp; intro e; rw [e] at h0; simp at h0
  have hc : w.cell? ⟨h, 1, none⟩ = some (.slice (some ⟨g, 0, none⟩) l.length c) := hH.out.bk.cellAt 1
  have hlt : h < w.heap.size := hH.out.bk.here
  have hglt : g < w.heap.size := range_lt hr (by simp)
  have hlt1 : h < w.heap.size + 1 := by omega
  have hglt1 : g < w.heap.size + 1 := by omega
  have hc0 : w.cell? ⟨g, 0, none⟩ = some (.string x.1) := HR.out 0 _ rfl
  clear hr har hx0
  go_enter Try.func40, Try.ntmps40
  go_wp2_with fail
  refine (K1.out _ (Below.refl _ _)).mono ?_; rintro e w1 ⟨rfl, hw1⟩; rw [hw1]; clear hw1 w1
  go_wp2_with fail
  exact bodyPost_ret (v := .tuple #[vS x.1, .bool true]) (by simp [results, Try.results40, go_sem]) rfl ⟨rfl, Below.refl _ _⟩
set_option maxHeartbeats 1600000 in
set_option maxRecDepth 100000 in
theorem topS_none (r : Value) (w : World) (hr : Hid (∀ W, Below w.heap.size w W → Calls Try.prog 38 #[r] W fun e w' => e = .returned (.int .i64 0) ∧ w' = W)) :
    Calls Try.prog 40 #[r] w fun e w' => e = .returned (.tuple #[zS, .bool false]) ∧ Below w.heap.size w w' := by
  go_enter Try.func40, Try.ntmps40
  go_wp2_with fail
  refine (hr.out _ (Below.refl _ _)).mono ?_; rintro e w1 ⟨rfl, hw1⟩; rw [hw1]; clear hw1 w1
  go_wp2_with fail
  exact bodyPost_ret (v := .tuple #[zS, .bool false]) (by simp [results, Try.results40, go_sem]) rfl ⟨rfl, Below.refl _ _⟩
theorem topS_nil (w : World) : Calls Try.prog 40 #[.pointer none] w fun e w' => e = .returned (.tuple #[zS, .bool false]) ∧ Below w.heap.size w w' := topS_none _ w fun W _ => lenS_nil W
theorem topS_empty (b h : Nat) (F v : Value) (m : Int) (w : World) (hH : Hid (HpS w b h F v m [])) : Calls Try.prog 40 #[.pointer (some ⟨h, 0, none⟩)] w fun e w' => e = .returned (.tuple #[zS, .bool false]) ∧ Below w.heap.size w w' :=
  topS_none _ w fun W hb => lenS_any b h F v m [] W (Lib.hid (hH.out.below hb))
set_option maxHeartbeats 3200000 in
set_option maxRecDepth 100000 in
theorem delS_far (base g c i : Nat) (l S : List (List Value)) (w : World) (hl : Hid (l.length = i + 1)) (hbig : i + 1 ≤ 1000) (hR : Hid (RowK w g 73 2 (l ++ S))) (hS : Hid (i + 1 + S.length = c)) (hnc : i + 1 ≤ c) (hbg : Hid (base ≤ g)) (hc2 : c ≤ 9223372036854775807) (hc3 : Hid (c ≤ maxLen)) (hce : ¬ (c = i + 1)) :
    Calls Try.prog 41 #[.slice (some ⟨g, 0, none⟩) (i + 1) c, .int .i64 i, .int .i64 ((i : Int) + 1)] w fun e w' => e = .returned (.slice (some ⟨g, 0, none⟩) i c) ∧ OwnK w' base 73 2 (.slice (some ⟨g, 0, none⟩) i c) (l.take i) ∧ w.grownBy w' (some g) ∧ w'.heap.size = w.heap.size := by
  have hL : Hid ((l ++ S).length = c) := by show _ = _; rw [List.length_append, hl.out]; exact hS.out
  have hne1 : ((i : Int) == (i : Int) + 1) = false := by simp; omega
  have hb1 : (0 : Int) ≤ (i : Int) + 1 := by omega
  have hin : i ≤ i + 1 := by omega
  have htn : ((i : Int) + 1).toNat = i + 1 := by omega
  have hb3 : (i : Int) + 1 ≤ (i : Int) + 1 := by omega
  have hb5 : ¬ (c = i) := by omega
  have hic : i ≤ c := by omega
  have hb7 : (i : Int) ≤ (i : Int) + 1 := by omega
  have hb8 : (i : Int) + 1 ≤ (c : Int) := by omega
  go_enter Try.func41, Try.ntmps41
  go_wp2_with fail
  go_region_law (refine step_room_k rfl (.tmp 22) (.tmp 25) 50 rfl 73 2 Try.underlying50 (by kernel_rfl) g i c (l ++ S) hR.out.drew (by simp [Act.eval, Act.put]) ⟨g, (i + 1) * 2, none⟩ 0 (c - (i + 1)) (by simp [Act.eval, Act.put]) [] (by simp) (by simp) rfl (by simp) i (by omega) (by omega) (by rw [hL.out]; omega) ?_; intro w1 r1 g1 z1)
  have T := Lib.hid (drew_grown g1)
  have R1 := Lib.hid r1
  have Z1 : Hid (w1.heap.size = w.heap.size) := z1
  clear g1 r1 z1
  go_wp2_with (first
    | (with_reducible refine clear1_k _ rfl (.tmp 31) 50 rfl 73 _ 2 24 Try.underlying50 infoES rfl (by omega) oneZS g i (i * 2) _ rfl _ R1.out _ rfl (by omega) (by have h1 := hL.out; have h3 := hl.out; have h4 := hS.out; simp only [List.append_nil] at *; simp only [List.length_append, List.length_take, List.length_drop] at *; omega) ?_; intro w2 zx r2 g2 z2))
  all_goals go_ret
  all_goals
    have q := r2.own (n := i) (c := c) hbg.out (by have h1 := hL.out; have h3 := hl.out; have h4 := hS.out; simp only [List.length_append, List.length_take, List.length_drop, List.length_singleton, List.length_nil] at *; omega) hc3.out (by omega)
    have e : (((l ++ S).take i ++ [] ++ (l ++ S).drop i).take i ++ [zx] ++ ((l ++ S).take i ++ [] ++ (l ++ S).drop i).drop (i + 1)).take i = l.take i := by
      have h3 := hl.out
      rw [List.append_nil, List.take_append_drop, List.append_assoc, List.take_append_of_le_length (by rw [List.length_take, List.length_append]; omega), List.take_take, Nat.min_self, List.take_append_of_le_length (by omega)]
    rw [e] at q
    exact ⟨rfl, q, ⟨g2.os.trans T.out.os, g2.tape.trans T.out.tape, g2.output.trans T.out.output, Nat.le_trans T.out.size g2.size, fun k hk hn => (g2.block k (Nat.lt_of_lt_of_le hk T.out.size) hn).trans (T.out.block k hk hn)⟩, z2.trans Z1.out⟩
set_option maxHeartbeats 3200000 in
set_option maxRecDepth 100000 in
theorem delS_near (base g i : Nat) (l : List (List Value)) (w : World) (hl : Hid (l.length = i + 1)) (hbig : i + 1 ≤ 1000) (hR : Hid (RowK w g 73 2 l)) (hbg : Hid (base ≤ g)) (hc3 : Hid (i + 1 ≤ maxLen)) :
    Calls Try.prog 41 #[.slice (some ⟨g, 0, none⟩) (i + 1) (i + 1), .int .i64 i, .int .i64 ((i : Int) + 1)] w fun e w' => e = .returned (.slice (some ⟨g, 0, none⟩) i (i + 1)) ∧ OwnK w' base 73 2 (.slice (some ⟨g, 0, none⟩) i (i + 1)) (l.take i) ∧ w.grownBy w' (some g) ∧ w'.heap.size = w.heap.size := by
  have hne1 : ((i : Int) == (i : Int) + 1) = false := by simp; omega
  have hb1 : (0 : Int) ≤ (i : Int) + 1 := by omega
  have htn : ((i : Int) + 1).toNat = i + 1 := by omega
  have hb3 : (i : Int) + 1 ≤ (i : Int) + 1 := by omega
  have hic : i ≤ i + 1 := by omega
  have hb6 : ¬ (i + 1 = i) := by omega
  have hb7 : (i : Int) ≤ (i : Int) + 1 := by omega
  go_enter Try.func41, Try.ntmps41
  go_wp2_with fail
  go_region_law (refine step_room_k rfl (.tmp 22) (.tmp 25) 50 rfl 73 2 Try.underlying50 (by kernel_rfl) g i (i + 1) l hR.out.drew (by simp [Act.eval, Act.put]) ⟨g, 0, none⟩ 0 0 (by simp [Act.eval, Act.put]) [] (by simp) (by simp) rfl (by simp) i (by omega) (by omega) (by rw [hl.out]; omega) ?_; intro w1 r1 g1 z1)
  have T := Lib.hid (drew_grown g1)
  have R1 := Lib.hid r1
  have Z1 : Hid (w1.heap.size = w.heap.size) := z1
  clear g1 r1 z1
  go_wp2_with (first
    | (with_reducible refine clear1_k _ rfl (.tmp 31) 50 rfl 73 _ 2 24 Try.underlying50 infoES rfl (by omega) oneZS g i (i * 2) _ rfl _ R1.out _ rfl (by omega) (by have h3 := hl.out; simp only [List.append_nil] at *; simp only [List.length_append, List.length_take, List.length_drop] at *; omega) ?_; intro w2 zx r2 g2 z2))
  all_goals go_ret
  all_goals
    have q := r2.own (n := i) (c := i + 1) hbg.out (by have h3 := hl.out; simp only [List.length_append, List.length_take, List.length_drop, List.length_singleton, List.length_nil] at *; omega) hc3.out (by omega)
    have e : ((l.take i ++ [] ++ l.drop i).take i ++ [zx] ++ (l.take i ++ [] ++ l.drop i).drop (i + 1)).take i = l.take i := by
      rw [List.append_nil, List.take_append_drop, List.append_assoc, List.take_append_of_le_length (by rw [List.length_take, hl.out]; omega), List.take_take, Nat.min_self]
    rw [e] at q
    exact ⟨rfl, q, ⟨g2.os.trans T.out.os, g2.tape.trans T.out.tape, g2.output.trans T.out.output, Nat.le_trans T.out.size g2.size, fun k hk hn => (g2.block k (Nat.lt_of_lt_of_le hk T.out.size) hn).trans (T.out.block k hk hn)⟩, z2.trans Z1.out⟩
/-- The last entry is deleted out of a row that the call owns. -/
theorem delS_any (base g n c : Nat) (L : List (ByteArray × Int)) (i : Nat) (w : World) (hbig : L.length ≤ 1000) (hi : L.length = i + 1) (hO : Hid (OwnK w base 73 2 (.slice (some ⟨g, 0, none⟩) n c) (L.map eS))) :
    Calls Try.prog 41 #[.slice (some ⟨g, 0, none⟩) n c, .int .i64 i, .int .i64 ((i : Int) + 1)] w fun e w' => e = .returned (.slice (some ⟨g, 0, none⟩) i c) ∧ OwnK w' base 73 2 (.slice (some ⟨g, 0, none⟩) i c) ((L.take i).map eS) ∧ w.grownBy w' (some g) ∧ w'.heap.size = w.heap.size := by
  obtain ⟨S, hR, hS, hn, hm, hb⟩ := hO.out.whole
  rw [List.length_map] at hn hS
  have hl : (L.map eS).length = i + 1 := by rw [List.length_map]; exact hi
  rw [List.map_take]
  have hn2 : n = i + 1 := by omega
  subst hn2
  by_cases hc : c = i + 1
  · subst hc
    have hS0 : S = [] := List.length_eq_zero_iff.1 (by omega)
    subst hS0
    rw [List.append_nil] at hR
    exact delS_near base g i _ w hl (by omega) hR hb hm
  · exact delS_far base g c i _ S w hl (by omega) hR (show _ = _ by omega) (by omega) hb (by unfold maxLen at hm; omega) hm hc
end Go.Proofs.Ytkadcaihihgceaa
