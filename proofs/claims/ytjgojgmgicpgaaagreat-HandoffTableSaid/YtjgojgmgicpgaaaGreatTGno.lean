/- Operations on what isn't there: DropNode, DropQueue, Submit, Cancel, Finish, Beat; perform at these, and at AddNode. Condition: the scheduler lies in memory that the call owns; names ascend. -/
import Derived.Test.YtjgojgmgicpgaaaGreatTGan
import Derived.Test.YtjgojgmgicpgaaaGreatTGdq
import Derived.Test.YtjgojgmgicpgaaaGreatTQf
namespace Go.Proofs.YtjgojgmgicpgaaaGreat
open Go.RowKit
set_option linter.unusedSimpArgs false
set_option linter.unusedVariables false

abbrev keyQ (Q : List Qx) : List ByteArray := Q.map fun q => q.1
theorem OwnS.rdJs {w : World} {b : Nat} {vM vQ : Value} {S : Sg} {C : Option Addr} {n cC : Nat} (h : OwnS w b vM vQ (.slice C n cC) S) : RdJ w C (jbs S.J) := by
  obtain ⟨A', c, hv, hr, _⟩ := h.J.sl
  injection hv with h1; subst h1; exact hr
theorem OwnS.lenJ {w : World} {b : Nat} {vM vQ : Value} {S : Sg} {C : Option Addr} {n cC : Nat} (h : OwnS w b vM vQ (.slice C n cC) S) : n = S.J.length := by
  obtain ⟨A', c, hv, hr, _⟩ := h.J.sl
  injection hv with h1 h2; rw [h2, cellsJ_length, List.length_map]

set_option maxHeartbeats 3200000 in
set_option maxRecDepth 100000 in
theorem dropNode_no (b g : Nat) (lst : Int) (vM vQ vJ : Value) (S : Sg) (s : ByteArray) (w : World) (hG : Gs w b g lst vM vQ vJ S) (hM : Sm S) (hA : AscK (keyM S.M)) (hf : hasK s (keyM S.M) = false) :
    Calls Tryz.prog 144 #[.pointer (some ⟨g, 0, none⟩), .string s] w fun e w' => e = .returned (.tuple #[.slice none 0 0, .int .i64 7]) ∧ Below w.heap.size w w' := by
  obtain ⟨⟨ck, nx, A, N, cA, B, K0, cB, C, n, cC⟩, hva, hvr⟩ := hG.own.rd
  have hv1 : .slice A N cA = vM := congrArg (fun a : Array Value => a.getD 2 undef) hva
  have hv2 : .slice B K0 cB = vQ := congrArg (fun a : Array Value => a.getD 3 undef) hva
  have hv3 : .slice C n cC = vJ := congrArg (fun a : Array Value => a.getD 4 undef) hva
  subst hv1 hv2 hv3
  clear hva hvr
  have hl : N = S.M.length := hG.own.lenM
  have hlb : N ≤ 1000 := by rw [hl]; exact hM.M
  obtain ⟨p, hp⟩ : ∃ p, p = lbK s (keyM S.M) := ⟨_, rfl⟩
  have kf : ∀ W, RdM W A (mcs S.M) → Calls Tryz.prog 133 #[.slice A N cA, .string s, .func (.func 120) #[] #[]] W fun e w' => e = .returned (.tuple #[.int .i64 p, .bool false]) ∧ Below W.heap.size W w' := fun W h => by
    have hx := findM_any A N cA S.M s W hl h hlb hA
    rw [hf, ← hp] at hx
    exact hx
  have k1 := kf w hG.own.rdMs
  have c1 : w.cell? ⟨g, 2, none⟩ = some (.slice A N cA) := hG.bk.cellAt 2
  have K1 := Lib.hid k1
  clear k1 hG hf hl hlb hM kf hp hA
  go_enter Tryz.func144, Tryz.ntmps144
  go_wp2_with fail
  refine K1.out.mono ?_; rintro e w1 ⟨rfl, hb1⟩
  go_wp2_with fail
  exact bodyPost_ret (v := .tuple #[.slice none 0 0, .int .i64 7]) (by simp [results, Tryz.results144, go_sem]) rfl ⟨rfl, hb1⟩

set_option maxHeartbeats 3200000 in
set_option maxRecDepth 100000 in
theorem dropQueue_no (b g : Nat) (lst : Int) (vM vQ vJ : Value) (S : Sg) (s : ByteArray) (w : World) (hG : Gs w b g lst vM vQ vJ S) (hM : Sm S) (hA : AscK (keyQ S.Q)) (hf : hasK s (keyQ S.Q) = false) :
    Calls Tryz.prog 146 #[.pointer (some ⟨g, 0, none⟩), .string s] w fun e w' => e = .returned (.int .i64 7) ∧ Below w.heap.size w w' := by
  obtain ⟨⟨ck, nx, A, N, cA, B, K0, cB, C, n, cC⟩, hva, hvr⟩ := hG.own.rd
  have hv1 : .slice A N cA = vM := congrArg (fun a : Array Value => a.getD 2 undef) hva
  have hv2 : .slice B K0 cB = vQ := congrArg (fun a : Array Value => a.getD 3 undef) hva
  have hv3 : .slice C n cC = vJ := congrArg (fun a : Array Value => a.getD 4 undef) hva
  subst hv1 hv2 hv3
  clear hva hvr
  have hl : K0 = S.Q.length := hG.own.lenQ
  have hlb : K0 ≤ 1000 := by rw [hl]; exact hM.Q
  obtain ⟨p, hp⟩ : ∃ p, p = lbK s (keyQ S.Q) := ⟨_, rfl⟩
  have kf : ∀ W, RdQ W B S.Q → Calls Tryz.prog 129 #[.slice B K0 cB, .string s, .func (.func 123) #[] #[]] W fun e w' => e = .returned (.tuple #[.int .i64 p, .bool false]) ∧ Below W.heap.size W w' := fun W h => by
    have hx := findQ_any B K0 cB S.Q s W hl h hlb hA
    rw [hf, ← hp] at hx
    exact hx
  have k1 := kf w hG.own.rdQ
  have c1 : w.cell? ⟨g, 3, none⟩ = some (.slice B K0 cB) := hG.bk.cellAt 3
  have K1 := Lib.hid k1
  clear k1 hG hf hl hlb hM kf hp hA
  go_enter Tryz.func146, Tryz.ntmps146
  go_wp2_with fail
  refine K1.out.mono ?_; rintro e w1 ⟨rfl, hb1⟩
  go_wp2_with fail
  go_ret
  exact ⟨rfl, hb1⟩

set_option maxHeartbeats 3200000 in
set_option maxRecDepth 100000 in
theorem beat_no (b g : Nat) (lst : Int) (vM vQ vJ : Value) (S : Sg) (s : ByteArray) (w : World) (hG : Gs w b g lst vM vQ vJ S) (hM : Sm S) (hA : AscK (keyM S.M)) (hf : hasK s (keyM S.M) = false) :
    Calls Tryz.prog 150 #[.pointer (some ⟨g, 0, none⟩), .string s] w fun e w' => e = .returned (.int .i64 7) ∧ Below w.heap.size w w' := by
  obtain ⟨⟨ck, nx, A, N, cA, B, K0, cB, C, n, cC⟩, hva, hvr⟩ := hG.own.rd
  have hv1 : .slice A N cA = vM := congrArg (fun a : Array Value => a.getD 2 undef) hva
  have hv2 : .slice B K0 cB = vQ := congrArg (fun a : Array Value => a.getD 3 undef) hva
  have hv3 : .slice C n cC = vJ := congrArg (fun a : Array Value => a.getD 4 undef) hva
  subst hv1 hv2 hv3
  clear hva hvr
  have hl : N = S.M.length := hG.own.lenM
  have hlb : N ≤ 1000 := by rw [hl]; exact hM.M
  obtain ⟨p, hp⟩ : ∃ p, p = lbK s (keyM S.M) := ⟨_, rfl⟩
  have kf : ∀ W, RdM W A (mcs S.M) → Calls Tryz.prog 133 #[.slice A N cA, .string s, .func (.func 120) #[] #[]] W fun e w' => e = .returned (.tuple #[.int .i64 p, .bool false]) ∧ Below W.heap.size W w' := fun W h => by
    have hx := findM_any A N cA S.M s W hl h hlb hA
    rw [hf, ← hp] at hx
    exact hx
  have k1 := kf w hG.own.rdMs
  have c1 : w.cell? ⟨g, 2, none⟩ = some (.slice A N cA) := hG.bk.cellAt 2
  have K1 := Lib.hid k1
  clear k1 hG hf hl hlb hM kf hp hA
  go_enter Tryz.func150, Tryz.ntmps150
  go_wp2_with fail
  refine K1.out.mono ?_; rintro e w1 ⟨rfl, hb1⟩
  go_wp2_with fail
  go_ret
  exact ⟨rfl, hb1⟩

set_option maxHeartbeats 3200000 in
set_option maxRecDepth 100000 in
theorem cancel_no (b g : Nat) (lst : Int) (vM vQ vJ : Value) (S : Sg) (s : ByteArray) (w : World) (hG : Gs w b g lst vM vQ vJ S) (hM : Sm S) (hf : fnd s 0 (jbs S.J) = -1) :
    Calls Tryz.prog 148 #[.pointer (some ⟨g, 0, none⟩), .string s] w fun e w' => e = .returned (.tuple #[.slice none 0 0, .int .i64 7]) ∧ Below w.heap.size w w' := by
  obtain ⟨⟨ck, nx, A, N, cA, B, K0, cB, C, n, cC⟩, hva, hvr⟩ := hG.own.rd
  have hv1 : .slice A N cA = vM := congrArg (fun a : Array Value => a.getD 2 undef) hva
  have hv2 : .slice B K0 cB = vQ := congrArg (fun a : Array Value => a.getD 3 undef) hva
  have hv3 : .slice C n cC = vJ := congrArg (fun a : Array Value => a.getD 4 undef) hva
  subst hv1 hv2 hv3
  clear hva hvr
  have hl : n = S.J.length := hG.own.lenJ
  have hlb : n ≤ 1000 := by rw [hl]; exact hM.J
  have k1 := find_any C n cC (jbs S.J) s w (show _ = _ by rw [List.length_map]; exact hl) (by omega) hG.own.rdJs (-1) hf
  have c1 : w.cell? ⟨g, 4, none⟩ = some (.slice C n cC) := hG.bk.cellAt 4
  have K1 := Lib.hid k1
  clear k1 hG hf hl hlb hM 
  go_enter Tryz.func148, Tryz.ntmps148
  go_wp2_with fail
  refine K1.out.mono ?_; rintro e w1 ⟨rfl, hb1⟩
  go_wp2_with fail
  exact bodyPost_ret (v := .tuple #[.slice none 0 0, .int .i64 7]) (by simp [results, Tryz.results148, go_sem]) rfl ⟨rfl, hb1⟩

set_option maxHeartbeats 3200000 in
set_option maxRecDepth 100000 in
theorem finish_no (b g : Nat) (lst : Int) (vM vQ vJ : Value) (S : Sg) (s : ByteArray) (w : World) (hG : Gs w b g lst vM vQ vJ S) (hM : Sm S) (hf : fnd s 0 (jbs S.J) = -1) :
    Calls Tryz.prog 149 #[.pointer (some ⟨g, 0, none⟩), .string s] w fun e w' => e = .returned (.int .i64 7) ∧ Below w.heap.size w w' := by
  obtain ⟨⟨ck, nx, A, N, cA, B, K0, cB, C, n, cC⟩, hva, hvr⟩ := hG.own.rd
  have hv1 : .slice A N cA = vM := congrArg (fun a : Array Value => a.getD 2 undef) hva
  have hv2 : .slice B K0 cB = vQ := congrArg (fun a : Array Value => a.getD 3 undef) hva
  have hv3 : .slice C n cC = vJ := congrArg (fun a : Array Value => a.getD 4 undef) hva
  subst hv1 hv2 hv3
  clear hva hvr
  have hl : n = S.J.length := hG.own.lenJ
  have hlb : n ≤ 1000 := by rw [hl]; exact hM.J
  have k1 := find_any C n cC (jbs S.J) s w (show _ = _ by rw [List.length_map]; exact hl) (by omega) hG.own.rdJs (-1) hf
  have c1 : w.cell? ⟨g, 4, none⟩ = some (.slice C n cC) := hG.bk.cellAt 4
  have K1 := Lib.hid k1
  clear k1 hG hf hl hlb hM 
  go_enter Tryz.func149, Tryz.ntmps149
  go_wp2_with fail
  refine K1.out.mono ?_; rintro e w1 ⟨rfl, hb1⟩
  go_wp2_with fail
  go_ret
  exact ⟨rfl, hb1⟩

set_option maxHeartbeats 6400000 in
set_option maxRecDepth 100000 in
theorem submit_no (b g : Nat) (lst : Int) (vM vQ vJ : Value) (S : Sg) (t0 t1 : ByteArray) (t2 t3 t4 t5 : Int) (t6 : Option Addr) (t7 t8 : Nat) (t9 t10 : ByteArray) (t11 : Int) (w : World) (hG : Gs w b g lst vM vQ vJ S) (hM : Sm S) (hA : AscK (keyQ S.Q)) (hf : hasK t1 (keyQ S.Q) = false) (hj : fnd t0 0 (jbs S.J) = -1) :
    Calls Tryz.prog 147 #[.pointer (some ⟨g, 0, none⟩), .agg #[.string t0, .string t1, .int .i64 t2, .int .i64 t3, .int .i64 t4, .int .i64 t5, .slice t6 t7 t8, .string t9, .string t10, .int .i64 t11]] w fun e w' => e = .returned (.int .i64 7) ∧ Below w.heap.size w w' := by
  obtain ⟨⟨ck, nx, A, N, cA, B, K0, cB, C, n, cC⟩, hva, hvr⟩ := hG.own.rd
  have hv1 : .slice A N cA = vM := congrArg (fun a : Array Value => a.getD 2 undef) hva
  have hv2 : .slice B K0 cB = vQ := congrArg (fun a : Array Value => a.getD 3 undef) hva
  have hv3 : .slice C n cC = vJ := congrArg (fun a : Array Value => a.getD 4 undef) hva
  subst hv1 hv2 hv3
  clear hva hvr
  have hl : K0 = S.Q.length := hG.own.lenQ
  have hlb : K0 ≤ 1000 := by rw [hl]; exact hM.Q
  have hln : n = S.J.length := hG.own.lenJ
  have hlnb : n ≤ 1000 := by rw [hln]; exact hM.J
  obtain ⟨p, hp⟩ : ∃ p, p = lbK t1 (keyQ S.Q) := ⟨_, rfl⟩
  have kq : ∀ W, RdQ W B S.Q → Calls Tryz.prog 129 #[.slice B K0 cB, .string t1, .func (.func 123) #[] #[]] W fun e w' => e = .returned (.tuple #[.int .i64 p, .bool false]) ∧ Below W.heap.size W w' := fun W h => by
    have hx := findQ_any B K0 cB S.Q t1 W hl h hlb hA
    rw [hf, ← hp] at hx
    exact hx
  have kj := fun (W : World) (h : RdJ W C (jbs S.J)) => find_any C n cC (jbs S.J) t0 W (show _ = _ by rw [List.length_map]; exact hln) (by omega) h (-1) hj
  have KQ := Lib.hid kq; have KJ := Lib.hid kj
  have HS0 : Hid ((fun W => Bk W g 111 #[.int .i64 S.ck, .int .i64 lst, .slice A N cA, .slice B K0 cB, .slice C n cC] ∧ Bk W w.heap.size 57 #[.string t0, .string t1, .int .i64 t2, .int .i64 t3, .int .i64 t4, .int .i64 t5, .slice t6 t7 t8, .string t9, .string t10, .int .i64 t11] ∧ RdQ W B S.Q ∧ RdJ W C (jbs S.J) ∧ Below w.heap.size w W) (w.alloc (.cells #[.string t0, .string t1, .int .i64 t2, .int .i64 t3, .int .i64 t4, .int .i64 t5, .slice t6 t7 t8, .string t9, .string t10, .int .i64 t11] 57)).drew) := ⟨(hG.bk.later ((Below.refl _ _).alloc (Nat.le_refl _) _)).drewB, (Bk.fresh w _ _).drewB, hG.own.rdQ.later (Below.drew ((Below.refl _ _).alloc (Nat.le_refl _) _)), hG.own.rdJs.later (Below.drew ((Below.refl _ _).alloc (Nat.le_refl _) _)), Below.drew ((Below.refl _ _).alloc (Nat.le_refl _) _)⟩
  clear kq kj hp hf hj hG hl hlb hln hlnb hM hA
  go_enter Tryz.func147, Tryz.ntmps147
  go_wp2_with fail
  refine wp_region_held_drew (S := fun W => Bk W g 111 #[.int .i64 S.ck, .int .i64 lst, .slice A N cA, .slice B K0 cB, .slice C n cC] ∧ Bk W w.heap.size 57 #[.string t0, .string t1, .int .i64 t2, .int .i64 t3, .int .i64 t4, .int .i64 t5, .slice t6 t7 t8, .string t9, .string t10, .int .i64 t11] ∧ RdQ W B S.Q ∧ RdJ W C (jbs S.J) ∧ Below w.heap.size w W) (by kernel_rfl) (HS0.out) (fun hS0 => ?_)
  refine wpAnyH_take (i := 0) (v := ?_) rfl (by kernel_rfl) (by kernel_rfl) (by kernel_rfl) (fun _ _ _ h => h) (Or.inl ⟨by rfl, ?_⟩) hS0 ?_
  rotate_left
  · intro W _; go_simp; try with_reducible rfl
  try simp only [Act.put, List.getElem_toArray, List.getElem_cons_zero, List.setIfInBounds_toArray, List.set_cons_zero, List.set_cons_succ]
  refine wpAnyH_take (i := 1) (v := ?_) rfl (by kernel_rfl) (by kernel_rfl) (by kernel_rfl) (fun _ _ _ h => h) (Or.inl ⟨by rfl, ?_⟩) hS0 ?_
  rotate_left
  · intro W _; go_simp; try with_reducible rfl
  try simp only [Act.put, List.getElem_toArray, List.getElem_cons_zero, List.getElem_cons_succ, List.setIfInBounds_toArray, List.set_cons_zero, List.set_cons_succ]
  refine wpAnyH_take (i := 2) (v := ?_) rfl (by kernel_rfl) (by kernel_rfl) (by kernel_rfl) (fun _ _ _ h => h) (Or.inl ⟨by rfl, ?_⟩) hS0 ?_
  rotate_left
  · intro W _; go_simp; try with_reducible rfl
  try simp only [Act.put, List.getElem_toArray, List.getElem_cons_zero, List.getElem_cons_succ, List.setIfInBounds_toArray, List.set_cons_zero, List.set_cons_succ]
  refine wpAnyH_take (i := 3) (v := ?_) rfl (by kernel_rfl) (by kernel_rfl) (by kernel_rfl) (fun _ _ _ h => h) (Or.inl ⟨by rfl, ?_⟩) hS0 ?_
  rotate_left
  · intro W hSW; have hx := hSW.1.cellAt 3; go_simp; try with_reducible rfl
  try simp only [Act.put, List.getElem_toArray, List.getElem_cons_zero, List.getElem_cons_succ, List.setIfInBounds_toArray, List.set_cons_zero, List.set_cons_succ]
  refine wpAnyH_take (i := 4) (v := ?_) rfl (by kernel_rfl) (by kernel_rfl) (by kernel_rfl) (fun _ _ _ h => h) (Or.inl ⟨by rfl, ?_⟩) hS0 ?_
  rotate_left
  · intro W _; go_simp; try with_reducible rfl
  try simp only [Act.put, List.getElem_toArray, List.getElem_cons_zero, List.getElem_cons_succ, List.setIfInBounds_toArray, List.set_cons_zero, List.set_cons_succ]
  refine wpAnyH_take (i := 5) (v := ?_) rfl (by kernel_rfl) (by kernel_rfl) (by kernel_rfl) (fun _ _ _ h => h) (Or.inl ⟨by rfl, ?_⟩) hS0 ?_
  rotate_left
  · intro W hSW; have hx := hSW.2.1.cellAt 1; go_simp; try with_reducible rfl
  try simp only [Act.put, List.getElem_toArray, List.getElem_cons_zero, List.getElem_cons_succ, List.setIfInBounds_toArray, List.set_cons_zero, List.set_cons_succ]
  refine wpAnyH_ready (rs := [6]) (by kernel_rfl) (by simp) ?_
  refine AllReadyH.cons rfl (fun K hK => ?_) AllReadyH.nil
  go_simp
  refine (KQ.out _ hS0.2.2.1).mono ?_
  rintro e w1 ⟨rfl, hb1⟩
  go_simp
  refine hK.out _ _ (⟨hS0.1.later hb1, hS0.2.1.later hb1, hS0.2.2.1.later hb1, hS0.2.2.2.1.later hb1, hS0.2.2.2.2.trans (hb1.mono hS0.2.2.2.2.size)⟩) (fun hS1 => ?_)
  clear hK K
  try simp only [Act.put, List.getElem_toArray, List.getElem_cons_zero, List.getElem_cons_succ, List.setIfInBounds_toArray, List.set_cons_zero, List.set_cons_succ]
  refine wpAnyH_take (i := 7) (v := ?_) rfl (by kernel_rfl) (by kernel_rfl) (by kernel_rfl) (fun _ _ _ h => h) (Or.inl ⟨by rfl, ?_⟩) hS1 ?_
  rotate_left
  · intro W _; go_simp; try with_reducible rfl
  try simp only [Act.put, List.getElem_toArray, List.getElem_cons_zero, List.getElem_cons_succ, List.setIfInBounds_toArray, List.set_cons_zero, List.set_cons_succ]
  refine wpAnyH_take (i := 8) (v := ?_) rfl (by kernel_rfl) (by kernel_rfl) (by kernel_rfl) (fun _ _ _ h => h) (Or.inl ⟨by rfl, ?_⟩) hS1 ?_
  rotate_left
  · intro W _; go_simp; try with_reducible rfl
  try simp only [Act.put, List.getElem_toArray, List.getElem_cons_zero, List.getElem_cons_succ, List.setIfInBounds_toArray, List.set_cons_zero, List.set_cons_succ]
  refine wpAnyH_take (i := 10) (v := ?_) rfl (by kernel_rfl) (by kernel_rfl) (by kernel_rfl) (fun _ _ _ h => h) (Or.inl ⟨by rfl, ?_⟩) hS1 ?_
  rotate_left
  · intro W _; go_simp; try with_reducible rfl
  try simp only [Act.put, List.getElem_toArray, List.getElem_cons_zero, List.getElem_cons_succ, List.setIfInBounds_toArray, List.set_cons_zero, List.set_cons_succ]
  refine wpAnyH_take (i := 9) (v := ?_) rfl (by kernel_rfl) (by kernel_rfl) (by kernel_rfl) (fun _ _ _ h => h) (Or.inl ⟨by rfl, ?_⟩) hS1 ?_
  rotate_left
  · intro W _; go_simp; try with_reducible rfl
  try simp only [Act.put, List.getElem_toArray, List.getElem_cons_zero, List.getElem_cons_succ, List.setIfInBounds_toArray, List.set_cons_zero, List.set_cons_succ]
  refine wpAnyH_take (i := 11) (v := ?_) rfl (by kernel_rfl) (by kernel_rfl) (by kernel_rfl) (fun _ _ _ h => h) (Or.inl ⟨by rfl, ?_⟩) hS1 ?_
  rotate_left
  · intro W _; go_simp; try with_reducible rfl
  try simp only [Act.put, List.getElem_toArray, List.getElem_cons_zero, List.getElem_cons_succ, List.setIfInBounds_toArray, List.set_cons_zero, List.set_cons_succ]
  refine wpAnyH_done (by kernel_rfl) ?_ _
  clear hS0
  have hS9 := hS1
  clear hS1
  go_wp2_with fail
  refine wp_region_held_drew (S := fun W => Bk W g 111 #[.int .i64 S.ck, .int .i64 lst, .slice A N cA, .slice B K0 cB, .slice C n cC] ∧ Bk W w.heap.size 57 #[.string t0, .string t1, .int .i64 t2, .int .i64 t3, .int .i64 t4, .int .i64 t5, .slice t6 t7 t8, .string t9, .string t10, .int .i64 t11] ∧ RdQ W B S.Q ∧ RdJ W C (jbs S.J) ∧ Below w.heap.size w W) (by kernel_rfl) (⟨hS9.1.drewB, hS9.2.1.drewB, hS9.2.2.1, hS9.2.2.2.1, Below.drew hS9.2.2.2.2⟩) (fun hS0 => ?_)
  refine wpAnyH_take (i := 0) (v := ?_) rfl (by kernel_rfl) (by kernel_rfl) (by kernel_rfl) (fun _ _ _ h => h) (Or.inl ⟨by rfl, ?_⟩) hS0 ?_
  rotate_left
  · intro W _; go_simp; try with_reducible rfl
  try simp only [Act.put, List.getElem_toArray, List.getElem_cons_zero, List.setIfInBounds_toArray, List.set_cons_zero, List.set_cons_succ]
  refine wpAnyH_take (i := 1) (v := ?_) rfl (by kernel_rfl) (by kernel_rfl) (by kernel_rfl) (fun _ _ _ h => h) (Or.inl ⟨by rfl, ?_⟩) hS0 ?_
  rotate_left
  · intro W _; go_simp; try with_reducible rfl
  try simp only [Act.put, List.getElem_toArray, List.getElem_cons_zero, List.getElem_cons_succ, List.setIfInBounds_toArray, List.set_cons_zero, List.set_cons_succ]
  refine wpAnyH_take (i := 2) (v := ?_) rfl (by kernel_rfl) (by kernel_rfl) (by kernel_rfl) (fun _ _ _ h => h) (Or.inl ⟨by rfl, ?_⟩) hS0 ?_
  rotate_left
  · intro W _; go_simp; try with_reducible rfl
  try simp only [Act.put, List.getElem_toArray, List.getElem_cons_zero, List.getElem_cons_succ, List.setIfInBounds_toArray, List.set_cons_zero, List.set_cons_succ]
  refine wpAnyH_take (i := 3) (v := ?_) rfl (by kernel_rfl) (by kernel_rfl) (by kernel_rfl) (fun _ _ _ h => h) (Or.inl ⟨by rfl, ?_⟩) hS0 ?_
  rotate_left
  · intro W hSW; have hx := hSW.1.cellAt 4; go_simp; try with_reducible rfl
  try simp only [Act.put, List.getElem_toArray, List.getElem_cons_zero, List.getElem_cons_succ, List.setIfInBounds_toArray, List.set_cons_zero, List.set_cons_succ]
  refine wpAnyH_take (i := 4) (v := ?_) rfl (by kernel_rfl) (by kernel_rfl) (by kernel_rfl) (fun _ _ _ h => h) (Or.inl ⟨by rfl, ?_⟩) hS0 ?_
  rotate_left
  · intro W _; go_simp; try with_reducible rfl
  try simp only [Act.put, List.getElem_toArray, List.getElem_cons_zero, List.getElem_cons_succ, List.setIfInBounds_toArray, List.set_cons_zero, List.set_cons_succ]
  refine wpAnyH_take (i := 5) (v := ?_) rfl (by kernel_rfl) (by kernel_rfl) (by kernel_rfl) (fun _ _ _ h => h) (Or.inl ⟨by rfl, ?_⟩) hS0 ?_
  rotate_left
  · intro W hSW; have hx := hSW.2.1.cellAt 0; go_simp; try with_reducible rfl
  try simp only [Act.put, List.getElem_toArray, List.getElem_cons_zero, List.getElem_cons_succ, List.setIfInBounds_toArray, List.set_cons_zero, List.set_cons_succ]
  refine wpAnyH_ready (rs := [6]) (by kernel_rfl) (by simp) ?_
  refine AllReadyH.cons rfl (fun K hK => ?_) AllReadyH.nil
  go_simp
  refine (KJ.out _ hS0.2.2.2.1).mono ?_
  rintro e w2 ⟨rfl, hb2⟩
  go_simp
  refine hK.out _ _ (⟨hS0.1.later hb2, hS0.2.1.later hb2, hS0.2.2.1.later hb2, hS0.2.2.2.1.later hb2, hS0.2.2.2.2.trans (hb2.mono hS0.2.2.2.2.size)⟩) (fun hS1 => ?_)
  clear hK K
  try simp only [Act.put, List.getElem_toArray, List.getElem_cons_zero, List.getElem_cons_succ, List.setIfInBounds_toArray, List.set_cons_zero, List.set_cons_succ]
  refine wpAnyH_take (i := 7) (v := ?_) rfl (by kernel_rfl) (by kernel_rfl) (by kernel_rfl) (fun _ _ _ h => h) (Or.inl ⟨by rfl, ?_⟩) hS1 ?_
  rotate_left
  · intro W _; go_simp; try with_reducible rfl
  try simp only [Act.put, List.getElem_toArray, List.getElem_cons_zero, List.getElem_cons_succ, List.setIfInBounds_toArray, List.set_cons_zero, List.set_cons_succ]
  refine wpAnyH_take (i := 8) (v := ?_) rfl (by kernel_rfl) (by kernel_rfl) (by kernel_rfl) (fun _ _ _ h => h) (Or.inl ⟨by rfl, ?_⟩) hS1 ?_
  rotate_left
  · intro W _; go_simp; try with_reducible rfl
  try simp only [Act.put, List.getElem_toArray, List.getElem_cons_zero, List.getElem_cons_succ, List.setIfInBounds_toArray, List.set_cons_zero, List.set_cons_succ]
  refine wpAnyH_done (by kernel_rfl) ?_ _
  have hbz := hS1.2.2.2.2
  go_wp2_with fail
  go_ret
  exact ⟨rfl, hbz⟩

set_option maxHeartbeats 6400000 in
set_option maxRecDepth 100000 in
theorem perform_no2 (b g : Nat) (vM vQ vJ : Value) (S : Sg) (x : Oz) (hk : x.v.k = 2) (hM : Sm S) (hA : AscK (keyM S.M)) (hf : hasK x.v.s (keyM S.M) = false) : Performs b g vM vQ vJ S x (S, 7, []) := by
  intro w hG hx
  have k1 := fun (W : World) (h : ∃ lst, Gs W b g lst vM vQ vJ S) => h.elim fun lst h => dropNode_no b g lst vM vQ vJ S x.v.s W h hM hA hf
  have K1 := Lib.hid k1; have HG := Lib.hid hG
  clear k1 hG hx hf hM hA 
  obtain ⟨⟨k, nn, a1, b1, c1, l1, qn, a2, b2, c2, tn, tq, tp, a3, b3, c3, l3, ta, tg, ts, s⟩, A1, m1, p1, A3, m3, p3⟩ := x
  simp only at hk
  subst hk
  have HO0 : Hid (Bk (w.alloc (.cells #[.int .i64 2, .string nn, .int .i64 a1, .int .i64 b1, .int .i64 c1, .slice A1 m1 p1, .string qn, .int .i64 a2, .int .i64 b2, .int .i64 c2, .string tn, .string tq, .int .i64 tp, .int .i64 a3, .int .i64 b3, .int .i64 c3, .slice A3 m3 p3, .string ta, .string tg, .int .i64 ts, .string s] 59)) w.heap.size 59 #[.int .i64 2, .string nn, .int .i64 a1, .int .i64 b1, .int .i64 c1, .slice A1 m1 p1, .string qn, .int .i64 a2, .int .i64 b2, .int .i64 c2, .string tn, .string tq, .int .i64 tp, .int .i64 a3, .int .i64 b3, .int .i64 c3, .slice A3 m3 p3, .string ta, .string tg, .int .i64 ts, .string s]) := Bk.fresh w _ _
  have hB0 : Below w.heap.size w (w.alloc (.cells #[.int .i64 2, .string nn, .int .i64 a1, .int .i64 b1, .int .i64 c1, .slice A1 m1 p1, .string qn, .int .i64 a2, .int .i64 b2, .int .i64 c2, .string tn, .string tq, .int .i64 tp, .int .i64 a3, .int .i64 b3, .int .i64 c3, .slice A3 m3 p3, .string ta, .string tg, .int .i64 ts, .string s] 59)) := (Below.refl _ _).alloc (Nat.le_refl _) _
  go_enter Tryz.func63, Tryz.ntmps63
  go_wp2_with fail
  refine (K1.out _ (HG.out.elim fun lst h => ⟨lst, h.below hB0⟩)).mono ?_; rintro e w2 ⟨rfl, hb2⟩
  have hbz : Below w.heap.size w w2 := hB0.trans (hb2.mono hB0.size)
  go_wp2_with fail
  exact bodyPost_ret (v := .tuple #[.slice none 0 0, .int .i64 7]) (by simp [results, Tryz.results63, go_sem]) rfl ⟨⟨none, 0, 0, rfl, RetL.nil _ _⟩, HG.out.elim fun lst h => Went.same h hbz⟩

set_option maxHeartbeats 6400000 in
set_option maxRecDepth 100000 in
theorem perform_no4 (b g : Nat) (vM vQ vJ : Value) (S : Sg) (x : Oz) (hk : x.v.k = 4) (hM : Sm S) (hA : AscK (keyQ S.Q)) (hf : hasK x.v.s (keyQ S.Q) = false) : Performs b g vM vQ vJ S x (S, 7, []) := by
  intro w hG hx
  have k1 := fun (W : World) (h : ∃ lst, Gs W b g lst vM vQ vJ S) => h.elim fun lst h => dropQueue_no b g lst vM vQ vJ S x.v.s W h hM hA hf
  have K1 := Lib.hid k1; have HG := Lib.hid hG
  clear k1 hG hx hf hM hA 
  obtain ⟨⟨k, nn, a1, b1, c1, l1, qn, a2, b2, c2, tn, tq, tp, a3, b3, c3, l3, ta, tg, ts, s⟩, A1, m1, p1, A3, m3, p3⟩ := x
  simp only at hk
  subst hk
  have HO0 : Hid (Bk (w.alloc (.cells #[.int .i64 4, .string nn, .int .i64 a1, .int .i64 b1, .int .i64 c1, .slice A1 m1 p1, .string qn, .int .i64 a2, .int .i64 b2, .int .i64 c2, .string tn, .string tq, .int .i64 tp, .int .i64 a3, .int .i64 b3, .int .i64 c3, .slice A3 m3 p3, .string ta, .string tg, .int .i64 ts, .string s] 59)) w.heap.size 59 #[.int .i64 4, .string nn, .int .i64 a1, .int .i64 b1, .int .i64 c1, .slice A1 m1 p1, .string qn, .int .i64 a2, .int .i64 b2, .int .i64 c2, .string tn, .string tq, .int .i64 tp, .int .i64 a3, .int .i64 b3, .int .i64 c3, .slice A3 m3 p3, .string ta, .string tg, .int .i64 ts, .string s]) := Bk.fresh w _ _
  have hB0 : Below w.heap.size w (w.alloc (.cells #[.int .i64 4, .string nn, .int .i64 a1, .int .i64 b1, .int .i64 c1, .slice A1 m1 p1, .string qn, .int .i64 a2, .int .i64 b2, .int .i64 c2, .string tn, .string tq, .int .i64 tp, .int .i64 a3, .int .i64 b3, .int .i64 c3, .slice A3 m3 p3, .string ta, .string tg, .int .i64 ts, .string s] 59)) := (Below.refl _ _).alloc (Nat.le_refl _) _
  go_enter Tryz.func63, Tryz.ntmps63
  go_wp2_with fail
  refine (K1.out _ (HG.out.elim fun lst h => ⟨lst, h.below hB0⟩)).mono ?_; rintro e w2 ⟨rfl, hb2⟩
  have hbz : Below w.heap.size w w2 := hB0.trans (hb2.mono hB0.size)
  go_wp2_with fail
  exact bodyPost_ret (v := .tuple #[.slice none 0 0, .int .i64 7]) (by simp [results, Tryz.results63, go_sem]) rfl ⟨⟨none, 0, 0, rfl, RetL.nil _ _⟩, HG.out.elim fun lst h => Went.same h hbz⟩

set_option maxHeartbeats 6400000 in
set_option maxRecDepth 100000 in
theorem perform_no6 (b g : Nat) (vM vQ vJ : Value) (S : Sg) (x : Oz) (hk : x.v.k = 6) (hM : Sm S) (hf : fnd x.v.s 0 (jbs S.J) = -1) : Performs b g vM vQ vJ S x (S, 7, []) := by
  intro w hG hx
  have k1 := fun (W : World) (h : ∃ lst, Gs W b g lst vM vQ vJ S) => h.elim fun lst h => cancel_no b g lst vM vQ vJ S x.v.s W h hM hf
  have K1 := Lib.hid k1; have HG := Lib.hid hG
  clear k1 hG hx hf hM  
  obtain ⟨⟨k, nn, a1, b1, c1, l1, qn, a2, b2, c2, tn, tq, tp, a3, b3, c3, l3, ta, tg, ts, s⟩, A1, m1, p1, A3, m3, p3⟩ := x
  simp only at hk
  subst hk
  have HO0 : Hid (Bk (w.alloc (.cells #[.int .i64 6, .string nn, .int .i64 a1, .int .i64 b1, .int .i64 c1, .slice A1 m1 p1, .string qn, .int .i64 a2, .int .i64 b2, .int .i64 c2, .string tn, .string tq, .int .i64 tp, .int .i64 a3, .int .i64 b3, .int .i64 c3, .slice A3 m3 p3, .string ta, .string tg, .int .i64 ts, .string s] 59)) w.heap.size 59 #[.int .i64 6, .string nn, .int .i64 a1, .int .i64 b1, .int .i64 c1, .slice A1 m1 p1, .string qn, .int .i64 a2, .int .i64 b2, .int .i64 c2, .string tn, .string tq, .int .i64 tp, .int .i64 a3, .int .i64 b3, .int .i64 c3, .slice A3 m3 p3, .string ta, .string tg, .int .i64 ts, .string s]) := Bk.fresh w _ _
  have hB0 : Below w.heap.size w (w.alloc (.cells #[.int .i64 6, .string nn, .int .i64 a1, .int .i64 b1, .int .i64 c1, .slice A1 m1 p1, .string qn, .int .i64 a2, .int .i64 b2, .int .i64 c2, .string tn, .string tq, .int .i64 tp, .int .i64 a3, .int .i64 b3, .int .i64 c3, .slice A3 m3 p3, .string ta, .string tg, .int .i64 ts, .string s] 59)) := (Below.refl _ _).alloc (Nat.le_refl _) _
  go_enter Tryz.func63, Tryz.ntmps63
  go_wp2_with fail
  refine (K1.out _ (HG.out.elim fun lst h => ⟨lst, h.below hB0⟩)).mono ?_; rintro e w2 ⟨rfl, hb2⟩
  have hbz : Below w.heap.size w w2 := hB0.trans (hb2.mono hB0.size)
  go_wp2_with fail
  exact bodyPost_ret (v := .tuple #[.slice none 0 0, .int .i64 7]) (by simp [results, Tryz.results63, go_sem]) rfl ⟨⟨none, 0, 0, rfl, RetL.nil _ _⟩, HG.out.elim fun lst h => Went.same h hbz⟩

set_option maxHeartbeats 6400000 in
set_option maxRecDepth 100000 in
theorem perform_no7 (b g : Nat) (vM vQ vJ : Value) (S : Sg) (x : Oz) (hk : x.v.k = 7) (hM : Sm S) (hf : fnd x.v.s 0 (jbs S.J) = -1) : Performs b g vM vQ vJ S x (S, 7, []) := by
  intro w hG hx
  have k1 := fun (W : World) (h : ∃ lst, Gs W b g lst vM vQ vJ S) => h.elim fun lst h => finish_no b g lst vM vQ vJ S x.v.s W h hM hf
  have K1 := Lib.hid k1; have HG := Lib.hid hG
  clear k1 hG hx hf hM  
  obtain ⟨⟨k, nn, a1, b1, c1, l1, qn, a2, b2, c2, tn, tq, tp, a3, b3, c3, l3, ta, tg, ts, s⟩, A1, m1, p1, A3, m3, p3⟩ := x
  simp only at hk
  subst hk
  have HO0 : Hid (Bk (w.alloc (.cells #[.int .i64 7, .string nn, .int .i64 a1, .int .i64 b1, .int .i64 c1, .slice A1 m1 p1, .string qn, .int .i64 a2, .int .i64 b2, .int .i64 c2, .string tn, .string tq, .int .i64 tp, .int .i64 a3, .int .i64 b3, .int .i64 c3, .slice A3 m3 p3, .string ta, .string tg, .int .i64 ts, .string s] 59)) w.heap.size 59 #[.int .i64 7, .string nn, .int .i64 a1, .int .i64 b1, .int .i64 c1, .slice A1 m1 p1, .string qn, .int .i64 a2, .int .i64 b2, .int .i64 c2, .string tn, .string tq, .int .i64 tp, .int .i64 a3, .int .i64 b3, .int .i64 c3, .slice A3 m3 p3, .string ta, .string tg, .int .i64 ts, .string s]) := Bk.fresh w _ _
  have hB0 : Below w.heap.size w (w.alloc (.cells #[.int .i64 7, .string nn, .int .i64 a1, .int .i64 b1, .int .i64 c1, .slice A1 m1 p1, .string qn, .int .i64 a2, .int .i64 b2, .int .i64 c2, .string tn, .string tq, .int .i64 tp, .int .i64 a3, .int .i64 b3, .int .i64 c3, .slice A3 m3 p3, .string ta, .string tg, .int .i64 ts, .string s] 59)) := (Below.refl _ _).alloc (Nat.le_refl _) _
  go_enter Tryz.func63, Tryz.ntmps63
  go_wp2_with fail
  refine (K1.out _ (HG.out.elim fun lst h => ⟨lst, h.below hB0⟩)).mono ?_; rintro e w2 ⟨rfl, hb2⟩
  have hbz : Below w.heap.size w w2 := hB0.trans (hb2.mono hB0.size)
  go_wp2_with fail
  exact bodyPost_ret (v := .tuple #[.slice none 0 0, .int .i64 7]) (by simp [results, Tryz.results63, go_sem]) rfl ⟨⟨none, 0, 0, rfl, RetL.nil _ _⟩, HG.out.elim fun lst h => Went.same h hbz⟩

set_option maxHeartbeats 6400000 in
set_option maxRecDepth 100000 in
theorem perform_no8 (b g : Nat) (vM vQ vJ : Value) (S : Sg) (x : Oz) (hk : x.v.k = 8) (hM : Sm S) (hA : AscK (keyM S.M)) (hf : hasK x.v.s (keyM S.M) = false) : Performs b g vM vQ vJ S x (S, 7, []) := by
  intro w hG hx
  have k1 := fun (W : World) (h : ∃ lst, Gs W b g lst vM vQ vJ S) => h.elim fun lst h => beat_no b g lst vM vQ vJ S x.v.s W h hM hA hf
  have K1 := Lib.hid k1; have HG := Lib.hid hG
  clear k1 hG hx hf hM hA 
  obtain ⟨⟨k, nn, a1, b1, c1, l1, qn, a2, b2, c2, tn, tq, tp, a3, b3, c3, l3, ta, tg, ts, s⟩, A1, m1, p1, A3, m3, p3⟩ := x
  simp only at hk
  subst hk
  have HO0 : Hid (Bk (w.alloc (.cells #[.int .i64 8, .string nn, .int .i64 a1, .int .i64 b1, .int .i64 c1, .slice A1 m1 p1, .string qn, .int .i64 a2, .int .i64 b2, .int .i64 c2, .string tn, .string tq, .int .i64 tp, .int .i64 a3, .int .i64 b3, .int .i64 c3, .slice A3 m3 p3, .string ta, .string tg, .int .i64 ts, .string s] 59)) w.heap.size 59 #[.int .i64 8, .string nn, .int .i64 a1, .int .i64 b1, .int .i64 c1, .slice A1 m1 p1, .string qn, .int .i64 a2, .int .i64 b2, .int .i64 c2, .string tn, .string tq, .int .i64 tp, .int .i64 a3, .int .i64 b3, .int .i64 c3, .slice A3 m3 p3, .string ta, .string tg, .int .i64 ts, .string s]) := Bk.fresh w _ _
  have hB0 : Below w.heap.size w (w.alloc (.cells #[.int .i64 8, .string nn, .int .i64 a1, .int .i64 b1, .int .i64 c1, .slice A1 m1 p1, .string qn, .int .i64 a2, .int .i64 b2, .int .i64 c2, .string tn, .string tq, .int .i64 tp, .int .i64 a3, .int .i64 b3, .int .i64 c3, .slice A3 m3 p3, .string ta, .string tg, .int .i64 ts, .string s] 59)) := (Below.refl _ _).alloc (Nat.le_refl _) _
  go_enter Tryz.func63, Tryz.ntmps63
  go_wp2_with fail
  refine (K1.out _ (HG.out.elim fun lst h => ⟨lst, h.below hB0⟩)).mono ?_; rintro e w2 ⟨rfl, hb2⟩
  have hbz : Below w.heap.size w w2 := hB0.trans (hb2.mono hB0.size)
  go_wp2_with fail
  exact bodyPost_ret (v := .tuple #[.slice none 0 0, .int .i64 7]) (by simp [results, Tryz.results63, go_sem]) rfl ⟨⟨none, 0, 0, rfl, RetL.nil _ _⟩, HG.out.elim fun lst h => Went.same h hbz⟩

set_option maxHeartbeats 6400000 in
set_option maxRecDepth 100000 in
theorem perform_no5 (b g : Nat) (vM vQ vJ : Value) (S : Sg) (x : Oz) (hk : x.v.k = 5) (hM : Sm S) (hA : AscK (keyQ S.Q)) (hf : hasK x.v.tq (keyQ S.Q) = false) (hj : fnd x.v.tn 0 (jbs S.J) = -1) : Performs b g vM vQ vJ S x (S, 7, []) := by
  intro w hG hx
  have k1 := fun (W : World) (h : ∃ lst, Gs W b g lst vM vQ vJ S) => h.elim fun lst h => submit_no b g lst vM vQ vJ S x.v.tn x.v.tq x.v.tp x.v.a3 x.v.b3 x.v.c3 x.A3 x.m3 x.p3 x.v.ta x.v.tg x.v.ts W h hM hA hf hj
  have K1 := Lib.hid k1; have HG := Lib.hid hG
  clear k1 hG hx hf hM hA hj
  obtain ⟨⟨k, nn, a1, b1, c1, l1, qn, a2, b2, c2, tn, tq, tp, a3, b3, c3, l3, ta, tg, ts, s⟩, A1, m1, p1, A3, m3, p3⟩ := x
  simp only at hk
  subst hk
  have HO0 : Hid (Bk (w.alloc (.cells #[.int .i64 5, .string nn, .int .i64 a1, .int .i64 b1, .int .i64 c1, .slice A1 m1 p1, .string qn, .int .i64 a2, .int .i64 b2, .int .i64 c2, .string tn, .string tq, .int .i64 tp, .int .i64 a3, .int .i64 b3, .int .i64 c3, .slice A3 m3 p3, .string ta, .string tg, .int .i64 ts, .string s] 59)) w.heap.size 59 #[.int .i64 5, .string nn, .int .i64 a1, .int .i64 b1, .int .i64 c1, .slice A1 m1 p1, .string qn, .int .i64 a2, .int .i64 b2, .int .i64 c2, .string tn, .string tq, .int .i64 tp, .int .i64 a3, .int .i64 b3, .int .i64 c3, .slice A3 m3 p3, .string ta, .string tg, .int .i64 ts, .string s]) := Bk.fresh w _ _
  have hB0 : Below w.heap.size w (w.alloc (.cells #[.int .i64 5, .string nn, .int .i64 a1, .int .i64 b1, .int .i64 c1, .slice A1 m1 p1, .string qn, .int .i64 a2, .int .i64 b2, .int .i64 c2, .string tn, .string tq, .int .i64 tp, .int .i64 a3, .int .i64 b3, .int .i64 c3, .slice A3 m3 p3, .string ta, .string tg, .int .i64 ts, .string s] 59)) := (Below.refl _ _).alloc (Nat.le_refl _) _
  go_enter Tryz.func63, Tryz.ntmps63
  go_wp2_with ((with_reducible refine load_bk rfl 57 _ rfl w.heap.size 10 rfl 59 #[.int .i64 5, .string nn, .int .i64 a1, .int .i64 b1, .int .i64 c1, .slice A1 m1 p1, .string qn, .int .i64 a2, .int .i64 b2, .int .i64 c2, .string tn, .string tq, .int .i64 tp, .int .i64 a3, .int .i64 b3, .int .i64 c3, .slice A3 m3 p3, .string ta, .string tg, .int .i64 ts, .string s] #[.string tn, .string tq, .int .i64 tp, .int .i64 a3, .int .i64 b3, .int .i64 c3, .slice A3 m3 p3, .string ta, .string tg, .int .i64 ts] _ HO0.out (Part.of rfl) Tryz.underlying57 rfl (by kernel_rfl) ?_))
  refine (K1.out _ (HG.out.elim fun lst h => ⟨lst, h.below hB0⟩)).mono ?_; rintro e w2 ⟨rfl, hb2⟩
  have hbz : Below w.heap.size w w2 := hB0.trans (hb2.mono hB0.size)
  go_wp2_with fail
  exact bodyPost_ret (v := .tuple #[.slice none 0 0, .int .i64 7]) (by simp [results, Tryz.results63, go_sem]) rfl ⟨⟨none, 0, 0, rfl, RetL.nil _ _⟩, HG.out.elim fun lst h => Went.same h hbz⟩

set_option maxHeartbeats 6400000 in
set_option maxRecDepth 100000 in
theorem perform_1 (b g : Nat) (vM vQ vJ : Value) (S : Sg) (x : Oz) (hk : x.v.k = 1) (hM : Sm S) (hA : AscK (keyM S.M)) (hll : x.v.l1.length ≤ 1000) (hI : hasK x.v.nn (keyM S.M) = false → InsM b vM S.M x.v.nn) : Performs b g vM vQ vJ S x (addN S x.v.nn x.v.a1 x.v.b1 x.v.c1 x.v.l1) := by
  intro w hG hx
  have hbg : b ≤ w.heap.size := hG.elim fun lst h => Nat.le_trans h.le (Nat.le_of_lt h.bk.here)
  have k1 := fun (W : World) (h : ∃ lst, Gs W b g lst vM vQ vJ S) (hb : Below w.heap.size w W) => h.elim fun lst h => addNode_any b g lst vM vQ vJ S x.v.nn x.v.a1 x.v.b1 x.v.c1 x.A1 x.m1 x.p1 x.v.l1 W h hM hA hx.nn (hx.l1.later hb) hll (Nat.le_trans hbg hb.size) hI
  have K1 := Lib.hid k1; have HG := Lib.hid hG
  clear k1 hG hx hA hI hll hbg hM
  obtain ⟨R, hR⟩ : ∃ R, R = addN S x.v.nn x.v.a1 x.v.b1 x.v.c1 x.v.l1 := ⟨_, rfl⟩
  rw [← hR] at K1 ⊢
  have hR3 : R.2.2 = [] := by rw [hR]; unfold addN; split; rfl; split <;> rfl
  clear hR
  obtain ⟨⟨k, nn, a1, b1, c1, l1, qn, a2, b2, c2, tn, tq, tp, a3, b3, c3, l3, ta, tg, ts, s⟩, A1, m1, p1, A3, m3, p3⟩ := x
  simp only at hk
  subst hk
  obtain ⟨R1, err, acts⟩ := R
  simp only at hR3
  subst hR3
  have HO0 : Hid (Bk (w.alloc (.cells #[.int .i64 1, .string nn, .int .i64 a1, .int .i64 b1, .int .i64 c1, .slice A1 m1 p1, .string qn, .int .i64 a2, .int .i64 b2, .int .i64 c2, .string tn, .string tq, .int .i64 tp, .int .i64 a3, .int .i64 b3, .int .i64 c3, .slice A3 m3 p3, .string ta, .string tg, .int .i64 ts, .string s] 59)) w.heap.size 59 #[.int .i64 1, .string nn, .int .i64 a1, .int .i64 b1, .int .i64 c1, .slice A1 m1 p1, .string qn, .int .i64 a2, .int .i64 b2, .int .i64 c2, .string tn, .string tq, .int .i64 tp, .int .i64 a3, .int .i64 b3, .int .i64 c3, .slice A3 m3 p3, .string ta, .string tg, .int .i64 ts, .string s]) := Bk.fresh w _ _
  have hB0 : Below w.heap.size w (w.alloc (.cells #[.int .i64 1, .string nn, .int .i64 a1, .int .i64 b1, .int .i64 c1, .slice A1 m1 p1, .string qn, .int .i64 a2, .int .i64 b2, .int .i64 c2, .string tn, .string tq, .int .i64 tp, .int .i64 a3, .int .i64 b3, .int .i64 c3, .slice A3 m3 p3, .string ta, .string tg, .int .i64 ts, .string s] 59)) := (Below.refl _ _).alloc (Nat.le_refl _) _
  go_enter Tryz.func63, Tryz.ntmps63
  go_wp2_with ((with_reducible refine load_bk rfl 53 _ rfl w.heap.size 1 rfl 59 #[.int .i64 1, .string nn, .int .i64 a1, .int .i64 b1, .int .i64 c1, .slice A1 m1 p1, .string qn, .int .i64 a2, .int .i64 b2, .int .i64 c2, .string tn, .string tq, .int .i64 tp, .int .i64 a3, .int .i64 b3, .int .i64 c3, .slice A3 m3 p3, .string ta, .string tg, .int .i64 ts, .string s] #[.string nn, .int .i64 a1, .int .i64 b1, .int .i64 c1, .slice A1 m1 p1] _ HO0.out (Part.of rfl) Tryz.underlying53 rfl (by kernel_rfl) ?_))
  refine (K1.out _ (HG.out.elim fun lst h => ⟨lst, h.below hB0⟩) hB0).mono ?_; rintro e w2 ⟨rfl, hW⟩
  have HW := Lib.hid hW; clear hW
  go_wp2_with fail
  exact bodyPost_ret (v := .tuple #[.slice none 0 0, .int .i64 err]) (by simp [results, Tryz.results63, go_sem]) rfl ⟨⟨none, 0, 0, rfl, RetL.nil _ _⟩, Went.before hB0 HW.out⟩
end Go.Proofs.YtjgojgmgicpgaaaGreat
