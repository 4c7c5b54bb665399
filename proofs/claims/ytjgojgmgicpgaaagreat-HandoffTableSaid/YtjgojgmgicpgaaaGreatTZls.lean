/- The bytes of a blank state, in both schemas. No condition. -/
import Derived.Test.YtjgojgmgicpgaaaGreatTQ05
import Derived.Test.YtjgojgmgicpgaaaGreatTQ10
namespace Go.Proofs.YtjgojgmgicpgaaaGreat
open Go.RowKit
set_option linter.unusedSimpArgs false
set_option linter.unusedVariables false

def e1B : List UInt8 := [1, 1, 0, 1, 1, 0, 0, 0]
def e2B : List UInt8 := [1, 2, 0, 1, 1, 0, 0]
set_option maxHeartbeats 6400000 in
set_option maxRecDepth 100000 in
theorem appM_z (A : Option Addr) (n c : Nat) (l : List UInt8) (B : Option Addr) (b : Nat) (fn : Value) (w : World) (hn : Hid (n = l.length)) (hr : Hid (Rd w A l)) (hc : n ≤ c) (hc2 : c ≤ 9223372036854775807) (hB : n ≤ 1000) :
    Calls Tryz.prog 93 #[.slice A n c, .slice B 0 b, fn] w (RetB w (l ++ enc 0)) := by
  obtain ⟨W0, hW0⟩ : ∃ W0, W0 = w.alloc (.cells #[.int .i64 0] 3) := ⟨_, rfl⟩
  have hb0 : Below w.heap.size w W0 := by rw [hW0]; exact (Below.refl _ _).alloc (Nat.le_refl _) _
  have hcl : Hid (w.heap.size < W0.heap.size ∧ ∀ k (h : k < [0].length), W0.cell? ⟨w.heap.size, 0 + k, none⟩ = some (.int .i64 (([0] : List Nat)[k] : Int))) := by
    refine ⟨by rw [hW0]; simp, fun k h => ?_⟩
    have hk : k = 0 := by simpa using h
    subst hk
    rw [hW0]; exact (Bk.fresh w 3 #[.int .i64 0]).cellAt 0
  have KP := Lib.hid (putN_any A n c l w.heap.size 0 1 1 [0] W0 hn (Lib.hid (hr.out.below hb0)) hc hc2 rfl (by omega) hcl (Lib.hid (by simp)))
  have Hb0 := Lib.hid hb0
  clear hn hr hc hc2 hB hcl hb0
  subst hW0
  go_enter Tryz.func93, Tryz.ntmps93
  go_wp2_with fail
  refine KP.out.mono ?_
  rintro e w1 ⟨⟨A1, N1, c1, rfl, h1, h2, h3, h4⟩, hb1⟩
  have e0 : ([0] : List Nat).flatMap enc = enc 0 := by rw [List.flatMap_cons, List.flatMap_nil, List.append_nil]
  rw [e0] at h1 h2
  have HE : Hid (RetB w (l ++ enc 0) (.returned (.slice A1 N1 c1)) w1) := ⟨⟨_, _, _, rfl, h1, h2, h3, h4⟩, Hb0.out.trans (hb1.mono Hb0.out.size)⟩
  clear KP h1 h2 h3 h4 hb1 Hb0
  go_wp2_with fail
  refine wp_loop_rounds 1 ?_
  rw [rounds_succ]
  go_wp2_with fail
  go_ret
  exact HE.out
set_option maxHeartbeats 6400000 in
set_option maxRecDepth 100000 in
theorem appQ_z (A : Option Addr) (n c : Nat) (l : List UInt8) (B : Option Addr) (b : Nat) (fn : Value) (w : World) (hn : Hid (n = l.length)) (hr : Hid (Rd w A l)) (hc : n ≤ c) (hc2 : c ≤ 9223372036854775807) (hB : n ≤ 1000) :
    Calls Tryz.prog 95 #[.slice A n c, .slice B 0 b, fn] w (RetB w (l ++ enc 0)) := by
  obtain ⟨W0, hW0⟩ : ∃ W0, W0 = w.alloc (.cells #[.int .i64 0] 3) := ⟨_, rfl⟩
  have hb0 : Below w.heap.size w W0 := by rw [hW0]; exact (Below.refl _ _).alloc (Nat.le_refl _) _
  have hcl : Hid (w.heap.size < W0.heap.size ∧ ∀ k (h : k < [0].length), W0.cell? ⟨w.heap.size, 0 + k, none⟩ = some (.int .i64 (([0] : List Nat)[k] : Int))) := by
    refine ⟨by rw [hW0]; simp, fun k h => ?_⟩
    have hk : k = 0 := by simpa using h
    subst hk
    rw [hW0]; exact (Bk.fresh w 3 #[.int .i64 0]).cellAt 0
  have KP := Lib.hid (putN_any A n c l w.heap.size 0 1 1 [0] W0 hn (Lib.hid (hr.out.below hb0)) hc hc2 rfl (by omega) hcl (Lib.hid (by simp)))
  have Hb0 := Lib.hid hb0
  clear hn hr hc hc2 hB hcl hb0
  subst hW0
  go_enter Tryz.func95, Tryz.ntmps95
  go_wp2_with fail
  refine KP.out.mono ?_
  rintro e w1 ⟨⟨A1, N1, c1, rfl, h1, h2, h3, h4⟩, hb1⟩
  have e0 : ([0] : List Nat).flatMap enc = enc 0 := by rw [List.flatMap_cons, List.flatMap_nil, List.append_nil]
  rw [e0] at h1 h2
  have HE : Hid (RetB w (l ++ enc 0) (.returned (.slice A1 N1 c1)) w1) := ⟨⟨_, _, _, rfl, h1, h2, h3, h4⟩, Hb0.out.trans (hb1.mono Hb0.out.size)⟩
  clear KP h1 h2 h3 h4 hb1 Hb0
  go_wp2_with fail
  refine wp_loop_rounds 1 ?_
  rw [rounds_succ]
  go_wp2_with fail
  go_ret
  exact HE.out
set_option maxHeartbeats 6400000 in
set_option maxRecDepth 100000 in
theorem appJ_z (A : Option Addr) (n c : Nat) (l : List UInt8) (B : Option Addr) (b : Nat) (fn : Value) (w : World) (hn : Hid (n = l.length)) (hr : Hid (Rd w A l)) (hc : n ≤ c) (hc2 : c ≤ 9223372036854775807) (hB : n ≤ 1000) :
    Calls Tryz.prog 97 #[.slice A n c, .slice B 0 b, fn] w (RetB w (l ++ enc 0)) := by
  obtain ⟨W0, hW0⟩ : ∃ W0, W0 = w.alloc (.cells #[.int .i64 0] 3) := ⟨_, rfl⟩
  have hb0 : Below w.heap.size w W0 := by rw [hW0]; exact (Below.refl _ _).alloc (Nat.le_refl _) _
  have hcl : Hid (w.heap.size < W0.heap.size ∧ ∀ k (h : k < [0].length), W0.cell? ⟨w.heap.size, 0 + k, none⟩ = some (.int .i64 (([0] : List Nat)[k] : Int))) := by
    refine ⟨by rw [hW0]; simp, fun k h => ?_⟩
    have hk : k = 0 := by simpa using h
    subst hk
    rw [hW0]; exact (Bk.fresh w 3 #[.int .i64 0]).cellAt 0
  have KP := Lib.hid (putN_any A n c l w.heap.size 0 1 1 [0] W0 hn (Lib.hid (hr.out.below hb0)) hc hc2 rfl (by omega) hcl (Lib.hid (by simp)))
  have Hb0 := Lib.hid hb0
  clear hn hr hc hc2 hB hcl hb0
  subst hW0
  go_enter Tryz.func97, Tryz.ntmps97
  go_wp2_with fail
  refine KP.out.mono ?_
  rintro e w1 ⟨⟨A1, N1, c1, rfl, h1, h2, h3, h4⟩, hb1⟩
  have e0 : ([0] : List Nat).flatMap enc = enc 0 := by rw [List.flatMap_cons, List.flatMap_nil, List.append_nil]
  rw [e0] at h1 h2
  have HE : Hid (RetB w (l ++ enc 0) (.returned (.slice A1 N1 c1)) w1) := ⟨⟨_, _, _, rfl, h1, h2, h3, h4⟩, Hb0.out.trans (hb1.mono Hb0.out.size)⟩
  clear KP h1 h2 h3 h4 hb1 Hb0
  go_wp2_with fail
  refine wp_loop_rounds 1 ?_
  rw [rounds_succ]
  go_wp2_with fail
  go_ret
  exact HE.out
set_option maxHeartbeats 6400000 in
set_option maxRecDepth 100000 in
theorem head_z (kd : Nat) (hk : kd < 1000) {v : Value} (hv : ZSt v) (w : World) : Calls Tryz.prog 92 #[.int .i64 (kd : Int), v] w (RetB w ([kd, 0, 1].flatMap enc)) := by
  obtain ⟨A, a, B, b, C, c, rfl, -, -, -⟩ := hv
  obtain ⟨W0, hW0⟩ : ∃ W0, W0 = (w.alloc (.cells (zV A a B b C c) 26)).alloc (.cells #[.int .i64 (kd : Int), .int .i64 0, .int .i64 1] 3) := ⟨_, rfl⟩
  have hb0 : Below w.heap.size w W0 := by rw [hW0]; exact ((Below.refl _ _).alloc (Nat.le_refl _) _).alloc (by simp) _
  have hcl : Hid (w.heap.size + 1 < W0.heap.size ∧ ∀ k (h : k < [kd, 0, 1].length), W0.cell? ⟨w.heap.size + 1, 0 + k, none⟩ = some (.int .i64 (([kd, 0, 1] : List Nat)[k] : Int))) := by
    have hB : Bk W0 (w.heap.size + 1) 3 #[.int .i64 (kd : Int), .int .i64 0, .int .i64 1] := by rw [hW0]; exact Bk.freshAt _ _ _ (by simp)
    refine ⟨by rw [hW0]; simp, fun k h => ?_⟩
    match k, h with
    | 0, _ => exact hB.cellAt 0
    | 1, _ => exact hB.cellAt 1
    | 2, _ => exact hB.cellAt 2
  have KP := Lib.hid (putN_any none 0 0 [] (w.heap.size + 1) 0 3 3 [kd, 0, 1] W0 rfl (Lib.hid (Rd.nil _ _)) (Nat.le_refl _) (by decide) rfl (by decide) hcl (Lib.hid (by intro k h; simp at h; omega)))
  have Hb0 := Lib.hid hb0
  clear hcl hb0
  subst hW0
  go_enter Tryz.func92, Tryz.ntmps92
  go_wp2_with fail
  refine KP.out.mono ?_
  rintro e w1 ⟨⟨A1, N1, c1, rfl, h1, h2, h3, h4⟩, hb1⟩
  have HE : Hid (RetB w ([kd, 0, 1].flatMap enc) (.returned (.slice A1 N1 c1)) w1) := ⟨⟨_, _, _, rfl, h1, h2, h3, h4⟩, Hb0.out.trans (hb1.mono Hb0.out.size)⟩
  clear KP h1 h2 h3 h4 hb1 Hb0
  go_wp2_with fail
  go_ret
  exact HE.out
set_option maxHeartbeats 6400000 in
set_option maxRecDepth 100000 in
theorem listed_z {v : Value} (hv : ZSt v) (w : World) : Calls Tryz.prog 46 #[v] w (RetB w e1B) := by
  obtain ⟨A, a, B, b, C, c, rfl, ha, hb, hc⟩ := hv
  have HZ : Hid (ZSt (.agg (zV A a B b C c))) := ⟨A, a, B, b, C, c, rfl, ha, hb, hc⟩
  have HX0 : Hid (Bk (w.alloc (.cells (zV A a B b C c) 26)) w.heap.size 26 (zV A a B b C c)) := Bk.fresh _ _ _
  have Hb0 : Hid (Below w.heap.size w (w.alloc (.cells (zV A a B b C c) 26))) := (Below.refl _ _).alloc (Nat.le_refl _) _
  clear ha hb hc
  go_enter Tryz.func46, Tryz.ntmps46
  go_wp2_with (with_reducible refine load_bk rfl 26 _ rfl w.heap.size 0 rfl 26 (zV A a B b C c) (zV A a B b C c) _ HX0.out (Part.whole _) Tryz.underlying26 rfl (by kernel_rfl) ?_)
  refine (head_z 1 (by decide) HZ.out _).mono ?_
  rintro e w1 ⟨⟨A1, N1, c1, rfl, h1, h2, h3, h4⟩, hb1⟩
  have HR1 : Hid (N1 = ([1, 0, 1].flatMap enc).length ∧ Rd w1 A1 ([1, 0, 1].flatMap enc) ∧ N1 ≤ c1 ∧ c1 ≤ 9223372036854775807) := ⟨h1, h2, h3, h4⟩
  have HX1 := Lib.hid (HX0.out.later hb1)
  have Hb1 : Hid (Below w.heap.size w w1) := Hb0.out.trans (hb1.mono Hb0.out.size)
  clear h1 h2 h3 h4 hb1
  have d2 : w1.cell? ⟨w.heap.size, 2, none⟩ = some (.slice A 0 a) := HX1.out.cellAt 2
  go_wp2_with fail
  refine (appM_z A1 N1 c1 _ A a _ w1 (Lib.hid HR1.out.1) (Lib.hid HR1.out.2.1) HR1.out.2.2.1 HR1.out.2.2.2 (by have := HR1.out.1; rw [this]; decide +kernel)).mono ?_
  rintro e w2 ⟨⟨A2, N2, c2, rfl, h1, h2, h3, h4⟩, hb2⟩
  have HR2 : Hid (N2 = ([1, 0, 1].flatMap enc ++ enc 0).length ∧ Rd w2 A2 ([1, 0, 1].flatMap enc ++ enc 0) ∧ N2 ≤ c2 ∧ c2 ≤ 9223372036854775807) := ⟨h1, h2, h3, h4⟩
  have HX2 := Lib.hid (HX1.out.later hb2)
  have Hb2 : Hid (Below w.heap.size w w2) := Hb1.out.trans (hb2.mono Hb1.out.size)
  clear h1 h2 h3 h4 hb2
  clear d2 HX1 Hb1 HR1
  have d3 : w2.cell? ⟨w.heap.size, 3, none⟩ = some (.slice B 0 b) := HX2.out.cellAt 3
  go_wp2_with fail
  refine (appQ_z A2 N2 c2 _ B b _ w2 (Lib.hid HR2.out.1) (Lib.hid HR2.out.2.1) HR2.out.2.2.1 HR2.out.2.2.2 (by have := HR2.out.1; rw [this]; decide +kernel)).mono ?_
  rintro e w3 ⟨⟨A3, N3, c3, rfl, h1, h2, h3, h4⟩, hb3⟩
  have HR3 : Hid (N3 = ([1, 0, 1].flatMap enc ++ enc 0 ++ enc 0).length ∧ Rd w3 A3 ([1, 0, 1].flatMap enc ++ enc 0 ++ enc 0) ∧ N3 ≤ c3 ∧ c3 ≤ 9223372036854775807) := ⟨h1, h2, h3, h4⟩
  have HX3 := Lib.hid (HX2.out.later hb3)
  have Hb3 : Hid (Below w.heap.size w w3) := Hb2.out.trans (hb3.mono Hb2.out.size)
  clear h1 h2 h3 h4 hb3
  clear d3 HX2 Hb2 HR2
  have d4 : w3.cell? ⟨w.heap.size, 4, none⟩ = some (.slice C 0 c) := HX3.out.cellAt 4
  go_wp2_with fail
  refine (appJ_z A3 N3 c3 _ C c _ w3 (Lib.hid HR3.out.1) (Lib.hid HR3.out.2.1) HR3.out.2.2.1 HR3.out.2.2.2 (by have := HR3.out.1; rw [this]; decide +kernel)).mono ?_
  rintro e w4 ⟨⟨A4, N4, c4, rfl, h1, h2, h3, h4⟩, hb4⟩
  have HR4 : Hid (N4 = ([1, 0, 1].flatMap enc ++ enc 0 ++ enc 0 ++ enc 0).length ∧ Rd w4 A4 ([1, 0, 1].flatMap enc ++ enc 0 ++ enc 0 ++ enc 0) ∧ N4 ≤ c4 ∧ c4 ≤ 9223372036854775807) := ⟨h1, h2, h3, h4⟩
  have HX4 := Lib.hid (HX3.out.later hb4)
  have Hb4 : Hid (Below w.heap.size w w4) := Hb3.out.trans (hb4.mono Hb3.out.size)
  clear h1 h2 h3 h4 hb4
  clear d4 HX3 Hb3 HR3
  have HE : Hid (RetB w e1B (.returned (.slice A4 N4 c4)) w4) := by
    have e : [1, 0, 1].flatMap enc ++ enc 0 ++ enc 0 ++ enc 0 = e1B := by decide +kernel
    have h9 := HR4.out
    rw [e] at h9
    exact ⟨⟨_, _, _, rfl, h9⟩, Hb4.out⟩
  go_wp2_with fail
  go_ret
  exact HE.out
set_option maxHeartbeats 6400000 in
set_option maxRecDepth 100000 in
theorem grouped_z {v : Value} (hv : ZSt v) (w : World) : Calls Tryz.prog 47 #[v] w (RetB w e2B) := by
  obtain ⟨A, a, B, b, C, c, rfl, ha, hb, hc⟩ := hv
  have HZ : Hid (ZSt (.agg (zV A a B b C c))) := ⟨A, a, B, b, C, c, rfl, ha, hb, hc⟩
  have HX0 : Hid (Bk (w.alloc (.cells (zV A a B b C c) 26)) w.heap.size 26 (zV A a B b C c)) := Bk.fresh _ _ _
  have Hb0 : Hid (Below w.heap.size w (w.alloc (.cells (zV A a B b C c) 26))) := (Below.refl _ _).alloc (Nat.le_refl _) _
  clear ha hb hc
  have hmf : ∀ (fn : Fn) (first cap : Array Value) (w : World), (Instr.makeFunc fn first cap).run Tryz.prog w = .ok (.func fn first cap) w := fun _ _ _ _ => rfl
  go_enter Tryz.func47, Tryz.ntmps47
  go_wp2_with (with_reducible refine load_bk rfl 26 _ rfl w.heap.size 0 rfl 26 (zV A a B b C c) (zV A a B b C c) _ HX0.out (Part.whole _) Tryz.underlying26 rfl (by kernel_rfl) ?_)
  refine (head_z 2 (by decide) HZ.out _).mono ?_
  rintro e w1 ⟨⟨A1, N1, c1, rfl, h1, h2, h3, h4⟩, hb1⟩
  have HR1 : Hid (N1 = ([2, 0, 1].flatMap enc).length ∧ Rd w1 A1 ([2, 0, 1].flatMap enc) ∧ N1 ≤ c1 ∧ c1 ≤ 9223372036854775807) := ⟨h1, h2, h3, h4⟩
  have HX1 := Lib.hid (HX0.out.later hb1)
  have Hb1 : Hid (Below w.heap.size w w1) := Hb0.out.trans (hb1.mono Hb0.out.size)
  clear h1 h2 h3 h4 hb1
  have d2 : w1.cell? ⟨w.heap.size, 2, none⟩ = some (.slice A 0 a) := HX1.out.cellAt 2
  go_wp2_with fail
  refine (appM_z A1 N1 c1 _ A a _ w1 (Lib.hid HR1.out.1) (Lib.hid HR1.out.2.1) HR1.out.2.2.1 HR1.out.2.2.2 (by have := HR1.out.1; rw [this]; decide +kernel)).mono ?_
  rintro e w2 ⟨⟨A2, N2, c2, rfl, h1, h2, h3, h4⟩, hb2⟩
  have HR2 : Hid (N2 = ([2, 0, 1].flatMap enc ++ enc 0).length ∧ Rd w2 A2 ([2, 0, 1].flatMap enc ++ enc 0) ∧ N2 ≤ c2 ∧ c2 ≤ 9223372036854775807) := ⟨h1, h2, h3, h4⟩
  have HX2 := Lib.hid (HX1.out.later hb2)
  have Hb2 : Hid (Below w.heap.size w w2) := Hb1.out.trans (hb2.mono Hb1.out.size)
  clear h1 h2 h3 h4 hb2
  clear d2 HX1 Hb1 HR1
  have d3 : w2.cell? ⟨w.heap.size, 3, none⟩ = some (.slice B 0 b) := HX2.out.cellAt 3
  go_wp2_with fail
  refine (appQ_z A2 N2 c2 _ B b _ w2 (Lib.hid HR2.out.1) (Lib.hid HR2.out.2.1) HR2.out.2.2.1 HR2.out.2.2.2 (by have := HR2.out.1; rw [this]; decide +kernel)).mono ?_
  rintro e w3 ⟨⟨A3, N3, c3, rfl, h1, h2, h3, h4⟩, hb3⟩
  have HR3 : Hid (N3 = ([2, 0, 1].flatMap enc ++ enc 0 ++ enc 0).length ∧ Rd w3 A3 ([2, 0, 1].flatMap enc ++ enc 0 ++ enc 0) ∧ N3 ≤ c3 ∧ c3 ≤ 9223372036854775807) := ⟨h1, h2, h3, h4⟩
  have HX3 := Lib.hid (HX2.out.later hb3)
  have Hb3 : Hid (Below w.heap.size w w3) := Hb2.out.trans (hb3.mono Hb2.out.size)
  clear h1 h2 h3 h4 hb3
  clear d3 HX2 Hb2 HR2
  have HE : Hid (RetB w e2B (.returned (.slice A3 N3 c3)) w3) := by
    have e : [2, 0, 1].flatMap enc ++ enc 0 ++ enc 0 = e2B := by decide +kernel
    have h9 := HR3.out
    rw [e] at h9
    exact ⟨⟨_, _, _, rfl, h9⟩, Hb3.out⟩
  go_wp2_with fail
  go_ret
  exact HE.out
set_option maxHeartbeats 6400000 in
set_option maxRecDepth 100000 in
theorem encode1_z {v : Value} (hv : ZSt v) (w : World) : Calls Tryz.prog 16 #[v] w fun e w' => (∃ A N c, e = .returned (.tuple #[.slice A N c, .int .i64 0]) ∧ N = e1B.length ∧ Rd w' A e1B ∧ N ≤ c ∧ c ≤ 9223372036854775807) ∧ Below w.heap.size w w' := by
  obtain ⟨A, a, B, b, C, c, rfl, ha, hb, hc⟩ := hv
  have HZ : Hid (ZSt (.agg (zV A a B b C c))) := ⟨A, a, B, b, C, c, rfl, ha, hb, hc⟩
  have HX0 : Hid (Bk (w.alloc (.cells (zV A a B b C c) 26)) w.heap.size 26 (zV A a B b C c)) := Bk.fresh _ _ _
  have Hb0 : Hid (Below w.heap.size w (w.alloc (.cells (zV A a B b C c) 26))) := (Below.refl _ _).alloc (Nat.le_refl _) _
  clear ha hb hc
  go_enter Tryz.func16, Tryz.ntmps16
  go_wp2_with (with_reducible refine load_bk rfl 26 _ rfl w.heap.size 0 rfl 26 (zV A a B b C c) (zV A a B b C c) _ HX0.out (Part.whole _) Tryz.underlying26 rfl (by kernel_rfl) ?_)
  refine (right_z A a B b C c _).mono ?_
  rintro e w1 ⟨rfl, hb1⟩
  have HX1 := Lib.hid (HX0.out.later hb1)
  have Hb1 : Hid (Below w.heap.size w w1) := Hb0.out.trans (hb1.mono Hb0.out.size)
  clear hb1 HX0 Hb0
  go_wp2_with (with_reducible refine load_bk rfl 26 _ rfl w.heap.size 0 rfl 26 (zV A a B b C c) (zV A a B b C c) _ HX1.out (Part.whole _) Tryz.underlying26 rfl (by kernel_rfl) ?_)
  refine (listed_z HZ.out _).mono ?_
  rintro e w2 ⟨⟨A1, N1, c1, rfl, h1⟩, hb2⟩
  have HE := Lib.hid h1
  have Hb2 : Hid (Below w.heap.size w w2) := Hb1.out.trans (hb2.mono Hb1.out.size)
  clear h1 hb2
  go_wp2_with fail
  go_ret2
  exact ⟨⟨_, _, _, rfl, HE.out⟩, Hb2.out⟩
set_option maxHeartbeats 6400000 in
set_option maxRecDepth 100000 in
theorem encode2_z {v : Value} (hv : ZSt v) (w : World) : Calls Tryz.prog 17 #[v] w fun e w' => (∃ A N c, e = .returned (.tuple #[.slice A N c, .int .i64 0]) ∧ N = e2B.length ∧ Rd w' A e2B ∧ N ≤ c ∧ c ≤ 9223372036854775807) ∧ Below w.heap.size w w' := by
  obtain ⟨A, a, B, b, C, c, rfl, ha, hb, hc⟩ := hv
  have HZ : Hid (ZSt (.agg (zV A a B b C c))) := ⟨A, a, B, b, C, c, rfl, ha, hb, hc⟩
  have HX0 : Hid (Bk (w.alloc (.cells (zV A a B b C c) 26)) w.heap.size 26 (zV A a B b C c)) := Bk.fresh _ _ _
  have Hb0 : Hid (Below w.heap.size w (w.alloc (.cells (zV A a B b C c) 26))) := (Below.refl _ _).alloc (Nat.le_refl _) _
  clear ha hb hc
  go_enter Tryz.func17, Tryz.ntmps17
  go_wp2_with (with_reducible refine load_bk rfl 26 _ rfl w.heap.size 0 rfl 26 (zV A a B b C c) (zV A a B b C c) _ HX0.out (Part.whole _) Tryz.underlying26 rfl (by kernel_rfl) ?_)
  refine (right_z A a B b C c _).mono ?_
  rintro e w1 ⟨rfl, hb1⟩
  have HX1 := Lib.hid (HX0.out.later hb1)
  have Hb1 : Hid (Below w.heap.size w w1) := Hb0.out.trans (hb1.mono Hb0.out.size)
  clear hb1 HX0 Hb0
  go_wp2_with (with_reducible refine load_bk rfl 26 _ rfl w.heap.size 0 rfl 26 (zV A a B b C c) (zV A a B b C c) _ HX1.out (Part.whole _) Tryz.underlying26 rfl (by kernel_rfl) ?_)
  refine (grouped_z HZ.out _).mono ?_
  rintro e w2 ⟨⟨A1, N1, c1, rfl, h1⟩, hb2⟩
  have HE := Lib.hid h1
  have Hb2 : Hid (Below w.heap.size w w2) := Hb1.out.trans (hb2.mono Hb1.out.size)
  clear h1 hb2
  go_wp2_with fail
  go_ret2
  exact ⟨⟨_, _, _, rfl, HE.out⟩, Hb2.out⟩
end Go.Proofs.YtjgojgmgicpgaaaGreat
