/- A control that is none: the nil one, or the zero one. No condition. -/
import Derived.Test.YtjgojgmgicpgaaaGreatHQ04
import Derived.Test.YtjgojgmgicpgaaaGreatHGol
import Derived.Handy
namespace Go.Proofs.YtjgojgmgicpgaaaGreat
open Go.RowKit
set_option linter.unusedSimpArgs false
set_option linter.unusedVariables false

/-- A control's cells. -/
abbrev cV (p e : Int) (A B : Value) (n : Int) : Array Value := #[.int .i64 p, .int .i64 e, A, B, .int .i64 n]
/-- No control. -/
def Nc (w : World) (p : Option Addr) : Prop := p = none ∨ ∃ q, p = some ⟨q, 0, none⟩ ∧ Bk w q 89 (cV 0 0 .nilIface .nilIface 0)
theorem Nc.later {w w' : World} {p : Option Addr} (h : Nc w p) (hb : Below w.heap.size w w') : Nc w' p := h.imp id fun ⟨q, e, h⟩ => ⟨q, e, h.later hb⟩
theorem Nc.drew {w : World} {p : Option Addr} (h : Nc w p) : Nc w.drew p := h.later (Below.drew (Below.refl _ _))
set_option maxHeartbeats 3200000 in
theorem isNone_no (p : Option Addr) (w : World) (h : Nc w p) : Calls Tryz.prog 77 #[.pointer p] w fun e w' => e = .returned (.bool true) ∧ Below w.heap.size w w' := by
  rcases h with rfl | ⟨q, rfl, hB⟩
  · go_enter Tryz.func77, Tryz.ntmps77
    go_wp2
    go_ret
    exact ⟨rfl, Below.refl _ _⟩
  · have d2 : w.cell? ⟨q, 2, none⟩ = some .nilIface := hB.cellAt 2
    clear hB
    go_enter Tryz.func77, Tryz.ntmps77
    go_wp2
    go_ret
    exact ⟨rfl, Below.refl _ _⟩
set_option maxHeartbeats 3200000 in
theorem command_no (p : Option Addr) (k : Int) (w : World) (h : Nc w p) : Calls Tryz.prog 34 #[.pointer p, .int .i64 k] w fun e w' => e = .returned (.int .i64 14) ∧ Below w.heap.size w w' := by
  have K := Lib.hid (isNone_no p w h)
  clear h
  go_enter Tryz.func34, Tryz.ntmps34
  go_wp2_with fail
  refine K.out.mono ?_; rintro e w1 ⟨rfl, hb1⟩
  have HB := Lib.hid hb1
  clear hb1 K
  go_wp2_with fail
  go_ret
  exact ⟨rfl, HB.out⟩
set_option maxHeartbeats 3200000 in
theorem where_no (p : Option Addr) (w : World) (h : Nc w p) : Calls Tryz.prog 44 #[.pointer p] w fun e w' => e = .returned (.tuple #[.int .i64 0, .int .i64 0, .int .i64 0]) ∧ Below w.heap.size w w' := by
  have K := Lib.hid (isNone_no p w h)
  clear h
  go_enter Tryz.func44, Tryz.ntmps44
  go_wp2_with fail
  refine K.out.mono ?_; rintro e w1 ⟨rfl, hb1⟩
  have HB := Lib.hid hb1
  clear hb1 K
  go_wp2_with fail
  first | go_ret | go_ret3 | go_returns
  exact ⟨rfl, HB.out⟩
set_option maxHeartbeats 3200000 in
theorem save_no (p : Option Addr) (w : World) (h : Nc w p) : Calls Tryz.prog 39 #[.pointer p] w fun e w' => e = .returned (.slice none 0 0) ∧ Below w.heap.size w w' := by
  have K := Lib.hid (isNone_no p w h)
  clear h
  go_enter Tryz.func39, Tryz.ntmps39
  go_wp2_with fail
  refine K.out.mono ?_; rintro e w1 ⟨rfl, hb1⟩
  have HB := Lib.hid hb1
  clear hb1 K
  go_wp2_with fail
  go_ret
  exact ⟨rfl, HB.out⟩
set_option maxHeartbeats 3200000 in
theorem apart_no (p : Option Addr) (w : World) (h : Nc w p) : Calls Tryz.prog 43 #[.pointer p] w fun e w' => e = .returned (.int .i64 0) ∧ Below w.heap.size w w' := by
  rcases h with rfl | ⟨q, rfl, hB⟩
  · go_enter Tryz.func43, Tryz.ntmps43
    go_wp2
    go_ret
    exact ⟨rfl, Below.refl _ _⟩
  · have d2 : w.cell? ⟨q, 4, none⟩ = some (.int .i64 0) := hB.cellAt 4
    clear hB
    go_enter Tryz.func43, Tryz.ntmps43
    go_wp2
    go_ret
    exact ⟨rfl, Below.refl _ _⟩
set_option maxHeartbeats 3200000 in
set_option maxRecDepth 100000 in
theorem hdo_no (p : Option Addr) (x : Oz) (w : World) (h : Nc w p) : Calls Tryz.prog 36 #[.pointer p, .agg x.arr] w fun e w' => e = .returned (.agg #[.int .i64 1, .slice none 0 0]) ∧ Below w.heap.size w w' := by
  have K := Lib.hid (fun W (hb : Below w.heap.size w W) => isNone_no p W (h.later hb))
  clear h
  obtain ⟨W0, hW0⟩ : ∃ W0, W0 = (w.alloc (.cells x.arr 59)).alloc (.cells #[.int .i64 0, .slice none 0 0] 47) := ⟨_, rfl⟩
  have HA0 : Hid (Bk W0 (w.heap.size + 1) 47 #[.int .i64 0, .slice none 0 0]) := by rw [hW0]; exact Bk.freshAt _ _ _ (by simp)
  have Hb0 : Hid (Below w.heap.size w W0) := by rw [hW0]; exact ((Below.refl _ _).alloc (Nat.le_refl _) _).alloc (by simp) _
  subst hW0
  go_enter Tryz.func36, Tryz.ntmps36
  go_wp2_with fail
  refine (K.out _ Hb0.out).mono ?_; rintro e w1 ⟨rfl, hb1⟩
  have HA1 := Lib.hid (HA0.out.later hb1)
  have Hb1 : Hid (Below w.heap.size w w1) := Hb0.out.trans (hb1.mono Hb0.out.size)
  clear hb1 K HA0 Hb0
  go_wp2_with ((with_reducible refine store_bk rfl 47 (.tmp 4) (.tmp 8) rfl (w.heap.size + 1) 0 #[.int .i64 1, .slice none 0 0] rfl rfl 47 _ #[.int .i64 1, .slice none 0 0] HA1.out (by kernel_rfl) (by simp) (by kernel_rfl) rfl ?_); intro w2 hB2 hg2 hs2)
  exact bodyPost_ret (v := .agg #[.int .i64 1, .slice none 0 0]) (results_bk1 Tryz.results36 _ _ (w.heap.size + 1) 47 _ _ rfl hB2 Tryz.underlying47 rfl (by kernel_rfl)) rfl ⟨rfl, Hb1.out.grown hg2 Hb1.out.size (fun q e => by injection e with e; omega)⟩
set_option maxHeartbeats 3200000 in
set_option maxRecDepth 100000 in
theorem hstate_no (p : Option Addr) (w : World) (h : Nc w p) : Calls Tryz.prog 41 #[.pointer p] w fun e w' => (∃ v', e = .returned v' ∧ ZSt v') ∧ Below w.heap.size w w' := by
  have K := Lib.hid (fun W (hb : Below w.heap.size w W) => isNone_no p W (h.later hb))
  clear h
  obtain ⟨W0, hW0⟩ : ∃ W0, W0 = w.alloc (.cells #[.int .i64 0, .int .i64 0, .slice none 0 0, .slice none 0 0, .slice none 0 0] 26) := ⟨_, rfl⟩
  have HA0 : Hid (Bk W0 w.heap.size 26 #[.int .i64 0, .int .i64 0, .slice none 0 0, .slice none 0 0, .slice none 0 0]) := by rw [hW0]; exact Bk.fresh _ _ _
  have Hb0 : Hid (Below w.heap.size w W0) := by rw [hW0]; exact (Below.refl _ _).alloc (Nat.le_refl _) _
  subst hW0
  go_enter Tryz.func41, Tryz.ntmps41
  go_wp2_with fail
  refine (K.out _ Hb0.out).mono ?_; rintro e w1 ⟨rfl, hb1⟩
  have HA1 := Lib.hid (HA0.out.later hb1)
  have Hb1 : Hid (Below w.heap.size w w1) := Hb0.out.trans (hb1.mono Hb0.out.size)
  clear hb1 K HA0 Hb0
  go_wp2_with fail
  refine (new_z _).mono ?_; rintro e w2 ⟨rfl, hZ, hb2⟩
  have HZ := Lib.hid hZ
  have HA2 := Lib.hid (HA1.out.later hb2)
  have Hb2 : Hid (Below w.heap.size w w2) := Hb1.out.trans (hb2.mono Hb1.out.size)
  clear hZ hb2 HA1 Hb1
  go_wp2_with fail
  refine (state_z _ w2 HZ.out).mono ?_; rintro e w3 ⟨⟨v', rfl, hv⟩, hb3⟩
  obtain ⟨A, a, B, b, C, c, rfl, ha, hb, hc⟩ := hv
  have HV : Hid (ZSt (.agg (zV A a B b C c))) := ⟨A, a, B, b, C, c, rfl, ha, hb, hc⟩
  have HA3 := Lib.hid (HA2.out.later hb3)
  have Hb3 : Hid (Below w.heap.size w w3) := Hb2.out.trans (hb3.mono Hb2.out.size)
  clear ha hb hc hb3 HA2 Hb2 HZ
  go_wp2_with ((with_reducible refine store_bk rfl 26 (.tmp 2) (.tmp 6) rfl w.heap.size 0 (zV A a B b C c) rfl rfl 26 _ (zV A a B b C c) HA3.out (by kernel_rfl) (by simp) (by kernel_rfl) rfl ?_); intro w4 hB4 hg4 hs4)
  exact bodyPost_ret (v := .agg (zV A a B b C c)) (results_bk1 Tryz.results41 _ _ w.heap.size 26 _ _ rfl hB4 Tryz.underlying26 rfl (by kernel_rfl)) rfl ⟨⟨_, rfl, HV.out⟩, Hb3.out.grown hg4 Hb3.out.size (fun q e => by injection e with e; omega)⟩
end Go.Proofs.YtjgojgmgicpgaaaGreat
