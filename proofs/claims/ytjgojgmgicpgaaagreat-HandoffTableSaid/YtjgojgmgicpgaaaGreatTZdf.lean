/- schema's Decode and Translate at the bytes of a blank state. No condition. -/
import Derived.Test.YtjgojgmgicpgaaaGreatTZde
import Derived.Test.YtjgojgmgicpgaaaGreatTQ09
import Derived.Test.YtjgojgmgicpgaaaGreatTQ04
import Derived.Deep.DeepCutAuto
import Derived.Deep.CutRange
namespace Go.Proofs.YtjgojgmgicpgaaaGreat
open Go.RowKit
set_option linter.unusedSimpArgs false
set_option linter.unusedVariables false

theorem noB_st0 : ∀ (i : Nat) (x : Int), ¬ (#[.int .i64 0, .int .i64 0, .slice none 0 0, .slice none 0 0, .slice none 0 0] : Array Value)[i]? = some (.int .u8 x) := fun i x h => by
  match i, h with
  | 0, h => simp at h
  | 1, h => simp at h
  | 2, h => simp at h
  | 3, h => simp at h
  | 4, h => simp at h
  | i + 5, h => simp at h
set_option maxHeartbeats 6400000 in
set_option maxRecDepth 100000 in
theorem ins_zz (fn : Value) (w : World) : Calls Tryz.prog 357 #[.slice none 0 0, .int .i64 0, .int .i64 0, fn] w fun e w' => e = .returned (.tuple #[]) ∧ w = w' := by
  go_enter Tryz.func357, Tryz.ntmps357
  go_wp2_with fail
  refine wp_loop_rounds 1 ?_
  rw [rounds_succ]
  go_wp2_with fail
  first | go_end0 | go_ret | go_returns
  exact ⟨rfl, rfl⟩
set_option maxHeartbeats 6400000 in
set_option maxRecDepth 100000 in
theorem pdq_zz (fn : Value) (k : Int) (w : World) : Calls Tryz.prog 307 #[.slice none 0 0, .int .i64 0, .int .i64 0, .int .i64 k, fn] w fun e w' => e = .returned (.tuple #[]) ∧ w = w' := by
  have K := Lib.hid (ins_zz fn w)
  go_enter Tryz.func307, Tryz.ntmps307
  go_wp2_with fail
  refine wp_loop_rounds 1 ?_
  rw [rounds_succ]
  go_wp2_with fail
  refine K.out.mono ?_
  rintro e w' ⟨rfl, rfl⟩
  go_wp2_with fail
  first | go_end0 | go_ret | go_returns
  exact ⟨rfl, rfl⟩
set_option maxHeartbeats 6400000 in
set_option maxRecDepth 100000 in
theorem sort_zz (fn : Value) (w : World) : Calls Tryz.prog 239 #[.slice none 0 0, fn] w fun e w' => e = .returned (.tuple #[]) ∧ Below w.heap.size w w' := by
  have kL : ∀ W, Calls Tryz.prog 270 #[.int .u64 0] W fun e w' => e = .returned (.int .i64 (Lib.bitLen (0 : Int).toNat)) ∧ W = w' := fun W => by
    have K := Lib.hid (len64_any 0 W (by decide) (by decide))
    go_enter Tryz.func270, Tryz.ntmps270
    go_wp2_with fail
    refine K.out.mono ?_
    rintro e w' ⟨rfl, rfl⟩
    go_wp2_with fail
    go_ret
    exact ⟨rfl, rfl⟩
  have KL := Lib.hid kL
  have KP := Lib.hid (fun (k : Int) (W : World) => pdq_zz fn k W)
  clear kL
  go_enter Tryz.func239, Tryz.ntmps239
  go_wp2_with fail
  refine (KL.out _).mono ?_
  rintro e w1 ⟨rfl, rfl⟩
  go_wp2_with fail
  refine (KP.out _ _).mono ?_
  rintro e w2 ⟨rfl, rfl⟩
  go_wp2_with fail
  first | go_end0 | go_ret | go_returns
  exact ⟨rfl, Below.refl _ _⟩
set_option maxHeartbeats 12800000 in
set_option maxRecDepth 100000 in
theorem state1_z (R : Nat) (A : Option Addr) (n c : Nat) (w : World) (HR : Hid (Bk w R 105 #[.slice A n c, .int .i64 2, .bool false])) (hn : Hid (n = e1B.length)) (hr : Hid (Rd w A e1B)) (hc : n ≤ c) (hc2 : c ≤ 9223372036854775807) :
    Calls Tryz.prog 58 #[.pointer (some ⟨R, 0, none⟩), .int .i64 1] w fun e w' => e = .returned (.agg #[.int .i64 0, .int .i64 1, .slice none 0 0, .slice none 0 0, .slice none 0 0]) ∧ Bk w' R 105 #[.slice A n c, .int .i64 8, .bool false] ∧ Rd w' A e1B ∧ GrP (fun q => q = R) w w' := by
  obtain ⟨W0, hW0⟩ : ∃ W0, W0 = (w.alloc (.cells #[.int .i64 0, .int .i64 0, .slice none 0 0, .slice none 0 0, .slice none 0 0] 26)).alloc (.cells #[.int .i64 0, .int .i64 0, .slice none 0 0, .slice none 0 0, .slice none 0 0] 26) := ⟨_, rfl⟩
  obtain ⟨Sr, hSr⟩ : ∃ s, s = w.heap.size := ⟨_, rfl⟩
  obtain ⟨Sb, hSb⟩ : ∃ s, s = w.heap.size + 1 := ⟨_, rfl⟩
  have HQ0 : Hid (Bk W0 Sr 26 #[.int .i64 0, .int .i64 0, .slice none 0 0, .slice none 0 0, .slice none 0 0]) := by rw [hW0, hSr]; exact (Bk.fresh w _ _).later ((Below.refl _ _).alloc (Nat.le_refl _) _)
  have HS0 : Hid (Bk W0 Sb 26 #[.int .i64 0, .int .i64 0, .slice none 0 0, .slice none 0 0, .slice none 0 0]) := by rw [hW0, hSb]; exact Bk.freshAt _ _ _ (by simp)
  have hb0 : Below w.heap.size w W0 := by rw [hW0]; exact ((Below.refl _ _).alloc (Nat.le_refl _) _).alloc (by simp) _
  have HR0 := Lib.hid (HR.out.later hb0)
  have HD0 := Lib.hid (hr.out.below hb0)
  have HG0 : Hid (GrP (fun q => q = R ∨ w.heap.size ≤ q) w W0) := GrP.ofBelow hb0
  have HNE : Hid (R ≠ Sr ∧ R ≠ Sb ∧ Sr ≠ Sb ∧ w.heap.size ≤ Sr ∧ w.heap.size ≤ Sb) := by have := HR.out.here; show _ ∧ _; omega
  clear HR hr hb0
  go_enter Tryz.func58, Tryz.ntmps58
  go_upto_region 2 with fail
  try simp only [Act.put]
  rw [← hW0, ← hSb, ← hSr]
  clear hW0 hSb hSr
  go_wp2_with fail
  refine (number_z R A n c 2 3 0 e1B W0 HR0 hn HD0 hc hc2 (Lib.hid (by kernel_rfl)) (by decide)).mono ?_
  rintro e w1 ⟨rfl, hB, hG⟩
  have HR1 := Lib.hid hB
  have HS1 := Lib.hid (HS0.out.stays hG (by intro e; injection e with e; exact HNE.out.2.1 e.symm))
  have HQ1 := Lib.hid (HQ0.out.stays hG (by intro e; injection e with e; exact HNE.out.1 e.symm))
  have HD1 := Lib.hid (HD0.out.aside HR0.out noB_rd hG)
  have HG1 := Lib.hid (HG0.out.trans ((GrP.of hG).wide fun k _ hk => by injection hk with hk; exact .inl hk.symm))
  clear hB hG HR0 HS0 HQ0 HD0 HG0
  go_wp2_with ((with_reducible refine store1_bk rfl 3 (.tmp 8) (.tmp 7) rfl Sb 0 (.int .i64 0) rfl rfl 26 #[.int .i64 0, .int .i64 0, .slice none 0 0, .slice none 0 0, .slice none 0 0] #[.int .i64 0, .int .i64 0, .slice none 0 0, .slice none 0 0, .slice none 0 0] HS1.out (by kernel_rfl) (by simp) rfl rfl rfl ?_); intro w2 hB hG hs; have HS2 := Lib.hid hB; have HR2 := Lib.hid (HR1.out.stays hG (by intro e; injection e with e; exact HNE.out.2.1 e)); have HQ2 := Lib.hid (HQ1.out.stays hG (by intro e; injection e with e; exact HNE.out.2.2.1 e)); have HD2 := Lib.hid (HD1.out.aside HS1.out noB_st0 hG); have HG2 := Lib.hid (HG1.out.trans ((GrP.of hG).wide fun k _ hk => by injection hk with hk; exact .inr (by rw [← hk]; exact HNE.out.2.2.2.2))); clear hB hG hs)
  refine (number_z R A n c 3 5 1 e1B w2 HR2 hn HD2 hc hc2 (Lib.hid (by kernel_rfl)) (by decide)).mono ?_
  rintro e w3 ⟨rfl, hB, hG⟩
  have HR3 := Lib.hid hB
  have HS3 := Lib.hid (HS2.out.stays hG (by intro e; injection e with e; exact HNE.out.2.1 e.symm))
  have HQ3 := Lib.hid (HQ2.out.stays hG (by intro e; injection e with e; exact HNE.out.1 e.symm))
  have HD3 := Lib.hid (HD2.out.aside HR2.out noB_rd hG)
  have HG3 := Lib.hid (HG2.out.trans ((GrP.of hG).wide fun k _ hk => by injection hk with hk; exact .inl hk.symm))
  clear hB hG HR1 HS1 HQ1 HD1 HG1 HR2 HS2 HQ2 HD2 HG2
  go_wp2_with ((with_reducible refine store1_bk rfl 3 (.tmp 11) (.tmp 10) rfl Sb 1 (.int .i64 1) rfl rfl 26 #[.int .i64 0, .int .i64 0, .slice none 0 0, .slice none 0 0, .slice none 0 0] #[.int .i64 0, .int .i64 1, .slice none 0 0, .slice none 0 0, .slice none 0 0] HS3.out (by kernel_rfl) (by simp) rfl rfl rfl ?_); intro w4 hB hG hs; have HS4 := Lib.hid hB; have HR4 := Lib.hid (HR3.out.stays hG (by intro e; injection e with e; exact HNE.out.2.1 e)); have HQ4 := Lib.hid (HQ3.out.stays hG (by intro e; injection e with e; exact HNE.out.2.2.1 e)); have HD4 := Lib.hid (HD3.out.aside HS3.out noB_st0 hG); have HG4 := Lib.hid (HG3.out.trans ((GrP.of hG).wide fun k _ hk => by injection hk with hk; exact .inr (by rw [← hk]; exact HNE.out.2.2.2.2))); clear hB hG hs)
  clear HR3 HS3 HQ3 HD3 HG3
  refine (lists_z R Sb A n c e1B w4 HNE.out.2.1 (Lib.hid ⟨HR4.out, HS4.out, HD4.out, GrP.refl _ _⟩) hn hc hc2 (Lib.hid (by kernel_rfl)) (Lib.hid (by kernel_rfl)) (Lib.hid (by kernel_rfl))).mono ?_
  rintro e w5 ⟨rfl, hZ⟩
  have HZ5 := Lib.hid hZ
  have HQ5 := Lib.hid (HQ4.out.grp hZ.g (fun e => e.elim (fun e => HNE.out.1 e.symm) HNE.out.2.2.1))
  have HG5 := Lib.hid (HG4.out.trans (hZ.g.wide fun k _ hk => hk.imp id fun e => by rw [e]; exact HNE.out.2.2.2.2))
  clear hZ HR4 HS4 HQ4 HD4 HG4
  go_wp2_with (first | (with_reducible refine load_bk rfl 26 _ rfl Sb 0 rfl 26 #[.int .i64 0, .int .i64 1, .slice none 0 0, .slice none 0 0, .slice none 0 0] #[.int .i64 0, .int .i64 1, .slice none 0 0, .slice none 0 0, .slice none 0 0] _ HZ5.out.s (Part.whole _) Tryz.underlying26 rfl (by kernel_rfl) ?_) | ((with_reducible refine store_bk rfl 26 (.tmp 4) (.tmp 24) rfl Sr 0 #[.int .i64 0, .int .i64 1, .slice none 0 0, .slice none 0 0, .slice none 0 0] rfl rfl 26 #[.int .i64 0, .int .i64 0, .slice none 0 0, .slice none 0 0, .slice none 0 0] #[.int .i64 0, .int .i64 1, .slice none 0 0, .slice none 0 0, .slice none 0 0] HQ5.out (by kernel_rfl) (by simp) (by kernel_rfl) rfl ?_); intro w6 hB hG hs; have HQ6 := Lib.hid hB; have HZ6 : Hid (Bk w6 R 105 #[.slice A n c, .int .i64 8, .bool false] ∧ Rd w6 A e1B) := ⟨HZ5.out.r.stays hG (by intro e; injection e with e; exact HNE.out.1 e), HZ5.out.d.aside HQ5.out noB_st0 hG⟩; have HG6 := Lib.hid (HG5.out.trans ((GrP.of hG).wide fun k _ hk => by injection hk with hk; exact .inr (by rw [← hk]; exact HNE.out.2.2.2.1))); clear hB hG hs))
  refine bodyPost_ret (v := .agg #[.int .i64 0, .int .i64 1, .slice none 0 0, .slice none 0 0, .slice none 0 0]) (results_bk1 Tryz.results58 _ _ Sr 26 _ _ rfl HQ6.out Tryz.underlying26 rfl (by kernel_rfl)) rfl ?_
  exact ⟨rfl, HZ6.out.1, HZ6.out.2, ⟨HG6.out.os, HG6.out.tape, HG6.out.output, HG6.out.size, fun q hq hn => HG6.out.block q hq fun e => e.elim hn fun e => by omega⟩⟩
set_option maxHeartbeats 12800000 in
set_option maxRecDepth 100000 in
theorem state2_z (R : Nat) (A : Option Addr) (n c : Nat) (w : World) (HR : Hid (Bk w R 105 #[.slice A n c, .int .i64 2, .bool false])) (hn : Hid (n = e2B.length)) (hr : Hid (Rd w A e2B)) (hc : n ≤ c) (hc2 : c ≤ 9223372036854775807) :
    Calls Tryz.prog 58 #[.pointer (some ⟨R, 0, none⟩), .int .i64 2] w fun e w' => e = .returned (.agg #[.int .i64 0, .int .i64 1, .slice none 0 0, .slice none 0 0, .slice none 0 0]) ∧ Bk w' R 105 #[.slice A n c, .int .i64 7, .bool false] ∧ Rd w' A e2B ∧ GrP (fun q => q = R) w w' := by
  obtain ⟨W0, hW0⟩ : ∃ W0, W0 = (w.alloc (.cells #[.int .i64 0, .int .i64 0, .slice none 0 0, .slice none 0 0, .slice none 0 0] 26)).alloc (.cells #[.int .i64 0, .int .i64 0, .slice none 0 0, .slice none 0 0, .slice none 0 0] 26) := ⟨_, rfl⟩
  obtain ⟨Sr, hSr⟩ : ∃ s, s = w.heap.size := ⟨_, rfl⟩
  obtain ⟨Sb, hSb⟩ : ∃ s, s = w.heap.size + 1 := ⟨_, rfl⟩
  have HQ0 : Hid (Bk W0 Sr 26 #[.int .i64 0, .int .i64 0, .slice none 0 0, .slice none 0 0, .slice none 0 0]) := by rw [hW0, hSr]; exact (Bk.fresh w _ _).later ((Below.refl _ _).alloc (Nat.le_refl _) _)
  have HS0 : Hid (Bk W0 Sb 26 #[.int .i64 0, .int .i64 0, .slice none 0 0, .slice none 0 0, .slice none 0 0]) := by rw [hW0, hSb]; exact Bk.freshAt _ _ _ (by simp)
  have hb0 : Below w.heap.size w W0 := by rw [hW0]; exact ((Below.refl _ _).alloc (Nat.le_refl _) _).alloc (by simp) _
  have HR0 := Lib.hid (HR.out.later hb0)
  have HD0 := Lib.hid (hr.out.below hb0)
  have HG0 : Hid (GrP (fun q => q = R ∨ w.heap.size ≤ q) w W0) := GrP.ofBelow hb0
  have HNE : Hid (R ≠ Sr ∧ R ≠ Sb ∧ Sr ≠ Sb ∧ w.heap.size ≤ Sr ∧ w.heap.size ≤ Sb) := by have := HR.out.here; show _ ∧ _; omega
  clear HR hr hb0
  go_enter Tryz.func58, Tryz.ntmps58
  go_upto_region 2 with fail
  try simp only [Act.put]
  rw [← hW0, ← hSb, ← hSr]
  clear hW0 hSb hSr
  go_wp2_with fail
  refine (number_z R A n c 2 3 0 e2B W0 HR0 hn HD0 hc hc2 (Lib.hid (by kernel_rfl)) (by decide)).mono ?_
  rintro e w1 ⟨rfl, hB, hG⟩
  have HR1 := Lib.hid hB
  have HS1 := Lib.hid (HS0.out.stays hG (by intro e; injection e with e; exact HNE.out.2.1 e.symm))
  have HQ1 := Lib.hid (HQ0.out.stays hG (by intro e; injection e with e; exact HNE.out.1 e.symm))
  have HD1 := Lib.hid (HD0.out.aside HR0.out noB_rd hG)
  have HG1 := Lib.hid (HG0.out.trans ((GrP.of hG).wide fun k _ hk => by injection hk with hk; exact .inl hk.symm))
  clear hB hG HR0 HS0 HQ0 HD0 HG0
  go_wp2_with ((with_reducible refine store1_bk rfl 3 (.tmp 8) (.tmp 7) rfl Sb 0 (.int .i64 0) rfl rfl 26 #[.int .i64 0, .int .i64 0, .slice none 0 0, .slice none 0 0, .slice none 0 0] #[.int .i64 0, .int .i64 0, .slice none 0 0, .slice none 0 0, .slice none 0 0] HS1.out (by kernel_rfl) (by simp) rfl rfl rfl ?_); intro w2 hB hG hs; have HS2 := Lib.hid hB; have HR2 := Lib.hid (HR1.out.stays hG (by intro e; injection e with e; exact HNE.out.2.1 e)); have HQ2 := Lib.hid (HQ1.out.stays hG (by intro e; injection e with e; exact HNE.out.2.2.1 e)); have HD2 := Lib.hid (HD1.out.aside HS1.out noB_st0 hG); have HG2 := Lib.hid (HG1.out.trans ((GrP.of hG).wide fun k _ hk => by injection hk with hk; exact .inr (by rw [← hk]; exact HNE.out.2.2.2.2))); clear hB hG hs)
  refine (number_z R A n c 3 5 1 e2B w2 HR2 hn HD2 hc hc2 (Lib.hid (by kernel_rfl)) (by decide)).mono ?_
  rintro e w3 ⟨rfl, hB, hG⟩
  have HR3 := Lib.hid hB
  have HS3 := Lib.hid (HS2.out.stays hG (by intro e; injection e with e; exact HNE.out.2.1 e.symm))
  have HQ3 := Lib.hid (HQ2.out.stays hG (by intro e; injection e with e; exact HNE.out.1 e.symm))
  have HD3 := Lib.hid (HD2.out.aside HR2.out noB_rd hG)
  have HG3 := Lib.hid (HG2.out.trans ((GrP.of hG).wide fun k _ hk => by injection hk with hk; exact .inl hk.symm))
  clear hB hG HR1 HS1 HQ1 HD1 HG1 HR2 HS2 HQ2 HD2 HG2
  go_wp2_with ((with_reducible refine store1_bk rfl 3 (.tmp 11) (.tmp 10) rfl Sb 1 (.int .i64 1) rfl rfl 26 #[.int .i64 0, .int .i64 0, .slice none 0 0, .slice none 0 0, .slice none 0 0] #[.int .i64 0, .int .i64 1, .slice none 0 0, .slice none 0 0, .slice none 0 0] HS3.out (by kernel_rfl) (by simp) rfl rfl rfl ?_); intro w4 hB hG hs; have HS4 := Lib.hid hB; have HR4 := Lib.hid (HR3.out.stays hG (by intro e; injection e with e; exact HNE.out.2.1 e)); have HQ4 := Lib.hid (HQ3.out.stays hG (by intro e; injection e with e; exact HNE.out.2.2.1 e)); have HD4 := Lib.hid (HD3.out.aside HS3.out noB_st0 hG); have HG4 := Lib.hid (HG3.out.trans ((GrP.of hG).wide fun k _ hk => by injection hk with hk; exact .inr (by rw [← hk]; exact HNE.out.2.2.2.2))); clear hB hG hs)
  clear HR3 HS3 HQ3 HD3 HG3
  refine (groups_z R Sb A n c e2B w4 HNE.out.2.1 (Lib.hid ⟨HR4.out, HS4.out, HD4.out, GrP.refl _ _⟩) hn hc hc2 (Lib.hid (by kernel_rfl)) (Lib.hid (by kernel_rfl)) (Lib.hid fun W => sort_zz _ W)).mono ?_
  rintro e w5 ⟨rfl, hZ⟩
  have HZ5 := Lib.hid hZ
  have HQ5 := Lib.hid (HQ4.out.grp hZ.g (fun e => e.elim (fun e => HNE.out.1 e.symm) HNE.out.2.2.1))
  have HG5 := Lib.hid (HG4.out.trans (hZ.g.wide fun k _ hk => hk.imp id fun e => by rw [e]; exact HNE.out.2.2.2.2))
  clear hZ HR4 HS4 HQ4 HD4 HG4
  go_wp2_with (first | (with_reducible refine load_bk rfl 26 _ rfl Sb 0 rfl 26 #[.int .i64 0, .int .i64 1, .slice none 0 0, .slice none 0 0, .slice none 0 0] #[.int .i64 0, .int .i64 1, .slice none 0 0, .slice none 0 0, .slice none 0 0] _ HZ5.out.s (Part.whole _) Tryz.underlying26 rfl (by kernel_rfl) ?_) | ((with_reducible refine store_bk rfl 26 (.tmp 4) (.tmp 24) rfl Sr 0 #[.int .i64 0, .int .i64 1, .slice none 0 0, .slice none 0 0, .slice none 0 0] rfl rfl 26 #[.int .i64 0, .int .i64 0, .slice none 0 0, .slice none 0 0, .slice none 0 0] #[.int .i64 0, .int .i64 1, .slice none 0 0, .slice none 0 0, .slice none 0 0] HQ5.out (by kernel_rfl) (by simp) (by kernel_rfl) rfl ?_); intro w6 hB hG hs; have HQ6 := Lib.hid hB; have HZ6 : Hid (Bk w6 R 105 #[.slice A n c, .int .i64 7, .bool false] ∧ Rd w6 A e2B) := ⟨HZ5.out.r.stays hG (by intro e; injection e with e; exact HNE.out.1 e), HZ5.out.d.aside HQ5.out noB_st0 hG⟩; have HG6 := Lib.hid (HG5.out.trans ((GrP.of hG).wide fun k _ hk => by injection hk with hk; exact .inr (by rw [← hk]; exact HNE.out.2.2.2.1))); clear hB hG hs))
  refine bodyPost_ret (v := .agg #[.int .i64 0, .int .i64 1, .slice none 0 0, .slice none 0 0, .slice none 0 0]) (results_bk1 Tryz.results58 _ _ Sr 26 _ _ rfl HQ6.out Tryz.underlying26 rfl (by kernel_rfl)) rfl ?_
  exact ⟨rfl, HZ6.out.1, HZ6.out.2, ⟨HG6.out.os, HG6.out.tape, HG6.out.output, HG6.out.size, fun q hq hn => HG6.out.block q hq fun e => e.elim hn fun e => by omega⟩⟩
set_option maxHeartbeats 6400000 in
theorem beq_z (A : Option Addr) (n c : Nat) (B : Option Addr) (m d : Nat) (l : List UInt8) (w : World) (hn : n = l.length) (hm : m = l.length) (hr : Rd w A l) (hq : Rd w B l) : Calls Tryz.prog 139 #[.slice A n c, .slice B m d] w fun e w' => e = .returned (.bool true) ∧ w = w' := by
  have q1 := run_str_rd (P := Tryz.prog) w (src := 29) (dst := 9) (c := c) Tryz.underlying29 Tryz.underlying5 Tryz.underlying9 hn hr
  have q2 := run_str_rd (P := Tryz.prog) w (src := 29) (dst := 9) (c := d) Tryz.underlying29 Tryz.underlying5 Tryz.underlying9 hm hq
  clear hn hm hr hq
  obtain ⟨s, hs⟩ : ∃ s : ByteArray, s = ⟨l.toArray⟩ := ⟨_, rfl⟩
  rw [← hs] at q1 q2
  clear hs
  go_enter Tryz.func139, Tryz.ntmps139
  go_wp2_with fail
  go_ret
  exact ⟨rfl, rfl⟩
set_option maxHeartbeats 6400000 in
set_option maxRecDepth 100000 in
theorem isEnc1_z (A : Option Addr) (n c : Nat) (w : World) (hn : Hid (n = e1B.length)) (hr : Hid (Rd w A e1B)) : Calls Tryz.prog 59 #[.slice A n c, .agg #[.int .i64 0, .int .i64 1, .slice none 0 0, .slice none 0 0, .slice none 0 0], .int .i64 1] w fun e w' => e = .returned (.bool true) ∧ Below w.heap.size w w' := by
  have HX0 : Hid (Bk (w.alloc (.cells #[.int .i64 0, .int .i64 1, .slice none 0 0, .slice none 0 0, .slice none 0 0] 26)) w.heap.size 26 #[.int .i64 0, .int .i64 1, .slice none 0 0, .slice none 0 0, .slice none 0 0]) := Bk.fresh _ _ _
  have Hb0 : Hid (Below w.heap.size w (w.alloc (.cells #[.int .i64 0, .int .i64 1, .slice none 0 0, .slice none 0 0, .slice none 0 0] 26))) := (Below.refl _ _).alloc (Nat.le_refl _) _
  go_enter Tryz.func59, Tryz.ntmps59
  go_wp2_with (with_reducible refine load_bk rfl 26 _ rfl w.heap.size 0 rfl 26 #[.int .i64 0, .int .i64 1, .slice none 0 0, .slice none 0 0, .slice none 0 0] #[.int .i64 0, .int .i64 1, .slice none 0 0, .slice none 0 0, .slice none 0 0] _ HX0.out (Part.whole _) Tryz.underlying26 rfl (by kernel_rfl) ?_)
  refine (right_z none 0 none 0 none 0 _).mono ?_
  rintro e w1 ⟨rfl, hb1⟩
  have HX1 := Lib.hid (HX0.out.later hb1)
  have Hb1 : Hid (Below w.heap.size w w1) := Hb0.out.trans (hb1.mono Hb0.out.size)
  clear hb1 HX0 Hb0
  go_wp2_with (with_reducible refine load_bk rfl 26 _ rfl w.heap.size 0 rfl 26 #[.int .i64 0, .int .i64 1, .slice none 0 0, .slice none 0 0, .slice none 0 0] #[.int .i64 0, .int .i64 1, .slice none 0 0, .slice none 0 0, .slice none 0 0] _ HX1.out (Part.whole _) Tryz.underlying26 rfl (by kernel_rfl) ?_)
  refine (listed_z ZSt.nil _).mono ?_
  rintro e w2 ⟨⟨A2, N2, c2, rfl, h1, h2, h3, h4⟩, hb2⟩
  have HE : Hid (N2 = e1B.length ∧ Rd w2 A2 e1B) := ⟨h1, h2⟩
  have Hb2 : Hid (Below w.heap.size w w2) := Hb1.out.trans (hb2.mono Hb1.out.size)
  clear h1 h2 h3 h4 hb2
  go_wp2_with fail
  refine (beq_z A n c A2 N2 c2 e1B w2 hn.out HE.out.1 (hr.out.below Hb2.out) HE.out.2).mono ?_
  rintro e w3 ⟨rfl, rfl⟩
  go_wp2_with fail
  go_ret
  exact ⟨rfl, Hb2.out⟩
set_option maxHeartbeats 6400000 in
set_option maxRecDepth 100000 in
theorem isEnc2_z (A : Option Addr) (n c : Nat) (w : World) (hn : Hid (n = e2B.length)) (hr : Hid (Rd w A e2B)) : Calls Tryz.prog 59 #[.slice A n c, .agg #[.int .i64 0, .int .i64 1, .slice none 0 0, .slice none 0 0, .slice none 0 0], .int .i64 2] w fun e w' => e = .returned (.bool true) ∧ Below w.heap.size w w' := by
  have HX0 : Hid (Bk (w.alloc (.cells #[.int .i64 0, .int .i64 1, .slice none 0 0, .slice none 0 0, .slice none 0 0] 26)) w.heap.size 26 #[.int .i64 0, .int .i64 1, .slice none 0 0, .slice none 0 0, .slice none 0 0]) := Bk.fresh _ _ _
  have Hb0 : Hid (Below w.heap.size w (w.alloc (.cells #[.int .i64 0, .int .i64 1, .slice none 0 0, .slice none 0 0, .slice none 0 0] 26))) := (Below.refl _ _).alloc (Nat.le_refl _) _
  go_enter Tryz.func59, Tryz.ntmps59
  go_wp2_with (with_reducible refine load_bk rfl 26 _ rfl w.heap.size 0 rfl 26 #[.int .i64 0, .int .i64 1, .slice none 0 0, .slice none 0 0, .slice none 0 0] #[.int .i64 0, .int .i64 1, .slice none 0 0, .slice none 0 0, .slice none 0 0] _ HX0.out (Part.whole _) Tryz.underlying26 rfl (by kernel_rfl) ?_)
  refine (right_z none 0 none 0 none 0 _).mono ?_
  rintro e w1 ⟨rfl, hb1⟩
  have HX1 := Lib.hid (HX0.out.later hb1)
  have Hb1 : Hid (Below w.heap.size w w1) := Hb0.out.trans (hb1.mono Hb0.out.size)
  clear hb1 HX0 Hb0
  go_wp2_with (with_reducible refine load_bk rfl 26 _ rfl w.heap.size 0 rfl 26 #[.int .i64 0, .int .i64 1, .slice none 0 0, .slice none 0 0, .slice none 0 0] #[.int .i64 0, .int .i64 1, .slice none 0 0, .slice none 0 0, .slice none 0 0] _ HX1.out (Part.whole _) Tryz.underlying26 rfl (by kernel_rfl) ?_)
  refine (grouped_z ZSt.nil _).mono ?_
  rintro e w2 ⟨⟨A2, N2, c2, rfl, h1, h2, h3, h4⟩, hb2⟩
  have HE : Hid (N2 = e2B.length ∧ Rd w2 A2 e2B) := ⟨h1, h2⟩
  have Hb2 : Hid (Below w.heap.size w w2) := Hb1.out.trans (hb2.mono Hb1.out.size)
  clear h1 h2 h3 h4 hb2
  go_wp2_with fail
  refine (beq_z A n c A2 N2 c2 e2B w2 hn.out HE.out.1 (hr.out.below Hb2.out) HE.out.2).mono ?_
  rintro e w3 ⟨rfl, rfl⟩
  go_wp2_with fail
  go_ret
  exact ⟨rfl, Hb2.out⟩
set_option maxHeartbeats 12800000 in
set_option maxRecDepth 100000 in
theorem decode1_z (A : Option Addr) (n c : Nat) (w : World) (hn : Hid (n = e1B.length)) (hr : Hid (Rd w A e1B)) (hc : n ≤ c) (hc2 : c ≤ 9223372036854775807) :
    Calls Tryz.prog 20 #[.slice A n c] w fun e w' => e = .returned (.tuple #[.agg #[.int .i64 0, .int .i64 1, .slice none 0 0, .slice none 0 0, .slice none 0 0], .int .i64 1, .int .i64 0]) ∧ Below w.heap.size w w' := by
  obtain ⟨R, hR⟩ : ∃ r, r = w.heap.size + 1 := ⟨_, rfl⟩
  obtain ⟨w1, hw1⟩ : ∃ W, W = (w.alloc (.cells #[.int .i64 0, .int .i64 0, .slice none 0 0, .slice none 0 0, .slice none 0 0] 26)).alloc (.cells #[.slice A n c, .int .i64 0, .bool false] 105) := ⟨_, rfl⟩
  have HR1 : Hid (Bk w1 R 105 #[.slice A n c, .int .i64 0, .bool false]) := by rw [hw1, hR]; exact Bk.freshAt _ _ _ (by simp)
  have HQ1 : Hid (Bk w1 w.heap.size 26 #[.int .i64 0, .int .i64 0, .slice none 0 0, .slice none 0 0, .slice none 0 0]) := by rw [hw1]; exact (Bk.fresh w _ _).later ((Below.refl _ _).alloc (Nat.le_refl _) _)
  have Hb1 : Hid (Below w.heap.size w w1) := by rw [hw1]; exact ((Below.refl _ _).alloc (Nat.le_refl _) _).alloc (by simp) _
  have HNE : Hid (w.heap.size < R) := by show _ < _; omega
  go_enter Tryz.func20, Tryz.ntmps20
  go_wp2_with fail
  rw [← hw1, ← hR]
  clear hw1 hR
  have HD1 := Lib.hid (hr.out.below Hb1.out)
  have HGR : Hid (∀ W, GrP (fun q => q = R) w1 W → Below w.heap.size w W ∧ Bk W w.heap.size 26 #[.int .i64 0, .int .i64 0, .slice none 0 0, .slice none 0 0, .slice none 0 0]) := fun W hG => ⟨Hb1.out.trans (hG.below Hb1.out.size fun q hq => by rw [hq]; exact Nat.le_of_lt HNE.out), HQ1.out.grp hG (fun e => by have := HNE.out; omega)⟩
  refine (number_z R A n c 0 2 1 e1B w1 HR1 hn HD1 hc hc2 (Lib.hid (by kernel_rfl)) (by decide)).mono ?_
  rintro e w2 ⟨rfl, hB, hG⟩
  have HR2 := Lib.hid hB
  have HD2 := Lib.hid (HD1.out.aside HR1.out noB_rd hG)
  have HG2 : Hid (GrP (fun q => q = R) w1 w2) := (GrP.of hG).wide fun k _ hk => by injection hk with hk; exact hk.symm
  clear hB hG HR1 HD1
  go_wp2_with fail
  refine (state1_z R A n c w2 HR2 hn HD2 hc hc2).mono ?_
  rintro e w3 ⟨rfl, hB, hD, hG⟩
  have HR3 := Lib.hid hB; have HD3 := Lib.hid hD
  have HG3 : Hid (GrP (fun q => q = R) w1 w3) := HG2.out.trans hG
  have HB3 := Lib.hid (HGR.out w3 HG3.out).1
  have HQ3 := Lib.hid (HGR.out w3 HG3.out).2
  clear hB hD hG HR2 HD2 HG2 HG3 HGR HQ1 Hb1 HNE
  go_wp2_with (first | ((with_reducible refine store_bk rfl 26 (.tmp 7) (.tmp 12) rfl w3.heap.size 0 #[.int .i64 0, .int .i64 1, .slice none 0 0, .slice none 0 0, .slice none 0 0] rfl rfl 26 _ #[.int .i64 0, .int .i64 1, .slice none 0 0, .slice none 0 0, .slice none 0 0] (Bk.fresh _ _ _) (by kernel_rfl) (by simp) (by kernel_rfl) rfl ?_); intro w4 hB hG hs; obtain ⟨p7, hp7⟩ : ∃ r, r = w3.heap.size := ⟨_, rfl⟩; have HL4 : Hid (Below w3.heap.size w3 w4) := ((Below.refl _ _).alloc (Nat.le_refl _) _).grown hG (by simp) (by intro k e; injection e with e; omega); rw [← hp7] at hB ⊢; have HS4 := Lib.hid hB; have HQ4 := Lib.hid (HQ3.out.later HL4.out); have HD4 := Lib.hid (HD3.out.below HL4.out); have HB4 : Hid (Below w.heap.size w w4) := HB3.out.trans (HL4.out.mono HB3.out.size); have c2 : w4.cell? ⟨R, 2, none⟩ = some (.bool false) := (HR3.out.later HL4.out).cellAt 2; clear hB hG hs hp7) | (with_reducible refine load_bk rfl 26 _ rfl p7 0 rfl 26 #[.int .i64 0, .int .i64 1, .slice none 0 0, .slice none 0 0, .slice none 0 0] #[.int .i64 0, .int .i64 1, .slice none 0 0, .slice none 0 0, .slice none 0 0] _ HS4.out (Part.whole _) Tryz.underlying26 rfl (by kernel_rfl) ?_))
  refine (isEnc1_z A n c w4 hn HD4).mono ?_
  rintro e w5 ⟨rfl, hb5⟩
  have HS5 := Lib.hid (HS4.out.later hb5); have HQ5 := Lib.hid (HQ4.out.later hb5)
  have HB5 : Hid (Below w.heap.size w w5) := HB4.out.trans (hb5.mono HB4.out.size)
  clear hb5 c2 HS4 HQ4 HD4 HB4
  go_wp2_with (first | (with_reducible refine load_bk rfl 26 _ rfl p7 0 rfl 26 #[.int .i64 0, .int .i64 1, .slice none 0 0, .slice none 0 0, .slice none 0 0] #[.int .i64 0, .int .i64 1, .slice none 0 0, .slice none 0 0, .slice none 0 0] _ HS5.out (Part.whole _) Tryz.underlying26 rfl (by kernel_rfl) ?_) | ((with_reducible refine store_bk rfl 26 (.tmp 2) (.tmp 23) rfl w.heap.size 0 #[.int .i64 0, .int .i64 1, .slice none 0 0, .slice none 0 0, .slice none 0 0] rfl rfl 26 #[.int .i64 0, .int .i64 0, .slice none 0 0, .slice none 0 0, .slice none 0 0] #[.int .i64 0, .int .i64 1, .slice none 0 0, .slice none 0 0, .slice none 0 0] HQ5.out (by kernel_rfl) (by simp) (by kernel_rfl) rfl ?_); intro w6 hB hG hs; have HQ6 := Lib.hid hB; have HB6 : Hid (Below w.heap.size w w6) := HB5.out.grown hG HB5.out.size (by intro k e; injection e with e; omega); clear hB hG hs))
  refine bodyPost_ret (v := .tuple #[.agg #[.int .i64 0, .int .i64 1, .slice none 0 0, .slice none 0 0, .slice none 0 0], .int .i64 1, .int .i64 0]) (results_bk3 Tryz.results20 _ _ w.heap.size 26 _ _ _ _ rfl rfl rfl HQ6.out Tryz.underlying26 rfl (by kernel_rfl)) rfl ?_
  exact ⟨rfl, HB6.out⟩
set_option maxHeartbeats 12800000 in
set_option maxRecDepth 100000 in
theorem decode2_z (A : Option Addr) (n c : Nat) (w : World) (hn : Hid (n = e2B.length)) (hr : Hid (Rd w A e2B)) (hc : n ≤ c) (hc2 : c ≤ 9223372036854775807) :
    Calls Tryz.prog 20 #[.slice A n c] w fun e w' => e = .returned (.tuple #[.agg #[.int .i64 0, .int .i64 1, .slice none 0 0, .slice none 0 0, .slice none 0 0], .int .i64 2, .int .i64 0]) ∧ Below w.heap.size w w' := by
  obtain ⟨R, hR⟩ : ∃ r, r = w.heap.size + 1 := ⟨_, rfl⟩
  obtain ⟨w1, hw1⟩ : ∃ W, W = (w.alloc (.cells #[.int .i64 0, .int .i64 0, .slice none 0 0, .slice none 0 0, .slice none 0 0] 26)).alloc (.cells #[.slice A n c, .int .i64 0, .bool false] 105) := ⟨_, rfl⟩
  have HR1 : Hid (Bk w1 R 105 #[.slice A n c, .int .i64 0, .bool false]) := by rw [hw1, hR]; exact Bk.freshAt _ _ _ (by simp)
  have HQ1 : Hid (Bk w1 w.heap.size 26 #[.int .i64 0, .int .i64 0, .slice none 0 0, .slice none 0 0, .slice none 0 0]) := by rw [hw1]; exact (Bk.fresh w _ _).later ((Below.refl _ _).alloc (Nat.le_refl _) _)
  have Hb1 : Hid (Below w.heap.size w w1) := by rw [hw1]; exact ((Below.refl _ _).alloc (Nat.le_refl _) _).alloc (by simp) _
  have HNE : Hid (w.heap.size < R) := by show _ < _; omega
  go_enter Tryz.func20, Tryz.ntmps20
  go_wp2_with fail
  rw [← hw1, ← hR]
  clear hw1 hR
  have HD1 := Lib.hid (hr.out.below Hb1.out)
  have HGR : Hid (∀ W, GrP (fun q => q = R) w1 W → Below w.heap.size w W ∧ Bk W w.heap.size 26 #[.int .i64 0, .int .i64 0, .slice none 0 0, .slice none 0 0, .slice none 0 0]) := fun W hG => ⟨Hb1.out.trans (hG.below Hb1.out.size fun q hq => by rw [hq]; exact Nat.le_of_lt HNE.out), HQ1.out.grp hG (fun e => by have := HNE.out; omega)⟩
  refine (number_z R A n c 0 2 2 e2B w1 HR1 hn HD1 hc hc2 (Lib.hid (by kernel_rfl)) (by decide)).mono ?_
  rintro e w2 ⟨rfl, hB, hG⟩
  have HR2 := Lib.hid hB
  have HD2 := Lib.hid (HD1.out.aside HR1.out noB_rd hG)
  have HG2 : Hid (GrP (fun q => q = R) w1 w2) := (GrP.of hG).wide fun k _ hk => by injection hk with hk; exact hk.symm
  clear hB hG HR1 HD1
  go_wp2_with fail
  refine (state2_z R A n c w2 HR2 hn HD2 hc hc2).mono ?_
  rintro e w3 ⟨rfl, hB, hD, hG⟩
  have HR3 := Lib.hid hB; have HD3 := Lib.hid hD
  have HG3 : Hid (GrP (fun q => q = R) w1 w3) := HG2.out.trans hG
  have HB3 := Lib.hid (HGR.out w3 HG3.out).1
  have HQ3 := Lib.hid (HGR.out w3 HG3.out).2
  clear hB hD hG HR2 HD2 HG2 HG3 HGR HQ1 Hb1 HNE
  go_wp2_with (first | ((with_reducible refine store_bk rfl 26 (.tmp 7) (.tmp 12) rfl w3.heap.size 0 #[.int .i64 0, .int .i64 1, .slice none 0 0, .slice none 0 0, .slice none 0 0] rfl rfl 26 _ #[.int .i64 0, .int .i64 1, .slice none 0 0, .slice none 0 0, .slice none 0 0] (Bk.fresh _ _ _) (by kernel_rfl) (by simp) (by kernel_rfl) rfl ?_); intro w4 hB hG hs; obtain ⟨p7, hp7⟩ : ∃ r, r = w3.heap.size := ⟨_, rfl⟩; have HL4 : Hid (Below w3.heap.size w3 w4) := ((Below.refl _ _).alloc (Nat.le_refl _) _).grown hG (by simp) (by intro k e; injection e with e; omega); rw [← hp7] at hB ⊢; have HS4 := Lib.hid hB; have HQ4 := Lib.hid (HQ3.out.later HL4.out); have HD4 := Lib.hid (HD3.out.below HL4.out); have HB4 : Hid (Below w.heap.size w w4) := HB3.out.trans (HL4.out.mono HB3.out.size); have c2 : w4.cell? ⟨R, 2, none⟩ = some (.bool false) := (HR3.out.later HL4.out).cellAt 2; clear hB hG hs hp7) | (with_reducible refine load_bk rfl 26 _ rfl p7 0 rfl 26 #[.int .i64 0, .int .i64 1, .slice none 0 0, .slice none 0 0, .slice none 0 0] #[.int .i64 0, .int .i64 1, .slice none 0 0, .slice none 0 0, .slice none 0 0] _ HS4.out (Part.whole _) Tryz.underlying26 rfl (by kernel_rfl) ?_))
  refine (isEnc2_z A n c w4 hn HD4).mono ?_
  rintro e w5 ⟨rfl, hb5⟩
  have HS5 := Lib.hid (HS4.out.later hb5); have HQ5 := Lib.hid (HQ4.out.later hb5)
  have HB5 : Hid (Below w.heap.size w w5) := HB4.out.trans (hb5.mono HB4.out.size)
  clear hb5 c2 HS4 HQ4 HD4 HB4
  go_wp2_with (first | (with_reducible refine load_bk rfl 26 _ rfl p7 0 rfl 26 #[.int .i64 0, .int .i64 1, .slice none 0 0, .slice none 0 0, .slice none 0 0] #[.int .i64 0, .int .i64 1, .slice none 0 0, .slice none 0 0, .slice none 0 0] _ HS5.out (Part.whole _) Tryz.underlying26 rfl (by kernel_rfl) ?_) | ((with_reducible refine store_bk rfl 26 (.tmp 2) (.tmp 23) rfl w.heap.size 0 #[.int .i64 0, .int .i64 1, .slice none 0 0, .slice none 0 0, .slice none 0 0] rfl rfl 26 #[.int .i64 0, .int .i64 0, .slice none 0 0, .slice none 0 0, .slice none 0 0] #[.int .i64 0, .int .i64 1, .slice none 0 0, .slice none 0 0, .slice none 0 0] HQ5.out (by kernel_rfl) (by simp) (by kernel_rfl) rfl ?_); intro w6 hB hG hs; have HQ6 := Lib.hid hB; have HB6 : Hid (Below w.heap.size w w6) := HB5.out.grown hG HB5.out.size (by intro k e; injection e with e; omega); clear hB hG hs))
  refine bodyPost_ret (v := .tuple #[.agg #[.int .i64 0, .int .i64 1, .slice none 0 0, .slice none 0 0, .slice none 0 0], .int .i64 2, .int .i64 0]) (results_bk3 Tryz.results20 _ _ w.heap.size 26 _ _ _ _ rfl rfl rfl HQ6.out Tryz.underlying26 rfl (by kernel_rfl)) rfl ?_
  exact ⟨rfl, HB6.out⟩
set_option maxHeartbeats 12800000 in
set_option maxRecDepth 100000 in
theorem trans1_z (A : Option Addr) (n c : Nat) (w : World) (hn : Hid (n = e1B.length)) (hr : Hid (Rd w A e1B)) (hc : n ≤ c) (hc2 : c ≤ 9223372036854775807) :
    Calls Tryz.prog 22 #[.slice A n c] w fun e w' => (∃ A' N' c', e = .returned (.tuple #[.slice A' N' c', .int .i64 0]) ∧ N' = e2B.length ∧ Rd w' A' e2B ∧ N' ≤ c' ∧ c' ≤ 9223372036854775807) ∧ Below w.heap.size w w' := by
  have K := Lib.hid (decode1_z A n c w hn hr hc hc2)
  clear hn hr hc hc2
  go_enter Tryz.func22, Tryz.ntmps22
  go_wp2_with fail
  refine K.out.mono ?_
  rintro e w1 ⟨rfl, hb1⟩
  have Hb1 := Lib.hid hb1
  clear hb1 K
  go_wp2_with (first | ((with_reducible refine store_bk rfl 26 (.tmp 4) (.tmp 10) rfl w1.heap.size 0 #[.int .i64 0, .int .i64 1, .slice none 0 0, .slice none 0 0, .slice none 0 0] rfl rfl 26 _ #[.int .i64 0, .int .i64 1, .slice none 0 0, .slice none 0 0, .slice none 0 0] (Bk.fresh _ _ _) (by kernel_rfl) (by simp) (by kernel_rfl) rfl ?_); intro w2 hB hG hs; obtain ⟨p4, hp4⟩ : ∃ r, r = w1.heap.size := ⟨_, rfl⟩; have HL2 : Hid (Below w1.heap.size w1 w2) := ((Below.refl _ _).alloc (Nat.le_refl _) _).grown hG (by simp) (by intro k e; injection e with e; omega); rw [← hp4] at hB ⊢; have HS2 := Lib.hid hB; have HB2 : Hid (Below w.heap.size w w2) := Hb1.out.trans (HL2.out.mono Hb1.out.size); clear hB hG hs hp4) | (with_reducible refine load_bk rfl 26 _ rfl p4 0 rfl 26 #[.int .i64 0, .int .i64 1, .slice none 0 0, .slice none 0 0, .slice none 0 0] #[.int .i64 0, .int .i64 1, .slice none 0 0, .slice none 0 0, .slice none 0 0] _ HS2.out (Part.whole _) Tryz.underlying26 rfl (by kernel_rfl) ?_))
  refine (grouped_z ZSt.nil _).mono ?_
  rintro e w3 ⟨⟨A3, N3, c3, rfl, h1⟩, hb3⟩
  have HE := Lib.hid h1
  have HB3 : Hid (Below w.heap.size w w3) := HB2.out.trans (hb3.mono HB2.out.size)
  clear h1 hb3
  go_wp2_with fail
  go_ret2
  exact ⟨⟨_, _, _, rfl, HE.out⟩, HB3.out⟩
set_option maxHeartbeats 12800000 in
set_option maxRecDepth 100000 in
theorem trans2_z (A : Option Addr) (n c : Nat) (w : World) (hn : Hid (n = e2B.length)) (hr : Hid (Rd w A e2B)) (hc : n ≤ c) (hc2 : c ≤ 9223372036854775807) :
    Calls Tryz.prog 22 #[.slice A n c] w fun e w' => (∃ A' N' c', e = .returned (.tuple #[.slice A' N' c', .int .i64 0]) ∧ N' = e1B.length ∧ Rd w' A' e1B ∧ N' ≤ c' ∧ c' ≤ 9223372036854775807) ∧ Below w.heap.size w w' := by
  have K := Lib.hid (decode2_z A n c w hn hr hc hc2)
  clear hn hr hc hc2
  go_enter Tryz.func22, Tryz.ntmps22
  go_wp2_with fail
  refine K.out.mono ?_
  rintro e w1 ⟨rfl, hb1⟩
  have Hb1 := Lib.hid hb1
  clear hb1 K
  go_wp2_with (first | ((with_reducible refine store_bk rfl 26 (.tmp 4) (.tmp 10) rfl w1.heap.size 0 #[.int .i64 0, .int .i64 1, .slice none 0 0, .slice none 0 0, .slice none 0 0] rfl rfl 26 _ #[.int .i64 0, .int .i64 1, .slice none 0 0, .slice none 0 0, .slice none 0 0] (Bk.fresh _ _ _) (by kernel_rfl) (by simp) (by kernel_rfl) rfl ?_); intro w2 hB hG hs; obtain ⟨p4, hp4⟩ : ∃ r, r = w1.heap.size := ⟨_, rfl⟩; have HL2 : Hid (Below w1.heap.size w1 w2) := ((Below.refl _ _).alloc (Nat.le_refl _) _).grown hG (by simp) (by intro k e; injection e with e; omega); rw [← hp4] at hB ⊢; have HS2 := Lib.hid hB; have HB2 : Hid (Below w.heap.size w w2) := Hb1.out.trans (HL2.out.mono Hb1.out.size); clear hB hG hs hp4) | (with_reducible refine load_bk rfl 26 _ rfl p4 0 rfl 26 #[.int .i64 0, .int .i64 1, .slice none 0 0, .slice none 0 0, .slice none 0 0] #[.int .i64 0, .int .i64 1, .slice none 0 0, .slice none 0 0, .slice none 0 0] _ HS2.out (Part.whole _) Tryz.underlying26 rfl (by kernel_rfl) ?_))
  refine (listed_z ZSt.nil _).mono ?_
  rintro e w3 ⟨⟨A3, N3, c3, rfl, h1⟩, hb3⟩
  have HE := Lib.hid h1
  have HB3 : Hid (Below w.heap.size w w3) := HB2.out.trans (hb3.mono HB2.out.size)
  clear h1 hb3
  go_wp2_with fail
  go_ret2
  exact ⟨⟨_, _, _, rfl, HE.out⟩, HB3.out⟩
end Go.Proofs.YtjgojgmgicpgaaaGreat
