/- The walk of PackRuns: numbers that were put one behind the other are taken one behind the other, and nothing is left; what goes in stays as it is. No condition beyond the form's own. -/
import Derived.Test.YtpjblgibialbfaaBck
import Derived.Test.YtpjblgibialbfaaWPackOrders
namespace Go.Proofs.Ytpjblgibialbfaa.packRuns
open Go.RowKit

/-- The encodings of the first k numbers. -/
def E (z : List Int) (k : Nat) : List UInt8 := (z.take k).flatMap fun x => enc x.toNat

theorem E_zero (z : List Int) : E z 0 = [] := by simp [E]
theorem E_succ {z : List Int} {k : Nat} (h : k < z.length) : E z (k + 1) = E z k ++ enc (z.getD k 0).toNat := by
  unfold E
  rw [List.take_add_one, List.getElem?_eq_getElem h, List.flatMap_append]
  simp [List.getD, h]
theorem E_len {z : List Int} (hz : ∀ n ∈ z, (Lit.int .u64 n).wf = true) : ∀ k, k ≤ z.length → (E z k).length ≤ 9 * k := by
  intro k
  induction k with
  | zero => intro _; rw [E_zero]; simp
  | succ k ih =>
    intro h
    have hd := packOrders.u64_bd (hz (z.getD k 0) (by simp [List.getD, show k < z.length by omega]))
    have h8 := digs_len8 (n := (z.getD k 0).toNat) (by omega)
    rw [E_succ (by omega), List.length_append, enc_length]
    have := ih (by omega)
    omega
theorem E_split {z : List Int} {n : Nat} : ∀ d k, n = k + d → n ≤ z.length → ∃ R, E z n = E z k ++ R := by
  intro d
  induction d with
  | zero => intro k h _; exact ⟨[], by rw [h]; simp⟩
  | succ d ih =>
    intro k h hz
    obtain ⟨R, hR⟩ := ih (k + 1) (by omega) hz
    exact ⟨enc (z.getD k 0).toNat ++ R, by rw [hR, E_succ (by omega)]; simp⟩

theorem row_cell {k : IntKind} {w : World} {a : Option Addr} {len cap : Nat} {zs : List Int} (h : IsRow k w a len cap zs) {j : Nat} (hj : j < len) :
    ∃ b o, a = some ⟨b, o, none⟩ ∧ w.cell? ⟨b, o + j, none⟩ = some (.int k (zs.getD j 0)) := by
  rcases h with ⟨_, h0, _⟩ | ⟨x, rfl, hl, _, hz, hc, _⟩
  · omega
  · have h0 := hc 0 (by omega)
    obtain ⟨b, o, spot⟩ := x
    have hs : spot = none := by simpa [Addr.add] using World.cell?_spot h0
    subst hs
    have := hc j (by omega)
    rw [Addr.add_lit] at this
    exact ⟨b, o, rfl, this⟩
theorem row_len {k : IntKind} {w : World} {a : Option Addr} {len cap : Nat} {zs : List Int} (h : IsRow k w a len cap zs) : len ≤ zs.length ∧ len ≤ cap ∧ cap ≤ 9223372036854775807 ∧ ∀ n ∈ zs, (Lit.int k n).wf = true := by
  rcases h with ⟨_, rfl, rfl, rfl⟩ | ⟨_, _, hl, hm, hz, _, hw⟩
  · exact ⟨Nat.le_refl _, Nat.le_refl _, by omega, by simp⟩
  · unfold maxLen at hm
    exact ⟨by omega, hl, by omega, hw⟩

set_option maxHeartbeats 1000000 in
theorem walk_big (a0 : Option Addr) (len0 cap0 : Nat) (a1 : ByteArray) (w : World) (hl : len0 ≤ 9223372036854775807) (b1 : a1.size ≤ 140737488351232) (h : 1000 < len0 ∨ 1000 < a1.size) :
    Calls Try.prog 8 #[.slice a0 len0 cap0, .string a1] w fun e w' => e = .returned (.bool true) ∧ Below w.heap.size w w' := by
  by_cases h0 : 1000 < len0
  · go_enter Try.func8, Try.ntmps8
    go_wp2_with fail
    refine (awake_any _).mono ?_
    rintro e w1 ⟨rfl, hb1⟩
    go_wp2_with fail
    refine (awake_any _).mono ?_
    rintro e w2 ⟨rfl, hb2⟩
    go_wp2
    go_ret
    exact ⟨rfl, hb1.trans (hb2.mono hb1.size)⟩
  · have h1 : 1000 < a1.size := by omega
    go_enter Try.func8, Try.ntmps8
    go_wp2_with fail
    refine (awake_any _).mono ?_
    rintro e w1 ⟨rfl, hb1⟩
    go_wp2_with fail
    refine (awake_any _).mono ?_
    rintro e w2 ⟨rfl, hb2⟩
    go_wp2
    go_ret
    exact ⟨rfl, hb1.trans (hb2.mono hb1.size)⟩

set_option maxRecDepth 100000 in
set_option maxHeartbeats 1000000 in
theorem walk_small (a0 : Option Addr) (len0 cap0 : Nat) (z0 : List Int) (a1 : ByteArray) (w : World) (w0 : Hid (IsRow .u64 w a0 len0 cap0 z0)) (h0 : len0 ≤ 1000) (h1 : a1.size ≤ 1000) :
    Calls Try.prog 8 #[.slice a0 len0 cap0, .string a1] w fun e w' => e = .returned (.bool true) ∧ Below w.heap.size w w' := by
  have hrl := row_len w0.out
  obtain ⟨hz, hlc, hcm, hwf⟩ := hrl
  have hE := E_len hwf
  have HW := Lib.hid hwf; clear hwf
  have HE := Lib.hid hE; clear hE
  have hl1 : Hid (a1.size = a1.data.toList.length) := (str_len a1).symm
  have q1 : decide (1000 < (len0 : Int)) = false := by simp; omega
  have q2 : decide (1000 < (a1.size : Int)) = false := by simp; omega
  go_enter Try.func8, Try.ntmps8
  go_wp2_with (first
    | (go_at_call 9; refine (awake_any _).mono ?_; rintro e w1 ⟨rfl, hb1⟩)
    | (with_reducible refine wpList_bytes _ rfl (.tmp 26) 9 24 rfl 5 a1 Try.underlying9 Try.underlying24 Try.underlying5 (by unfold maxLen; omega) rfl ?_; intro c2 w2 hr2 hb2 hs2 hc2 hm2; unfold maxLen at hm2))
  have HR2 := Lib.hid hr2; clear hr2
  have k1 := hb1.size
  have k2 := hb2.size
  have B2 := Lib.hid (hb1.trans (hb2.mono k1))
  clear hb1
  go_loopw [6, 31] (fun ov iv wr => ∃ (k : Nat) (A : Option Addr) (c N : Nat), k ≤ len0 ∧ iv = .int .i64 k ∧ ov = .slice A N c ∧ N ≤ 1000 + 9 * k ∧ N ≤ c ∧ c ≤ 9223372036854775807 ∧ Hid (N = (a1.data.toList ++ E z0 k).length) ∧ Hid (Rd wr A (a1.data.toList ++ E z0 k)) ∧ Hid (Below w2.heap.size w2 wr)) (fun _ iv _ => len0 - (intOf iv).toNat)
  case atStart => exact ⟨0, _, _, _, Nat.zero_le _, rfl, rfl, by omega, hc2, hm2, by rw [E_zero, List.append_nil]; exact hl1, by rw [E_zero, List.append_nil]; exact HR2, Below.refl _ _⟩
  case round =>
    obtain ⟨k, A, c, N, hk, rfl, rfl, hN, hNc, hcm', hNe, hrd, hbl⟩ := hrel
    by_cases hlt : k < len0
    · obtain ⟨xb, xo, rfl, hcell⟩ := row_cell w0.out hlt
      have hu := packOrders.u64_bd (HW.out (z0.getD k 0) (by simp [List.getD, show k < z0.length by omega]))
      obtain ⟨v, hv⟩ : ∃ v : Nat, z0.getD k 0 = (v : Int) := ⟨(z0.getD k 0).toNat, by omega⟩
      rw [hv] at hcell hu
      have hEs := E_succ (z := z0) (k := k) (by omega)
      rw [hv, Int.toNat_natCast] at hEs
      have hcw : wr.cell? ⟨xb, xo + k, none⟩ = some (.int .u64 (v : Int)) := by
        have hb := World.block_lt_of_cell? w _ hcell
        have x1 := (B2.out.cell (p := ⟨xb, xo + k, none⟩) hb).trans hcell
        exact (hbl.out.cell (p := ⟨xb, xo + k, none⟩) (World.block_lt_of_cell? w2 _ x1)).trans x1
      have HEs := Lib.hid hEs; clear hEs hv hcell
      have hkl : (k : Int) < (len0 : Int) := by omega
      obtain ⟨N', hN'⟩ : ∃ N', N' = (a1.data.toList ++ E z0 k ++ enc v).length := ⟨_, rfl⟩
      have hNb : N' ≤ N + 9 := by
        have := digs_len8 (n := v) (by omega)
        rw [hN', List.length_append, ← hNe.out, enc_length]; omega
      have HN' := Lib.hid hN'; clear hN'
      go_wp2_with (go_at_call 10; refine (put_any A c N v N' (a1.data.toList ++ E z0 k) _ (by omega) hNe HN' hrd (by omega)).mono ?_; rintro e w3 ⟨g3, c3, rfl, ho3, hb3⟩)
      go_roundw
      case rel =>
        have hcaps := ho3.caps
        unfold maxLen at hcaps
        have hn' := HN'.out
        refine ⟨k + 1, _, _, _, by omega, by go_num, rfl, by omega, by omega, by omega, ?_, ?_, hbl.out.trans (hb3.mono hbl.out.size)⟩
        · unfold Hid; rw [HEs.out, ← List.append_assoc]; exact hn'
        · unfold Hid; rw [HEs.out, ← List.append_assoc]; exact ho3.rd
      case measure => simp [intOf]; omega
    · have hge : len0 ≤ k := by omega
      go_wp2
      obtain ⟨wo, hwo⟩ : ∃ wo : World, wo = wr := ⟨_, rfl⟩
      subst hwo
      have k3 := hbl.out.size
      go_loopw [8, 45] (fun av iv wx => ∃ (i q : Nat), i ≤ len0 ∧ iv = .int .i64 i ∧ av = .int .i64 q ∧ q ≤ 1000 + 9 * i ∧ Hid (q = (a1.data.toList ++ E z0 i).length) ∧ Hid (Below wo.heap.size wo wx)) (fun _ iv _ => len0 - (intOf iv).toNat)
      case atStart => exact ⟨0, a1.size, Nat.zero_le _, rfl, rfl, by omega, by rw [E_zero, List.append_nil]; exact hl1, Below.refl _ _⟩
      case round =>
        obtain ⟨i, q, hi, rfl, rfl, hq, hqe, hbx⟩ := hrel
        by_cases hlt : i < len0
        · obtain ⟨xb, xo, rfl, hcell⟩ := row_cell w0.out hlt
          have hu := packOrders.u64_bd (HW.out (z0.getD i 0) (by simp [List.getD, show i < z0.length by omega]))
          obtain ⟨v, hv⟩ : ∃ v : Nat, z0.getD i 0 = (v : Int) := ⟨(z0.getD i 0).toNat, by omega⟩
          rw [hv] at hcell hu
          have hEs := E_succ (z := z0) (k := i) (by omega)
          rw [hv, Int.toNat_natCast] at hEs
          obtain ⟨R, hR⟩ := E_split (z := z0) (n := k) (k - (i + 1)) (i + 1) (by omega) (by omega)
          obtain ⟨q', hq'⟩ : ∃ q', q' = q + (enc v).length := ⟨_, rfl⟩
          have hqb : q < q' ∧ q' ≤ q + 9 := by
            have := digs_len8 (n := v) (by omega)
            rw [hq', enc_length]; omega
          have ht := fun W (hr : Rd W A (a1.data.toList ++ E z0 k)) => take_any A c N (q : Int) (a1.data.toList ++ E z0 k) W hNe hr hNc hcm'
          have hm := takeP_mid (a1.data.toList ++ E z0 i) R v (by omega)
          rw [← hqe.out] at hm
          rw [show a1.data.toList ++ E z0 k = a1.data.toList ++ E z0 i ++ enc v ++ R by rw [hR, hEs]; simp] at ht
          rw [hm, show (q : Int) + ((enc v).length : Int) = (q' : Int) by omega] at ht
          have hrd' : Hid (Rd wo A (a1.data.toList ++ E z0 i ++ enc v ++ R)) := by
            have := hrd.out
            rw [show a1.data.toList ++ E z0 k = a1.data.toList ++ E z0 i ++ enc v ++ R by rw [hR, hEs]; simp] at this
            exact this
          unfold ret3 at ht
          have HT := Lib.hid ht; clear ht
          have hcw : ∀ wy, Below wo.heap.size wo wy → wy.cell? ⟨xb, xo + i, none⟩ = some (.int .u64 (v : Int)) := by
            intro wy hby
            have hb := World.block_lt_of_cell? w _ hcell
            have x1 := (B2.out.cell (p := ⟨xb, xo + i, none⟩) hb).trans hcell
            have x2 := (hbl.out.cell (p := ⟨xb, xo + i, none⟩) (World.block_lt_of_cell? w2 _ x1)).trans x1
            exact (hby.cell (p := ⟨xb, xo + i, none⟩) (World.block_lt_of_cell? wo _ x2)).trans x2
          have HCW := Lib.hid hcw; clear hcw
          have HEs := Lib.hid hEs; clear hEs hv hcell hm
          have HQ' := Lib.hid hq'; clear hq'
          have HR' := Lib.hid hR; clear hR
          have hkl : (i : Int) < (len0 : Int) := by omega
          have hq3 : (q : Int) < (q' : Int) := by omega
          go_wp2_with (go_at_call 14; refine (HT.out _ (hrd'.out.below hbx.out)).mono ?_; rintro e w3 ⟨rfl, hb3⟩; have hcc := HCW.out _ (hbx.out.trans (hb3.mono hbx.out.size)))
          go_roundw
          case rel =>
            refine ⟨i + 1, q', by omega, by go_num, rfl, by omega, ?_, hbx.out.trans (hb3.mono hbx.out.size)⟩
            unfold Hid
            rw [HEs.out, ← List.append_assoc, List.length_append, ← hqe.out]
            exact HQ'.out
          case measure => simp [intOf]; omega
        · have hgi : len0 ≤ i := by omega
          have hik : i = k := by omega
          have hqN : q = N := by rw [hqe.out, hNe.out, hik]
          subst hqN
          clear hik
          have hcv := run_str_rd (P := Try.prog) _ (src := 24) (dst := 9) (c := c2) Try.underlying24 Try.underlying5 Try.underlying9 hl1.out ((HR2.out.below hbl.out).below hbx.out)
          have hs : (⟨a1.data.toList.toArray⟩ : ByteArray) = a1 := by apply ByteArray.ext; apply Array.ext'; simp
          rw [hs] at hcv
          go_wp2
          go_ret
          refine ⟨by simp, ?_⟩
          exact B2.out.trans ((hbl.out.trans (hbx.out.mono hbl.out.size)).mono (by have := B2.out.size; omega))

theorem walk (a0 : Option Addr) (len0 cap0 : Nat) (z0 : List Int) (a1 : ByteArray) (w : World) (w0 : IsRow .u64 w a0 len0 cap0 z0) (b1 : a1.size ≤ 140737488351232) :
    Calls Try.prog 8 #[.slice a0 len0 cap0, .string a1] w fun e w' => e = .returned (.bool true) ∧ Below w.heap.size w w' := by
  have h := row_len w0
  by_cases h0 : 1000 < len0 ∨ 1000 < a1.size
  · exact walk_big a0 len0 cap0 a1 w (by omega) b1 h0
  · exact walk_small a0 len0 cap0 z0 a1 w w0 (by omega) (by omega)
end Go.Proofs.Ytpjblgibialbfaa.packRuns
