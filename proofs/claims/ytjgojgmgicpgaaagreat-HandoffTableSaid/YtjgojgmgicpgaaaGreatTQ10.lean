/- The contracts of the two functions that write a number's encoding: copyWithRoom makes a copy with so much room, appendNumber appends the encoding within the room. Conditions: the room is there, lengths are within 2^48, the number is a uint64. · The contracts of pack.Put and pack.PutText: what they return is the given bytes followed by the encoding, in memory of its own. Conditions: a uint64; lengths within 2^48 together. · schema.putNumbers: numbers' bytes, one behind the other. Conditions: numbers that an int has; lengths together below a million. -/
import Derived.Test.YtjgojgmgicpgaaaGreatTQ09
import Derived.Test.YtjgojgmgicpgaaaGreatTMem
import Derived.Deep.DeepCutAuto
namespace Go.Proofs.YtjgojgmgicpgaaaGreat
open Go.RowKit

theorem info5 : (Tryz.prog.info? 5).map (fun i => (i.zero, i.size, i.bytes)) = some (some (.int .u8 0), 1, 1) := by kernel_rfl

set_option maxHeartbeats 400000 in
theorem copyB_any (A : Option Addr) (c n k : Nat) (K : Int) (l : List UInt8) (w : World) (hK : Hid (K = (k : Int))) (hn : Hid (n = l.length)) (hr : Hid (Rd w A l)) (hk : n + k ≤ 281474976710656) :
    Calls Tryz.prog 196 #[.slice A n c, .int .i64 K] w fun e w' => e = .returned (.slice (some ⟨w.heap.size, 0, none⟩) n (n + k)) ∧ Own w' w.heap.size 5 w.heap.size (n + k) l ∧ Below w.heap.size w w' := by
  obtain rfl : K = (k : Int) := hK
  obtain ⟨i0, hi, hz0, hz1, hz2⟩ := info_parts info5
  go_enter Tryz.func196, Tryz.ntmps196
  go_wp2_with (first
    | (at_make; refine wpList_make_own _ rfl _ _ 29 rfl w.heap.size 5 i0 (.int .u8 0) 1 Tryz.underlying29 hi hz0 hz1 _ _ _ (n + k) rfl rfl (by omega) (by rw [hz2]; omega) (by unfold maxLen; omega) (Nat.le_refl _) ?_; intro w1 hown1 hg1)
    | (at_builtin; refine wpList_append_rd _ rfl _ _ 29 rfl w.heap.size 5 i0 Tryz.underlying29 hi hz1 w.heap.size (n + k) 0 [] rfl hown1 A c n l rfl (hr.out.below (grownBy_below hg1 (Nat.le_refl _) (by intro k hk; cases hk))) rfl hn.out (by have := hn.out; simp; omega) ?_; intro w2 hown2 hg2))
  go_ret
  have hn' := hn.out
  rw [List.nil_append] at hown2
  subst hn'
  refine ⟨rfl, hown2, (grownBy_below hg1 (Nat.le_refl _) (by intro k hk; cases hk)).trans (grownBy_below hg2 hg1.size (by intro k hk; cases hk; exact Nat.le_refl _))⟩

/-- The shift by a whole number of bytes. -/
theorem shr_byte (k j : Nat) : (k : Int) / 2 ^ (8 * (j - 1)) % 256 = ((UInt8.ofNat (k / 256 ^ (j - 1))).toNat : Int) := by
  rw [show ((2 : Int) ^ (8 * (j - 1))) = ((256 ^ (j - 1) : Nat) : Int) by rw [two_256]; push_cast; rfl]
  simp

set_option maxHeartbeats 1000000 in
theorem number_any (base g cap n k L : Nat) (l : List UInt8) (w : World) (hk : k < 18446744073709551616) (hL : Hid (L = (digs k).length)) (hn : Hid (n = l.length)) (hown : Hid (Own w base 5 g cap l)) (hroom : n + 1 + L ≤ cap) (_hcap : cap ≤ 9223372036854775807) (_hbase : base ≤ w.heap.size) :
    Calls Tryz.prog 195 #[.slice (some ⟨g, 0, none⟩) n cap, .int .u64 (k : Int)] w fun e w' => e = .returned (.slice (some ⟨g, 0, none⟩) (n + 1 + L) cap) ∧ Own w' base 5 g cap (l ++ enc k) ∧ w.grownBy w' (some g) := by
  have hL8 : L ≤ 8 := by have := hL.out; have := digs_len8 hk; omega
  have hw : ∀ w, Calls Tryz.prog 197 #[.int .u64 (k : Int)] w fun e w' => e = .returned (.int .i64 (L : Nat)) ∧ w = w' := fun w => by
    rw [hL.out]; exact width_any k hk w
  have HW := Lib.hid hw; clear hw
  obtain ⟨i0, hi, hz0, hz1, hz2⟩ := info_parts info5
  go_enter Tryz.func195, Tryz.ntmps195
  go_wp2_with (first
    | (go_at_call 197; refine (HW.out _).mono ?_; rintro e w' ⟨rfl, rfl⟩)
    | (at_builtin; refine wpList_append_rd _ rfl _ _ 29 rfl base 5 i0 Tryz.underlying29 hi hz1 g cap n l rfl (hown.out.alloc _) _ 1 1 [UInt8.ofNat L] rfl (Rd.byte _ _ _ _ ?_) hn.out rfl ?_ ?_))
  · simp; omega
  · have := hn.out; simp; omega
  · intro w1 hown1 hg1
    have H1 := Lib.hid hown1; clear hown1
    have G1 := Lib.hid hg1; clear hg1
    have hnn := H1.out.lt
    go_wp2
    have hst : L ≤ L := Nat.le_refl _
    go_loopw [0, 6] (fun b left wr => ∃ j : Nat, j ≤ L ∧ left = .int .i64 j ∧ b = .slice (some ⟨g, 0, none⟩) (n + 1 + (L - j)) cap ∧ Hid (Own wr base 5 g cap (l ++ UInt8.ofNat L :: (digs k).take (L - j))) ∧ Hid (w.grownBy wr (some g))) (fun _ left _ => (intOf left).toNat)
    case atStart =>
      refine ⟨L, Nat.le_refl _, rfl, by simp, ?_, ?_⟩
      · have := H1.out; unfold Hid; simpa using this
      · exact grownBy_trans (below_grownBy ((Below.refl _ _).alloc (Nat.le_refl _) _)) G1.out
    case round =>
      obtain ⟨j, hj, rfl, rfl, ho, hg⟩ := hrel
      by_cases h0 : 0 < j
      · go_wp2_with (at_builtin; refine wpList_append_rd _ rfl _ _ 29 rfl base 5 i0 Tryz.underlying29 hi hz1 g cap (n + 1 + (L - j)) (l ++ UInt8.ofNat L :: (digs k).take (L - j)) rfl (ho.out.alloc _) _ 1 1 [UInt8.ofNat (k / 256 ^ (j - 1))] rfl (Rd.byte _ _ _ _ ?_) ?_ rfl ?_ ?_)
        · exact shr_byte k j
        · have := hn.out; have := hL.out; simp; omega
        · have := hn.out; have := hL.out; simp; omega
        · intro w2 hown2 hg2
          have H2 := Lib.hid hown2; clear hown2
          have G2 := Lib.hid hg2; clear hg2
          go_wp2
          go_roundw
          case rel =>
            refine ⟨j - 1, by omega, by go_num, ?_, ?_, ?_⟩
            · rw [show n + 1 + (L - (j - 1)) = n + 1 + (L - j) + 1 by omega]
            · have := H2.out
              have hd := digs_take_succ (n := k) (left := j) h0 (by rw [← hL.out]; exact hj)
              rw [← hL.out] at hd
              unfold Hid
              rw [hd]
              simpa using this
            · exact grownBy_trans hg.out (grownBy_trans (below_grownBy ((Below.refl _ _).alloc (Nat.le_refl _) _)) G2.out)
          case measure => simp [intOf]; omega
      · have hj0 : j ≤ 0 := by omega
        go_wp2
        go_ret
        have e : j = 0 := by omega
        subst e
        refine ⟨rfl, ?_, hg.out⟩
        have := ho.out
        rw [Nat.sub_zero, hL.out, List.take_length] at this
        exact this
end Go.Proofs.YtjgojgmgicpgaaaGreat

namespace Go.Proofs.YtjgojgmgicpgaaaGreat
open Go.RowKit

/-- A call has returned a slice of N bytes that reads as l, in memory of its own; what there was has not changed. -/
def Made (w : World) (N : Nat) (l : List UInt8) (e : Ending) (w' : World) : Prop :=
  ∃ g cap, e = .returned (.slice (some ⟨g, 0, none⟩) N cap) ∧ Own w' w.heap.size 5 g cap l ∧ Below w.heap.size w w'

set_option maxHeartbeats 400000 in
theorem put_any (A : Option Addr) (c n k N : Nat) (l : List UInt8) (w : World) (hk : k < 18446744073709551616) (hn : Hid (n = l.length)) (hN : Hid (N = (l ++ enc k).length)) (hr : Hid (Rd w A l)) (hb : n ≤ 140737488355328) :
    Calls Tryz.prog 85 #[.slice A n c, .int .u64 (k : Int)] w (Made w N (l ++ enc k)) := by
  obtain ⟨L, hL⟩ : ∃ L, L = (digs k).length := ⟨_, rfl⟩
  have hL8 : L ≤ 8 := by have := digs_len8 hk; omega
  have hw : ∀ w, Calls Tryz.prog 197 #[.int .u64 (k : Int)] w fun e w' => e = .returned (.int .i64 (L : Nat)) ∧ w = w' := fun w => by
    rw [hL]; exact width_any k hk w
  have HW := Lib.hid hw; clear hw
  have HL := Lib.hid hL; clear hL
  have hNe : N = n + 1 + L := by have h1 := hN.out; have h2 := hn.out; have h3 := HL.out; rw [List.length_append, enc_length] at h1; omega
  have HN := Lib.hid hNe; clear hNe
  go_enter Tryz.func85, Tryz.ntmps85
  go_wp2_with (first
    | (go_at_call 197; refine (HW.out _).mono ?_; rintro e w' ⟨rfl, rfl⟩)
    | (go_at_call 196; refine (copyB_any A c n (1 + L) _ l _ (by unfold Hid; omega) hn hr (by omega)).mono ?_; rintro e w1 ⟨rfl, hown1, hb1⟩)
    | (go_at_call 195; refine (number_any w.heap.size w.heap.size (n + (1 + L)) n k L l _ hk HL hn hown1 (by omega) (by omega) hb1.size).mono ?_; rintro e w2 ⟨rfl, hown2, hg2⟩))
  go_ret
  refine ⟨w.heap.size, n + (1 + L), ?_, hown2, hb1.trans (grownBy_below hg2 hb1.size (by intro k hk; cases hk; exact Nat.le_refl _))⟩
  rw [HN.out]
  rfl

/-- The encoding of a string. -/
def encT (s : ByteArray) : List UInt8 := enc s.size ++ s.data.toList
theorem str_len (s : ByteArray) : s.data.toList.length = s.size := by simp

set_option maxHeartbeats 400000 in
theorem putText_any (A : Option Addr) (c n N : Nat) (s : ByteArray) (l : List UInt8) (w : World) (hn : Hid (n = l.length)) (hN : Hid (N = (l ++ encT s).length)) (hr : Hid (Rd w A l)) (hb : n + s.size + 9 ≤ 281474976710656) :
    Calls Tryz.prog 86 #[.slice A n c, .string s] w (Made w N (l ++ encT s)) := by
  obtain ⟨L, hL⟩ : ∃ L, L = (digs s.size).length := ⟨_, rfl⟩
  have hL8 : L ≤ 8 := by have := digs_len8 (n := s.size) (by omega); omega
  have hw : ∀ w, Calls Tryz.prog 197 #[.int .u64 (s.size : Int)] w fun e w' => e = .returned (.int .i64 (L : Nat)) ∧ w = w' := fun w => by
    rw [hL]; exact width_any s.size (by omega) w
  have HW := Lib.hid hw; clear hw
  have HL := Lib.hid hL; clear hL
  have hNe : N = n + 1 + L + s.size := by have h1 := hN.out; have h2 := hn.out; have h3 := HL.out; rw [encT, List.length_append, List.length_append, enc_length, str_len] at h1; omega
  have HN := Lib.hid hNe; clear hNe
  obtain ⟨i0, hi, hz0, hz1, hz2⟩ := info_parts info5
  go_enter Tryz.func86, Tryz.ntmps86
  go_wp2_with (first
    | (go_at_call 197; refine (HW.out _).mono ?_; rintro e w' ⟨rfl, rfl⟩)
    | (go_at_call 196; refine (copyB_any A c n (1 + L + s.size) _ l _ (by unfold Hid; omega) hn hr (by omega)).mono ?_; rintro e w1 ⟨rfl, hown1, hb1⟩)
    | (go_at_call 195; refine (number_any w.heap.size w.heap.size (n + (1 + L + s.size)) n s.size L l _ (by omega) HL hn hown1 (by omega) (by omega) hb1.size).mono ?_; rintro e w2 ⟨rfl, hown2, hg2⟩)
    | (at_builtin; refine wpList_append_str _ rfl _ _ 29 9 rfl w.heap.size 5 i0 Tryz.underlying29 Tryz.underlying9 hi hz1 w.heap.size _ (n + 1 + L) (l ++ enc s.size) rfl hown2 s rfl ?_ ?_ ?_))
  · have h2 := hn.out; have h3 := HL.out; rw [List.length_append, enc_length]; omega
  · omega
  · intro w3 hown3 hg3
    go_wp2
    go_ret
    have hb3 := hb1.trans ((grownBy_below hg2 hb1.size (by intro k hk; cases hk; exact Nat.le_refl _)).trans (grownBy_below hg3 (Nat.le_trans hb1.size hg2.size) (by intro k hk; cases hk; exact Nat.le_refl _)))
    refine ⟨w.heap.size, n + (1 + L + s.size), ?_, ?_, hb3⟩
    · rw [HN.out]; rfl
    · unfold encT; exact hown3
end Go.Proofs.YtjgojgmgicpgaaaGreat

namespace Go.Proofs.YtjgojgmgicpgaaaGreat
open Go.RowKit
set_option linter.unusedSimpArgs false
set_option linter.unusedVariables false

/-- A call has returned bytes that read as l. -/
def RetB (w : World) (l : List UInt8) (e : Ending) (w' : World) : Prop := (∃ A N c, e = .returned (.slice A N c) ∧ N = l.length ∧ Rd w' A l ∧ N ≤ c ∧ c ≤ 9223372036854775807) ∧ Below w.heap.size w w'
theorem enc_le {k : Nat} (h : k < 18446744073709551616) : (enc k).length ≤ 9 := by rw [enc_length]; have := digs_len8 h; omega
theorem flat_le {ns : List Nat} (h : ∀ k ∈ ns, k < 9223372036854775808) : (ns.flatMap enc).length ≤ 9 * ns.length := by
  induction ns with
  | nil => simp
  | cons a ns ih =>
    rw [List.flatMap_cons, List.length_append, List.length_cons]
    have h1 := ih fun k hk => h k (List.mem_cons_of_mem _ hk)
    have h2 := enc_le (k := a) (by have := h a List.mem_cons_self; omega)
    omega
theorem flat_succ {ns : List Nat} {k : Nat} (h : k < ns.length) : (ns.take (k + 1)).flatMap enc = (ns.take k).flatMap enc ++ enc ns[k] := by
  rw [List.take_succ_eq_append_getElem h, List.flatMap_append]; simp
set_option maxHeartbeats 6400000 in
set_option maxRecDepth 100000 in
theorem putN_any (A : Option Addr) (n c : Nat) (l : List UInt8) (g o m d : Nat) (ns : List Nat) (w : World) (hn : Hid (n = l.length)) (hr : Hid (Rd w A l)) (hc : n ≤ c) (hc2 : c ≤ 9223372036854775807) (hm : Hid (m = ns.length)) (hB : n + 9 * m ≤ 1000000)
    (hs : Hid (g < w.heap.size ∧ ∀ k (h : k < ns.length), w.cell? ⟨g, o + k, none⟩ = some (.int .i64 (ns[k] : Int)))) (hsm : Hid (∀ k ∈ ns, k < 9223372036854775808)) :
    Calls Tryz.prog 201 #[.slice A n c, .slice (some ⟨g, o, none⟩) m d] w (RetB w (l ++ ns.flatMap enc)) := by
  have HB : Hid (l.length + 9 * m ≤ 1000000) := by have := hn.out; show _ ≤ _; omega
  have H0 : Hid (n = (l ++ (ns.take 0).flatMap enc).length ∧ Rd w A (l ++ (ns.take 0).flatMap enc) ∧ n ≤ c ∧ c ≤ 9223372036854775807) := by
    show _ ∧ _
    rw [List.take_zero, List.flatMap_nil, List.append_nil]
    exact ⟨hn.out, hr.out, hc, hc2⟩
  have hmb : m ≤ 1000000 := by omega
  clear hn hr hc hc2 hB
  go_enter Tryz.func201, Tryz.ntmps201
  go_wp2_with fail
  go_loopw [0, 9] (fun s0 s9 wr => ∃ (k : Nat) (A' : Option Addr) (n' c' : Nat), k ≤ m ∧ s0 = .slice A' n' c' ∧ s9 = .int .i64 k ∧ Hid (n' = (l ++ (ns.take k).flatMap enc).length ∧ Rd wr A' (l ++ (ns.take k).flatMap enc) ∧ n' ≤ c' ∧ c' ≤ 9223372036854775807) ∧ Below w.heap.size w wr) (fun s0 s9 wr => m - (intOf s9).toNat)
  case atStart => exact ⟨0, A, n, c, Nat.zero_le _, rfl, rfl, H0, Below.refl _ _⟩
  case round =>
    clear H0
    obtain ⟨k, A', n', c', hk, rfl, rfl, HR, hb⟩ := hrel
    by_cases hlt : k < m
    · have hkl : k < ns.length := by rw [← hm.out]; exact hlt
      obtain ⟨x, hx⟩ : ∃ x, x = ns[k] := ⟨_, rfl⟩
      have HXS : Hid (x < 9223372036854775808) := by rw [hx]; exact hsm.out _ (List.getElem_mem hkl)
      have hcl : wr.cell? ⟨g, o + k, none⟩ = some (.int .i64 (x : Int)) := by rw [hx]; exact (hb.cell hs.out.1).trans (hs.out.2 k hkl)
      have HFL : Hid (∀ q, q ≤ k → ((ns.take q).flatMap enc).length ≤ 9 * m) := fun q hq => by
        have h1 := flat_le (ns := ns.take q) fun k hk => hsm.out k (List.mem_of_mem_take hk)
        rw [List.length_take] at h1
        have := hm.out; omega
      have HNX : Hid ((ns.take (k + 1)).flatMap enc = (ns.take k).flatMap enc ++ enc x) := by rw [hx]; exact flat_succ hkl
      have KP := Lib.hid (fun (W : World) (h : Below wr.heap.size wr W) => put_any A' c' n' x _ _ W (by have := HXS.out; omega) (Lib.hid HR.out.1) (Lib.hid rfl) (Lib.hid (HR.out.2.1.below h)) (by have h1 := HR.out.1; have h2 := HFL.out k (Nat.le_refl _); rw [List.length_append] at h1; have := HB.out; omega))
      have hkk : (k : Int) < (m : Int) := Int.ofNat_lt.2 hlt
      have hgr : g < wr.heap.size := Nat.lt_of_lt_of_le hs.out.1 hb.size
      have hwu : IntKind.u64.wrap (x : Int) = (x : Int) := by have := HXS.out; simp [IntKind.wrap, IntKind.signed, IntKind.bits]; omega
      clear hx hkl
      go_wp2_with fail
      refine (KP.out _ (Below.refl _ _)).mono ?_
      rintro e w2 ⟨g2, cap2, rfl, hO2, hb2⟩
      have HO2 := Lib.hid hO2
      obtain ⟨n2, hn2⟩ : ∃ q, q = (l ++ (ns.take k).flatMap enc ++ enc x).length := ⟨_, rfl⟩
      rw [← hn2]
      have H2 : Hid (n2 = (l ++ (ns.take (k + 1)).flatMap enc).length ∧ Rd w2 (some ⟨g2, 0, none⟩) (l ++ (ns.take (k + 1)).flatMap enc) ∧ n2 ≤ cap2 ∧ cap2 ≤ 9223372036854775807) := by
        have h1 := HO2.out.rd; have h2 := HO2.out.caps
        unfold maxLen at h2
        rw [hn2]
        refine ⟨by rw [HNX.out, List.append_assoc], by rw [HNX.out, ← List.append_assoc]; exact h1, h2.1, h2.2⟩
      clear hn2
      have hb3 : Below w.heap.size w w2 := hb.trans (hb2.mono hb.size)
      clear hO2 hb2 hcl hwu HXS HFL KP
      go_wp2_with fail
      go_round
      case rel => exact ⟨k + 1, _, _, _, hlt, rfl, by go_num, H2, hb3⟩
      case measure => simp [intOf]; omega
    · have hkm : k = m := by omega
      have HE : Hid (RetB w (l ++ ns.flatMap enc) (.returned (.slice A' n' c')) wr) := by
        have h1 := HR.out
        rw [hkm, hm.out, List.take_length] at h1
        exact ⟨⟨_, _, _, rfl, h1.1, h1.2.1, h1.2.2⟩, hb⟩
      go_wp2_with fail
      go_ret
      exact HE.out
end Go.Proofs.YtjgojgmgicpgaaaGreat
