/- The walk of PackOne: bytes that are taken as a number, or as a text, are just that number's, that text's bytes. Conditions: a string within the form's reach, two ints. -/
import Derived.Test.YtpjblgibialbfaaWPackTakes
import Derived.Deep.RegionWith
import Derived.Deep.RegionHeld3
import Derived.Deep.DrawnRows
import Derived.BigQuiet
namespace Go.Proofs.Ytpjblgibialbfaa.packOne
open Go.RowKit

/-- What was taken as a number is that number's encoding. -/
theorem takeP_enc {l : List UInt8} {p : Nat} (h : (takeP l (p : Int)).2.2 = 0) : enc (takeP l (p : Int)).1 = (l.drop p).take ((takeP l (p : Int)).2.1.toNat - p) := by
  have hok := takeP_ok h
  have hp : p < l.length := by omega
  rw [takeP_in hp] at h ⊢
  by_cases c1 : 8 < l[p].toNat
  · rw [if_pos c1] at h; cases h
  · rw [if_neg c1] at h ⊢
    by_cases c2 : l.length - (p + 1) < l[p].toNat
    · rw [if_pos c2] at h; cases h
    · rw [if_neg c2] at h ⊢
      by_cases c3 : 0 < l[p].toNat ∧ l[p + 1]? = some 0
      · rw [if_pos c3] at h; cases h
      · rw [if_neg c3]
        simp only []
        have hd : digs (val ((l.drop (p + 1)).take l[p].toNat)) = (l.drop (p + 1)).take l[p].toNat := by
          refine digs_val _ fun hl => ?_
          intro h0
          have hk : 0 < l[p].toNat := by simp at hl; omega
          refine c3 ⟨hk, ?_⟩
          have h1 : ((l.drop (p + 1)).take l[p].toNat)[0]? = some 0 := by rw [List.getElem?_eq_getElem hl, h0]
          rw [List.getElem?_take, if_pos hk, List.getElem?_drop] at h1
          simpa using h1
        unfold enc
        rw [hd, List.length_take, List.length_drop, show min l[p].toNat (l.length - (p + 1)) = l[p].toNat by omega,
          show ((p : Int) + 1 + (l[p].toNat : Int)).toNat - p = l[p].toNat + 1 by omega, List.drop_eq_getElem_cons hp, List.take_succ_cons]
        congr 1
        simp

theorem textP_no {l : List UInt8} {at_ most : Int} (h : (textP l at_ most).2.2 ≠ 0) : (textP l at_ most).1 = [] ∧ (textP l at_ most).2.1 = 0 := by
  unfold textP at h ⊢
  by_cases c0 : most < 0
  · rw [if_pos c0]; exact ⟨rfl, rfl⟩
  · rw [if_neg c0] at h ⊢
    by_cases c1 : (takeP l at_).2.2 ≠ 0
    · rw [if_pos c1]; exact ⟨rfl, rfl⟩
    · rw [if_neg c1] at h ⊢
      by_cases c2 : most < (takeP l at_).1
      · rw [if_pos c2]; exact ⟨rfl, rfl⟩
      · rw [if_neg c2] at h ⊢
        by_cases c3 : (l.length : Int) - (takeP l at_).2.1 < (takeP l at_).1
        · rw [if_pos c3]; exact ⟨rfl, rfl⟩
        · rw [if_neg c3] at h; exact absurd rfl h

theorem textP_ok {l : List UInt8} {p : Nat} {most : Int} (h : (textP l (p : Int) most).2.2 = 0) :
    (takeP l (p : Int)).2.2 = 0 ∧ (p : Int) < (textP l (p : Int) most).2.1 ∧ (textP l (p : Int) most).2.1 ≤ (l.length : Int) ∧ ((textP l (p : Int) most).1.length : Int) ≤ most ∧
      enc (textP l (p : Int) most).1.length ++ (textP l (p : Int) most).1 = (l.drop p).take ((textP l (p : Int) most).2.1.toNat - p) := by
  unfold textP at h ⊢
  by_cases c0 : most < 0
  · rw [if_pos c0] at h; cases h
  · rw [if_neg c0] at h ⊢
    by_cases c1 : (takeP l (p : Int)).2.2 ≠ 0
    · rw [if_pos c1] at h; exact absurd h c1
    · rw [if_neg c1] at h ⊢
      have c1' : (takeP l (p : Int)).2.2 = 0 := Decidable.not_not.1 c1
      by_cases c2 : most < (takeP l (p : Int)).1
      · rw [if_pos c2] at h; cases h
      · rw [if_neg c2] at h ⊢
        by_cases c3 : (l.length : Int) - (takeP l (p : Int)).2.1 < (takeP l (p : Int)).1
        · rw [if_pos c3] at h; cases h
        · rw [if_neg c3]
          have hok := takeP_ok c1'
          have he := takeP_enc c1'
          refine ⟨c1', ?_⟩
          generalize takeP l (p : Int) = r at *
          obtain ⟨a, b, f⟩ := r
          simp only [] at *
          obtain ⟨b', rfl⟩ : ∃ b' : Nat, b = b' := ⟨b.toNat, by omega⟩
          rw [Int.toNat_natCast] at *
          have hl : ((l.drop b').take a).length = a := by simp; omega
          rw [hl]
          refine ⟨by omega, by omega, by omega, ?_⟩
          rw [he, show ((b' : Int) + (a : Int)).toNat - p = (b' - p) + a by omega, List.take_add, List.drop_drop, show p + (b' - p) = b' by omega]

set_option maxHeartbeats 1000000 in
theorem walk_no (a0 : ByteArray) (a1 : Int) (a2 : Int) (w : World) (b0 : a0.size ≤ 140737488351232) (_d1 : -9223372036854775808 ≤ a1 ∧ a1 ≤ 9223372036854775807) (d2 : -9223372036854775808 ≤ a2 ∧ a2 ≤ 9223372036854775807)
    (hx : (takeP a0.data.toList a1).2.2 ≠ 0) (hy : (textP a0.data.toList a1 a2).2.2 ≠ 0) :
    Calls Try.prog 6 #[.string a0, .int .i64 a1, .int .i64 a2] w fun e w' => e = .returned (.bool true) ∧ Below w.heap.size w w' := by
  have hl : a0.size = a0.data.toList.length := (str_len a0).symm
  have t1 := fun A c W (hr : Rd W A a0.data.toList) (hc : a0.size ≤ c) (hm : c ≤ 9223372036854775807) => take_any A c a0.size a1 a0.data.toList W hl hr hc hm
  have t3 := fun A c W (hr : Rd W A a0.data.toList) (hc : a0.size ≤ c) (hm : c ≤ 9223372036854775807) => takeText_any A c a0.size a1 a2 a0.data.toList W hl hr hc hm d2.2
  have n1 := takeP_no hx
  have n2 := textP_no hy
  unfold ret3 at t1
  unfold retT at t3
  generalize takeP a0.data.toList a1 = r at *
  generalize textP a0.data.toList a1 a2 = q at *
  obtain ⟨x1, x2, x3⟩ := r
  obtain ⟨y1, y2, y3⟩ := q
  simp only [] at t1 t3 n1 n2 hx hy
  obtain ⟨rfl, rfl⟩ := n1
  obtain ⟨rfl, rfl⟩ := n2
  have T1 := Lib.hid t1; clear t1
  have T3 := Lib.hid t3; clear t3
  have hx' : (x3 == 0) = false := by simpa using hx
  have hy' : (y3 == 0) = false := by simpa using hy
  clear hl hx hy
  go_enter Try.func6, Try.ntmps6
  go_wp2_with (first
    | (go_at_call 9; refine (awake_any _).mono ?_; rintro e w1 ⟨rfl, hb1⟩)
    | (with_reducible refine wpList_bytes _ rfl (.tmp 16) 9 24 rfl 5 a0 Try.underlying9 Try.underlying24 Try.underlying5 (by unfold maxLen; omega) rfl ?_; intro c2 w2 hr2 hb2 hs2 hc2 hm2; unfold maxLen at hm2)
    | (go_at_call 14; refine (T1.out _ _ _ hr2 hc2 hm2).mono ?_; rintro e w3 ⟨rfl, hb3⟩)
    | (with_reducible refine wpList_bytes _ rfl (.tmp 24) 9 24 rfl 5 a0 Try.underlying9 Try.underlying24 Try.underlying5 (by unfold maxLen; omega) rfl ?_; intro c5 w5 hr5 hb5 hs5 hc5 hm5; unfold maxLen at hm5)
    | (go_at_call 16; refine (T3.out _ _ _ hr5 hc5 hm5).mono ?_; rintro e w6 ⟨rfl, hb6⟩))
  go_quiet (fail)
  go_wp2
  go_quiet (fail)
  go_wp2
  go_ret
  refine ⟨by simp, ?_⟩
  have k1 := hb1.size
  have k2 := hb2.size
  have k3 := hb3.size
  have k5 := hb5.size
  have hh := (((hb1.trans (hb2.mono (by omega))).trans (hb3.mono (by omega))).trans (hb5.mono (by omega))).trans (hb6.mono (by omega))
  exact ⟨hh.os, hh.tape, hh.output, hh.size, hh.block⟩

attribute [local go_sem ↓] Go.wp_at_zero Go.wp_at_succ
set_option maxHeartbeats 1000000 in
theorem walk_num (a0 : ByteArray) (p : Nat) (a2 : Int) (w : World) (b0 : a0.size ≤ 140737488351232) (d2 : -9223372036854775808 ≤ a2 ∧ a2 ≤ 9223372036854775807)
    (hx : (takeP a0.data.toList (p : Int)).2.2 = 0) (hy : (textP a0.data.toList (p : Int) a2).2.2 ≠ 0) :
    Calls Try.prog 6 #[.string a0, .int .i64 (p : Int), .int .i64 a2] w fun e w' => e = .returned (.bool true) ∧ Below w.heap.size w w' := by
  have hl : a0.size = a0.data.toList.length := (str_len a0).symm
  have t1 := fun A c W (hr : Rd W A a0.data.toList) (hc : a0.size ≤ c) (hm : c ≤ 9223372036854775807) => take_any A c a0.size p a0.data.toList W hl hr hc hm
  have t3 := fun A c W (hr : Rd W A a0.data.toList) (hc : a0.size ≤ c) (hm : c ≤ 9223372036854775807) => takeText_any A c a0.size p a2 a0.data.toList W hl hr hc hm d2.2
  have n1 := takeP_ok hx
  have n3 := takeP_enc hx
  have n2 := textP_no hy
  rw [← hl] at n1
  unfold ret3 at t1
  unfold retT at t3
  generalize takeP a0.data.toList (p : Int) = r at *
  generalize textP a0.data.toList (p : Int) a2 = q at *
  obtain ⟨x1, x2, x3⟩ := r
  obtain ⟨y1, y2, y3⟩ := q
  simp only [] at t1 t3 n1 n2 n3 hx hy
  subst hx
  obtain ⟨rfl, rfl⟩ := n2
  obtain ⟨_, m1, m2, m3, m4⟩ := n1
  obtain ⟨q, rfl⟩ : ∃ q : Nat, x2 = q := ⟨x2.toNat, by omega⟩
  rw [Int.toNat_natCast] at n3
  have hex : a0.extract p q = ⟨(enc x1).toArray⟩ := by rw [Lib.extract_eq, n3]
  obtain ⟨N, hN⟩ : ∃ N, N = (enc x1).length := ⟨_, rfl⟩
  have pn := fun W => put_any none 0 0 x1 N [] W m4 rfl hN (Rd.nil _ _) (by decide)
  simp only [List.nil_append] at pn
  have PN := Lib.hid pn; clear pn
  have HN := Lib.hid hN; clear hN
  have T1 := Lib.hid t1; clear t1
  have T3 := Lib.hid t3; clear t3
  have hy' : (y3 == 0) = false := by simpa using hy
  have g1 : decide (q ≤ p) = false := by simp; omega
  have g2 : decide (a0.size < q) = false := by simp; omega
  have g3 : (0 : Int) ≤ (p : Int) := by omega
  have g4 : (p : Int) ≤ (q : Int) := by omega
  have g5 : (q : Int) ≤ (a0.size : Int) := by omega
  clear hl hy n3
  go_enter Try.func6, Try.ntmps6
  go_wp2_with (first
    | (go_at_call 9; refine (awake_any _).mono ?_; rintro e w1 ⟨rfl, hb1⟩)
    | (with_reducible refine wpList_bytes _ rfl (.tmp 16) 9 24 rfl 5 a0 Try.underlying9 Try.underlying24 Try.underlying5 (by unfold maxLen; omega) rfl ?_; intro c2 w2 hr2 hb2 hs2 hc2 hm2; unfold maxLen at hm2)
    | (go_at_call 14; refine (T1.out _ _ _ hr2 hc2 hm2).mono ?_; rintro e w3 ⟨rfl, hb3⟩)
    | (with_reducible refine wpList_bytes _ rfl (.tmp 24) 9 24 rfl 5 a0 Try.underlying9 Try.underlying24 Try.underlying5 (by unfold maxLen; omega) rfl ?_; intro c5 w5 hr5 hb5 hs5 hc5 hm5; unfold maxLen at hm5)
    | (go_at_call 16; refine (T3.out _ _ _ hr5 hc5 hm5).mono ?_; rintro e w6 ⟨rfl, hb6⟩))
  refine wp_region_held_drew (S := fun _ => True) (by kernel_rfl) trivial (fun _ => ?_)
  refine wpAnyH_take (i := 0) (v := ?_) rfl (by kernel_rfl) (by kernel_rfl) (by kernel_rfl) (fun _ _ _ h => h) (Or.inl ⟨by rfl, ?_⟩) trivial ?_
  rotate_left
  · intro w _; go_simp; try with_reducible rfl
  try simp only [Act.put, List.getElem_toArray, List.getElem_cons_zero, List.setIfInBounds_toArray, List.set_cons_zero, List.set_cons_succ]
  refine wpAnyH_take (i := 1) (v := ?_) rfl (by kernel_rfl) (by kernel_rfl) (by kernel_rfl) (fun _ _ _ h => h) (Or.inl ⟨by rfl, ?_⟩) trivial ?_
  rotate_left
  · intro w _; go_simp; try with_reducible rfl
  try simp only [Act.put, List.getElem_toArray, List.getElem_cons_zero, List.getElem_cons_succ, List.setIfInBounds_toArray, List.set_cons_zero, List.set_cons_succ]
  refine wpAnyH_take (i := 2) (v := ?_) rfl (by kernel_rfl) (by kernel_rfl) (by kernel_rfl) (fun _ _ _ h => h) (Or.inl ⟨by rfl, ?_⟩) trivial ?_
  rotate_left
  · intro w _; go_simp; try with_reducible rfl
  try simp only [Act.put, List.getElem_toArray, List.getElem_cons_zero, List.getElem_cons_succ, List.setIfInBounds_toArray, List.set_cons_zero, List.set_cons_succ]
  refine wpAnyH_take (i := 3) (v := ?_) rfl (by kernel_rfl) (by kernel_rfl) (by kernel_rfl) (fun _ _ _ h => h) (Or.inl ⟨by rfl, ?_⟩) trivial ?_
  rotate_left
  · intro w _; go_simp; try with_reducible rfl
  try simp only [Act.put, List.getElem_toArray, List.getElem_cons_zero, List.getElem_cons_succ, List.setIfInBounds_toArray, List.set_cons_zero, List.set_cons_succ]
  refine wpAnyH_take (i := 4) (v := ?_) rfl (by kernel_rfl) (by kernel_rfl) (by kernel_rfl) (fun _ _ _ h => h) (Or.inl ⟨by rfl, ?_⟩) trivial ?_
  rotate_left
  · intro w _; go_simp; try with_reducible rfl
  try simp only [Act.put, List.getElem_toArray, List.getElem_cons_zero, List.getElem_cons_succ, List.setIfInBounds_toArray, List.set_cons_zero, List.set_cons_succ]
  refine wpAnyH_take (i := 5) (v := ?_) rfl (by kernel_rfl) (by kernel_rfl) (by kernel_rfl) (fun _ _ _ h => h) (Or.inl ⟨by rfl, ?_⟩) trivial ?_
  rotate_left
  · intro w _; go_simp; try with_reducible rfl
  try simp only [Act.put, List.getElem_toArray, List.getElem_cons_zero, List.getElem_cons_succ, List.setIfInBounds_toArray, List.set_cons_zero, List.set_cons_succ]
  refine wpAnyH_take (i := 6) (v := ?_) rfl (by kernel_rfl) (by kernel_rfl) (by kernel_rfl) (fun _ _ _ h => h) (Or.inl ⟨by rfl, ?_⟩) trivial ?_
  rotate_left
  · intro w _; go_simp; try with_reducible rfl
  try simp only [Act.put, List.getElem_toArray, List.getElem_cons_zero, List.getElem_cons_succ, List.setIfInBounds_toArray, List.set_cons_zero, List.set_cons_succ]
  refine wpAnyH_take (i := 7) (v := ?_) rfl (by kernel_rfl) (by kernel_rfl) (by kernel_rfl) (fun _ _ _ h => h) (Or.inl ⟨by rfl, ?_⟩) trivial ?_
  rotate_left
  · intro w _; go_simp; try with_reducible rfl
  try simp only [Act.put, List.getElem_toArray, List.getElem_cons_zero, List.getElem_cons_succ, List.setIfInBounds_toArray, List.set_cons_zero, List.set_cons_succ]
  refine wpAnyH_take (i := 8) (v := ?_) rfl (by kernel_rfl) (by kernel_rfl) (by kernel_rfl) (fun _ _ _ h => h) (Or.inl ⟨by rfl, ?_⟩) trivial ?_
  rotate_left
  · intro w _; go_simp; try with_reducible rfl
  try simp only [Act.put, List.getElem_toArray, List.getElem_cons_zero, List.getElem_cons_succ, List.setIfInBounds_toArray, List.set_cons_zero, List.set_cons_succ]
  refine wpAnyH_take (i := 9) (v := ?_) rfl (by kernel_rfl) (by kernel_rfl) (by kernel_rfl) (fun _ _ _ h => h) (Or.inl ⟨by rfl, ?_⟩) trivial ?_
  rotate_left
  · intro w _; go_simp; try with_reducible rfl
  try simp only [Act.put, List.getElem_toArray, List.getElem_cons_zero, List.getElem_cons_succ, List.setIfInBounds_toArray, List.set_cons_zero, List.set_cons_succ]
  refine wpAnyH_take (i := 10) (v := ?_) rfl (by kernel_rfl) (by kernel_rfl) (by kernel_rfl) (fun _ _ _ h => h) (Or.inl ⟨by rfl, ?_⟩) trivial ?_
  rotate_left
  · intro w _; go_simp; try with_reducible rfl
  try simp only [Act.put, List.getElem_toArray, List.getElem_cons_zero, List.getElem_cons_succ, List.setIfInBounds_toArray, List.set_cons_zero, List.set_cons_succ]
  refine wpAnyH_take (i := 11) (v := ?_) rfl (by kernel_rfl) (by kernel_rfl) (by kernel_rfl) (fun _ _ _ h => h) (Or.inl ⟨by rfl, ?_⟩) trivial ?_
  rotate_left
  · intro w _; go_simp; try with_reducible rfl
  try simp only [Act.put, List.getElem_toArray, List.getElem_cons_zero, List.getElem_cons_succ, List.setIfInBounds_toArray, List.set_cons_zero, List.set_cons_succ]
  refine wpAnyH_take (i := 12) (v := ?_) rfl (by kernel_rfl) (by kernel_rfl) (by kernel_rfl) (fun _ _ _ h => h) (Or.inl ⟨by rfl, ?_⟩) trivial ?_
  rotate_left
  · intro w _; go_simp; try with_reducible rfl
  try simp only [Act.put, List.getElem_toArray, List.getElem_cons_zero, List.getElem_cons_succ, List.setIfInBounds_toArray, List.set_cons_zero, List.set_cons_succ]
  refine wpAnyH_take (i := 13) (v := ?_) rfl (by kernel_rfl) (by kernel_rfl) (by kernel_rfl) (fun _ _ _ h => h) (Or.inl ⟨by rfl, ?_⟩) trivial ?_
  rotate_left
  · intro w _; go_simp; try with_reducible rfl
  try simp only [Act.put, List.getElem_toArray, List.getElem_cons_zero, List.getElem_cons_succ, List.setIfInBounds_toArray, List.set_cons_zero, List.set_cons_succ]
  refine wpAnyH_take (i := 16) (v := ?_) rfl (by kernel_rfl) (by kernel_rfl) (by kernel_rfl) (fun _ _ _ h => h) (Or.inl ⟨by rfl, ?_⟩) trivial ?_
  rotate_left
  · intro w _; go_simp; try with_reducible rfl
  try simp only [Act.put, List.getElem_toArray, List.getElem_cons_zero, List.getElem_cons_succ, List.setIfInBounds_toArray, List.set_cons_zero, List.set_cons_succ]
  refine wpAnyH_take (i := 17) (v := ?_) rfl (by kernel_rfl) (by kernel_rfl) (by kernel_rfl) (fun _ _ _ h => h) (Or.inl ⟨by rfl, ?_⟩) trivial ?_
  rotate_left
  · intro w _; go_simp; try with_reducible rfl
  try simp only [Act.put, List.getElem_toArray, List.getElem_cons_zero, List.getElem_cons_succ, List.setIfInBounds_toArray, List.set_cons_zero, List.set_cons_succ]
  refine wpAnyH_take (i := 18) (v := ?_) rfl (by kernel_rfl) (by kernel_rfl) (by kernel_rfl) (fun _ _ _ h => h) (Or.inl ⟨by rfl, ?_⟩) trivial ?_
  rotate_left
  · intro w _; go_simp; try with_reducible rfl
  try simp only [Act.put, List.getElem_toArray, List.getElem_cons_zero, List.getElem_cons_succ, List.setIfInBounds_toArray, List.set_cons_zero, List.set_cons_succ]
  refine wpAnyH_take (i := 19) (v := ?_) rfl (by kernel_rfl) (by kernel_rfl) (by kernel_rfl) (fun _ _ _ h => h) (Or.inl ⟨by rfl, ?_⟩) trivial ?_
  rotate_left
  · intro w _; go_simp; try with_reducible rfl
  try simp only [Act.put, List.getElem_toArray, List.getElem_cons_zero, List.getElem_cons_succ, List.setIfInBounds_toArray, List.set_cons_zero, List.set_cons_succ]
  refine wpAnyH_ready (rs := [14]) (by kernel_rfl) (by simp) ?_
  refine AllReadyH.cons rfl (fun K hK => ?_) AllReadyH.nil
  go_simp
  refine (PN.out _).mono ?_
  rintro e w7 ⟨g7, c7, rfl, ho7, hb7⟩
  have q7 := run_str_rd (P := Try.prog) w7 (src := 24) (dst := 9) (c := c7) Try.underlying24 Try.underlying5 Try.underlying9 HN.out ho7.rd
  go_simp
  refine hK.out _ _ trivial (fun _ => ?_)
  clear hK K
  try simp only [Act.put, List.getElem_toArray, List.getElem_cons_zero, List.getElem_cons_succ, List.setIfInBounds_toArray, List.set_cons_zero, List.set_cons_succ]
  refine wpAnyH_ready (rs := [15]) (by kernel_rfl) (by simp) ?_
  refine AllReadyH.cons rfl (fun K hK => ?_) AllReadyH.nil
  go_simp
  refine hK.out _ _ trivial (fun _ => ?_)
  clear hK K
  try simp only [Act.put, List.getElem_toArray, List.getElem_cons_zero, List.getElem_cons_succ, List.setIfInBounds_toArray, List.set_cons_zero, List.set_cons_succ]
  refine wpAnyH_take (i := 20) (v := ?_) rfl (by kernel_rfl) (by kernel_rfl) (by kernel_rfl) (fun _ _ _ h => h) (Or.inl ⟨by rfl, ?_⟩) trivial ?_
  rotate_left
  · intro w _; go_simp; try with_reducible rfl
  try simp only [Act.put, List.getElem_toArray, List.getElem_cons_zero, List.getElem_cons_succ, List.setIfInBounds_toArray, List.set_cons_zero, List.set_cons_succ]
  refine wpAnyH_take (i := 21) (v := ?_) rfl (by kernel_rfl) (by kernel_rfl) (by kernel_rfl) (fun _ _ _ h => h) (Or.inl ⟨by rfl, ?_⟩) trivial ?_
  rotate_left
  · intro w _; go_simp; try with_reducible rfl
  try simp only [Act.put, List.getElem_toArray, List.getElem_cons_zero, List.getElem_cons_succ, List.setIfInBounds_toArray, List.set_cons_zero, List.set_cons_succ]
  refine wpAnyH_take (i := 22) (v := ?_) rfl (by kernel_rfl) (by kernel_rfl) (by kernel_rfl) (fun _ _ _ h => h) (Or.inl ⟨by rfl, ?_⟩) trivial ?_
  rotate_left
  · intro w _; go_simp; try with_reducible rfl
  try simp only [Act.put, List.getElem_toArray, List.getElem_cons_zero, List.getElem_cons_succ, List.setIfInBounds_toArray, List.set_cons_zero, List.set_cons_succ]
  refine wpAnyH_done (by kernel_rfl) ?_ _
  go_wp2
  go_quiet (fail)
  go_wp2
  go_ret
  refine ⟨by simp, ?_⟩
  have k1 := hb1.size
  have k2 := hb2.size
  have k3 := hb3.size
  have k5 := hb5.size
  have k6 := hb6.size
  have hh := ((((hb1.trans (hb2.mono (by omega))).trans (hb3.mono (by omega))).trans (hb5.mono (by omega))).trans (hb6.mono (by omega))).drew.trans (hb7.mono (by show w.heap.size ≤ w6.heap.size; omega))
  exact ⟨hh.os, hh.tape, hh.output, hh.size, hh.block⟩
set_option maxHeartbeats 2000000 in
theorem walk_both (a0 : ByteArray) (p : Nat) (a2 : Int) (w : World) (b0 : a0.size ≤ 140737488351232) (d2 : -9223372036854775808 ≤ a2 ∧ a2 ≤ 9223372036854775807)
    (hy : (textP a0.data.toList (p : Int) a2).2.2 = 0) :
    Calls Try.prog 6 #[.string a0, .int .i64 (p : Int), .int .i64 a2] w fun e w' => e = .returned (.bool true) ∧ Below w.heap.size w w' := by
  have hl : a0.size = a0.data.toList.length := (str_len a0).symm
  have t1 := fun A c W (hr : Rd W A a0.data.toList) (hc : a0.size ≤ c) (hm : c ≤ 9223372036854775807) => take_any A c a0.size p a0.data.toList W hl hr hc hm
  have t3 := fun A c W (hr : Rd W A a0.data.toList) (hc : a0.size ≤ c) (hm : c ≤ 9223372036854775807) => takeText_any A c a0.size p a2 a0.data.toList W hl hr hc hm d2.2
  have n2 := textP_ok hy
  have hx := n2.1
  have n1 := takeP_ok hx
  have n3 := takeP_enc hx
  rw [← hl] at n1 n2
  unfold ret3 at t1
  unfold retT at t3
  generalize takeP a0.data.toList (p : Int) = r at *
  generalize textP a0.data.toList (p : Int) a2 = q at *
  obtain ⟨x1, x2, x3⟩ := r
  obtain ⟨y1, y2, y3⟩ := q
  simp only [] at t1 t3 n1 n2 n3 hx hy
  subst hx hy
  obtain ⟨_, u1, u2, u3, u4⟩ := n2
  obtain ⟨_, m1, m2, m3, m4⟩ := n1
  obtain ⟨q, rfl⟩ : ∃ q : Nat, x2 = q := ⟨x2.toNat, by omega⟩
  rw [Int.toNat_natCast] at n3
  obtain ⟨q2, rfl⟩ : ∃ q2 : Nat, y2 = q2 := ⟨y2.toNat, by omega⟩
  rw [Int.toNat_natCast] at u4
  obtain ⟨Y, hY⟩ : ∃ Y : ByteArray, Y = ⟨y1.toArray⟩ := ⟨_, rfl⟩
  have hYs : Y.size = y1.length := by rw [hY]; show y1.toArray.size = _; simp
  have hYd : Y.data.toList = y1 := by rw [hY]
  have hex2 : a0.extract p q2 = ⟨(encT Y).toArray⟩ := by rw [Lib.extract_eq, ← u4, encT, hYs, hYd]
  rw [← hY] at t3
  have hYb : (Y.size : Int) ≤ a2 := by rw [hYs]; exact u3
  have hYz : Y.size ≤ 140737488351232 := by
    have := congrArg List.length u4
    rw [List.length_append, enc_length, List.length_take, List.length_drop] at this
    omega
  obtain ⟨M, hM⟩ : ∃ M, M = (encT Y).length := ⟨_, rfl⟩
  have pt := fun W => putText_any none 0 0 M Y [] W rfl hM (Rd.nil _ _) (by omega)
  simp only [List.nil_append] at pt
  have PT := Lib.hid pt; clear pt
  have HM := Lib.hid hM; clear hM
  clear hY hYs hYd u4 u3
  have hex : a0.extract p q = ⟨(enc x1).toArray⟩ := by rw [Lib.extract_eq, n3]
  obtain ⟨N, hN⟩ : ∃ N, N = (enc x1).length := ⟨_, rfl⟩
  have pn := fun W => put_any none 0 0 x1 N [] W m4 rfl hN (Rd.nil _ _) (by decide)
  simp only [List.nil_append] at pn
  have PN := Lib.hid pn; clear pn
  have HN := Lib.hid hN; clear hN
  have T1 := Lib.hid t1; clear t1
  have T3 := Lib.hid t3; clear t3
  have g6 : decide (q2 ≤ p) = false := by simp; omega
  have g7 : decide (a0.size < q2) = false := by simp; omega
  have g8 : (p : Int) ≤ (q2 : Int) := by omega
  have g9 : (q2 : Int) ≤ (a0.size : Int) := by omega
  have g10 : decide (a2 < (Y.size : Int)) = false := by simp; omega
  have g1 : decide (q ≤ p) = false := by simp; omega
  have g2 : decide (a0.size < q) = false := by simp; omega
  have g3 : (0 : Int) ≤ (p : Int) := by omega
  have g4 : (p : Int) ≤ (q : Int) := by omega
  have g5 : (q : Int) ≤ (a0.size : Int) := by omega
  clear hl n3
  go_enter Try.func6, Try.ntmps6
  go_wp2_with (first
    | (go_at_call 9; refine (awake_any _).mono ?_; rintro e w1 ⟨rfl, hb1⟩)
    | (with_reducible refine wpList_bytes _ rfl (.tmp 16) 9 24 rfl 5 a0 Try.underlying9 Try.underlying24 Try.underlying5 (by unfold maxLen; omega) rfl ?_; intro c2 w2 hr2 hb2 hs2 hc2 hm2; unfold maxLen at hm2)
    | (go_at_call 14; refine (T1.out _ _ _ hr2 hc2 hm2).mono ?_; rintro e w3 ⟨rfl, hb3⟩)
    | (with_reducible refine wpList_bytes _ rfl (.tmp 24) 9 24 rfl 5 a0 Try.underlying9 Try.underlying24 Try.underlying5 (by unfold maxLen; omega) rfl ?_; intro c5 w5 hr5 hb5 hs5 hc5 hm5; unfold maxLen at hm5)
    | (go_at_call 16; refine (T3.out _ _ _ hr5 hc5 hm5).mono ?_; rintro e w6 ⟨rfl, hb6⟩))
  refine wp_region_held_drew (S := fun _ => True) (by kernel_rfl) trivial (fun _ => ?_)
  refine wpAnyH_take (i := 0) (v := ?_) rfl (by kernel_rfl) (by kernel_rfl) (by kernel_rfl) (fun _ _ _ h => h) (Or.inl ⟨by rfl, ?_⟩) trivial ?_
  rotate_left
  · intro w _; go_simp; try with_reducible rfl
  try simp only [Act.put, List.getElem_toArray, List.getElem_cons_zero, List.setIfInBounds_toArray, List.set_cons_zero, List.set_cons_succ]
  refine wpAnyH_take (i := 1) (v := ?_) rfl (by kernel_rfl) (by kernel_rfl) (by kernel_rfl) (fun _ _ _ h => h) (Or.inl ⟨by rfl, ?_⟩) trivial ?_
  rotate_left
  · intro w _; go_simp; try with_reducible rfl
  try simp only [Act.put, List.getElem_toArray, List.getElem_cons_zero, List.getElem_cons_succ, List.setIfInBounds_toArray, List.set_cons_zero, List.set_cons_succ]
  refine wpAnyH_take (i := 2) (v := ?_) rfl (by kernel_rfl) (by kernel_rfl) (by kernel_rfl) (fun _ _ _ h => h) (Or.inl ⟨by rfl, ?_⟩) trivial ?_
  rotate_left
  · intro w _; go_simp; try with_reducible rfl
  try simp only [Act.put, List.getElem_toArray, List.getElem_cons_zero, List.getElem_cons_succ, List.setIfInBounds_toArray, List.set_cons_zero, List.set_cons_succ]
  refine wpAnyH_take (i := 3) (v := ?_) rfl (by kernel_rfl) (by kernel_rfl) (by kernel_rfl) (fun _ _ _ h => h) (Or.inl ⟨by rfl, ?_⟩) trivial ?_
  rotate_left
  · intro w _; go_simp; try with_reducible rfl
  try simp only [Act.put, List.getElem_toArray, List.getElem_cons_zero, List.getElem_cons_succ, List.setIfInBounds_toArray, List.set_cons_zero, List.set_cons_succ]
  refine wpAnyH_take (i := 4) (v := ?_) rfl (by kernel_rfl) (by kernel_rfl) (by kernel_rfl) (fun _ _ _ h => h) (Or.inl ⟨by rfl, ?_⟩) trivial ?_
  rotate_left
  · intro w _; go_simp; try with_reducible rfl
  try simp only [Act.put, List.getElem_toArray, List.getElem_cons_zero, List.getElem_cons_succ, List.setIfInBounds_toArray, List.set_cons_zero, List.set_cons_succ]
  refine wpAnyH_take (i := 5) (v := ?_) rfl (by kernel_rfl) (by kernel_rfl) (by kernel_rfl) (fun _ _ _ h => h) (Or.inl ⟨by rfl, ?_⟩) trivial ?_
  rotate_left
  · intro w _; go_simp; try with_reducible rfl
  try simp only [Act.put, List.getElem_toArray, List.getElem_cons_zero, List.getElem_cons_succ, List.setIfInBounds_toArray, List.set_cons_zero, List.set_cons_succ]
  refine wpAnyH_take (i := 6) (v := ?_) rfl (by kernel_rfl) (by kernel_rfl) (by kernel_rfl) (fun _ _ _ h => h) (Or.inl ⟨by rfl, ?_⟩) trivial ?_
  rotate_left
  · intro w _; go_simp; try with_reducible rfl
  try simp only [Act.put, List.getElem_toArray, List.getElem_cons_zero, List.getElem_cons_succ, List.setIfInBounds_toArray, List.set_cons_zero, List.set_cons_succ]
  refine wpAnyH_take (i := 7) (v := ?_) rfl (by kernel_rfl) (by kernel_rfl) (by kernel_rfl) (fun _ _ _ h => h) (Or.inl ⟨by rfl, ?_⟩) trivial ?_
  rotate_left
  · intro w _; go_simp; try with_reducible rfl
  try simp only [Act.put, List.getElem_toArray, List.getElem_cons_zero, List.getElem_cons_succ, List.setIfInBounds_toArray, List.set_cons_zero, List.set_cons_succ]
  refine wpAnyH_take (i := 8) (v := ?_) rfl (by kernel_rfl) (by kernel_rfl) (by kernel_rfl) (fun _ _ _ h => h) (Or.inl ⟨by rfl, ?_⟩) trivial ?_
  rotate_left
  · intro w _; go_simp; try with_reducible rfl
  try simp only [Act.put, List.getElem_toArray, List.getElem_cons_zero, List.getElem_cons_succ, List.setIfInBounds_toArray, List.set_cons_zero, List.set_cons_succ]
  refine wpAnyH_take (i := 9) (v := ?_) rfl (by kernel_rfl) (by kernel_rfl) (by kernel_rfl) (fun _ _ _ h => h) (Or.inl ⟨by rfl, ?_⟩) trivial ?_
  rotate_left
  · intro w _; go_simp; try with_reducible rfl
  try simp only [Act.put, List.getElem_toArray, List.getElem_cons_zero, List.getElem_cons_succ, List.setIfInBounds_toArray, List.set_cons_zero, List.set_cons_succ]
  refine wpAnyH_take (i := 10) (v := ?_) rfl (by kernel_rfl) (by kernel_rfl) (by kernel_rfl) (fun _ _ _ h => h) (Or.inl ⟨by rfl, ?_⟩) trivial ?_
  rotate_left
  · intro w _; go_simp; try with_reducible rfl
  try simp only [Act.put, List.getElem_toArray, List.getElem_cons_zero, List.getElem_cons_succ, List.setIfInBounds_toArray, List.set_cons_zero, List.set_cons_succ]
  refine wpAnyH_take (i := 11) (v := ?_) rfl (by kernel_rfl) (by kernel_rfl) (by kernel_rfl) (fun _ _ _ h => h) (Or.inl ⟨by rfl, ?_⟩) trivial ?_
  rotate_left
  · intro w _; go_simp; try with_reducible rfl
  try simp only [Act.put, List.getElem_toArray, List.getElem_cons_zero, List.getElem_cons_succ, List.setIfInBounds_toArray, List.set_cons_zero, List.set_cons_succ]
  refine wpAnyH_take (i := 12) (v := ?_) rfl (by kernel_rfl) (by kernel_rfl) (by kernel_rfl) (fun _ _ _ h => h) (Or.inl ⟨by rfl, ?_⟩) trivial ?_
  rotate_left
  · intro w _; go_simp; try with_reducible rfl
  try simp only [Act.put, List.getElem_toArray, List.getElem_cons_zero, List.getElem_cons_succ, List.setIfInBounds_toArray, List.set_cons_zero, List.set_cons_succ]
  refine wpAnyH_take (i := 13) (v := ?_) rfl (by kernel_rfl) (by kernel_rfl) (by kernel_rfl) (fun _ _ _ h => h) (Or.inl ⟨by rfl, ?_⟩) trivial ?_
  rotate_left
  · intro w _; go_simp; try with_reducible rfl
  try simp only [Act.put, List.getElem_toArray, List.getElem_cons_zero, List.getElem_cons_succ, List.setIfInBounds_toArray, List.set_cons_zero, List.set_cons_succ]
  refine wpAnyH_take (i := 16) (v := ?_) rfl (by kernel_rfl) (by kernel_rfl) (by kernel_rfl) (fun _ _ _ h => h) (Or.inl ⟨by rfl, ?_⟩) trivial ?_
  rotate_left
  · intro w _; go_simp; try with_reducible rfl
  try simp only [Act.put, List.getElem_toArray, List.getElem_cons_zero, List.getElem_cons_succ, List.setIfInBounds_toArray, List.set_cons_zero, List.set_cons_succ]
  refine wpAnyH_take (i := 17) (v := ?_) rfl (by kernel_rfl) (by kernel_rfl) (by kernel_rfl) (fun _ _ _ h => h) (Or.inl ⟨by rfl, ?_⟩) trivial ?_
  rotate_left
  · intro w _; go_simp; try with_reducible rfl
  try simp only [Act.put, List.getElem_toArray, List.getElem_cons_zero, List.getElem_cons_succ, List.setIfInBounds_toArray, List.set_cons_zero, List.set_cons_succ]
  refine wpAnyH_take (i := 18) (v := ?_) rfl (by kernel_rfl) (by kernel_rfl) (by kernel_rfl) (fun _ _ _ h => h) (Or.inl ⟨by rfl, ?_⟩) trivial ?_
  rotate_left
  · intro w _; go_simp; try with_reducible rfl
  try simp only [Act.put, List.getElem_toArray, List.getElem_cons_zero, List.getElem_cons_succ, List.setIfInBounds_toArray, List.set_cons_zero, List.set_cons_succ]
  refine wpAnyH_take (i := 19) (v := ?_) rfl (by kernel_rfl) (by kernel_rfl) (by kernel_rfl) (fun _ _ _ h => h) (Or.inl ⟨by rfl, ?_⟩) trivial ?_
  rotate_left
  · intro w _; go_simp; try with_reducible rfl
  try simp only [Act.put, List.getElem_toArray, List.getElem_cons_zero, List.getElem_cons_succ, List.setIfInBounds_toArray, List.set_cons_zero, List.set_cons_succ]
  refine wpAnyH_ready (rs := [14]) (by kernel_rfl) (by simp) ?_
  refine AllReadyH.cons rfl (fun K hK => ?_) AllReadyH.nil
  go_simp
  refine (PN.out _).mono ?_
  rintro e w7 ⟨g7, c7, rfl, ho7, hb7⟩
  have q7 := run_str_rd (P := Try.prog) w7 (src := 24) (dst := 9) (c := c7) Try.underlying24 Try.underlying5 Try.underlying9 HN.out ho7.rd
  go_simp
  refine hK.out _ _ trivial (fun _ => ?_)
  clear hK K
  try simp only [Act.put, List.getElem_toArray, List.getElem_cons_zero, List.getElem_cons_succ, List.setIfInBounds_toArray, List.set_cons_zero, List.set_cons_succ]
  refine wpAnyH_ready (rs := [15]) (by kernel_rfl) (by simp) ?_
  refine AllReadyH.cons rfl (fun K hK => ?_) AllReadyH.nil
  go_simp
  refine hK.out _ _ trivial (fun _ => ?_)
  clear hK K
  try simp only [Act.put, List.getElem_toArray, List.getElem_cons_zero, List.getElem_cons_succ, List.setIfInBounds_toArray, List.set_cons_zero, List.set_cons_succ]
  refine wpAnyH_take (i := 20) (v := ?_) rfl (by kernel_rfl) (by kernel_rfl) (by kernel_rfl) (fun _ _ _ h => h) (Or.inl ⟨by rfl, ?_⟩) trivial ?_
  rotate_left
  · intro w _; go_simp; try with_reducible rfl
  try simp only [Act.put, List.getElem_toArray, List.getElem_cons_zero, List.getElem_cons_succ, List.setIfInBounds_toArray, List.set_cons_zero, List.set_cons_succ]
  refine wpAnyH_take (i := 21) (v := ?_) rfl (by kernel_rfl) (by kernel_rfl) (by kernel_rfl) (fun _ _ _ h => h) (Or.inl ⟨by rfl, ?_⟩) trivial ?_
  rotate_left
  · intro w _; go_simp; try with_reducible rfl
  try simp only [Act.put, List.getElem_toArray, List.getElem_cons_zero, List.getElem_cons_succ, List.setIfInBounds_toArray, List.set_cons_zero, List.set_cons_succ]
  refine wpAnyH_take (i := 22) (v := ?_) rfl (by kernel_rfl) (by kernel_rfl) (by kernel_rfl) (fun _ _ _ h => h) (Or.inl ⟨by rfl, ?_⟩) trivial ?_
  rotate_left
  · intro w _; go_simp; try with_reducible rfl
  try simp only [Act.put, List.getElem_toArray, List.getElem_cons_zero, List.getElem_cons_succ, List.setIfInBounds_toArray, List.set_cons_zero, List.set_cons_succ]
  refine wpAnyH_done (by kernel_rfl) ?_ _
  go_wp2
  refine wp_region_held_drew (S := fun _ => True) (by kernel_rfl) trivial (fun _ => ?_)
  refine wpAnyH_take (i := 0) (v := ?_) rfl (by kernel_rfl) (by kernel_rfl) (by kernel_rfl) (fun _ _ _ h => h) (Or.inl ⟨by rfl, ?_⟩) trivial ?_
  rotate_left
  · intro w _; go_simp; try with_reducible rfl
  try simp only [Act.put, List.getElem_toArray, List.getElem_cons_zero, List.setIfInBounds_toArray, List.set_cons_zero, List.set_cons_succ]
  refine wpAnyH_take (i := 1) (v := ?_) rfl (by kernel_rfl) (by kernel_rfl) (by kernel_rfl) (fun _ _ _ h => h) (Or.inl ⟨by rfl, ?_⟩) trivial ?_
  rotate_left
  · intro w _; go_simp; try with_reducible rfl
  try simp only [Act.put, List.getElem_toArray, List.getElem_cons_zero, List.getElem_cons_succ, List.setIfInBounds_toArray, List.set_cons_zero, List.set_cons_succ]
  refine wpAnyH_take (i := 2) (v := ?_) rfl (by kernel_rfl) (by kernel_rfl) (by kernel_rfl) (fun _ _ _ h => h) (Or.inl ⟨by rfl, ?_⟩) trivial ?_
  rotate_left
  · intro w _; go_simp; try with_reducible rfl
  try simp only [Act.put, List.getElem_toArray, List.getElem_cons_zero, List.getElem_cons_succ, List.setIfInBounds_toArray, List.set_cons_zero, List.set_cons_succ]
  refine wpAnyH_take (i := 3) (v := ?_) rfl (by kernel_rfl) (by kernel_rfl) (by kernel_rfl) (fun _ _ _ h => h) (Or.inl ⟨by rfl, ?_⟩) trivial ?_
  rotate_left
  · intro w _; go_simp; try with_reducible rfl
  try simp only [Act.put, List.getElem_toArray, List.getElem_cons_zero, List.getElem_cons_succ, List.setIfInBounds_toArray, List.set_cons_zero, List.set_cons_succ]
  refine wpAnyH_take (i := 4) (v := ?_) rfl (by kernel_rfl) (by kernel_rfl) (by kernel_rfl) (fun _ _ _ h => h) (Or.inl ⟨by rfl, ?_⟩) trivial ?_
  rotate_left
  · intro w _; go_simp; try with_reducible rfl
  try simp only [Act.put, List.getElem_toArray, List.getElem_cons_zero, List.getElem_cons_succ, List.setIfInBounds_toArray, List.set_cons_zero, List.set_cons_succ]
  refine wpAnyH_take (i := 5) (v := ?_) rfl (by kernel_rfl) (by kernel_rfl) (by kernel_rfl) (fun _ _ _ h => h) (Or.inl ⟨by rfl, ?_⟩) trivial ?_
  rotate_left
  · intro w _; go_simp; try with_reducible rfl
  try simp only [Act.put, List.getElem_toArray, List.getElem_cons_zero, List.getElem_cons_succ, List.setIfInBounds_toArray, List.set_cons_zero, List.set_cons_succ]
  refine wpAnyH_take (i := 6) (v := ?_) rfl (by kernel_rfl) (by kernel_rfl) (by kernel_rfl) (fun _ _ _ h => h) (Or.inl ⟨by rfl, ?_⟩) trivial ?_
  rotate_left
  · intro w _; go_simp; try with_reducible rfl
  try simp only [Act.put, List.getElem_toArray, List.getElem_cons_zero, List.getElem_cons_succ, List.setIfInBounds_toArray, List.set_cons_zero, List.set_cons_succ]
  refine wpAnyH_take (i := 7) (v := ?_) rfl (by kernel_rfl) (by kernel_rfl) (by kernel_rfl) (fun _ _ _ h => h) (Or.inl ⟨by rfl, ?_⟩) trivial ?_
  rotate_left
  · intro w _; go_simp; try with_reducible rfl
  try simp only [Act.put, List.getElem_toArray, List.getElem_cons_zero, List.getElem_cons_succ, List.setIfInBounds_toArray, List.set_cons_zero, List.set_cons_succ]
  refine wpAnyH_take (i := 8) (v := ?_) rfl (by kernel_rfl) (by kernel_rfl) (by kernel_rfl) (fun _ _ _ h => h) (Or.inl ⟨by rfl, ?_⟩) trivial ?_
  rotate_left
  · intro w _; go_simp; try with_reducible rfl
  try simp only [Act.put, List.getElem_toArray, List.getElem_cons_zero, List.getElem_cons_succ, List.setIfInBounds_toArray, List.set_cons_zero, List.set_cons_succ]
  refine wpAnyH_take (i := 9) (v := ?_) rfl (by kernel_rfl) (by kernel_rfl) (by kernel_rfl) (fun _ _ _ h => h) (Or.inl ⟨by rfl, ?_⟩) trivial ?_
  rotate_left
  · intro w _; go_simp; try with_reducible rfl
  try simp only [Act.put, List.getElem_toArray, List.getElem_cons_zero, List.getElem_cons_succ, List.setIfInBounds_toArray, List.set_cons_zero, List.set_cons_succ]
  refine wpAnyH_take (i := 10) (v := ?_) rfl (by kernel_rfl) (by kernel_rfl) (by kernel_rfl) (fun _ _ _ h => h) (Or.inl ⟨by rfl, ?_⟩) trivial ?_
  rotate_left
  · intro w _; go_simp; try with_reducible rfl
  try simp only [Act.put, List.getElem_toArray, List.getElem_cons_zero, List.getElem_cons_succ, List.setIfInBounds_toArray, List.set_cons_zero, List.set_cons_succ]
  refine wpAnyH_take (i := 11) (v := ?_) rfl (by kernel_rfl) (by kernel_rfl) (by kernel_rfl) (fun _ _ _ h => h) (Or.inl ⟨by rfl, ?_⟩) trivial ?_
  rotate_left
  · intro w _; go_simp; try with_reducible rfl
  try simp only [Act.put, List.getElem_toArray, List.getElem_cons_zero, List.getElem_cons_succ, List.setIfInBounds_toArray, List.set_cons_zero, List.set_cons_succ]
  refine wpAnyH_take (i := 12) (v := ?_) rfl (by kernel_rfl) (by kernel_rfl) (by kernel_rfl) (fun _ _ _ h => h) (Or.inl ⟨by rfl, ?_⟩) trivial ?_
  rotate_left
  · intro w _; go_simp; try with_reducible rfl
  try simp only [Act.put, List.getElem_toArray, List.getElem_cons_zero, List.getElem_cons_succ, List.setIfInBounds_toArray, List.set_cons_zero, List.set_cons_succ]
  refine wpAnyH_take (i := 13) (v := ?_) rfl (by kernel_rfl) (by kernel_rfl) (by kernel_rfl) (fun _ _ _ h => h) (Or.inl ⟨by rfl, ?_⟩) trivial ?_
  rotate_left
  · intro w _; go_simp; try with_reducible rfl
  try simp only [Act.put, List.getElem_toArray, List.getElem_cons_zero, List.getElem_cons_succ, List.setIfInBounds_toArray, List.set_cons_zero, List.set_cons_succ]
  refine wpAnyH_take (i := 16) (v := ?_) rfl (by kernel_rfl) (by kernel_rfl) (by kernel_rfl) (fun _ _ _ h => h) (Or.inl ⟨by rfl, ?_⟩) trivial ?_
  rotate_left
  · intro w _; go_simp; try with_reducible rfl
  try simp only [Act.put, List.getElem_toArray, List.getElem_cons_zero, List.getElem_cons_succ, List.setIfInBounds_toArray, List.set_cons_zero, List.set_cons_succ]
  refine wpAnyH_take (i := 17) (v := ?_) rfl (by kernel_rfl) (by kernel_rfl) (by kernel_rfl) (fun _ _ _ h => h) (Or.inl ⟨by rfl, ?_⟩) trivial ?_
  rotate_left
  · intro w _; go_simp; try with_reducible rfl
  try simp only [Act.put, List.getElem_toArray, List.getElem_cons_zero, List.getElem_cons_succ, List.setIfInBounds_toArray, List.set_cons_zero, List.set_cons_succ]
  refine wpAnyH_take (i := 18) (v := ?_) rfl (by kernel_rfl) (by kernel_rfl) (by kernel_rfl) (fun _ _ _ h => h) (Or.inl ⟨by rfl, ?_⟩) trivial ?_
  rotate_left
  · intro w _; go_simp; try with_reducible rfl
  try simp only [Act.put, List.getElem_toArray, List.getElem_cons_zero, List.getElem_cons_succ, List.setIfInBounds_toArray, List.set_cons_zero, List.set_cons_succ]
  refine wpAnyH_take (i := 19) (v := ?_) rfl (by kernel_rfl) (by kernel_rfl) (by kernel_rfl) (fun _ _ _ h => h) (Or.inl ⟨by rfl, ?_⟩) trivial ?_
  rotate_left
  · intro w _; go_simp; try with_reducible rfl
  try simp only [Act.put, List.getElem_toArray, List.getElem_cons_zero, List.getElem_cons_succ, List.setIfInBounds_toArray, List.set_cons_zero, List.set_cons_succ]
  refine wpAnyH_ready (rs := [14]) (by kernel_rfl) (by simp) ?_
  refine AllReadyH.cons rfl (fun K hK => ?_) AllReadyH.nil
  go_simp
  refine (PT.out _).mono ?_
  rintro e w8 ⟨g8, c8, rfl, ho8, hb8⟩
  have q8 := run_str_rd (P := Try.prog) w8 (src := 24) (dst := 9) (c := c8) Try.underlying24 Try.underlying5 Try.underlying9 HM.out ho8.rd
  go_simp
  refine hK.out _ _ trivial (fun _ => ?_)
  clear hK K
  try simp only [Act.put, List.getElem_toArray, List.getElem_cons_zero, List.getElem_cons_succ, List.setIfInBounds_toArray, List.set_cons_zero, List.set_cons_succ]
  refine wpAnyH_ready (rs := [15]) (by kernel_rfl) (by simp) ?_
  refine AllReadyH.cons rfl (fun K hK => ?_) AllReadyH.nil
  go_simp
  refine hK.out _ _ trivial (fun _ => ?_)
  clear hK K
  try simp only [Act.put, List.getElem_toArray, List.getElem_cons_zero, List.getElem_cons_succ, List.setIfInBounds_toArray, List.set_cons_zero, List.set_cons_succ]
  refine wpAnyH_take (i := 20) (v := ?_) rfl (by kernel_rfl) (by kernel_rfl) (by kernel_rfl) (fun _ _ _ h => h) (Or.inl ⟨by rfl, ?_⟩) trivial ?_
  rotate_left
  · intro w _; go_simp; try with_reducible rfl
  try simp only [Act.put, List.getElem_toArray, List.getElem_cons_zero, List.getElem_cons_succ, List.setIfInBounds_toArray, List.set_cons_zero, List.set_cons_succ]
  refine wpAnyH_take (i := 21) (v := ?_) rfl (by kernel_rfl) (by kernel_rfl) (by kernel_rfl) (fun _ _ _ h => h) (Or.inl ⟨by rfl, ?_⟩) trivial ?_
  rotate_left
  · intro w _; go_simp; try with_reducible rfl
  try simp only [Act.put, List.getElem_toArray, List.getElem_cons_zero, List.getElem_cons_succ, List.setIfInBounds_toArray, List.set_cons_zero, List.set_cons_succ]
  refine wpAnyH_take (i := 22) (v := ?_) rfl (by kernel_rfl) (by kernel_rfl) (by kernel_rfl) (fun _ _ _ h => h) (Or.inl ⟨by rfl, ?_⟩) trivial ?_
  rotate_left
  · intro w _; go_simp; try with_reducible rfl
  try simp only [Act.put, List.getElem_toArray, List.getElem_cons_zero, List.getElem_cons_succ, List.setIfInBounds_toArray, List.set_cons_zero, List.set_cons_succ]
  refine wpAnyH_take (i := 23) (v := ?_) rfl (by kernel_rfl) (by kernel_rfl) (by kernel_rfl) (fun _ _ _ h => h) (Or.inl ⟨by rfl, ?_⟩) trivial ?_
  rotate_left
  · intro w _; go_simp; try with_reducible rfl
  try simp only [Act.put, List.getElem_toArray, List.getElem_cons_zero, List.getElem_cons_succ, List.setIfInBounds_toArray, List.set_cons_zero, List.set_cons_succ]
  refine wpAnyH_take (i := 24) (v := ?_) rfl (by kernel_rfl) (by kernel_rfl) (by kernel_rfl) (fun _ _ _ h => h) (Or.inl ⟨by rfl, ?_⟩) trivial ?_
  rotate_left
  · intro w _; go_simp; try with_reducible rfl
  try simp only [Act.put, List.getElem_toArray, List.getElem_cons_zero, List.getElem_cons_succ, List.setIfInBounds_toArray, List.set_cons_zero, List.set_cons_succ]
  refine wpAnyH_take (i := 25) (v := ?_) rfl (by kernel_rfl) (by kernel_rfl) (by kernel_rfl) (fun _ _ _ h => h) (Or.inl ⟨by rfl, ?_⟩) trivial ?_
  rotate_left
  · intro w _; go_simp; try with_reducible rfl
  try simp only [Act.put, List.getElem_toArray, List.getElem_cons_zero, List.getElem_cons_succ, List.setIfInBounds_toArray, List.set_cons_zero, List.set_cons_succ]
  refine wpAnyH_take (i := 26) (v := ?_) rfl (by kernel_rfl) (by kernel_rfl) (by kernel_rfl) (fun _ _ _ h => h) (Or.inl ⟨by rfl, ?_⟩) trivial ?_
  rotate_left
  · intro w _; go_simp; try with_reducible rfl
  try simp only [Act.put, List.getElem_toArray, List.getElem_cons_zero, List.getElem_cons_succ, List.setIfInBounds_toArray, List.set_cons_zero, List.set_cons_succ]
  refine wpAnyH_take (i := 27) (v := ?_) rfl (by kernel_rfl) (by kernel_rfl) (by kernel_rfl) (fun _ _ _ h => h) (Or.inl ⟨by rfl, ?_⟩) trivial ?_
  rotate_left
  · intro w _; go_simp; try with_reducible rfl
  try simp only [Act.put, List.getElem_toArray, List.getElem_cons_zero, List.getElem_cons_succ, List.setIfInBounds_toArray, List.set_cons_zero, List.set_cons_succ]
  refine wpAnyH_take (i := 28) (v := ?_) rfl (by kernel_rfl) (by kernel_rfl) (by kernel_rfl) (fun _ _ _ h => h) (Or.inl ⟨by rfl, ?_⟩) trivial ?_
  rotate_left
  · intro w _; go_simp; try with_reducible rfl
  try simp only [Act.put, List.getElem_toArray, List.getElem_cons_zero, List.getElem_cons_succ, List.setIfInBounds_toArray, List.set_cons_zero, List.set_cons_succ]
  refine wpAnyH_done (by kernel_rfl) ?_ _
  go_wp2
  go_ret
  refine ⟨by simp, ?_⟩
  have k1 := hb1.size
  have k2 := hb2.size
  have k3 := hb3.size
  have k5 := hb5.size
  have k6 := hb6.size
  have k7 := hb7.size
  have hh := (((((hb1.trans (hb2.mono (by omega))).trans (hb3.mono (by omega))).trans (hb5.mono (by omega))).trans (hb6.mono (by omega))).drew.trans (hb7.mono (by show w.heap.size ≤ w6.heap.size; omega))).drew.trans (hb8.mono (by show w.heap.size ≤ w7.heap.size; have : w6.heap.size ≤ w7.heap.size := k7; omega))
  exact ⟨hh.os, hh.tape, hh.output, hh.size, hh.block⟩

theorem walk (a0 : ByteArray) (a1 : Int) (a2 : Int) (w : World) (b0 : a0.size ≤ 140737488351232) (w1 : (Lit.int .i64 a1).wf = true) (w2 : (Lit.int .i64 a2).wf = true) :
    Calls Try.prog 6 #[.string a0, .int .i64 a1, .int .i64 a2] w fun e w' => e = .returned (.bool true) ∧ Below w.heap.size w w' := by
  have d1 := packTakes.i64_bd w1
  have d2 := packTakes.i64_bd w2
  by_cases hx : (takeP a0.data.toList a1).2.2 = 0
  · have := takeP_ok hx
    obtain ⟨p, rfl⟩ : ∃ p : Nat, a1 = p := ⟨a1.toNat, by omega⟩
    by_cases hy : (textP a0.data.toList (p : Int) a2).2.2 = 0
    · exact walk_both a0 p a2 w b0 d2 hy
    · exact walk_num a0 p a2 w b0 d2 hx hy
  · by_cases hy : (textP a0.data.toList a1 a2).2.2 = 0
    · exfalso
      apply hx
      unfold textP at hy
      by_cases c0 : a2 < 0
      · rw [if_pos c0] at hy; cases hy
      · rw [if_neg c0, if_pos hx] at hy
        exact hy
    · exact walk_no a0 a1 a2 w b0 d1 d2 hx hy
end Go.Proofs.Ytpjblgibialbfaa.packOne
