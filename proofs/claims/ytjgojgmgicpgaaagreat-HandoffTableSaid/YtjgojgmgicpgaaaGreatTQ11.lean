/- The contracts of pack.Take and pack.TakeText: what they return of any bytes at any offset, said as a plain function. Condition: the slice is one that Go can have. · schema's reader at the bytes of a blank state. No condition. -/
import Derived.Test.YtjgojgmgicpgaaaGreatTQ10
import Derived.Deep.QuietTactic
import Derived.BigQuiet
import Derived.Test.YtjgojgmgicpgaaaGreatTZls
import Derived.Test.YtjgojgmgicpgaaaGreatTOmp
import Derived.Test.YtjgojgmgicpgaaaGreatTRge
import Derived.Deep.DeepCutAuto
import Derived.Deep.CutRange
namespace Go.Proofs.YtjgojgmgicpgaaaGreat
open Go.RowKit

theorem u64_or_byte (a : Nat) (b : UInt8) (h : a < 72057594037927936) : bits .or .u64 ((a : Int) * 256) ((b.toNat : Nat) : Int) = ((a * 256 + b.toNat : Nat) : Int) := by
  have hb := b.toNat_lt
  rw [show ((a : Int) * 256) = ((a * 256 : Nat) : Int) from (Int.natCast_mul a 256).symm, u64_or_nat (a * 256) b.toNat (by omega) (by omega)]
  have := Nat.shiftLeft_add_eq_or_of_lt (i := 8) (show b.toNat < 2 ^ 8 from hb) a
  rw [Nat.shiftLeft_eq] at this
  rw [← this]

theorem val_take_succ {l : List UInt8} {k : Nat} (h : k < l.length) : val (l.take (k + 1)) = val (l.take k) * 256 + l[k].toNat := by
  rw [List.take_add_one, List.getElem?_eq_getElem h]
  exact val_snoc _ _

set_option maxHeartbeats 400000 in
theorem num_any (A : Option Addr) (c n : Nat) (l : List UInt8) (w : World) (hn : Hid (n = l.length)) (hr : Hid (Rd w A l)) (h8 : n ≤ 8) (hc : n ≤ c) (hc2 : c ≤ 9223372036854775807) :
    Calls Tryz.prog 227 #[.slice A n c] w fun e w' => e = .returned (.int .u64 (val l : Nat)) ∧ w = w' := by
  go_enter Tryz.func227, Tryz.ntmps227
  go_wp2
  go_loop [3, 4] (fun v left => ∃ j V : Nat, j ≤ n ∧ left = .int .i64 j ∧ v = .int .u64 (V : Nat) ∧ Hid (V = val (l.take (n - j)))) (fun _ left => (intOf left).toNat)
  case atStart => exact ⟨n, 0, Nat.le_refl _, rfl, rfl, by unfold Hid; simp [val]⟩
  case round =>
    obtain ⟨j, V, hj, rfl, rfl, hV⟩ := hrel
    by_cases h0 : 0 < j
    · have hlt : n - j < l.length := by have := hn.out; omega
      obtain ⟨g, o, rfl, hcell⟩ := hr.out (n - j) l[n - j] (List.getElem?_eq_getElem hlt)
      have hVb : V < 72057594037927936 := by
        have := val_lt (l.take (n - j))
        rw [hV.out]
        have h2 := Nat.pow_le_pow_right (show 0 < 256 by omega) (show (l.take (n - j)).length ≤ 7 by simp; omega)
        omega
      obtain ⟨b, hb⟩ : ∃ b, b = l[n - j] := ⟨_, rfl⟩
      rw [← hb] at hcell
      have HB := Lib.hid hb; clear hb
      have hb8 : b.toNat < 256 := b.toNat_lt
      go_wp2
      go_round
      case rel =>
        refine ⟨j - 1, V * 256 + b.toNat, by omega, by go_num, by rw [u64_or_byte V b hVb], ?_⟩
        unfold Hid
        rw [show n - (j - 1) = n - j + 1 by omega, val_take_succ hlt, ← hV.out, ← HB.out]
      case measure => simp [intOf]; omega
    · have : j ≤ 0 := by omega
      go_wp2
      go_ret
      have e : j = 0 := by omega
      subst e
      have hh := hV.out
      rw [Nat.sub_zero, hn.out, List.take_length] at hh
      exact ⟨by rw [← hh]; rfl, rfl⟩

/-- What Take returns: the number, the offset after it, the error. -/
def takeP (l : List UInt8) (at_ : Int) : Nat × Int × Int :=
  if at_ < 0 ∨ (l.length : Int) < at_ then (0, 0, 1)
  else match l.drop at_.toNat with
    | [] => (0, 0, 2)
    | k :: rest =>
      if 8 < k.toNat then (0, 0, 3)
      else if rest.length < k.toNat then (0, 0, 2)
      else if 0 < k.toNat ∧ rest[0]? = some 0 then (0, 0, 3)
      else (val (rest.take k.toNat), at_ + 1 + k.toNat, 0)

/-- Three numbers as a call returns them. -/
def ret3 (k : IntKind) (r : Nat × Int × Int) : Ending := .returned (.tuple #[.int .u64 (r.1 : Nat), .int .i64 r.2.1, .int k r.2.2])

theorem takeP_out {l : List UInt8} {at_ : Int} (h : at_ < 0 ∨ (l.length : Int) < at_) : takeP l at_ = (0, 0, 1) := by unfold takeP; rw [if_pos h]
theorem takeP_end {l : List UInt8} {p : Nat} (h : l.length = p) : takeP l (p : Int) = (0, 0, 2) := by
  unfold takeP
  rw [if_neg (by omega), Int.toNat_natCast, List.drop_eq_nil_of_le (by omega)]
theorem takeP_in {l : List UInt8} {p : Nat} (h : p < l.length) : takeP l (p : Int) =
    if 8 < l[p].toNat then ((0 : Nat), (0 : Int), (3 : Int))
    else if l.length - (p + 1) < l[p].toNat then (0, 0, 2)
    else if 0 < l[p].toNat ∧ l[p + 1]? = some 0 then (0, 0, 3)
    else (val ((l.drop (p + 1)).take l[p].toNat), (p : Int) + 1 + l[p].toNat, 0) := by
  unfold takeP
  rw [if_neg (by omega), Int.toNat_natCast, List.drop_eq_getElem_cons h]
  simp only [List.length_drop, List.getElem?_drop, Nat.add_zero]

set_option maxHeartbeats 400000 in
theorem take_out (A : Option Addr) (c n : Nat) (at_ : Int) (l : List UInt8) (w : World) (hn : Hid (n = l.length)) (_hc2 : n ≤ 9223372036854775807)
    (h : at_ < 0 ∨ (n : Int) < at_) : Calls Tryz.prog 136 #[.slice A n c, .int .i64 at_] w fun e w' => e = ret3 .i64 (takeP l at_) ∧ w = w' := by
  rw [takeP_out (by rw [← hn.out]; exact h)]
  rcases h with h | h
  · go_enter Tryz.func136, Tryz.ntmps136
    go_wp2
    go_ret3
    exact ⟨rfl, rfl⟩
  · by_cases h0 : at_ < 0
    · go_enter Tryz.func136, Tryz.ntmps136
      go_wp2
      go_ret3
      exact ⟨rfl, rfl⟩
    · go_enter Tryz.func136, Tryz.ntmps136
      go_wp2
      go_ret3
      exact ⟨rfl, rfl⟩

set_option maxHeartbeats 400000 in
theorem take_end (A : Option Addr) (c n : Nat) (l : List UInt8) (w : World) (hn : Hid (n = l.length)) (_hc2 : n ≤ 9223372036854775807) :
    Calls Tryz.prog 136 #[.slice A n c, .int .i64 (n : Int)] w fun e w' => e = ret3 .i64 (takeP l n) ∧ w = w' := by
  rw [takeP_end hn.out.symm]
  go_enter Tryz.func136, Tryz.ntmps136
  go_wp2
  go_ret3
  exact ⟨rfl, rfl⟩

set_option maxHeartbeats 400000 in
theorem take_in (A : Option Addr) (c n p : Nat) (l : List UInt8) (w : World) (hn : Hid (n = l.length)) (hr : Hid (Rd w A l)) (hp : p < n) (hc : n ≤ c) (hc2 : c ≤ 9223372036854775807) :
    Calls Tryz.prog 136 #[.slice A n c, .int .i64 (p : Int)] w fun e w' => e = ret3 .i64 (takeP l p) ∧ ∃ m, w' = w.drewN m := by
  have hpl : p < l.length := by have := hn.out; omega
  obtain ⟨g, o, rfl, hcell⟩ := hr.out p l[p] (List.getElem?_eq_getElem hpl)
  have ht := takeP_in hpl
  rw [← hn.out] at ht
  obtain ⟨k, hk⟩ : ∃ k, k = l[p] := ⟨_, rfl⟩
  rw [← hk] at hcell ht
  have HK := Lib.hid hk; clear hk
  have hk8 : k.toNat < 256 := k.toNat_lt
  have hpi : (p : Int) < (n : Int) := by omega
  have e1 : IntKind.i64.wrap (k.toNat : Int) = (k.toNat : Int) := IntWalk.i64_in _ (by omega)
  have e2 : IntKind.i64.wrap ((p : Int) + 1) = (p : Int) + 1 := IntWalk.i64_in _ (by omega)
  have e3 : ((p : Int) + 1).toNat = p + 1 := by omega
  have e4 : 0 ≤ (p : Int) + 1 := by omega
  have e5 : (p : Int) + 1 ≤ (n : Int) := by omega
  by_cases c1 : 8 < k.toNat
  · rw [if_pos c1] at ht
    rw [ht]
    clear ht
    go_enter Tryz.func136, Tryz.ntmps136
    go_wp2
    go_quiet (fail)
    clear e1 e2 e3
    all_goals go_wp2
    all_goals go_ret3
    all_goals exact ⟨rfl, _, rfl⟩
  rw [if_neg c1] at ht
  by_cases c2 : n - (p + 1) < k.toNat
  · rw [if_pos c2] at ht
    rw [ht]
    clear ht
    have c2i : (n : Int) - ((p : Int) + 1) < (k.toNat : Int) := by omega
    go_enter Tryz.func136, Tryz.ntmps136
    go_wp2
    go_quiet (fail)
    clear e1 e2 e3
    all_goals go_wp2
    all_goals go_ret3
    all_goals exact ⟨rfl, _, rfl⟩
  rw [if_neg c2] at ht
  by_cases c3 : k.toNat = 0
  · have hv : val (List.take k.toNat (List.drop (p + 1) l)) = val [] := by rw [c3]; rfl
    rw [if_neg (by omega), hv] at ht
    have HT := Lib.hid ht; clear ht
    have c3' : k.toNat ≤ 0 := by omega
    have C3 := Lib.hid c3; clear c3
    go_enter Tryz.func136, Tryz.ntmps136
    go_wp2
    go_quiet (fail)
    clear e1 e2 e3
    all_goals go_wp2_with (go_at_call 227; refine (num_any _ _ 0 [] _ rfl (Rd.nil _ _) (by omega) (by omega) (by omega)).mono ?_; rintro e w1 ⟨rfl, rfl⟩)
    all_goals go_ret3
    all_goals (rw [HT.out]; exact ⟨rfl, _, rfl⟩)
  have c3' : 0 < k.toNat := by omega
  have c4 : ¬ c = p + 1 := by omega
  have hp1 : p + 1 < l.length := by have := hn.out; omega
  obtain ⟨g', o', ha', hcd⟩ := hr.out (p + 1) l[p + 1] (List.getElem?_eq_getElem hp1)
  injection ha' with ha'
  injection ha' with hg' ho'
  subst hg' ho'
  obtain ⟨d, hd⟩ : ∃ d, d = l[p + 1] := ⟨_, rfl⟩
  rw [← hd] at hcd
  have hdz : l[p + 1]? = some d := by rw [hd]; exact List.getElem?_eq_getElem hp1
  rw [hdz] at ht
  have HD := Lib.hid hd; clear hd
  have HDZ := Lib.hid hdz; clear hdz
  by_cases c5 : d = 0
  · subst c5
    rw [if_pos ⟨c3', rfl⟩] at ht
    rw [ht]
    clear ht
    have c3i : (0 : Int) < (k.toNat : Int) := by omega
    have hcd0 : w.cell? ⟨g, o + (p + 1), none⟩ = some (.int .u8 0) := hcd
    clear hcd
    go_enter Tryz.func136, Tryz.ntmps136
    go_wp2
    go_quiet (fail)
    clear e1 e2 e3
    go_wp2
    go_ret3
    exact ⟨rfl, _, rfl⟩
  · rw [if_neg (by intro h; exact c5 (by simpa using h.2))] at ht
    have d8 : d.toNat < 256 := d.toNat_lt
    have d0 : ((d.toNat : Int) == 0) = false := by
      simp
      intro h
      exact c5 (UInt8.toNat_inj.1 (by simpa using h))
    have c3i : (0 : Int) < (k.toNat : Int) := by omega
    have HR : Hid (Rd w (some ⟨g, o + (p + 1), none⟩) ((l.drop (p + 1)).take k.toNat)) := by
      have := (hr.out.drop (k := p + 1) (c := c) (by have := hn.out; omega)).take k.toNat
      rw [if_neg c4] at this
      unfold Hid
      simpa [Addr.add_lit] using this
    have HLn : Hid (k.toNat = ((l.drop (p + 1)).take k.toNat).length) := by unfold Hid; have := hn.out; simp; omega
    have HT := Lib.hid ht; clear ht
    go_enter Tryz.func136, Tryz.ntmps136
    go_wp2
    go_quiet (fail)
    clear e1 e2 e3
    go_wp2_with (go_at_call 227; refine (num_any _ _ k.toNat _ _ HLn (Rd.drewN HR.out _) (by omega) (by omega) (by omega)).mono ?_; rintro e w1 ⟨rfl, rfl⟩)
    go_ret3
    rw [HT.out]
    exact ⟨rfl, _, rfl⟩

theorem take_any (A : Option Addr) (c n : Nat) (at_ : Int) (l : List UInt8) (w : World) (hn : Hid (n = l.length)) (hr : Hid (Rd w A l)) (hc : n ≤ c) (hc2 : c ≤ 9223372036854775807) :
    Calls Tryz.prog 136 #[.slice A n c, .int .i64 at_] w fun e w' => e = ret3 .i64 (takeP l at_) ∧ Below w.heap.size w w' := by
  by_cases h : at_ < 0 ∨ (n : Int) < at_
  · exact (take_out A c n at_ l w hn (by omega) h).mono fun e w' ⟨he, hw⟩ => ⟨he, hw ▸ Below.refl _ _⟩
  · obtain ⟨p, rfl⟩ : ∃ p : Nat, at_ = p := ⟨at_.toNat, by omega⟩
    by_cases hp : p = n
    · subst hp
      exact (take_end A c p l w hn (by omega)).mono fun e w' ⟨he, hw⟩ => ⟨he, hw ▸ Below.refl _ _⟩
    · exact (take_in A c n p l w hn hr (by omega) hc hc2).mono fun e w' ⟨he, m, hw⟩ => ⟨he, by subst hw; exact ⟨rfl, rfl, rfl, Nat.le_refl _, fun _ _ => rfl⟩⟩
end Go.Proofs.YtjgojgmgicpgaaaGreat

namespace Go.Proofs.YtjgojgmgicpgaaaGreat
open Go.RowKit
set_option linter.unusedSimpArgs false
set_option linter.unusedVariables false

set_option maxHeartbeats 6400000 in
set_option maxRecDepth 100000 in
theorem num_z (R : Nat) (A : Option Addr) (n c : Nat) (p q : Int) (k : Nat) (l : List UInt8) (w : World) (HR : Hid (Bk w R 105 #[.slice A n c, .int .i64 (p), .bool false])) (hn : Hid (n = l.length)) (hr : Hid (Rd w A l)) (hc : n ≤ c) (hc2 : c ≤ 9223372036854775807) (ht : Hid (takeP l p = (k, q, 0))) :
    Calls Tryz.prog 135 #[.pointer (some ⟨R, 0, none⟩), (.func (.func 136) #[] #[])] w fun e w' => e = .returned (.int .u64 (k : Int)) ∧ Bk w' R 105 #[.slice A n c, .int .i64 (q), .bool false] ∧ w.grownBy w' (some R) := by
  have HT : Hid (∀ W, Below w.heap.size w W → Calls Tryz.prog 136 #[.slice A n c, .int .i64 p] W fun e w' => e = .returned (.tuple #[.int .u64 (k : Int), .int .i64 q, .int .i64 0]) ∧ Below W.heap.size W w') := fun W h => by
    have h1 := take_any A c n p l W hn (Lib.hid (hr.out.below h)) hc hc2
    rw [ht.out] at h1
    exact h1
  have d2 : w.cell? ⟨R, 2, none⟩ = some (.bool false) := HR.out.cellAt 2
  clear hn hr hc hc2 ht
  go_enter Tryz.func135, Tryz.ntmps135
  go_wp2_with fail
  refine wp_region_held_drew (S := fun W => Below w.heap.size w W) (by kernel_rfl) (Below.drew (Below.refl _ _)) (fun hS0 => ?_)
  refine wpAnyH_take (i := 0) (v := ?_) rfl (by kernel_rfl) (by kernel_rfl) (by kernel_rfl) (fun _ _ _ h => h) (Or.inl ⟨by rfl, ?_⟩) hS0 ?_
  rotate_left
  · intro W _; go_simp; try with_reducible rfl
  try simp only [Act.put, List.getElem_toArray, List.getElem_cons_zero, List.setIfInBounds_toArray, List.set_cons_zero, List.set_cons_succ]
  refine wpAnyH_take (i := 1) (v := ?_) rfl (by kernel_rfl) (by kernel_rfl) (by kernel_rfl) (fun _ _ _ h => h) (Or.inl ⟨by rfl, ?_⟩) hS0 ?_
  rotate_left
  · intro W _; go_simp; try with_reducible rfl
  try simp only [Act.put, List.getElem_toArray, List.getElem_cons_zero, List.getElem_cons_succ, List.setIfInBounds_toArray, List.set_cons_zero, List.set_cons_succ]
  refine wpAnyH_take (i := 2) (v := ?_) rfl (by kernel_rfl) (by kernel_rfl) (by kernel_rfl) (fun _ _ _ h => h) (Or.inl ⟨by rfl, ?_⟩) hS0 ?_
  rotate_left
  · intro W _; go_simp; try with_reducible rfl
  try simp only [Act.put, List.getElem_toArray, List.getElem_cons_zero, List.getElem_cons_succ, List.setIfInBounds_toArray, List.set_cons_zero, List.set_cons_succ]
  refine wpAnyH_take (i := 3) (v := ?_) rfl (by kernel_rfl) (by kernel_rfl) (by kernel_rfl) (fun _ _ _ h => h) (Or.inl ⟨by rfl, ?_⟩) hS0 ?_
  rotate_left
  · intro W _; go_simp; try with_reducible rfl
  try simp only [Act.put, List.getElem_toArray, List.getElem_cons_zero, List.getElem_cons_succ, List.setIfInBounds_toArray, List.set_cons_zero, List.set_cons_succ]
  refine wpAnyH_take (i := 4) (v := ?_) rfl (by kernel_rfl) (by kernel_rfl) (by kernel_rfl) (fun _ _ _ h => h) (Or.inl ⟨by rfl, ?_⟩) hS0 ?_
  rotate_left
  · intro W hSW; have hx := (HR.out.later hSW).cellAt 0; go_simp; try with_reducible rfl
  try simp only [Act.put, List.getElem_toArray, List.getElem_cons_zero, List.getElem_cons_succ, List.setIfInBounds_toArray, List.set_cons_zero, List.set_cons_succ]
  refine wpAnyH_take (i := 5) (v := ?_) rfl (by kernel_rfl) (by kernel_rfl) (by kernel_rfl) (fun _ _ _ h => h) (Or.inl ⟨by rfl, ?_⟩) hS0 ?_
  rotate_left
  · intro W _; go_simp; try with_reducible rfl
  try simp only [Act.put, List.getElem_toArray, List.getElem_cons_zero, List.getElem_cons_succ, List.setIfInBounds_toArray, List.set_cons_zero, List.set_cons_succ]
  refine wpAnyH_take (i := 6) (v := ?_) rfl (by kernel_rfl) (by kernel_rfl) (by kernel_rfl) (fun _ _ _ h => h) (Or.inl ⟨by rfl, ?_⟩) hS0 ?_
  rotate_left
  · intro W _; go_simp; try with_reducible rfl
  try simp only [Act.put, List.getElem_toArray, List.getElem_cons_zero, List.getElem_cons_succ, List.setIfInBounds_toArray, List.set_cons_zero, List.set_cons_succ]
  refine wpAnyH_take (i := 7) (v := ?_) rfl (by kernel_rfl) (by kernel_rfl) (by kernel_rfl) (fun _ _ _ h => h) (Or.inl ⟨by rfl, ?_⟩) hS0 ?_
  rotate_left
  · intro W _; go_simp; try with_reducible rfl
  try simp only [Act.put, List.getElem_toArray, List.getElem_cons_zero, List.getElem_cons_succ, List.setIfInBounds_toArray, List.set_cons_zero, List.set_cons_succ]
  refine wpAnyH_take (i := 8) (v := ?_) rfl (by kernel_rfl) (by kernel_rfl) (by kernel_rfl) (fun _ _ _ h => h) (Or.inl ⟨by rfl, ?_⟩) hS0 ?_
  rotate_left
  · intro W hSW; have hx := (HR.out.later hSW).cellAt 1; go_simp; try with_reducible rfl
  try simp only [Act.put, List.getElem_toArray, List.getElem_cons_zero, List.getElem_cons_succ, List.setIfInBounds_toArray, List.set_cons_zero, List.set_cons_succ]
  refine wpAnyH_ready (rs := [9]) (by kernel_rfl) (by simp) ?_
  refine AllReadyH.cons rfl (fun K hK => ?_) AllReadyH.nil
  go_simp
  refine (HT.out _ hS0).mono ?_
  rintro e y1 ⟨rfl, hb1⟩
  go_simp
  refine hK.out _ _ (hS0.trans (hb1.mono (Below.size hS0))) (fun hS1 => ?_)
  clear hK K
  try simp only [Act.put, List.getElem_toArray, List.getElem_cons_zero, List.getElem_cons_succ, List.setIfInBounds_toArray, List.set_cons_zero, List.set_cons_succ]
  refine wpAnyH_take (i := 10) (v := ?_) rfl (by kernel_rfl) (by kernel_rfl) (by kernel_rfl) (fun _ _ _ h => h) (Or.inl ⟨by rfl, ?_⟩) hS1 ?_
  rotate_left
  · intro W _; go_simp; try with_reducible rfl
  try simp only [Act.put, List.getElem_toArray, List.getElem_cons_zero, List.getElem_cons_succ, List.setIfInBounds_toArray, List.set_cons_zero, List.set_cons_succ]
  refine wpAnyH_take (i := 11) (v := ?_) rfl (by kernel_rfl) (by kernel_rfl) (by kernel_rfl) (fun _ _ _ h => h) (Or.inl ⟨by rfl, ?_⟩) hS1 ?_
  rotate_left
  · intro W _; go_simp; try with_reducible rfl
  try simp only [Act.put, List.getElem_toArray, List.getElem_cons_zero, List.getElem_cons_succ, List.setIfInBounds_toArray, List.set_cons_zero, List.set_cons_succ]
  refine wpAnyH_take (i := 14) (v := ?_) rfl (by kernel_rfl) (by kernel_rfl) (by kernel_rfl) (fun _ _ _ h => h) (Or.inl ⟨by rfl, ?_⟩) hS1 ?_
  rotate_left
  · intro W _; go_simp; try with_reducible rfl
  try simp only [Act.put, List.getElem_toArray, List.getElem_cons_zero, List.getElem_cons_succ, List.setIfInBounds_toArray, List.set_cons_zero, List.set_cons_succ]
  refine wpAnyH_take (i := 12) (v := ?_) rfl (by kernel_rfl) (by kernel_rfl) (by kernel_rfl) (fun _ _ _ h => h) (Or.inl ⟨by rfl, ?_⟩) hS1 ?_
  rotate_left
  · intro W _; go_simp; try with_reducible rfl
  try simp only [Act.put, List.getElem_toArray, List.getElem_cons_zero, List.getElem_cons_succ, List.setIfInBounds_toArray, List.set_cons_zero, List.set_cons_succ]
  refine wpAnyH_take (i := 15) (v := ?_) rfl (by kernel_rfl) (by kernel_rfl) (by kernel_rfl) (fun _ _ _ h => h) (Or.inl ⟨by rfl, ?_⟩) hS1 ?_
  rotate_left
  · intro W _; go_simp; try with_reducible rfl
  try simp only [Act.put, List.getElem_toArray, List.getElem_cons_zero, List.getElem_cons_succ, List.setIfInBounds_toArray, List.set_cons_zero, List.set_cons_succ]
  refine wpAnyH_take (i := 13) (v := ?_) rfl (by kernel_rfl) (by kernel_rfl) (by kernel_rfl) (fun _ _ _ h => h) (Or.inl ⟨by rfl, ?_⟩) hS1 ?_
  rotate_left
  · intro W _; go_simp; try with_reducible rfl
  try simp only [Act.put, List.getElem_toArray, List.getElem_cons_zero, List.getElem_cons_succ, List.setIfInBounds_toArray, List.set_cons_zero, List.set_cons_succ]
  refine wpAnyH_take (i := 16) (v := ?_) rfl (by kernel_rfl) (by kernel_rfl) (by kernel_rfl) (fun _ _ _ h => h) (Or.inl ⟨by rfl, ?_⟩) hS1 ?_
  rotate_left
  · intro W _; go_simp; try with_reducible rfl
  try simp only [Act.put, List.getElem_toArray, List.getElem_cons_zero, List.getElem_cons_succ, List.setIfInBounds_toArray, List.set_cons_zero, List.set_cons_succ]
  refine wpAnyH_done (by kernel_rfl) ?_ _
  have HF := Lib.hid hS1
  have HR1 := Lib.hid (HR.out.later HF.out)
  have HG1 : Hid (w.grownBy _ (some R)) := below_grownBy HF.out
  clear HF d2 HR
  go_wp2_with (first | ((with_reducible refine store1_bk rfl 3 (.tmp 34) (.tmp 30) rfl R 1 (.int .i64 q) rfl rfl 105 #[.slice A n c, .int .i64 (p), .bool false] #[.slice A n c, .int .i64 (q), .bool false] HR1.out (by kernel_rfl) (by simp) rfl rfl rfl ?_); intro w5 hB hg hs; have HR5 := Lib.hid hB; have HG5 : Hid (w.grownBy w5 (some R)) := grownBy_trans HG1.out hg; clear hB hg hs HR1 HG1) | ((with_reducible refine store1_bk rfl 4 (.tmp 36) (.tmp 32) rfl R 2 (.bool false) rfl rfl 105 #[.slice A n c, .int .i64 (q), .bool false] #[.slice A n c, .int .i64 (q), .bool false] HR5.out (by kernel_rfl) (by simp) rfl rfl rfl ?_); intro w6 hB hg hs; have HR6 := Lib.hid hB; have HG6 : Hid (w.grownBy w6 (some R)) := grownBy_trans HG5.out hg; clear hB hg hs HR5 HG5))
  go_ret
  exact ⟨rfl, HR6.out, HG6.out⟩
set_option maxHeartbeats 6400000 in
theorem number_z (R : Nat) (A : Option Addr) (n c : Nat) (p q : Int) (k : Nat) (l : List UInt8) (w : World) (HR : Hid (Bk w R 105 #[.slice A n c, .int .i64 (p), .bool false])) (hn : Hid (n = l.length)) (hr : Hid (Rd w A l)) (hc : n ≤ c) (hc2 : c ≤ 9223372036854775807) (ht : Hid (takeP l p = (k, q, 0))) (hk : k < 1000) :
    Calls Tryz.prog 57 #[.pointer (some ⟨R, 0, none⟩)] w fun e w' => e = .returned (.int .i64 (k : Int)) ∧ Bk w' R 105 #[.slice A n c, .int .i64 (q), .bool false] ∧ w.grownBy w' (some R) := by
  have K := Lib.hid (num_z R A n c p q k l w HR hn hr hc hc2 ht)
  have hwk : IntKind.i64.wrap (k : Int) = (k : Int) := by rw [IntKind.wrap_i64]; omega
  clear HR hn hr hc hc2 ht
  go_enter Tryz.func57, Tryz.ntmps57
  go_wp2_with fail
  refine K.out.mono ?_
  rintro e w1 ⟨rfl, hB, hG⟩
  have HB := Lib.hid hB; have HG := Lib.hid hG
  clear hB hG K
  go_wp2_with fail
  go_ret
  exact ⟨rfl, HB.out, HG.out⟩
set_option maxHeartbeats 6400000 in
theorem count_z (R : Nat) (A : Option Addr) (n c : Nat) (p q : Int) (k : Nat) (l : List UInt8) (w : World) (HR : Hid (Bk w R 105 #[.slice A n c, .int .i64 (p), .bool false])) (hn : Hid (n = l.length)) (hr : Hid (Rd w A l)) (hc : n ≤ c) (hc2 : c ≤ 9223372036854775807) (ht : Hid (takeP l p = (k, q, 0))) (most : Nat) (hk : k = 0) (hmost : most < 1000) :
    Calls Tryz.prog 297 #[.pointer (some ⟨R, 0, none⟩), .int .u64 (most : Int)] w fun e w' => e = .returned (.int .i64 0) ∧ Bk w' R 105 #[.slice A n c, .int .i64 (q), .bool false] ∧ w.grownBy w' (some R) := by
  subst hk
  have K := Lib.hid (num_z R A n c p q 0 l w HR hn hr hc hc2 ht)
  have hmm : decide ((most : Int) < 0) = false := decide_eq_false (by omega)
  clear HR hn hr hc hc2 ht
  go_enter Tryz.func297, Tryz.ntmps297
  go_wp2_with fail
  refine K.out.mono ?_
  rintro e w1 ⟨rfl, hB, hG⟩
  have HB := Lib.hid hB; have HG := Lib.hid hG
  clear hB hG K
  go_wp2_with fail
  go_ret
  exact ⟨rfl, HB.out, HG.out⟩
set_option maxHeartbeats 6400000 in
theorem listM_z (R : Nat) (A : Option Addr) (n c : Nat) (p q : Int) (k : Nat) (l : List UInt8) (w : World) (HR : Hid (Bk w R 105 #[.slice A n c, .int .i64 (p), .bool false])) (hn : Hid (n = l.length)) (hr : Hid (Rd w A l)) (hc : n ≤ c) (hc2 : c ≤ 9223372036854775807) (ht : Hid (takeP l p = (k, q, 0))) (most : Nat) (fn : Value) (hk : k = 0) (hmost : most < 1000) :
    Calls Tryz.prog 228 #[.pointer (some ⟨R, 0, none⟩), .int .u64 (most : Int), fn] w fun e w' => e = .returned (.slice none 0 0) ∧ Bk w' R 105 #[.slice A n c, .int .i64 (q), .bool false] ∧ w.grownBy w' (some R) := by
  have K := Lib.hid (count_z R A n c p q k l w HR hn hr hc hc2 ht most hk hmost)
  clear HR hn hr hc hc2 ht hk hmost
  go_enter Tryz.func228, Tryz.ntmps228
  go_wp2_with fail
  refine K.out.mono ?_
  rintro e w1 ⟨rfl, hB, hG⟩
  have HB := Lib.hid hB; have HG := Lib.hid hG
  clear hB hG K
  go_wp2_with fail
  refine wp_loop_rounds 1 ?_
  rw [rounds_succ]
  go_wp2_with fail
  go_ret
  exact ⟨rfl, HB.out, HG.out⟩
set_option maxHeartbeats 6400000 in
theorem listQ_z (R : Nat) (A : Option Addr) (n c : Nat) (p q : Int) (k : Nat) (l : List UInt8) (w : World) (HR : Hid (Bk w R 105 #[.slice A n c, .int .i64 (p), .bool false])) (hn : Hid (n = l.length)) (hr : Hid (Rd w A l)) (hc : n ≤ c) (hc2 : c ≤ 9223372036854775807) (ht : Hid (takeP l p = (k, q, 0))) (most : Nat) (fn : Value) (hk : k = 0) (hmost : most < 1000) :
    Calls Tryz.prog 230 #[.pointer (some ⟨R, 0, none⟩), .int .u64 (most : Int), fn] w fun e w' => e = .returned (.slice none 0 0) ∧ Bk w' R 105 #[.slice A n c, .int .i64 (q), .bool false] ∧ w.grownBy w' (some R) := by
  have K := Lib.hid (count_z R A n c p q k l w HR hn hr hc hc2 ht most hk hmost)
  clear HR hn hr hc hc2 ht hk hmost
  go_enter Tryz.func230, Tryz.ntmps230
  go_wp2_with fail
  refine K.out.mono ?_
  rintro e w1 ⟨rfl, hB, hG⟩
  have HB := Lib.hid hB; have HG := Lib.hid hG
  clear hB hG K
  go_wp2_with fail
  refine wp_loop_rounds 1 ?_
  rw [rounds_succ]
  go_wp2_with fail
  go_ret
  exact ⟨rfl, HB.out, HG.out⟩
set_option maxHeartbeats 6400000 in
theorem listJ_z (R : Nat) (A : Option Addr) (n c : Nat) (p q : Int) (k : Nat) (l : List UInt8) (w : World) (HR : Hid (Bk w R 105 #[.slice A n c, .int .i64 (p), .bool false])) (hn : Hid (n = l.length)) (hr : Hid (Rd w A l)) (hc : n ≤ c) (hc2 : c ≤ 9223372036854775807) (ht : Hid (takeP l p = (k, q, 0))) (most : Nat) (fn : Value) (hk : k = 0) (hmost : most < 1000) :
    Calls Tryz.prog 232 #[.pointer (some ⟨R, 0, none⟩), .int .u64 (most : Int), fn] w fun e w' => e = .returned (.slice none 0 0) ∧ Bk w' R 105 #[.slice A n c, .int .i64 (q), .bool false] ∧ w.grownBy w' (some R) := by
  have K := Lib.hid (count_z R A n c p q k l w HR hn hr hc hc2 ht most hk hmost)
  clear HR hn hr hc hc2 ht hk hmost
  go_enter Tryz.func232, Tryz.ntmps232
  go_wp2_with fail
  refine K.out.mono ?_
  rintro e w1 ⟨rfl, hB, hG⟩
  have HB := Lib.hid hB; have HG := Lib.hid hG
  clear hB hG K
  go_wp2_with fail
  refine wp_loop_rounds 1 ?_
  rw [rounds_succ]
  go_wp2_with fail
  go_ret
  exact ⟨rfl, HB.out, HG.out⟩
end Go.Proofs.YtjgojgmgicpgaaaGreat
