/- The contracts of ident.Labels, and of the document's own Has and Labels, said as plain functions of lists. Condition: the slices are ones that Go can have. -/
import Derived.Test.YtjgojgmgicpgaaaGreatHVal
import Derived.Test.YtjgojgmgicpgaaaGreatHNm
namespace Go.Proofs.YtjgojgmgicpgaaaGreat
open Go.RowKit
set_option linter.unusedSimpArgs false
set_option linter.unusedVariables false

set_option maxRecDepth 100000 in
set_option maxHeartbeats 3200000 in
theorem rhas_any (A B : Option Addr) (n c m d : Nat) (l r : List Lb) (w : World) (hn : Hid (n = l.length)) (hm : Hid (m = r.length)) (hr : Hid (RdL w A l)) (hq : Hid (RdL w B r)) (hc : n ≤ c) (hc2 : c ≤ 9223372036854775807) (hd : m ≤ d) (hd2 : d ≤ 9223372036854775807) :
    Calls Tryz.prog 210 #[.slice A n c, .slice B m d] w fun e w' => e = .returned (.bool (hasB l r)) ∧ Below w.heap.size w w' := by
  go_enter Tryz.func210, Tryz.ntmps210
  go_wp2
  go_loopw [5, 6, 7, 10] (fun _ _ _ i wr => ∃ k : Nat, k ≤ m ∧ i = .int .i64 k ∧ Hid ((r.take k).all (containsB l) = true) ∧ Below w.heap.size w wr) (fun _ _ _ i wr => m - (intOf i).toNat)
  case atStart => exact ⟨0, Nat.zero_le _, rfl, rfl, Below.refl _ _⟩
  case round =>
    obtain ⟨k, hk, rfl, HA, hb⟩ := hrel
    have hsz := hb.size
    by_cases hlt : k < m
    · have hl : k < r.length := by have := hm.out; omega
      obtain ⟨wo, hwo⟩ : ∃ wo, wo = wr := ⟨_, rfl⟩
      subst hwo
      obtain ⟨x, hx⟩ : ∃ x, x = r[k] := ⟨_, rfl⟩
      have HX : Hid (x = r[k]) := hx
      clear hx
      go_wp2
      go_loopw [6, 7, 15] (fun f _ i wr => ∃ j : Nat, j ≤ n ∧ i = .int .i64 j ∧ f = .bool ((l.take j).any fun y => lE y x) ∧ Below w.heap.size w wr) (fun _ _ i wr => n - (intOf i).toNat)
      case atStart => exact ⟨0, Nat.zero_le _, rfl, by simp, hb⟩
      case round =>
        obtain ⟨j, hj, rfl, rfl, hb2⟩ := hrel
        have hsz2 := hb2.size
        by_cases hjn : j < n
        · have hjl : j < l.length := by have := hn.out; omega
          obtain ⟨g, o, rfl, hg, h1, h2⟩ := (hr.out.later hb2).at hjl
          obtain ⟨g', o', rfl, hg', h1', h2'⟩ := (hq.out.later hb2).at hl
          rw [← HX.out] at h1' h2'
          have hS := @any_takeL l (fun y => lE y x) j hjl
          by_cases hf : ((l.take j).any fun y => lE y x) = true
          · rw [hf] at hS ⊢
            have HS : Hid (true = (l.take (j + 1)).any fun y => lE y x) := by show _ = _; rw [hS]; rfl
            clear hS hf
            go_wp2_with fail
            go_quiet (fail)
            go_wp2
            go_round
            case rel => exact ⟨j + 1, by omega, by go_num, congrArg Value.bool HS.out, (by (repeat' (first | (with_reducible exact Below.refl _ _) | (with_reducible refine bdrewN ?_ _) | (with_reducible refine Below.drew ?_) | (with_reducible refine Below.setCell ?_ ?_ _) | (with_reducible refine Below.alloc ?_ ?_ _) | (with_reducible refine Below.trans ?_ (Below.mono hb2 ?_)) | (with_reducible exact Nat.le_refl _) | (with_reducible assumption) | omega | (simp only [World.size_alloc, World.size_setCell, World.size_drew, sz_drewN]; omega))))⟩
            case measure => simp [intOf]; omega
          · have hf' : ((l.take j).any fun y => lE y x) = false := by simpa using hf
            clear hf
            by_cases hE : lE l[j] x = true
            · rw [hf'] at hS ⊢
              have HS : Hid (true = (l.take (j + 1)).any fun y => lE y x) := by show _ = _; rw [hS, hE]; rfl
              obtain ⟨e1, e2⟩ := lE_yes hE
              clear hS hE hf'
              go_wp2_with fail
              go_quiet (fail)
              go_wp2
              go_round
              case rel => exact ⟨j + 1, by omega, by go_num, congrArg Value.bool HS.out, (by (repeat' (first | (with_reducible exact Below.refl _ _) | (with_reducible refine bdrewN ?_ _) | (with_reducible refine Below.drew ?_) | (with_reducible refine Below.setCell ?_ ?_ _) | (with_reducible refine Below.alloc ?_ ?_ _) | (with_reducible refine Below.trans ?_ (Below.mono hb2 ?_)) | (with_reducible exact Nat.le_refl _) | (with_reducible assumption) | omega | (simp only [World.size_alloc, World.size_setCell, World.size_drew, sz_drewN]; omega))))⟩
              case measure => simp [intOf]; omega
            · rw [hf'] at hS ⊢
              have hE1 : lE l[j] x = false := by simpa using hE
              have HS : Hid (false = (l.take (j + 1)).any fun y => lE y x) := by show _ = _; rw [hS, hE1]; rfl
              have hE' := lE_no hE1
              clear hS hE hE1 hf'
              rcases hE' with e1 | ⟨e1, e2⟩
              all_goals
                go_wp2_with fail
                go_quiet (fail)
                go_wp2
                go_round
                case rel => exact ⟨j + 1, by omega, by go_num, congrArg Value.bool HS.out, (by (repeat' (first | (with_reducible exact Below.refl _ _) | (with_reducible refine bdrewN ?_ _) | (with_reducible refine Below.drew ?_) | (with_reducible refine Below.setCell ?_ ?_ _) | (with_reducible refine Below.alloc ?_ ?_ _) | (with_reducible refine Below.trans ?_ (Below.mono hb2 ?_)) | (with_reducible exact Nat.le_refl _) | (with_reducible assumption) | omega | (simp only [World.size_alloc, World.size_setCell, World.size_drew, sz_drewN]; omega))))⟩
                case measure => simp [intOf]; omega
        · have ht : l.take j = l := List.take_of_length_le (by have := hn.out; omega)
          rw [ht]
          clear ht
          have hcx : (l.any fun y => lE y x) = containsB l r[k] := by rw [← HX.out]; rfl
          by_cases hf : (l.any fun y => lE y x) = true
          · have HS : Hid ((r.take (k + 1)).all (containsB l) = true) := by show _ = _; rw [all_takeL hl, HA.out, ← hcx, hf]; rfl
            rw [hf]
            clear hf hcx
            go_wp2
            go_round
            case rel => exact ⟨k + 1, by omega, by go_num, HS, (by (repeat' (first | (with_reducible exact Below.refl _ _) | (with_reducible refine bdrewN ?_ _) | (with_reducible refine Below.drew ?_) | (with_reducible refine Below.setCell ?_ ?_ _) | (with_reducible refine Below.alloc ?_ ?_ _) | (with_reducible refine Below.trans ?_ (Below.mono hb2 ?_)) | (with_reducible exact Nat.le_refl _) | (with_reducible assumption) | omega | (simp only [World.size_alloc, World.size_setCell, World.size_drew, sz_drewN]; omega))))⟩
            case measure => simp [intOf]; omega
          · have hf' : (l.any fun y => lE y x) = false := by simpa using hf
            have HV : Hid (hasB l r = false) := all_take_falseL hl (by rw [← hcx, hf'])
            rw [hf']
            clear hf hf' hcx
            go_wp2
            go_ret
            exact ⟨ret_bool' HV.out.symm, (by (repeat' (first | (with_reducible exact Below.refl _ _) | (with_reducible refine bdrewN ?_ _) | (with_reducible refine Below.drew ?_) | (with_reducible refine Below.setCell ?_ ?_ _) | (with_reducible refine Below.alloc ?_ ?_ _) | (with_reducible refine Below.trans ?_ (Below.mono hb2 ?_)) | (with_reducible exact Nat.le_refl _) | (with_reducible assumption) | omega | (simp only [World.size_alloc, World.size_setCell, World.size_drew, sz_drewN]; omega))))⟩
    · have HV : Hid (hasB l r = true) := by have := HA.out; rwa [List.take_of_length_le (by have := hm.out; omega)] at this
      go_wp2
      go_ret
      exact ⟨ret_bool' HV.out.symm, (by (repeat' (first | (with_reducible exact Below.refl _ _) | (with_reducible refine bdrewN ?_ _) | (with_reducible refine Below.drew ?_) | (with_reducible refine Below.setCell ?_ ?_ _) | (with_reducible refine Below.alloc ?_ ?_ _) | (with_reducible refine Below.trans ?_ (Below.mono hb ?_)) | (with_reducible exact Nat.le_refl _) | (with_reducible assumption) | omega | (simp only [World.size_alloc, World.size_setCell, World.size_drew, sz_drewN]; omega))))⟩
end Go.Proofs.YtjgojgmgicpgaaaGreat
