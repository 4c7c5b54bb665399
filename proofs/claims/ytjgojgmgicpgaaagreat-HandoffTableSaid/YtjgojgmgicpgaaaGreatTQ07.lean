/- Names: the contracts of ident.Name, of the document's own Name and of the test of one byte. Condition: the text is one that Go can have. · The contracts of ident.Labels, and of the document's own Has and Labels, said as plain functions of lists. Condition: the slices are ones that Go can have. -/
import Derived.Test.YtjgojgmgicpgaaaGreatChecked
import Derived.WalkKit
import Derived.WalkSpells
import Derived.Lib.Hide
import Derived.Handy
import Derived.Test.YtjgojgmgicpgaaaGreatTVal
namespace Go.Proofs.YtjgojgmgicpgaaaGreat
open Go.RowKit
set_option linter.unusedSimpArgs false
set_option linter.unusedVariables false

/-- May this byte stand in a name? -/
def okI (c : Int) : Bool := decide (97 ≤ c ∧ c ≤ 122 ∨ 48 ≤ c ∧ c ≤ 57 ∨ c = 45)
/-- Is this a name? -/
def nameL (l : List UInt8) : Bool := decide (1 ≤ l.length) && decide (l.length ≤ 16) && !(l.head? == some 45) && l.all fun c => okI c.toNat
def nameB (s : ByteArray) : Bool := nameL s.data.toList

theorem ret_bool {a b : Bool} (h : a = b) : Ending.returned (.bool a) = .returned (.bool b) := by rw [h]

set_option maxHeartbeats 800000 in
theorem inName_any (c : Int) (w : World) : Calls Tryz.prog 241 #[.int .u8 c] w fun e w' => e = .returned (.bool (okI c)) ∧ w = w' := by
  obtain ⟨r, hr⟩ : ∃ r, r = okI c := ⟨_, rfl⟩
  rw [← hr]
  unfold okI at hr
  by_cases h1 : 97 ≤ c <;> by_cases h2 : c ≤ 122 <;> by_cases h3 : 48 ≤ c <;> by_cases h4 : c ≤ 57 <;> by_cases h5 : c = 45
  all_goals try (have hb5 : (c == 45) = false := by simpa using h5)
  all_goals first
    | (exfalso; omega)
    | (have hr' : r = true := by rw [hr]; exact decide_eq_true (by omega)
       clear hr; subst hr'
       go_enter Tryz.func241, Tryz.ntmps241
       go_wp2
       go_ret
       exact ⟨rfl, rfl⟩)
    | (have hr' : r = false := by rw [hr]; exact decide_eq_false (by omega)
       clear hr; subst hr'
       go_enter Tryz.func241, Tryz.ntmps241
       go_wp2
       go_ret
       exact ⟨rfl, rfl⟩)

theorem nameL_long {l : List UInt8} (h : 16 < l.length) : nameL l = false := by
  unfold nameL
  rw [show decide (l.length ≤ 16) = false from decide_eq_false (by omega)]; simp
theorem nameL_mk {l : List UInt8} {c : UInt8} (h1 : l.length ≤ 16) (h2 : l[0]? = some c) (h3 : c ≠ 45) : nameL l = l.all fun c => okI c.toNat := by
  cases l with
  | nil => simp at h2
  | cons d l =>
    simp at h2; subst h2
    unfold nameL
    simp at h1
    simp [h1, h3]
theorem nameL_dash {l : List UInt8} (h2 : l[0]? = some 45) : nameL l = false := by
  cases l with
  | nil => simp at h2
  | cons d l => simp at h2; subst h2; unfold nameL; simp

theorem all_take {l : List UInt8} {p : UInt8 → Bool} {k : Nat} (h : k < l.length) : (l.take (k + 1)).all p = ((l.take k).all p && p l[k]) := by
  rw [List.take_succ_eq_append_getElem h, List.all_append]; simp
theorem all_take_false {l : List UInt8} {p : UInt8 → Bool} {k : Nat} (h : k < l.length) (hp : p l[k] = false) : l.all p = false := by
  rw [List.all_eq_false]
  exact ⟨l[k], List.getElem_mem h, by simp [hp]⟩

theorem strN_at (s : ByteArray) (k : Nat) (h : k < s.size) : s.data.toList[k]? = some s[k] := by
  rw [List.getElem?_eq_getElem (by simpa using h)]; rfl
theorem u8_dash (c : UInt8) : (c = 45) ↔ ((c.toNat : Int) = 45) := by
  constructor
  · rintro rfl; rfl
  · intro h; exact UInt8.toNat_inj.1 (by have : c.toNat = 45 := by omega
                                         rw [this]; rfl)

set_option maxHeartbeats 1600000 in
theorem name_any (s : ByteArray) (w : World) (hs : s.size ≤ 9223372036854775807) : Calls Tryz.prog 141 #[.string s] w fun e w' => e = .returned (.bool (nameB s)) ∧ w = w' := by
  by_cases h0 : s.size = 0
  · have e : s = ⟨#[]⟩ := by cases s; congr; exact Array.eq_empty_of_size_eq_zero h0
    have hr : nameB s = false := by rw [e]; rfl
    rw [hr, e]
    go_enter Tryz.func141, Tryz.ntmps141
    go_wp2
    go_ret
    exact ⟨rfl, rfl⟩
  have hpos : 0 < s.size := by omega
  have hne : (s.toList.isEmpty) = false := by
    rw [Bool.eq_false_iff]; intro hc
    rw [List.isEmpty_iff] at hc
    have : s.toList.length = s.size := by rw [ByteArray.toList_eq]; simp
    rw [hc] at this; simp at this; omega
  have hne2 : ¬ s.toList = [] := by intro hc; rw [hc] at hne; simp at hne
  by_cases h16 : 16 < s.size
  · have hr : nameB s = false := nameL_long (by simpa using h16)
    rw [hr]
    go_enter Tryz.func141, Tryz.ntmps141
    go_wp2
    go_ret
    exact ⟨rfl, rfl⟩
  by_cases hd : (s[0].toNat : Int) = 45
  · have hr : nameB s = false := nameL_dash (by rw [strN_at s 0 hpos]; rw [(u8_dash _).2 hd])
    rw [hr]
    have hd' : ((s[0].toNat : Int) == 45) = true := by simpa using hd
    go_enter Tryz.func141, Tryz.ntmps141
    go_wp2
    go_ret
    exact ⟨rfl, rfl⟩
  have hd' : ((s[0].toNat : Int) == 45) = false := by simpa using hd
  have HR : Hid (nameB s = s.data.toList.all fun c => okI c.toNat) := nameL_mk (by simpa using h16) (strN_at s 0 hpos) (fun h => hd ((u8_dash _).1 h))
  clear hd
  go_enter Tryz.func141, Tryz.ntmps141
  go_wp2
  go_loop [3, 18] (fun _ i => ∃ k : Nat, k ≤ s.size ∧ i = .int .i64 k ∧ Hid ((s.data.toList.take k).all (fun c => okI c.toNat) = true)) (fun _ i => s.size - (intOf i).toNat)
  case atStart => exact ⟨0, Nat.zero_le _, rfl, rfl⟩
  case round =>
    obtain ⟨k, hk, rfl, HA⟩ := hrel
    by_cases hlt : k < s.size
    · have HS : Hid ((s.data.toList.take (k + 1)).all (fun c => okI c.toNat) = ((s.data.toList.take k).all (fun c => okI c.toNat) && okI s[k].toNat)) := all_take (by simpa using hlt)
      have HF : Hid (okI s[k].toNat = false → s.data.toList.all (fun c => okI c.toNat) = false) := fun h => all_take_false (k := k) (by simpa using hlt) h
      by_cases hok : okI s[k].toNat = true
      · have hcon := fun w => inName_any s[k].toNat w
        rw [hok] at hcon
        have HK : Hid (okI s[k].toNat = true) := hok
        clear hok HF
        go_wp2_with (go_at_call 241; refine (hcon _).mono ?_; rintro e w' ⟨rfl, rfl⟩)
        go_round
        case rel => exact ⟨k + 1, by omega, by go_num, (show _ = _ by rw [HS.out, HA.out, HK.out]; rfl)⟩
        case measure => simp [intOf]; omega
      · have hok' : okI s[k].toNat = false := by simpa using hok
        have hcon := fun w => inName_any s[k].toNat w
        rw [hok'] at hcon
        have HR2 : Hid (nameB s = false) := by show _ = _; rw [HR.out]; exact HF.out hok'
        clear hok hok' HF HS
        go_wp2_with (go_at_call 241; refine (hcon _).mono ?_; rintro e w' ⟨rfl, rfl⟩)
        go_ret
        exact ⟨ret_bool HR2.out.symm, rfl⟩
    · have : k = s.size := by omega
      subst this
      have HR2 : Hid (nameB s = true) := by
        show _ = _
        rw [HR.out, ← HA.out, List.take_of_length_le (by simp)]
      go_wp2
      go_ret
      exact ⟨ret_bool HR2.out.symm, rfl⟩

theorem bad_iff {c : Int} : okI c = true ↔ (97 ≤ c ∧ c ≤ 122 ∨ 48 ≤ c ∧ c ≤ 57 ∨ c = 45) := decide_eq_true_iff

set_option maxHeartbeats 3200000 in
theorem rname_any (s : ByteArray) (w : World) (hs : s.size ≤ 9223372036854775807) : Calls Tryz.prog 205 #[.string s] w fun e w' => e = .returned (.bool (nameB s)) ∧ w = w' := by
  by_cases h0 : s.size = 0
  · have e : s = ⟨#[]⟩ := by cases s; congr; exact Array.eq_empty_of_size_eq_zero h0
    have hr : nameB s = false := by rw [e]; rfl
    rw [hr, e]
    go_enter Tryz.func205, Tryz.ntmps205
    go_wp2
    go_ret
    exact ⟨rfl, rfl⟩
  have hpos : 0 < s.size := by omega
  by_cases h16 : 16 < s.size
  · have hr : nameB s = false := nameL_long (by simpa using h16)
    rw [hr]
    go_enter Tryz.func205, Tryz.ntmps205
    go_wp2
    go_ret
    exact ⟨rfl, rfl⟩
  by_cases hd : (s[0].toNat : Int) = 45
  · have hr : nameB s = false := nameL_dash (by rw [strN_at s 0 hpos]; rw [(u8_dash _).2 hd])
    rw [hr]
    have hd' : ((s[0].toNat : Int) == 45) = true := by simpa using hd
    go_enter Tryz.func205, Tryz.ntmps205
    go_wp2
    go_ret
    exact ⟨rfl, rfl⟩
  have hd' : ((s[0].toNat : Int) == 45) = false := by simpa using hd
  have HR : Hid (nameB s = s.data.toList.all fun c => okI c.toNat) := nameL_mk (by simpa using h16) (strN_at s 0 hpos) (fun h => hd ((u8_dash _).1 h))
  clear hd
  go_enter Tryz.func205, Tryz.ntmps205
  go_wp2
  go_loop [3, 4] (fun i _ => ∃ k : Nat, k ≤ s.size ∧ i = .int .i64 k ∧ Hid ((s.data.toList.take k).all (fun c => okI c.toNat) = true)) (fun i _ => s.size - (intOf i).toNat)
  case atStart => exact ⟨0, Nat.zero_le _, rfl, rfl⟩
  case round =>
    obtain ⟨k, hk, rfl, HA⟩ := hrel
    by_cases hlt : k < s.size
    · have HS : Hid ((s.data.toList.take (k + 1)).all (fun c => okI c.toNat) = ((s.data.toList.take k).all (fun c => okI c.toNat) && okI s[k].toNat)) := all_take (by simpa using hlt)
      have HF : Hid (okI s[k].toNat = false → s.data.toList.all (fun c => okI c.toNat) = false) := fun h => all_take_false (k := k) (by simpa using hlt) h
      obtain ⟨c, hc⟩ : ∃ c : Int, c = (s[k].toNat : Int) := ⟨_, rfl⟩
      have HI : Hid (okI s[k].toNat = true ↔ (97 ≤ c ∧ c ≤ 122 ∨ 48 ≤ c ∧ c ≤ 57 ∨ c = 45)) := by rw [hc]; exact bad_iff
      by_cases h1 : 97 ≤ c <;> by_cases h2 : c ≤ 122 <;> by_cases h3 : 48 ≤ c <;> by_cases h4 : c ≤ 57 <;> by_cases h5 : c = 45
      all_goals first
        | (exfalso; omega)
        | (have HK : Hid (okI s[k].toNat = true) := HI.out.2 (by omega)
           clear HI HF
           have hn : (!(c == 45)) = decide (¬ c = 45) := by by_cases h : c = 45 <;> simp [h]
           rw [hc] at h1 h2 h3 h4 h5
           clear hn hc
           go_wp2
           go_round
           case rel => exact ⟨k + 1, by omega, by go_num, (show _ = _ by rw [HS.out, HA.out, HK.out]; rfl)⟩
           case measure => simp [intOf]; omega)
        | (have hok' : okI s[k].toNat = false := by
             rw [Bool.eq_false_iff]; intro h; have := HI.out.1 h; omega
           have HR2 : Hid (nameB s = false) := by show _ = _; rw [HR.out]; exact HF.out hok'
           clear hok' HF HS HI
           have hx : (c != 45) = true := by simpa using h5
           rw [hc] at h1 h2 h3 h4 h5 hx
           clear hc
           go_wp2
           go_ret
           exact ⟨ret_bool HR2.out.symm, rfl⟩)
    · have : k = s.size := by omega
      subst this
      have HR2 : Hid (nameB s = true) := by
        show _ = _
        rw [HR.out, ← HA.out, List.take_of_length_le (by simp)]
      go_wp2
      go_ret
      exact ⟨ret_bool HR2.out.symm, rfl⟩
end Go.Proofs.YtjgojgmgicpgaaaGreat

namespace Go.Proofs.YtjgojgmgicpgaaaGreat
open Go.RowKit
set_option linter.unusedSimpArgs false
set_option linter.unusedVariables false

set_option maxRecDepth 100000 in
set_option maxHeartbeats 3200000 in
theorem rhas_any (A B : Option Addr) (n c m d : Nat) (l r : List Lb) (w : World) (hn : Hid (n = l.length)) (hm : Hid (m = r.length)) (hr : Hid (RdL w A l)) (hq : Hid (RdL w B r)) (hc : n ≤ c) (hc2 : c ≤ 9223372036854775807) (hd : m ≤ d) (hd2 : d ≤ 9223372036854775807) :
    Calls Tryz.prog 210 #[.slice A n c, .slice B m d] w fun e w' => e = .returned (.bool (hasB l r)) ∧ Below w.heap.size w w' := by
  go_enter Tryz.func210, Tryz.ntmps210
  go_wp2
  go_loopw [5, 6, 7, 10] (fun _ _ _ i wr => ∃ k : Nat, k ≤ m ∧ i = .int .i64 k ∧ Hid ((r.take k).all (containsB l) = true) ∧ Below w.heap.size w wr) (fun _ _ _ i wr => m - (intOf i).toNat)
  case atStart => exact ⟨0, Nat.zero_le _, rfl, rfl, Below.refl _ _⟩
  case round =>
    obtain ⟨k, hk, rfl, HA, hb⟩ := hrel
    have hsz := hb.size
    by_cases hlt : k < m
    · have hl : k < r.length := by have := hm.out; omega
      obtain ⟨wo, hwo⟩ : ∃ wo, wo = wr := ⟨_, rfl⟩
      subst hwo
      obtain ⟨x, hx⟩ : ∃ x, x = r[k] := ⟨_, rfl⟩
      have HX : Hid (x = r[k]) := hx
      clear hx
      go_wp2
      go_loopw [6, 7, 15] (fun f _ i wr => ∃ j : Nat, j ≤ n ∧ i = .int .i64 j ∧ f = .bool ((l.take j).any fun y => lE y x) ∧ Below w.heap.size w wr) (fun _ _ i wr => n - (intOf i).toNat)
      case atStart => exact ⟨0, Nat.zero_le _, rfl, by simp, hb⟩
      case round =>
        obtain ⟨j, hj, rfl, rfl, hb2⟩ := hrel
        have hsz2 := hb2.size
        by_cases hjn : j < n
        · have hjl : j < l.length := by have := hn.out; omega
          obtain ⟨g, o, rfl, hg, h1, h2⟩ := (hr.out.later hb2).at hjl
          obtain ⟨g', o', rfl, hg', h1', h2'⟩ := (hq.out.later hb2).at hl
          rw [← HX.out] at h1' h2'
          have hS := @any_takeL l (fun y => lE y x) j hjl
          by_cases hf : ((l.take j).any fun y => lE y x) = true
          · rw [hf] at hS ⊢
            have HS : Hid (true = (l.take (j + 1)).any fun y => lE y x) := by show _ = _; rw [hS]; rfl
            clear hS hf
            go_wp2_with fail
            go_quiet (fail)
            go_wp2
            go_round
            case rel => exact ⟨j + 1, by omega, by go_num, congrArg Value.bool HS.out, (by (repeat' (first | (with_reducible exact Below.refl _ _) | (with_reducible refine bdrewN ?_ _) | (with_reducible refine Below.drew ?_) | (with_reducible refine Below.setCell ?_ ?_ _) | (with_reducible refine Below.alloc ?_ ?_ _) | (with_reducible refine Below.trans ?_ (Below.mono hb2 ?_)) | (with_reducible exact Nat.le_refl _) | (with_reducible assumption) | omega | (simp only [World.size_alloc, World.size_setCell, World.size_drew, sz_drewN]; omega))))⟩
            case measure => simp [intOf]; omega
          · have hf' : ((l.take j).any fun y => lE y x) = false := by simpa using hf
            clear hf
            by_cases hE : lE l[j] x = true
            · rw [hf'] at hS ⊢
              have HS : Hid (true = (l.take (j + 1)).any fun y => lE y x) := by show _ = _; rw [hS, hE]; rfl
              obtain ⟨e1, e2⟩ := lE_yes hE
              clear hS hE hf'
              go_wp2_with fail
              go_quiet (fail)
              go_wp2
              go_round
              case rel => exact ⟨j + 1, by omega, by go_num, congrArg Value.bool HS.out, (by (repeat' (first | (with_reducible exact Below.refl _ _) | (with_reducible refine bdrewN ?_ _) | (with_reducible refine Below.drew ?_) | (with_reducible refine Below.setCell ?_ ?_ _) | (with_reducible refine Below.alloc ?_ ?_ _) | (with_reducible refine Below.trans ?_ (Below.mono hb2 ?_)) | (with_reducible exact Nat.le_refl _) | (with_reducible assumption) | omega | (simp only [World.size_alloc, World.size_setCell, World.size_drew, sz_drewN]; omega))))⟩
              case measure => simp [intOf]; omega
            · rw [hf'] at hS ⊢
              have hE1 : lE l[j] x = false := by simpa using hE
              have HS : Hid (false = (l.take (j + 1)).any fun y => lE y x) := by show _ = _; rw [hS, hE1]; rfl
              have hE' := lE_no hE1
              clear hS hE hE1 hf'
              rcases hE' with e1 | ⟨e1, e2⟩
              all_goals
                go_wp2_with fail
                go_quiet (fail)
                go_wp2
                go_round
                case rel => exact ⟨j + 1, by omega, by go_num, congrArg Value.bool HS.out, (by (repeat' (first | (with_reducible exact Below.refl _ _) | (with_reducible refine bdrewN ?_ _) | (with_reducible refine Below.drew ?_) | (with_reducible refine Below.setCell ?_ ?_ _) | (with_reducible refine Below.alloc ?_ ?_ _) | (with_reducible refine Below.trans ?_ (Below.mono hb2 ?_)) | (with_reducible exact Nat.le_refl _) | (with_reducible assumption) | omega | (simp only [World.size_alloc, World.size_setCell, World.size_drew, sz_drewN]; omega))))⟩
                case measure => simp [intOf]; omega
        · have ht : l.take j = l := List.take_of_length_le (by have := hn.out; omega)
          rw [ht]
          clear ht
          have hcx : (l.any fun y => lE y x) = containsB l r[k] := by rw [← HX.out]; rfl
          by_cases hf : (l.any fun y => lE y x) = true
          · have HS : Hid ((r.take (k + 1)).all (containsB l) = true) := by show _ = _; rw [all_takeL hl, HA.out, ← hcx, hf]; rfl
            rw [hf]
            clear hf hcx
            go_wp2
            go_round
            case rel => exact ⟨k + 1, by omega, by go_num, HS, (by (repeat' (first | (with_reducible exact Below.refl _ _) | (with_reducible refine bdrewN ?_ _) | (with_reducible refine Below.drew ?_) | (with_reducible refine Below.setCell ?_ ?_ _) | (with_reducible refine Below.alloc ?_ ?_ _) | (with_reducible refine Below.trans ?_ (Below.mono hb2 ?_)) | (with_reducible exact Nat.le_refl _) | (with_reducible assumption) | omega | (simp only [World.size_alloc, World.size_setCell, World.size_drew, sz_drewN]; omega))))⟩
            case measure => simp [intOf]; omega
          · have hf' : (l.any fun y => lE y x) = false := by simpa using hf
            have HV : Hid (hasB l r = false) := all_take_falseL hl (by rw [← hcx, hf'])
            rw [hf']
            clear hf hf' hcx
            go_wp2
            go_ret
            exact ⟨ret_bool' HV.out.symm, (by (repeat' (first | (with_reducible exact Below.refl _ _) | (with_reducible refine bdrewN ?_ _) | (with_reducible refine Below.drew ?_) | (with_reducible refine Below.setCell ?_ ?_ _) | (with_reducible refine Below.alloc ?_ ?_ _) | (with_reducible refine Below.trans ?_ (Below.mono hb2 ?_)) | (with_reducible exact Nat.le_refl _) | (with_reducible assumption) | omega | (simp only [World.size_alloc, World.size_setCell, World.size_drew, sz_drewN]; omega))))⟩
    · have HV : Hid (hasB l r = true) := by have := HA.out; rwa [List.take_of_length_le (by have := hm.out; omega)] at this
      go_wp2
      go_ret
      exact ⟨ret_bool' HV.out.symm, (by (repeat' (first | (with_reducible exact Below.refl _ _) | (with_reducible refine bdrewN ?_ _) | (with_reducible refine Below.drew ?_) | (with_reducible refine Below.setCell ?_ ?_ _) | (with_reducible refine Below.alloc ?_ ?_ _) | (with_reducible refine Below.trans ?_ (Below.mono hb ?_)) | (with_reducible exact Nat.le_refl _) | (with_reducible assumption) | omega | (simp only [World.size_alloc, World.size_setCell, World.size_drew, sz_drewN]; omega))))⟩
end Go.Proofs.YtjgojgmgicpgaaaGreat
