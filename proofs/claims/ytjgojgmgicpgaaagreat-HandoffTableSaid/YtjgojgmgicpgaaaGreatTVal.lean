/- The contracts of ident.Value, contains and Has, and of the document's own Value and Has, said as plain functions of lists. Condition: the slices are ones that Go can have. -/
import Derived.Test.YtjgojgmgicpgaaaGreatTQ03
import Derived.Test.YtjgojgmgicpgaaaGreatTQ05
namespace Go.Proofs.YtjgojgmgicpgaaaGreat
open Go.RowKit
set_option linter.unusedSimpArgs false
set_option linter.unusedVariables false

theorem find_at {l : List Lb} {p : Lb → Bool} {k : Nat} (h : (l.take k).find? p = none) (hk : k < l.length) (hp : p l[k] = true) : l.find? p = some l[k] := by
  conv => lhs; rw [← List.take_append_drop k l]
  rw [List.find?_append, h, List.drop_eq_getElem_cons hk, List.find?_cons, hp]; rfl
theorem find_step {l : List Lb} {p : Lb → Bool} {k : Nat} (h : (l.take k).find? p = none) (hk : k < l.length) (hp : p l[k] = false) : (l.take (k + 1)).find? p = none := by
  rw [List.take_succ_eq_append_getElem hk, List.find?_append, h, List.find?_cons, hp]; rfl
theorem any_at {l : List Lb} {p : Lb → Bool} {k : Nat} (hk : k < l.length) (hp : p l[k] = true) : l.any p = true := List.any_eq_true.2 ⟨l[k], List.getElem_mem hk, hp⟩
theorem any_takeL {l : List Lb} {p : Lb → Bool} {k : Nat} (h : k < l.length) : (l.take (k + 1)).any p = ((l.take k).any p || p l[k]) := by
  rw [List.take_succ_eq_append_getElem h, List.any_append]; simp

/-- The value of the first label with this key, and whether there is one. -/
def valueP (l : List Lb) (key : ByteArray) : ByteArray × Bool :=
  match l.find? fun x => sE x.1 key with
  | some x => (x.2, true)
  | none => (⟨#[]⟩, false)
theorem valueP_at {l : List Lb} {key : ByteArray} {k : Nat} (h : (l.take k).find? (fun x => sE x.1 key) = none) (hk : k < l.length) (hp : sE l[k].1 key = true) : valueP l key = (l[k].2, true) := by
  unfold valueP; rw [find_at h hk hp]
theorem valueP_none {l : List Lb} {key : ByteArray} (h : l.find? (fun x => sE x.1 key) = none) : valueP l key = (⟨#[]⟩, false) := by
  unfold valueP; rw [h]
theorem sE_yes {a b : ByteArray} (h : sE a b = true) : a.toList = b.toList := by rw [sE_iff.1 h]
theorem sE_no {a b : ByteArray} (h : sE a b = false) : (a.toList == b.toList) = false := h
/-- A text and a bool as a call returns them. -/
def retV (r : ByteArray × Bool) : Ending := .returned (.tuple #[.string r.1, .bool r.2])
theorem retV_of {r : ByteArray × Bool} {a : ByteArray} {b : Bool} (h : r = (a, b)) : Ending.returned (.tuple #[.string a, .bool b]) = retV r := by rw [h]; rfl



/-- Is this label among them? -/
def containsB (l : List Lb) (x : Lb) : Bool := l.any fun y => lE y x
/-- Is each wanted label there? -/
def hasB (l ws : List Lb) : Bool := ws.all (containsB l)

set_option maxHeartbeats 1600000 in
theorem contains_any (A : Option Addr) (n c : Nat) (l : List Lb) (a b : ByteArray) (w : World) (hn : Hid (n = l.length)) (hr : Hid (RdL w A l)) (hc : n ≤ c) (hc2 : c ≤ 9223372036854775807) :
    Calls Tryz.prog 295 #[.slice A n c, .agg #[.string a, .string b]] w fun e w' => e = .returned (.bool (containsB l (a, b))) ∧ Below w.heap.size w w' := by
  go_enter Tryz.func295, Tryz.ntmps295
  go_wp2
  go_loopw [6, 9] (fun _ i wr => ∃ k : Nat, k ≤ n ∧ i = .int .i64 k ∧ Hid ((l.take k).any (fun y => lE y (a, b)) = false) ∧ Below (w.heap.size + 1) (w.alloc (.cells #[.string a, .string b] 220)) wr) (fun _ i wr => n - (intOf i).toNat)
  case atStart => exact ⟨0, Nat.zero_le _, rfl, rfl, Below.refl _ _⟩
  case round =>
    obtain ⟨k, hk, rfl, HA, hb0⟩ := hrel
    have hb : Below w.heap.size w wr := ((Below.refl _ _).alloc (Nat.le_refl _) _).trans (hb0.mono (by omega))
    have hsz : w.heap.size < wr.heap.size := by have := hb0.size; simp at this; omega
    have k1 : wr.cell? ⟨w.heap.size, 0, none⟩ = some (.string a) := (hb0.cell (p := ⟨w.heap.size, 0, none⟩) (by simp)).trans (by simp)
    have k2 : wr.cell? ⟨w.heap.size, 1, none⟩ = some (.string b) := (hb0.cell (p := ⟨w.heap.size, 1, none⟩) (by simp)).trans (by simp)
    by_cases hlt : k < n
    · have hl : k < l.length := by have := hn.out; omega
      obtain ⟨g, o, rfl, hg, h1, h2⟩ := (hr.out.later hb).at hl
      by_cases hE : lE l[k] (a, b) = true
      · have HV : Hid (containsB l (a, b) = true) := any_at hl hE
        obtain ⟨e1, e2⟩ := lE_yes hE
        simp only [] at e1 e2
        clear hE HA
        go_wp2
        go_ret
        exact ⟨ret_bool' HV.out.symm, (by (repeat' (first | (with_reducible exact Below.refl _ _) | (with_reducible refine bdrewN ?_ _) | (with_reducible refine Below.drew ?_) | (with_reducible refine Below.setCell ?_ ?_ _) | (with_reducible refine Below.alloc ?_ ?_ _) | (with_reducible refine Below.trans ?_ (Below.mono hb ?_)) | (with_reducible exact Nat.le_refl _) | (with_reducible assumption) | omega | (simp only [World.size_alloc, World.size_setCell, World.size_drew, sz_drewN]; omega))))⟩
      · have HS : Hid ((l.take (k + 1)).any (fun y => lE y (a, b)) = false) := by
          show _ = _
          rw [any_takeL hl, HA.out]; simpa using hE
        have hE' := lE_no (by simpa using hE)
        simp only [] at hE'
        clear hE HA
        rcases hE' with e1 | ⟨e1, e2⟩
        all_goals
          go_wp2
          go_round
          case rel => exact ⟨k + 1, by omega, by go_num, HS, (by (repeat' (first | (with_reducible exact Below.refl _ _) | (with_reducible refine bdrewN ?_ _) | (with_reducible refine Below.drew ?_) | (with_reducible refine Below.setCell ?_ ?_ _) | (with_reducible refine Below.alloc ?_ ?_ _) | (with_reducible refine Below.trans ?_ (Below.mono hb0 ?_)) | (with_reducible exact Nat.le_refl _) | (with_reducible assumption) | omega | (simp only [World.size_alloc, World.size_setCell, World.size_drew, sz_drewN]; omega))))⟩
          case measure => simp [intOf]; omega
    · have HV : Hid (containsB l (a, b) = false) := by have := HA.out; rwa [List.take_of_length_le (by have := hn.out; omega)] at this
      go_wp2
      go_ret
      exact ⟨ret_bool' HV.out.symm, (by (repeat' (first | (with_reducible exact Below.refl _ _) | (with_reducible refine bdrewN ?_ _) | (with_reducible refine Below.drew ?_) | (with_reducible refine Below.setCell ?_ ?_ _) | (with_reducible refine Below.alloc ?_ ?_ _) | (with_reducible refine Below.trans ?_ (Below.mono hb ?_)) | (with_reducible exact Nat.le_refl _) | (with_reducible assumption) | omega | (simp only [World.size_alloc, World.size_setCell, World.size_drew, sz_drewN]; omega))))⟩

set_option maxHeartbeats 1600000 in
theorem has_any (A B : Option Addr) (n c m d : Nat) (l r : List Lb) (w : World) (hn : Hid (n = l.length)) (hm : Hid (m = r.length)) (hr : Hid (RdL w A l)) (hq : Hid (RdL w B r)) (hc : n ≤ c) (hc2 : c ≤ 9223372036854775807) (hd : m ≤ d) (hd2 : d ≤ 9223372036854775807) :
    Calls Tryz.prog 225 #[.slice A n c, .slice B m d] w fun e w' => e = .returned (.bool (hasB l r)) ∧ Below w.heap.size w w' := by
  go_enter Tryz.func225, Tryz.ntmps225
  go_wp2
  go_loopw [6, 9] (fun _ i wr => ∃ k : Nat, k ≤ m ∧ i = .int .i64 k ∧ Hid ((r.take k).all (containsB l) = true) ∧ Below w.heap.size w wr) (fun _ i wr => m - (intOf i).toNat)
  case atStart => exact ⟨0, Nat.zero_le _, rfl, rfl, Below.refl _ _⟩
  case round =>
    obtain ⟨k, hk, rfl, HA, hb⟩ := hrel
    have hsz := hb.size
    by_cases hlt : k < m
    · have hl : k < r.length := by have := hm.out; omega
      obtain ⟨g, o, rfl, hg, h1, h2⟩ := (hq.out.later hb).at hl
      have hcon := fun W (h : RdL W A l) => contains_any A n c l r[k].1 r[k].2 W hn h hc hc2
      by_cases hE : containsB l r[k] = true
      · have HS : Hid ((r.take (k + 1)).all (containsB l) = true) := by show _ = _; rw [all_takeL hl, HA.out, hE]; rfl
        rw [show containsB l (r[k].1, r[k].2) = true from hE] at hcon
        have HC : Hid _ := hcon
        clear hE HA hcon
        go_wp2_with fail
        refine (HC.out _ (hr.out.later (by (repeat' (first | (with_reducible exact Below.refl _ _) | (with_reducible refine bdrewN ?_ _) | (with_reducible refine Below.drew ?_) | (with_reducible refine Below.setCell ?_ ?_ _) | (with_reducible refine Below.alloc ?_ ?_ _) | (with_reducible refine Below.trans ?_ (Below.mono hb ?_)) | (with_reducible exact Nat.le_refl _) | (with_reducible assumption) | omega | (simp only [World.size_alloc, World.size_setCell, World.size_drew, sz_drewN]; omega)))))).mono ?_; rintro e w1 ⟨rfl, hb1⟩
        go_wp2
        go_round
        case rel => exact ⟨k + 1, by omega, by go_num, HS, (by (repeat' (first | (with_reducible exact Below.refl _ _) | (with_reducible refine bdrewN ?_ _) | (with_reducible refine Below.drew ?_) | (with_reducible refine Below.setCell ?_ ?_ _) | (with_reducible refine Below.alloc ?_ ?_ _) | (with_reducible refine Below.trans ?_ (Below.mono hb1 ?_)) | (with_reducible refine Below.trans ?_ (Below.mono hb ?_)) | (with_reducible exact Nat.le_refl _) | (with_reducible assumption) | omega | (simp only [World.size_alloc, World.size_setCell, World.size_drew, sz_drewN]; omega))))⟩
        case measure => simp [intOf]; omega
      · have hE' : containsB l r[k] = false := by simpa using hE
        have HV : Hid (hasB l r = false) := all_take_falseL hl hE'
        rw [show containsB l (r[k].1, r[k].2) = false from hE'] at hcon
        have HC : Hid _ := hcon
        clear hE hE' HA hcon
        go_wp2_with fail
        refine (HC.out _ (hr.out.later (by (repeat' (first | (with_reducible exact Below.refl _ _) | (with_reducible refine bdrewN ?_ _) | (with_reducible refine Below.drew ?_) | (with_reducible refine Below.setCell ?_ ?_ _) | (with_reducible refine Below.alloc ?_ ?_ _) | (with_reducible refine Below.trans ?_ (Below.mono hb ?_)) | (with_reducible exact Nat.le_refl _) | (with_reducible assumption) | omega | (simp only [World.size_alloc, World.size_setCell, World.size_drew, sz_drewN]; omega)))))).mono ?_; rintro e w1 ⟨rfl, hb1⟩
        go_wp2
        go_ret
        exact ⟨ret_bool' HV.out.symm, (by (repeat' (first | (with_reducible exact Below.refl _ _) | (with_reducible refine bdrewN ?_ _) | (with_reducible refine Below.drew ?_) | (with_reducible refine Below.setCell ?_ ?_ _) | (with_reducible refine Below.alloc ?_ ?_ _) | (with_reducible refine Below.trans ?_ (Below.mono hb1 ?_)) | (with_reducible refine Below.trans ?_ (Below.mono hb ?_)) | (with_reducible exact Nat.le_refl _) | (with_reducible assumption) | omega | (simp only [World.size_alloc, World.size_setCell, World.size_drew, sz_drewN]; omega))))⟩
    · have HV : Hid (hasB l r = true) := by have := HA.out; rwa [List.take_of_length_le (by have := hm.out; omega)] at this
      go_wp2
      go_ret
      exact ⟨ret_bool' HV.out.symm, (by (repeat' (first | (with_reducible exact Below.refl _ _) | (with_reducible refine bdrewN ?_ _) | (with_reducible refine Below.drew ?_) | (with_reducible refine Below.setCell ?_ ?_ _) | (with_reducible refine Below.alloc ?_ ?_ _) | (with_reducible refine Below.trans ?_ (Below.mono hb ?_)) | (with_reducible exact Nat.le_refl _) | (with_reducible assumption) | omega | (simp only [World.size_alloc, World.size_setCell, World.size_drew, sz_drewN]; omega))))⟩
end Go.Proofs.YtjgojgmgicpgaaaGreat
