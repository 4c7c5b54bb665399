/- Names: the contracts of ident.Name, of the document's own Name and of the test of one byte. Condition: the text is one that Go can have. -/
import Derived.Test.YtldijginplgikaaChecked
import Derived.WalkKit
import Derived.WalkSpells
import Derived.Lib.Hide
import Derived.Handy
namespace Go.Proofs.Ytldijginplgikaa
open Go.RowKit
set_option linter.unusedSimpArgs false
set_option linter.unusedVariables false

/-- May this byte stand in a name? -/
def okI (c : Int) : Bool := decide (97 ≤ c ∧ c ≤ 122 ∨ 48 ≤ c ∧ c ≤ 57 ∨ c = 45)
/-- Is this a name? -/
def nameL (l : List UInt8) : Bool := decide (1 ≤ l.length) && decide (l.length ≤ 16) && !(l.head? == some 45) && l.all fun c => okI c.toNat
def nameB (s : ByteArray) : Bool := nameL s.data.toList

theorem ret_bool {a b : Bool} (h : a = b) : Ending.returned (.bool a) = .returned (.bool b) := by rw [h]


theorem nameL_long {l : List UInt8} (h : 16 < l.length) : nameL l = false := by
  unfold nameL
  rw [show decide (l.length ≤ 16) = false from decide_eq_false (by omega)]; simp
theorem nameL_mk {l : List UInt8} {c : UInt8} (h1 : l.length ≤ 16) (h2 : l[0]? = some c) (h3 : c ≠ 45) : nameL l = l.all fun c => okI c.toNat := by
  cases l with
  | nil => simp at h2
  | cons d l =>
    simp at h2; subst h2
    unfold nameL
    simp at h1
    simp [h1, h3]
theorem nameL_dash {l : List UInt8} (h2 : l[0]? = some 45) : nameL l = false := by
  cases l with
  | nil => simp at h2
  | cons d l => simp at h2; subst h2; unfold nameL; simp

theorem all_take {l : List UInt8} {p : UInt8 → Bool} {k : Nat} (h : k < l.length) : (l.take (k + 1)).all p = ((l.take k).all p && p l[k]) := by
  rw [List.take_succ_eq_append_getElem h, List.all_append]; simp
theorem all_take_false {l : List UInt8} {p : UInt8 → Bool} {k : Nat} (h : k < l.length) (hp : p l[k] = false) : l.all p = false := by
  rw [List.all_eq_false]
  exact ⟨l[k], List.getElem_mem h, by simp [hp]⟩

theorem strN_at (s : ByteArray) (k : Nat) (h : k < s.size) : s.data.toList[k]? = some s[k] := by
  rw [List.getElem?_eq_getElem (by simpa using h)]; rfl
theorem u8_dash (c : UInt8) : (c = 45) ↔ ((c.toNat : Int) = 45) := by
  constructor
  · rintro rfl; rfl
  · intro h; exact UInt8.toNat_inj.1 (by have : c.toNat = 45 := by omega
                                         rw [this]; rfl)


theorem bad_iff {c : Int} : okI c = true ↔ (97 ≤ c ∧ c ≤ 122 ∨ 48 ≤ c ∧ c ≤ 57 ∨ c = 45) := decide_eq_true_iff

end Go.Proofs.Ytldijginplgikaa
