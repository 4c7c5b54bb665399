/- The contracts of ident.Value, contains and Has, and of the document's own Value and Has, said as plain functions of lists. Condition: the slices are ones that Go can have. -/
import Derived.Test.YtldijginplgikaaFew
import Derived.Test.YtldijginplgikaaLat
namespace Go.Proofs.Ytldijginplgikaa
open Go.RowKit
set_option linter.unusedSimpArgs false
set_option linter.unusedVariables false

theorem find_at {l : List Lb} {p : Lb → Bool} {k : Nat} (h : (l.take k).find? p = none) (hk : k < l.length) (hp : p l[k] = true) : l.find? p = some l[k] := by
  conv => lhs; rw [← List.take_append_drop k l]
  rw [List.find?_append, h, List.drop_eq_getElem_cons hk, List.find?_cons, hp]; rfl
theorem find_step {l : List Lb} {p : Lb → Bool} {k : Nat} (h : (l.take k).find? p = none) (hk : k < l.length) (hp : p l[k] = false) : (l.take (k + 1)).find? p = none := by
  rw [List.take_succ_eq_append_getElem hk, List.find?_append, h, List.find?_cons, hp]; rfl
theorem any_at {l : List Lb} {p : Lb → Bool} {k : Nat} (hk : k < l.length) (hp : p l[k] = true) : l.any p = true := List.any_eq_true.2 ⟨l[k], List.getElem_mem hk, hp⟩
theorem any_takeL {l : List Lb} {p : Lb → Bool} {k : Nat} (h : k < l.length) : (l.take (k + 1)).any p = ((l.take k).any p || p l[k]) := by
  rw [List.take_succ_eq_append_getElem h, List.any_append]; simp

/-- The value of the first label with this key, and whether there is one. -/
def valueP (l : List Lb) (key : ByteArray) : ByteArray × Bool :=
  match l.find? fun x => sE x.1 key with
  | some x => (x.2, true)
  | none => (⟨#[]⟩, false)
theorem valueP_at {l : List Lb} {key : ByteArray} {k : Nat} (h : (l.take k).find? (fun x => sE x.1 key) = none) (hk : k < l.length) (hp : sE l[k].1 key = true) : valueP l key = (l[k].2, true) := by
  unfold valueP; rw [find_at h hk hp]
theorem valueP_none {l : List Lb} {key : ByteArray} (h : l.find? (fun x => sE x.1 key) = none) : valueP l key = (⟨#[]⟩, false) := by
  unfold valueP; rw [h]
theorem sE_yes {a b : ByteArray} (h : sE a b = true) : a.toList = b.toList := by rw [sE_iff.1 h]
theorem sE_no {a b : ByteArray} (h : sE a b = false) : (a.toList == b.toList) = false := h
/-- A text and a bool as a call returns them. -/
def retV (r : ByteArray × Bool) : Ending := .returned (.tuple #[.string r.1, .bool r.2])
theorem retV_of {r : ByteArray × Bool} {a : ByteArray} {b : Bool} (h : r = (a, b)) : Ending.returned (.tuple #[.string a, .bool b]) = retV r := by rw [h]; rfl



/-- Is this label among them? -/
def containsB (l : List Lb) (x : Lb) : Bool := l.any fun y => lE y x
/-- Is each wanted label there? -/
def hasB (l ws : List Lb) : Bool := ws.all (containsB l)


end Go.Proofs.Ytldijginplgikaa
