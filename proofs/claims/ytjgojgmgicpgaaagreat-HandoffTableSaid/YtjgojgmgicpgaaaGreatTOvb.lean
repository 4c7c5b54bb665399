/- Operations, plainly: what they hold; whether one is valid. No condition. -/
import Derived.Test.YtjgojgmgicpgaaaGreatTSmb
import Derived.Test.YtjgojgmgicpgaaaGreatTMod
import Derived.Test.YtjgojgmgicpgaaaGreatTRts
namespace Go.Proofs.YtjgojgmgicpgaaaGreat
open Go.RowKit
set_option linter.unusedSimpArgs false
set_option linter.unusedVariables false

/-- What an operation holds. -/
structure Ov where
  k : Int
  nn : ByteArray
  a1 : Int
  b1 : Int
  c1 : Int
  l1 : List Lb
  qn : ByteArray
  a2 : Int
  b2 : Int
  c2 : Int
  tn : ByteArray
  tq : ByteArray
  tp : Int
  a3 : Int
  b3 : Int
  c3 : Int
  l3 : List Lb
  ta : ByteArray
  tg : ByteArray
  ts : Int
  s : ByteArray
def Ov.zero : Ov := ⟨0, ⟨#[]⟩, 0, 0, 0, [], ⟨#[]⟩, 0, 0, 0, ⟨#[]⟩, ⟨#[]⟩, 0, 0, 0, 0, [], ⟨#[]⟩, ⟨#[]⟩, 0, ⟨#[]⟩⟩
/-- Is a node, a queue, a task zero (its list empty)? -/
def blankN (nm : ByteArray) (a b c : Int) (l : List Lb) : Bool := sameNodeB nm a b c l ⟨#[]⟩ 0 0 0 []
def blankQ (nm : ByteArray) (a b c : Int) : Bool := sE nm ⟨#[]⟩ && eq3 a b c 0 0 0
def blankT (nm qu : ByteArray) (pr a b c : Int) (l : List Lb) (ap ga : ByteArray) (sz : Int) : Bool := sameTaskB nm qu pr a b c l ap ga sz ⟨#[]⟩ ⟨#[]⟩ 0 0 0 0 [] ⟨#[]⟩ ⟨#[]⟩ 0
/-- Has a kind a name? -/
def namedB (k : Int) : Bool := decide (k = 2 ∨ k = 4 ∨ k = 6 ∨ k = 7 ∨ k = 8)
/-- The four parts, one by one. -/
def Ov.zN (x : Ov) : Bool := blankN x.nn x.a1 x.b1 x.c1 x.l1
def Ov.zQ (x : Ov) : Bool := blankQ x.qn x.a2 x.b2 x.c2
def Ov.zT (x : Ov) : Bool := blankT x.tn x.tq x.tp x.a3 x.b3 x.c3 x.l3 x.ta x.tg x.ts
def Ov.zS (x : Ov) : Bool := sE x.s ⟨#[]⟩
def Ov.vN (x : Ov) : Bool := nodeB x.nn x.a1 x.b1 x.c1 x.l1
def Ov.vQ (x : Ov) : Bool := queueB x.qn x.a2 x.b2 x.c2
def Ov.vT (x : Ov) : Bool := taskB x.tn x.tq x.tp x.a3 x.b3 x.c3 x.l3 x.ta x.tg x.ts
/-- Is all zero but the kind? -/
def Ov.blank (x : Ov) : Bool := x.zN && x.zQ && x.zT && x.zS
/-- Is an operation valid? -/
def opB (x : Ov) : Bool :=
  if x.k = 1 then x.vN && x.zQ && x.zT && x.zS
  else if x.k = 3 then x.vQ && x.zN && x.zT && x.zS
  else if x.k = 5 then x.vT && x.zN && x.zQ && x.zS
  else if namedB x.k then nameB x.s && x.zN && x.zQ && x.zT
  else if x.k = 9 then x.zN && x.zQ && x.zT && x.zS
  else false
theorem opB_1 {x : Ov} (h : x.k = 1) : opB x = (x.vN && x.zQ && x.zT && x.zS) := if_pos h
theorem opB_3 {x : Ov} (h : x.k = 3) : opB x = (x.vQ && x.zN && x.zT && x.zS) := by unfold opB; rw [h]; rfl
theorem opB_5 {x : Ov} (h : x.k = 5) : opB x = (x.vT && x.zN && x.zQ && x.zS) := by unfold opB; rw [h]; rfl
theorem opB_9 {x : Ov} (h : x.k = 9) : opB x = (x.zN && x.zQ && x.zT && x.zS) := by unfold opB; rw [h]; rfl
theorem opB_nm {x : Ov} (h : x.k = 2 ∨ x.k = 4 ∨ x.k = 6 ∨ x.k = 7 ∨ x.k = 8) : opB x = (nameB x.s && x.zN && x.zQ && x.zT) := by
  unfold opB
  rcases h with h | h | h | h | h <;> (rw [h]; rfl)
theorem opB_no {x : Ov} (h : ¬ (1 ≤ x.k ∧ x.k ≤ 9)) : opB x = false := by
  unfold opB namedB
  rw [if_neg (by omega), if_neg (by omega), if_neg (by omega), decide_eq_false (by omega), if_neg (by simp), if_neg (by omega)]
end Go.Proofs.YtjgojgmgicpgaaaGreat
