/- Operations, plainly: what they hold; whether one is valid; its bytes; what bytes are decoded as. No condition. -/
import Derived.Test.YtehkdaknhgmdkaaSmb
import Derived.Test.YtehkdaknhgmdkaaTks
namespace Go.Proofs.Ytehkdaknhgmdkaa
open Go.RowKit
set_option linter.unusedSimpArgs false
set_option linter.unusedVariables false

/-- What an operation holds. -/
structure Ov where
  k : Int
  nn : ByteArray
  a1 : Int
  b1 : Int
  c1 : Int
  l1 : List Lb
  qn : ByteArray
  a2 : Int
  b2 : Int
  c2 : Int
  tn : ByteArray
  tq : ByteArray
  tp : Int
  a3 : Int
  b3 : Int
  c3 : Int
  l3 : List Lb
  ta : ByteArray
  tg : ByteArray
  ts : Int
  s : ByteArray
def Ov.zero : Ov := ⟨0, ⟨#[]⟩, 0, 0, 0, [], ⟨#[]⟩, 0, 0, 0, ⟨#[]⟩, ⟨#[]⟩, 0, 0, 0, 0, [], ⟨#[]⟩, ⟨#[]⟩, 0, ⟨#[]⟩⟩
/-- Is a node, a queue, a task zero (its list empty)? -/
def blankN (nm : ByteArray) (a b c : Int) (l : List Lb) : Bool := sameNodeB nm a b c l ⟨#[]⟩ 0 0 0 []
def blankQ (nm : ByteArray) (a b c : Int) : Bool := sE nm ⟨#[]⟩ && eq3 a b c 0 0 0
def blankT (nm qu : ByteArray) (pr a b c : Int) (l : List Lb) (ap ga : ByteArray) (sz : Int) : Bool := sameTaskB nm qu pr a b c l ap ga sz ⟨#[]⟩ ⟨#[]⟩ 0 0 0 0 [] ⟨#[]⟩ ⟨#[]⟩ 0
/-- Has a kind a name? -/
def namedB (k : Int) : Bool := decide (k = 2 ∨ k = 4 ∨ k = 6 ∨ k = 7 ∨ k = 8)
/-- The four parts, one by one. -/
def Ov.zN (x : Ov) : Bool := blankN x.nn x.a1 x.b1 x.c1 x.l1
def Ov.zQ (x : Ov) : Bool := blankQ x.qn x.a2 x.b2 x.c2
def Ov.zT (x : Ov) : Bool := blankT x.tn x.tq x.tp x.a3 x.b3 x.c3 x.l3 x.ta x.tg x.ts
def Ov.zS (x : Ov) : Bool := sE x.s ⟨#[]⟩
def Ov.vN (x : Ov) : Bool := nodeB x.nn x.a1 x.b1 x.c1 x.l1
def Ov.vQ (x : Ov) : Bool := queueB x.qn x.a2 x.b2 x.c2
def Ov.vT (x : Ov) : Bool := taskB x.tn x.tq x.tp x.a3 x.b3 x.c3 x.l3 x.ta x.tg x.ts
/-- Is all zero but the kind? -/
def Ov.blank (x : Ov) : Bool := x.zN && x.zQ && x.zT && x.zS
/-- Is an operation valid? -/
def opB (x : Ov) : Bool :=
  if x.k = 1 then x.vN && x.zQ && x.zT && x.zS
  else if x.k = 3 then x.vQ && x.zN && x.zT && x.zS
  else if x.k = 5 then x.vT && x.zN && x.zQ && x.zS
  else if namedB x.k then nameB x.s && x.zN && x.zQ && x.zT
  else if x.k = 9 then x.zN && x.zQ && x.zT && x.zS
  else false
/-- Its bytes. -/
def opEnc (x : Ov) : List UInt8 :=
  enc x.k.toNat ++ (
  if x.k = 1 then nodeEnc x.nn x.a1 x.b1 x.c1 x.l1
  else if x.k = 3 then queueEnc x.qn x.a2 x.b2 x.c2
  else if x.k = 5 then taskEnc x.tn x.tq x.tp x.a3 x.b3 x.c3 x.l3 x.ta x.tg x.ts
  else if namedB x.k then encT x.s
  else [])
def opBytes (x : Ov) : List UInt8 := if opB x = true then opEnc x else []
def opErr (x : Ov) : Int := if opB x = true then 0 else 1

theorem opB_1 {x : Ov} (h : x.k = 1) : opB x = (x.vN && x.zQ && x.zT && x.zS) := if_pos h
theorem opB_3 {x : Ov} (h : x.k = 3) : opB x = (x.vQ && x.zN && x.zT && x.zS) := by unfold opB; rw [h]; rfl
theorem opB_5 {x : Ov} (h : x.k = 5) : opB x = (x.vT && x.zN && x.zQ && x.zS) := by unfold opB; rw [h]; rfl
theorem opB_9 {x : Ov} (h : x.k = 9) : opB x = (x.zN && x.zQ && x.zT && x.zS) := by unfold opB; rw [h]; rfl
theorem opB_nm {x : Ov} (h : x.k = 2 ∨ x.k = 4 ∨ x.k = 6 ∨ x.k = 7 ∨ x.k = 8) : opB x = (nameB x.s && x.zN && x.zQ && x.zT) := by
  unfold opB
  rcases h with h | h | h | h | h <;> (rw [h]; rfl)
theorem opB_no {x : Ov} (h : ¬ (1 ≤ x.k ∧ x.k ≤ 9)) : opB x = false := by
  unfold opB namedB
  rw [if_neg (by omega), if_neg (by omega), if_neg (by omega), decide_eq_false (by omega), if_neg (by simp), if_neg (by omega)]
theorem opEnc_1 {x : Ov} (h : x.k = 1) : opEnc x = enc 1 ++ nodeEnc x.nn x.a1 x.b1 x.c1 x.l1 := by unfold opEnc; rw [h]; rfl
theorem opEnc_3 {x : Ov} (h : x.k = 3) : opEnc x = enc 3 ++ queueEnc x.qn x.a2 x.b2 x.c2 := by unfold opEnc; rw [h]; rfl
theorem opEnc_5 {x : Ov} (h : x.k = 5) : opEnc x = enc 5 ++ taskEnc x.tn x.tq x.tp x.a3 x.b3 x.c3 x.l3 x.ta x.tg x.ts := by unfold opEnc; rw [h]; rfl
theorem opEnc_9 {x : Ov} (h : x.k = 9) : opEnc x = enc 9 := by unfold opEnc; rw [h]; exact List.append_nil _
theorem opEnc_nm {x : Ov} (h : x.k = 2 ∨ x.k = 4 ∨ x.k = 6 ∨ x.k = 7 ∨ x.k = 8) : opEnc x = enc x.k.toNat ++ encT x.s := by
  unfold opEnc
  rcases h with h | h | h | h | h <;> (rw [h]; rfl)

theorem enc_small {n : Nat} (h0 : n ≠ 0) (h : n < 256) : enc n = [1, UInt8.ofNat n] := by
  unfold enc
  rw [digs_pos h0, show n / 256 = 0 by omega, digs_zero]
  rfl
theorem enc_two {n : Nat} (h0 : n ≠ 0) (h : n < 256) : (enc n).length = 2 := by rw [enc_small h0 h]; rfl

/-- A name is taken at an offset. -/
def tName (l : List UInt8) (at_ : Int) : ByteArray × (Int × Int) :=
  let r := textP l at_ 16
  (⟨r.1.toArray⟩, (r.2.1, if r.2.2 = 0 then (if nameB ⟨r.1.toArray⟩ then 0 else 3) else r.2.2))
/-- What bytes are decoded as: an operation, or the zero one and an error. -/
def opFin (l : List UInt8) (x : Ov) (e : Int × Int) : Ov × Int :=
  if e.2 = 0 then (if e.1 = (l.length : Int) then (x, 0) else (Ov.zero, 3)) else (Ov.zero, e.2)
def ovN (x : Nd) : Ov := { Ov.zero with k := 1, nn := x.nm, a1 := x.a, b1 := x.b, c1 := x.c, l1 := x.l }
def ovQ (x : Qu) : Ov := { Ov.zero with k := 3, qn := x.nm, a2 := x.a, b2 := x.b, c2 := x.c }
def ovT (x : Tk) : Ov := { Ov.zero with k := 5, tn := x.nm, tq := x.qu, tp := x.pr, a3 := x.a, b3 := x.b, c3 := x.c, l3 := x.l, ta := x.ap, tg := x.ga, ts := x.sz }
def ovS (k : Int) (s : ByteArray) : Ov := { Ov.zero with k := k, s := s }
def tOp (l : List UInt8) : Ov × Int :=
  if (takeP l 0).2.2 = 0 then
    if (takeP l 0).1 = 1 then opFin l (ovN (tNode l (takeP l 0).2.1).1) (tNode l (takeP l 0).2.1).2
    else if (takeP l 0).1 = 3 then opFin l (ovQ (tQueue l (takeP l 0).2.1).1) (tQueue l (takeP l 0).2.1).2
    else if (takeP l 0).1 = 5 then opFin l (ovT (tTask l (takeP l 0).2.1).1) (tTask l (takeP l 0).2.1).2
    else if namedB (takeP l 0).1 = true then opFin l (ovS (takeP l 0).1 (tName l (takeP l 0).2.1).1) (tName l (takeP l 0).2.1).2
    else if (takeP l 0).1 = 9 then opFin l (ovS 9 ⟨#[]⟩) ((takeP l 0).2.1, 0)
    else (Ov.zero, 3)
  else (Ov.zero, (takeP l 0).2.2)
end Go.Proofs.Ytehkdaknhgmdkaa
