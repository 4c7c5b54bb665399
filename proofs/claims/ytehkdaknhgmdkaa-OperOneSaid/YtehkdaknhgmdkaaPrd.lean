/- The plain mathematics of reading: what the reader's parts read of bytes, from an offset on, with the first error. No condition. -/
import Derived.Test.YtehkdaknhgmdkaaTxt
import Derived.Test.YtehkdaknhgmdkaaPts
namespace Go.Proofs.Ytehkdaknhgmdkaa
open Go.RowKit
set_option linter.unusedSimpArgs false
set_option linter.unusedVariables false

/-- A string of at most sixteen bytes; the state is the offset and the error. -/
def rTx (l : List UInt8) (p : Int × Int) : ByteArray × (Int × Int) :=
  if p.2 = 0 then (⟨(textP l p.1 16).1.toArray⟩, (textP l p.1 16).2) else (⟨#[]⟩, p)
/-- A number of at most so much; a greater one is the error e. -/
def rNu (l : List UInt8) (most : Nat) (e : Int) (p : Int × Int) : Nat × (Int × Int) :=
  if p.2 = 0 then
    if (takeP l p.1).2.2 = 0 then
      if most < (takeP l p.1).1 then (0, (0, e)) else ((takeP l p.1).1, (takeP l p.1).2)
    else (0, (takeP l p.1).2)
  else (0, p)
/-- Three numbers. -/
def rVe (l : List UInt8) (p : Int × Int) : (Nat × Nat × Nat) × (Int × Int) :=
  let x := rNu l 1048576 3 p
  let y := rNu l 1048576 3 x.2
  let z := rNu l 1048576 3 y.2
  ((x.1, y.1, z.1), z.2)
/-- k labels. -/
def rLk (l : List UInt8) : Nat → Int × Int → List Lb × (Int × Int)
  | 0, p => ([], p)
  | k + 1, p =>
    let q := rLk l k p
    let s := rTx l q.2
    let t := rTx l s.2
    (q.1 ++ [(s.1, t.1)], t.2)
/-- Labels. -/
def rLa (l : List UInt8) (p : Int × Int) : List Lb × (Int × Int) := rLk l (rNu l 4 4 p).1 (rNu l 4 4 p).2
/-- What is told in the end: the offset, or 0; the error. -/
def rEnd (ok : Bool) (p : Int × Int) : Int × Int := if p.2 = 0 then (if ok then (p.1, 0) else (0, 3)) else (0, p.2)

theorem rTx_no {l : List UInt8} {p : Int × Int} (h : ¬ p.2 = 0) : rTx l p = (⟨#[]⟩, p) := if_neg h
theorem rTx_yes {l : List UInt8} {p : Int × Int} (h : p.2 = 0) : rTx l p = (⟨(textP l p.1 16).1.toArray⟩, (textP l p.1 16).2) := if_pos h
theorem rNu_no {l : List UInt8} {m : Nat} {e : Int} {p : Int × Int} (h : ¬ p.2 = 0) : rNu l m e p = (0, p) := if_neg h
theorem rNu_yes {l : List UInt8} {m : Nat} {e : Int} {p : Int × Int} (h : p.2 = 0) : rNu l m e p = if (takeP l p.1).2.2 = 0 then (if m < (takeP l p.1).1 then (0, (0, e)) else ((takeP l p.1).1, (takeP l p.1).2)) else (0, (takeP l p.1).2) := if_pos h
theorem rNu_le (l : List UInt8) (m : Nat) (e : Int) (p : Int × Int) : (rNu l m e p).1 ≤ m := by
  unfold rNu
  split
  · split
    · split
      · exact Nat.zero_le _
      · simp only []; omega
    · exact Nat.zero_le _
  · exact Nat.zero_le _
theorem rLk_len (l : List UInt8) : ∀ k p, (rLk l k p).1.length = k
  | 0, p => rfl
  | k + 1, p => by
    simp only [rLk, List.length_append, List.length_singleton, rLk_len l k p]
theorem rLk_succ (l : List UInt8) (k : Nat) (p : Int × Int) : rLk l (k + 1) p = ((rLk l k p).1 ++ [((rTx l (rLk l k p).2).1, (rTx l (rTx l (rLk l k p).2).2).1)], (rTx l (rTx l (rLk l k p).2).2).2) := rfl
theorem textP_len (l : List UInt8) (a m : Int) : (textP l a m).1.length ≤ m.toNat := by
  unfold textP
  split
  · simp
  · split
    · simp
    · split
      · simp
      · split
        · simp
        · simp only [List.length_take]; omega
theorem rTx_len (l : List UInt8) (p : Int × Int) : (rTx l p).1.size ≤ 16 := by
  unfold rTx
  split
  · show (textP l p.1 16).1.toArray.size ≤ 16
    have := textP_len l p.1 16
    simpa using this
  · show 0 ≤ 16; omega
theorem rLk_short (l : List UInt8) : ∀ k p, Short (rLk l k p).1
  | 0, p => by intro x hx; simp [rLk] at hx
  | k + 1, p => by
    intro x hx
    rw [rLk_succ] at hx
    simp only [List.mem_append, List.mem_singleton] at hx
    rcases hx with hx | rfl
    · exact rLk_short l k p x hx
    · exact ⟨rTx_len _ _, rTx_len _ _⟩
theorem Short.sz {l : List Lb} (h : Short l) : Sz l := fun x hx => ⟨by have := (h x hx).1; omega, by have := (h x hx).2; omega⟩
end Go.Proofs.Ytehkdaknhgmdkaa
