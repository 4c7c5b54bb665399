/-
  No cell of these rows narrows 'for every input' (looked for: loops, veiled, ifaces, maps, wideKeys, modest, calm, conditions, laid).
  DERIVED. THE GIVEN ROWS OF THIS SEAT. 3 by the template 'for every input the law returns true; each argument reads behind the call as it read before'; 0 by the template 'total and deterministic' (their statements: YtpmbbhhckhifgaaTotals.lean).
  GIVEN WITH THE SEED: the statements are not yours to turn. If you find one false, say at which input.
  Laid BY PROGRAM, IN A SANDBOX (cutbox-rows.mjs): the forced cells as the released guide's own fill.sh prints them over the translation 3d7c0613d11c8878… (all of the seat's roots in one cut). By AI agents, Wed Nov 11 2026. No macro, syntax, notation, axiom, sorry.
-/
import Derived.Test.YtpmbbhhckhifgaaChecked
import GoSem.Claim
import GoSem.ClaimJoined
import GoSem.ClaimMapViews
import Derived.JoinedTies
import Derived.KernelRfl
namespace Go.Proofs.Ytpmbbhhckhifgaa
/- THE CELL 'sum', in the pinned program and in every row, IS THE sha256 OF THE DUMP (.gsa) THAT YtpmbbhhckhifgaaProg.lean LOADS. Nothing in Lean hashes anything: it is a label: what it is worth is what the hold of that sum in a sandbox is worth. -/
noncomputable def Try.pinned : Pinned := { name := "ytpmbbhhckhifgaa", sum := "3d7c0613d11c8878685c4ad7a2b1695df31aefa47549d5b64777db7367bba1fb", checked := Try.checked }
namespace Rows
def none {H : Type} : Left H := { results := [], args := [] }

/-- 'interregnumlaw11.FeasRoom': WHATEVER THE INPUT: true; the input reads as it did. -/
def feasRoomSpec : ChangeSpec := { name := "feasRoom", fn := fun _ => fun
  | [d1, d2, d3] => { results := [.lit (.bool true)], args := [d1, d2, d3] }
  | _ => none }
def feasRoomRow : OpenClaim := { program := "ytpmbbhhckhifgaa", sum := "3d7c0613d11c8878685c4ad7a2b1695df31aefa47549d5b64777db7367bba1fb", func := "interregnum/interregnumlaw11.FeasRoom", spec := "feasRoom", apart := false }
def FeasRoomSaid : Prop := feasRoomRow.holds Try.pinned (OpenSpec.ofChange feasRoomSpec)

/-- ITS FALSE NEIGHBOUR: 'it returns false'. Refute it at one input. -/
def feasRoomWrong : ChangeSpec := { name := "feasRoom", fn := fun _ => fun
  | [d1, d2, d3] => { results := [.lit (.bool false)], args := [d1, d2, d3] }
  | _ => none }
def FeasRoomWrongFalsely : Prop := feasRoomRow.holds Try.pinned (OpenSpec.ofChange feasRoomWrong)

/-- 'interregnumlaw11.FeasLess': WHATEVER THE INPUT: true; the input reads as it did. -/
def feasLessSpec : ChangeSpec := { name := "feasLess", fn := fun _ => fun
  | [d1, d2, d3, d4, d5] => { results := [.lit (.bool true)], args := [d1, d2, d3, d4, d5] }
  | _ => none }
def feasLessRow : OpenClaim := { program := "ytpmbbhhckhifgaa", sum := "3d7c0613d11c8878685c4ad7a2b1695df31aefa47549d5b64777db7367bba1fb", func := "interregnum/interregnumlaw11.FeasLess", spec := "feasLess", apart := false }
def FeasLessSaid : Prop := feasLessRow.holds Try.pinned (OpenSpec.ofChange feasLessSpec)

/-- ITS FALSE NEIGHBOUR: 'it returns false'. Refute it at one input. -/
def feasLessWrong : ChangeSpec := { name := "feasLess", fn := fun _ => fun
  | [d1, d2, d3, d4, d5] => { results := [.lit (.bool false)], args := [d1, d2, d3, d4, d5] }
  | _ => none }
def FeasLessWrongFalsely : Prop := feasLessRow.holds Try.pinned (OpenSpec.ofChange feasLessWrong)

/-- 'interregnumlaw11.FeasReasons': WHATEVER THE INPUT: true; the input reads as it did. -/
def feasReasonsSpec : ChangeSpec := { name := "feasReasons", fn := fun _ => fun
  | [d1, d2, d3] => { results := [.lit (.bool true)], args := [d1, d2, d3] }
  | _ => none }
def feasReasonsRow : OpenClaim := { program := "ytpmbbhhckhifgaa", sum := "3d7c0613d11c8878685c4ad7a2b1695df31aefa47549d5b64777db7367bba1fb", func := "interregnum/interregnumlaw11.FeasReasons", spec := "feasReasons", apart := false }
def FeasReasonsSaid : Prop := feasReasonsRow.holds Try.pinned (OpenSpec.ofChange feasReasonsSpec)

/-- ITS FALSE NEIGHBOUR: 'it returns false'. Refute it at one input. -/
def feasReasonsWrong : ChangeSpec := { name := "feasReasons", fn := fun _ => fun
  | [d1, d2, d3] => { results := [.lit (.bool false)], args := [d1, d2, d3] }
  | _ => none }
def FeasReasonsWrongFalsely : Prop := feasReasonsRow.holds Try.pinned (OpenSpec.ofChange feasReasonsWrong)

/- THE SECOND FORM. 'bulk': how many values and letters a reading holds, each counted each time it is reached (what is shared counts as often as it is met; a slice's spare places count too). A statement '..UptoSaid' is the law's where the arguments, and the package variables that the reading takes, are together of bulk at most 1048576: NARROWER than '..Said'. Prove '..Said' where nothing that the law and all that it calls make is longer than what came in: it says more and counts as full. Else prove '..UptoSaid'. A law counts once. -/
mutual
def uptoBulk {H : Type} : DataW H → Nat
  | .lit (.string bytes) => bytes.length + 1
  | .lit _ => 1
  | .nil => 1
  | .ptr d => uptoBulk d + 1
  | .slice elems spare => uptoBulkAll elems + uptoBulkAll spare + 1
  | .agg parts => uptoBulkAll parts + 1
  | .iface _ d => uptoBulk d + 1
  | .map entries => uptoBulkEntries entries + 1
  | .held _ => 1
def uptoBulkAll {H : Type} : List (DataW H) → Nat
  | [] => 0
  | d :: r => uptoBulk d + uptoBulkAll r
def uptoBulkEntries {H : Type} : List (Lit × DataW H) → Nat
  | [] => 0
  | x :: r => uptoBulkEntry x + uptoBulkEntries r
def uptoBulkEntry {H : Type} : Lit × DataW H → Nat
  | (.string bytes, d) => bytes.length + uptoBulk d + 1
  | (_, d) => uptoBulk d + 1
 end
def uptoSmall : (H : Type) → List (DataW H) → Bool := fun _ ds => decide (uptoBulkAll ds ≤ 1048576)
def OpenSpec.upto (s : _root_.Go.ChangeSpec) : _root_.Go.OpenSpec := { _root_.Go.OpenSpec.ofChange s with cond := some uptoSmall }

/-- 'interregnumlaw11.FeasRoom', WHERE WHAT IT READS IS OF BULK AT MOST 1048576: true; the input reads as it did. -/
def feasRoomUptoRow : OpenClaim := { program := "ytpmbbhhckhifgaa", sum := "3d7c0613d11c8878685c4ad7a2b1695df31aefa47549d5b64777db7367bba1fb", func := "interregnum/interregnumlaw11.FeasRoom", spec := "feasRoom", apart := false, narrowed := true }
def FeasRoomUptoSaid : Prop := feasRoomUptoRow.holds Try.pinned (OpenSpec.upto feasRoomSpec)

/-- 'interregnumlaw11.FeasLess', WHERE WHAT IT READS IS OF BULK AT MOST 1048576: true; the input reads as it did. -/
def feasLessUptoRow : OpenClaim := { program := "ytpmbbhhckhifgaa", sum := "3d7c0613d11c8878685c4ad7a2b1695df31aefa47549d5b64777db7367bba1fb", func := "interregnum/interregnumlaw11.FeasLess", spec := "feasLess", apart := false, narrowed := true }
def FeasLessUptoSaid : Prop := feasLessUptoRow.holds Try.pinned (OpenSpec.upto feasLessSpec)

/-- 'interregnumlaw11.FeasReasons', WHERE WHAT IT READS IS OF BULK AT MOST 1048576: true; the input reads as it did. -/
def feasReasonsUptoRow : OpenClaim := { program := "ytpmbbhhckhifgaa", sum := "3d7c0613d11c8878685c4ad7a2b1695df31aefa47549d5b64777db7367bba1fb", func := "interregnum/interregnumlaw11.FeasReasons", spec := "feasReasons", apart := false, narrowed := true }
def FeasReasonsUptoSaid : Prop := feasReasonsUptoRow.holds Try.pinned (OpenSpec.upto feasReasonsSpec)

end Rows
end Go.Proofs.Ytpmbbhhckhifgaa
