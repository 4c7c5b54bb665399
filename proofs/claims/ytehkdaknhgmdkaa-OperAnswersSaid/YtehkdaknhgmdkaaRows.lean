/-
  No cell of these rows narrows 'for every input' (looked for: loops, veiled, ifaces, maps, wideKeys, modest, calm, conditions, laid).
  DERIVED. THE GIVEN ROWS OF THIS SEAT. 5 by the template 'for every input the law returns true; each argument reads behind the call as it read before'; 0 by the template 'total and deterministic' (their statements: YtehkdaknhgmdkaaTotals.lean).
  GIVEN WITH THE SEED: the statements are not yours to turn. If you find one false, say at which input.
  Laid BY PROGRAM, IN A SANDBOX (cutbox-rows.mjs): the forced cells as the released guide's own fill.sh prints them over the translation dcc6840b5e367c9a… (all of the seat's roots in one cut). By AI agents, Wed Nov 11 2026. No macro, syntax, notation, axiom, sorry.
-/
import Derived.Test.YtehkdaknhgmdkaaChecked
import GoSem.Claim
import GoSem.ClaimJoined
import GoSem.ClaimMapViews
import Derived.JoinedTies
import Derived.KernelRfl
namespace Go.Proofs.Ytehkdaknhgmdkaa
/- THE CELL 'sum', in the pinned program and in every row, IS THE sha256 OF THE DUMP (.gsa) THAT YtehkdaknhgmdkaaProg.lean LOADS. Nothing in Lean hashes anything: it is a label: what it is worth is what the hold of that sum in a sandbox is worth. -/
noncomputable def Try.pinned : Pinned := { name := "ytehkdaknhgmdkaa", sum := "dcc6840b5e367c9a4eb96a7604e21b9fed9e7444d489a444799ec6d7ded27194", checked := Try.checked }
namespace Rows
def none {H : Type} : Left H := { results := [], args := [] }

/-- 'interregnumlaw06.OperRights': WHATEVER THE INPUT: true; the input reads as it did. -/
def operRightsSpec : ChangeSpec := { name := "operRights", fn := fun _ => fun
  | [d] => { results := [.lit (.bool true)], args := [d] }
  | _ => none }
def operRightsRow : OpenClaim := { program := "ytehkdaknhgmdkaa", sum := "dcc6840b5e367c9a4eb96a7604e21b9fed9e7444d489a444799ec6d7ded27194", func := "interregnum/interregnumlaw06.OperRights", spec := "operRights", apart := false }
def OperRightsSaid : Prop := operRightsRow.holds Try.pinned (OpenSpec.ofChange operRightsSpec)

/-- ITS FALSE NEIGHBOUR: 'it returns false'. Refute it at one input. -/
def operRightsWrong : ChangeSpec := { name := "operRights", fn := fun _ => fun
  | [d] => { results := [.lit (.bool false)], args := [d] }
  | _ => none }
def OperRightsWrongFalsely : Prop := operRightsRow.holds Try.pinned (OpenSpec.ofChange operRightsWrong)

/-- 'interregnumlaw06.OperDecodes': WHATEVER THE INPUT: true; the input reads as it did. -/
def operDecodesSpec : ChangeSpec := { name := "operDecodes", fn := fun _ => fun
  | [d] => { results := [.lit (.bool true)], args := [d] }
  | _ => none }
def operDecodesRow : OpenClaim := { program := "ytehkdaknhgmdkaa", sum := "dcc6840b5e367c9a4eb96a7604e21b9fed9e7444d489a444799ec6d7ded27194", func := "interregnum/interregnumlaw06.OperDecodes", spec := "operDecodes", apart := false }
def OperDecodesSaid : Prop := operDecodesRow.holds Try.pinned (OpenSpec.ofChange operDecodesSpec)

/-- ITS FALSE NEIGHBOUR: 'it returns false'. Refute it at one input. -/
def operDecodesWrong : ChangeSpec := { name := "operDecodes", fn := fun _ => fun
  | [d] => { results := [.lit (.bool false)], args := [d] }
  | _ => none }
def OperDecodesWrongFalsely : Prop := operDecodesRow.holds Try.pinned (OpenSpec.ofChange operDecodesWrong)

/-- 'interregnumlaw06.OperBack': WHATEVER THE INPUT: true; the input reads as it did. -/
def operBackSpec : ChangeSpec := { name := "operBack", fn := fun _ => fun
  | [d1, d2, d3] => { results := [.lit (.bool true)], args := [d1, d2, d3] }
  | _ => none }
def operBackRow : OpenClaim := { program := "ytehkdaknhgmdkaa", sum := "dcc6840b5e367c9a4eb96a7604e21b9fed9e7444d489a444799ec6d7ded27194", func := "interregnum/interregnumlaw06.OperBack", spec := "operBack", apart := false }
def OperBackSaid : Prop := operBackRow.holds Try.pinned (OpenSpec.ofChange operBackSpec)

/-- ITS FALSE NEIGHBOUR: 'it returns false'. Refute it at one input. -/
def operBackWrong : ChangeSpec := { name := "operBack", fn := fun _ => fun
  | [d1, d2, d3] => { results := [.lit (.bool false)], args := [d1, d2, d3] }
  | _ => none }
def OperBackWrongFalsely : Prop := operBackRow.holds Try.pinned (OpenSpec.ofChange operBackWrong)

/-- 'interregnumlaw06.OperOne': WHATEVER THE INPUT: true; the input reads as it did. -/
def operOneSpec : ChangeSpec := { name := "operOne", fn := fun _ => fun
  | [d] => { results := [.lit (.bool true)], args := [d] }
  | _ => none }
def operOneRow : OpenClaim := { program := "ytehkdaknhgmdkaa", sum := "dcc6840b5e367c9a4eb96a7604e21b9fed9e7444d489a444799ec6d7ded27194", func := "interregnum/interregnumlaw06.OperOne", spec := "operOne", apart := false }
def OperOneSaid : Prop := operOneRow.holds Try.pinned (OpenSpec.ofChange operOneSpec)

/-- ITS FALSE NEIGHBOUR: 'it returns false'. Refute it at one input. -/
def operOneWrong : ChangeSpec := { name := "operOne", fn := fun _ => fun
  | [d] => { results := [.lit (.bool false)], args := [d] }
  | _ => none }
def OperOneWrongFalsely : Prop := operOneRow.holds Try.pinned (OpenSpec.ofChange operOneWrong)

/-- 'interregnumlaw06.OperAnswers': WHATEVER THE INPUT: true; the input reads as it did. -/
def operAnswersSpec : ChangeSpec := { name := "operAnswers", fn := fun _ => fun
  | [d1, d2, d3] => { results := [.lit (.bool true)], args := [d1, d2, d3] }
  | _ => none }
def operAnswersRow : OpenClaim := { program := "ytehkdaknhgmdkaa", sum := "dcc6840b5e367c9a4eb96a7604e21b9fed9e7444d489a444799ec6d7ded27194", func := "interregnum/interregnumlaw06.OperAnswers", spec := "operAnswers", apart := false }
def OperAnswersSaid : Prop := operAnswersRow.holds Try.pinned (OpenSpec.ofChange operAnswersSpec)

/-- ITS FALSE NEIGHBOUR: 'it returns false'. Refute it at one input. -/
def operAnswersWrong : ChangeSpec := { name := "operAnswers", fn := fun _ => fun
  | [d1, d2, d3] => { results := [.lit (.bool false)], args := [d1, d2, d3] }
  | _ => none }
def OperAnswersWrongFalsely : Prop := operAnswersRow.holds Try.pinned (OpenSpec.ofChange operAnswersWrong)

/- THE SECOND FORM. 'bulk': how many values and letters a reading holds, each counted each time it is reached (what is shared counts as often as it is met; a slice's spare places count too). A statement '..UptoSaid' is the law's where the arguments, and the package variables that the reading takes, are together of bulk at most 1048576: NARROWER than '..Said'. Prove '..Said' where nothing that the law and all that it calls make is longer than what came in: it says more and counts as full. Else prove '..UptoSaid'. A law counts once. -/
mutual
def uptoBulk {H : Type} : DataW H → Nat
  | .lit (.string bytes) => bytes.length + 1
  | .lit _ => 1
  | .nil => 1
  | .ptr d => uptoBulk d + 1
  | .slice elems spare => uptoBulkAll elems + uptoBulkAll spare + 1
  | .agg parts => uptoBulkAll parts + 1
  | .iface _ d => uptoBulk d + 1
  | .map entries => uptoBulkEntries entries + 1
  | .held _ => 1
def uptoBulkAll {H : Type} : List (DataW H) → Nat
  | [] => 0
  | d :: r => uptoBulk d + uptoBulkAll r
def uptoBulkEntries {H : Type} : List (Lit × DataW H) → Nat
  | [] => 0
  | x :: r => uptoBulkEntry x + uptoBulkEntries r
def uptoBulkEntry {H : Type} : Lit × DataW H → Nat
  | (.string bytes, d) => bytes.length + uptoBulk d + 1
  | (_, d) => uptoBulk d + 1
 end
def uptoSmall : (H : Type) → List (DataW H) → Bool := fun _ ds => decide (uptoBulkAll ds ≤ 1048576)
def OpenSpec.upto (s : _root_.Go.ChangeSpec) : _root_.Go.OpenSpec := { _root_.Go.OpenSpec.ofChange s with cond := some uptoSmall }

/-- 'interregnumlaw06.OperRights', WHERE WHAT IT READS IS OF BULK AT MOST 1048576: true; the input reads as it did. -/
def operRightsUptoRow : OpenClaim := { program := "ytehkdaknhgmdkaa", sum := "dcc6840b5e367c9a4eb96a7604e21b9fed9e7444d489a444799ec6d7ded27194", func := "interregnum/interregnumlaw06.OperRights", spec := "operRights", apart := false, narrowed := true }
def OperRightsUptoSaid : Prop := operRightsUptoRow.holds Try.pinned (OpenSpec.upto operRightsSpec)

/-- 'interregnumlaw06.OperDecodes', WHERE WHAT IT READS IS OF BULK AT MOST 1048576: true; the input reads as it did. -/
def operDecodesUptoRow : OpenClaim := { program := "ytehkdaknhgmdkaa", sum := "dcc6840b5e367c9a4eb96a7604e21b9fed9e7444d489a444799ec6d7ded27194", func := "interregnum/interregnumlaw06.OperDecodes", spec := "operDecodes", apart := false, narrowed := true }
def OperDecodesUptoSaid : Prop := operDecodesUptoRow.holds Try.pinned (OpenSpec.upto operDecodesSpec)

/-- 'interregnumlaw06.OperBack', WHERE WHAT IT READS IS OF BULK AT MOST 1048576: true; the input reads as it did. -/
def operBackUptoRow : OpenClaim := { program := "ytehkdaknhgmdkaa", sum := "dcc6840b5e367c9a4eb96a7604e21b9fed9e7444d489a444799ec6d7ded27194", func := "interregnum/interregnumlaw06.OperBack", spec := "operBack", apart := false, narrowed := true }
def OperBackUptoSaid : Prop := operBackUptoRow.holds Try.pinned (OpenSpec.upto operBackSpec)

/-- 'interregnumlaw06.OperOne', WHERE WHAT IT READS IS OF BULK AT MOST 1048576: true; the input reads as it did. -/
def operOneUptoRow : OpenClaim := { program := "ytehkdaknhgmdkaa", sum := "dcc6840b5e367c9a4eb96a7604e21b9fed9e7444d489a444799ec6d7ded27194", func := "interregnum/interregnumlaw06.OperOne", spec := "operOne", apart := false, narrowed := true }
def OperOneUptoSaid : Prop := operOneUptoRow.holds Try.pinned (OpenSpec.upto operOneSpec)

/-- 'interregnumlaw06.OperAnswers', WHERE WHAT IT READS IS OF BULK AT MOST 1048576: true; the input reads as it did. -/
def operAnswersUptoRow : OpenClaim := { program := "ytehkdaknhgmdkaa", sum := "dcc6840b5e367c9a4eb96a7604e21b9fed9e7444d489a444799ec6d7ded27194", func := "interregnum/interregnumlaw06.OperAnswers", spec := "operAnswers", apart := false, narrowed := true }
def OperAnswersUptoSaid : Prop := operAnswersUptoRow.holds Try.pinned (OpenSpec.upto operAnswersSpec)

end Rows
end Go.Proofs.Ytehkdaknhgmdkaa
