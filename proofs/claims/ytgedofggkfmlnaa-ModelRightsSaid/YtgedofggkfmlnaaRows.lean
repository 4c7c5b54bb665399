/-
  No cell of these rows narrows 'for every input' (looked for: loops, veiled, ifaces, maps, wideKeys, modest, calm, conditions, laid).
  DERIVED. THE GIVEN ROWS OF THIS SEAT. 5 by the template 'for every input the law returns true; each argument reads behind the call as it read before'; 0 by the template 'total and deterministic' (their statements: YtgedofggkfmlnaaTotals.lean).
  GIVEN WITH THE SEED: the statements are not yours to turn. If you find one false, say at which input.
  Laid BY PROGRAM, IN A SANDBOX (cutbox-rows.mjs): the forced cells as the released guide's own fill.sh prints them over the translation 31ae373c2780d5be… (all of the seat's roots in one cut). By AI agents, Wed Nov 11 2026. No macro, syntax, notation, axiom, sorry.
-/
import Derived.Test.YtgedofggkfmlnaaChecked
import GoSem.Claim
import GoSem.ClaimJoined
import GoSem.ClaimMapViews
import Derived.JoinedTies
import Derived.KernelRfl
namespace Go.Proofs.Ytgedofggkfmlnaa
/- THE CELL 'sum', in the pinned program and in every row, IS THE sha256 OF THE DUMP (.gsa) THAT YtgedofggkfmlnaaProg.lean LOADS. Nothing in Lean hashes anything: it is a label: what it is worth is what the hold of that sum in a sandbox is worth. -/
noncomputable def Try.pinned : Pinned := { name := "ytgedofggkfmlnaa", sum := "31ae373c2780d5bef3f64b2d3b380fea6a6891df5afe0cb636bbdbcbb830dcc8", checked := Try.checked }
namespace Rows
def none {H : Type} : Left H := { results := [], args := [] }

/-- 'interregnumlaw05.ModelRights': WHATEVER THE INPUT: true; the input reads as it did. -/
def modelRightsSpec : ChangeSpec := { name := "modelRights", fn := fun _ => fun
  | [d1, d2, d3, d4] => { results := [.lit (.bool true)], args := [d1, d2, d3, d4] }
  | _ => none }
def modelRightsRow : OpenClaim := { program := "ytgedofggkfmlnaa", sum := "31ae373c2780d5bef3f64b2d3b380fea6a6891df5afe0cb636bbdbcbb830dcc8", func := "interregnum/interregnumlaw05.ModelRights", spec := "modelRights", apart := false }
def ModelRightsSaid : Prop := modelRightsRow.holds Try.pinned (OpenSpec.ofChange modelRightsSpec)

/-- ITS FALSE NEIGHBOUR: 'it returns false'. Refute it at one input. -/
def modelRightsWrong : ChangeSpec := { name := "modelRights", fn := fun _ => fun
  | [d1, d2, d3, d4] => { results := [.lit (.bool false)], args := [d1, d2, d3, d4] }
  | _ => none }
def ModelRightsWrongFalsely : Prop := modelRightsRow.holds Try.pinned (OpenSpec.ofChange modelRightsWrong)

/-- 'interregnumlaw05.ModelTakes': WHATEVER THE INPUT: true; the input reads as it did. -/
def modelTakesSpec : ChangeSpec := { name := "modelTakes", fn := fun _ => fun
  | [d1, d2] => { results := [.lit (.bool true)], args := [d1, d2] }
  | _ => none }
def modelTakesRow : OpenClaim := { program := "ytgedofggkfmlnaa", sum := "31ae373c2780d5bef3f64b2d3b380fea6a6891df5afe0cb636bbdbcbb830dcc8", func := "interregnum/interregnumlaw05.ModelTakes", spec := "modelTakes", apart := false }
def ModelTakesSaid : Prop := modelTakesRow.holds Try.pinned (OpenSpec.ofChange modelTakesSpec)

/-- ITS FALSE NEIGHBOUR: 'it returns false'. Refute it at one input. -/
def modelTakesWrong : ChangeSpec := { name := "modelTakes", fn := fun _ => fun
  | [d1, d2] => { results := [.lit (.bool false)], args := [d1, d2] }
  | _ => none }
def ModelTakesWrongFalsely : Prop := modelTakesRow.holds Try.pinned (OpenSpec.ofChange modelTakesWrong)

/-- 'interregnumlaw05.ModelBack': WHATEVER THE INPUT: true; the input reads as it did. -/
def modelBackSpec : ChangeSpec := { name := "modelBack", fn := fun _ => fun
  | [d1, d2, d3, d4, d5, d6] => { results := [.lit (.bool true)], args := [d1, d2, d3, d4, d5, d6] }
  | _ => none }
def modelBackRow : OpenClaim := { program := "ytgedofggkfmlnaa", sum := "31ae373c2780d5bef3f64b2d3b380fea6a6891df5afe0cb636bbdbcbb830dcc8", func := "interregnum/interregnumlaw05.ModelBack", spec := "modelBack", apart := false }
def ModelBackSaid : Prop := modelBackRow.holds Try.pinned (OpenSpec.ofChange modelBackSpec)

/-- ITS FALSE NEIGHBOUR: 'it returns false'. Refute it at one input. -/
def modelBackWrong : ChangeSpec := { name := "modelBack", fn := fun _ => fun
  | [d1, d2, d3, d4, d5, d6] => { results := [.lit (.bool false)], args := [d1, d2, d3, d4, d5, d6] }
  | _ => none }
def ModelBackWrongFalsely : Prop := modelBackRow.holds Try.pinned (OpenSpec.ofChange modelBackWrong)

/-- 'interregnumlaw05.ModelOne': WHATEVER THE INPUT: true; the input reads as it did. -/
def modelOneSpec : ChangeSpec := { name := "modelOne", fn := fun _ => fun
  | [d1, d2] => { results := [.lit (.bool true)], args := [d1, d2] }
  | _ => none }
def modelOneRow : OpenClaim := { program := "ytgedofggkfmlnaa", sum := "31ae373c2780d5bef3f64b2d3b380fea6a6891df5afe0cb636bbdbcbb830dcc8", func := "interregnum/interregnumlaw05.ModelOne", spec := "modelOne", apart := false }
def ModelOneSaid : Prop := modelOneRow.holds Try.pinned (OpenSpec.ofChange modelOneSpec)

/-- ITS FALSE NEIGHBOUR: 'it returns false'. Refute it at one input. -/
def modelOneWrong : ChangeSpec := { name := "modelOne", fn := fun _ => fun
  | [d1, d2] => { results := [.lit (.bool false)], args := [d1, d2] }
  | _ => none }
def ModelOneWrongFalsely : Prop := modelOneRow.holds Try.pinned (OpenSpec.ofChange modelOneWrong)

/-- 'interregnumlaw05.ModelGangs': WHATEVER THE INPUT: true; the input reads as it did. -/
def modelGangsSpec : ChangeSpec := { name := "modelGangs", fn := fun _ => fun
  | [d1, d2, d3] => { results := [.lit (.bool true)], args := [d1, d2, d3] }
  | _ => none }
def modelGangsRow : OpenClaim := { program := "ytgedofggkfmlnaa", sum := "31ae373c2780d5bef3f64b2d3b380fea6a6891df5afe0cb636bbdbcbb830dcc8", func := "interregnum/interregnumlaw05.ModelGangs", spec := "modelGangs", apart := false }
def ModelGangsSaid : Prop := modelGangsRow.holds Try.pinned (OpenSpec.ofChange modelGangsSpec)

/-- ITS FALSE NEIGHBOUR: 'it returns false'. Refute it at one input. -/
def modelGangsWrong : ChangeSpec := { name := "modelGangs", fn := fun _ => fun
  | [d1, d2, d3] => { results := [.lit (.bool false)], args := [d1, d2, d3] }
  | _ => none }
def ModelGangsWrongFalsely : Prop := modelGangsRow.holds Try.pinned (OpenSpec.ofChange modelGangsWrong)

/- THE SECOND FORM. 'bulk': how many values and letters a reading holds, each counted each time it is reached (what is shared counts as often as it is met; a slice's spare places count too). A statement '..UptoSaid' is the law's where the arguments, and the package variables that the reading takes, are together of bulk at most 1048576: NARROWER than '..Said'. Prove '..Said' where nothing that the law and all that it calls make is longer than what came in: it says more and counts as full. Else prove '..UptoSaid'. A law counts once. -/
mutual
def uptoBulk {H : Type} : DataW H → Nat
  | .lit (.string bytes) => bytes.length + 1
  | .lit _ => 1
  | .nil => 1
  | .ptr d => uptoBulk d + 1
  | .slice elems spare => uptoBulkAll elems + uptoBulkAll spare + 1
  | .agg parts => uptoBulkAll parts + 1
  | .iface _ d => uptoBulk d + 1
  | .map entries => uptoBulkEntries entries + 1
  | .held _ => 1
def uptoBulkAll {H : Type} : List (DataW H) → Nat
  | [] => 0
  | d :: r => uptoBulk d + uptoBulkAll r
def uptoBulkEntries {H : Type} : List (Lit × DataW H) → Nat
  | [] => 0
  | x :: r => uptoBulkEntry x + uptoBulkEntries r
def uptoBulkEntry {H : Type} : Lit × DataW H → Nat
  | (.string bytes, d) => bytes.length + uptoBulk d + 1
  | (_, d) => uptoBulk d + 1
 end
def uptoSmall : (H : Type) → List (DataW H) → Bool := fun _ ds => decide (uptoBulkAll ds ≤ 1048576)
def OpenSpec.upto (s : _root_.Go.ChangeSpec) : _root_.Go.OpenSpec := { _root_.Go.OpenSpec.ofChange s with cond := some uptoSmall }

/-- 'interregnumlaw05.ModelRights', WHERE WHAT IT READS IS OF BULK AT MOST 1048576: true; the input reads as it did. -/
def modelRightsUptoRow : OpenClaim := { program := "ytgedofggkfmlnaa", sum := "31ae373c2780d5bef3f64b2d3b380fea6a6891df5afe0cb636bbdbcbb830dcc8", func := "interregnum/interregnumlaw05.ModelRights", spec := "modelRights", apart := false, narrowed := true }
def ModelRightsUptoSaid : Prop := modelRightsUptoRow.holds Try.pinned (OpenSpec.upto modelRightsSpec)

/-- 'interregnumlaw05.ModelTakes', WHERE WHAT IT READS IS OF BULK AT MOST 1048576: true; the input reads as it did. -/
def modelTakesUptoRow : OpenClaim := { program := "ytgedofggkfmlnaa", sum := "31ae373c2780d5bef3f64b2d3b380fea6a6891df5afe0cb636bbdbcbb830dcc8", func := "interregnum/interregnumlaw05.ModelTakes", spec := "modelTakes", apart := false, narrowed := true }
def ModelTakesUptoSaid : Prop := modelTakesUptoRow.holds Try.pinned (OpenSpec.upto modelTakesSpec)

/-- 'interregnumlaw05.ModelBack', WHERE WHAT IT READS IS OF BULK AT MOST 1048576: true; the input reads as it did. -/
def modelBackUptoRow : OpenClaim := { program := "ytgedofggkfmlnaa", sum := "31ae373c2780d5bef3f64b2d3b380fea6a6891df5afe0cb636bbdbcbb830dcc8", func := "interregnum/interregnumlaw05.ModelBack", spec := "modelBack", apart := false, narrowed := true }
def ModelBackUptoSaid : Prop := modelBackUptoRow.holds Try.pinned (OpenSpec.upto modelBackSpec)

/-- 'interregnumlaw05.ModelOne', WHERE WHAT IT READS IS OF BULK AT MOST 1048576: true; the input reads as it did. -/
def modelOneUptoRow : OpenClaim := { program := "ytgedofggkfmlnaa", sum := "31ae373c2780d5bef3f64b2d3b380fea6a6891df5afe0cb636bbdbcbb830dcc8", func := "interregnum/interregnumlaw05.ModelOne", spec := "modelOne", apart := false, narrowed := true }
def ModelOneUptoSaid : Prop := modelOneUptoRow.holds Try.pinned (OpenSpec.upto modelOneSpec)

/-- 'interregnumlaw05.ModelGangs', WHERE WHAT IT READS IS OF BULK AT MOST 1048576: true; the input reads as it did. -/
def modelGangsUptoRow : OpenClaim := { program := "ytgedofggkfmlnaa", sum := "31ae373c2780d5bef3f64b2d3b380fea6a6891df5afe0cb636bbdbcbb830dcc8", func := "interregnum/interregnumlaw05.ModelGangs", spec := "modelGangs", apart := false, narrowed := true }
def ModelGangsUptoSaid : Prop := modelGangsUptoRow.holds Try.pinned (OpenSpec.upto modelGangsSpec)

end Rows
end Go.Proofs.Ytgedofggkfmlnaa
