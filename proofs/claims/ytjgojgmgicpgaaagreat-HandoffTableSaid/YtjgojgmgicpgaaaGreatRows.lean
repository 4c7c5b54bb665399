/-
  No cell of these rows narrows 'for every input' (looked for: loops, veiled, ifaces, maps, wideKeys, modest, calm, conditions, laid).
  DERIVED. THE GIVEN ROWS OF THIS SEAT. 11 by the template 'for every input the law returns true; each argument reads behind the call as it read before'; 0 by the template 'total and deterministic' (their statements: YtjgojgmgicpgaaaGreatTotals.lean).
  GIVEN WITH THE SEED: the statements are not yours to turn. If you find one false, say at which input.
  Laid BY PROGRAM, IN A SANDBOX (cutbox-rows.mjs): the forced cells as the released guide's own fill.sh prints them over the translation 6e84ba8ac69e619f… (all of the seat's roots in one cut). By AI agents, Wed Nov 11 2026. No macro, syntax, notation, axiom, sorry.
-/
import Derived.Test.YtjgojgmgicpgaaaGreatChecked
import GoSem.Claim
import GoSem.ClaimJoined
import GoSem.ClaimMapViews
import Derived.JoinedTies
import Derived.KernelRfl
namespace Go.Proofs.YtjgojgmgicpgaaaGreat
/- THE CELL 'sum', in the pinned program and in every row, IS THE sha256 OF THE DUMP (.gsa) THAT YtjgojgmgicpgaaaGreatProg.lean LOADS. Nothing in Lean hashes anything: it is a label: what it is worth is what the hold of that sum in a sandbox is worth. -/
noncomputable def Tryz.pinned : Pinned := { name := "ytjgojgmgicpgaaagreat", sum := "6e84ba8ac69e619f75811d17df5fa2a6444e8cee2b83c3decce34004973d7f56", checked := Tryz.checked }
namespace Rows
def none {H : Type} : Left H := { results := [], args := [] }

/-- 'interregnumlaw21.SchemaBytes': WHATEVER THE INPUT: true; the input reads as it did. -/
def schemaBytesSpec : ChangeSpec := { name := "schemaBytes", fn := fun _ => fun
  | [d] => { results := [.lit (.bool true)], args := [d] }
  | _ => none }
def schemaBytesRow : OpenClaim := { program := "ytjgojgmgicpgaaagreat", sum := "6e84ba8ac69e619f75811d17df5fa2a6444e8cee2b83c3decce34004973d7f56", func := "interregnum/interregnumlaw21.SchemaBytes", spec := "schemaBytes", inPlace := ["internal/bytealg.abigen_runtime_cmpstring"], unfollowed := true, recurses := true, plainKeys := false, apart := false }
def SchemaBytesSaid : Prop := schemaBytesRow.holds Tryz.pinned (OpenSpec.ofChange schemaBytesSpec)

/-- ITS FALSE NEIGHBOUR: 'it returns false'. Refute it at one input. -/
def schemaBytesWrong : ChangeSpec := { name := "schemaBytes", fn := fun _ => fun
  | [d] => { results := [.lit (.bool false)], args := [d] }
  | _ => none }
def SchemaBytesWrongFalsely : Prop := schemaBytesRow.holds Tryz.pinned (OpenSpec.ofChange schemaBytesWrong)

/-- 'interregnumlaw21.SchemaBack': WHATEVER THE INPUT: true; the input reads as it did. -/
def schemaBackSpec : ChangeSpec := { name := "schemaBack", fn := fun _ => fun
  | [d1, d2, d3] => { results := [.lit (.bool true)], args := [d1, d2, d3] }
  | _ => none }
def schemaBackRow : OpenClaim := { program := "ytjgojgmgicpgaaagreat", sum := "6e84ba8ac69e619f75811d17df5fa2a6444e8cee2b83c3decce34004973d7f56", func := "interregnum/interregnumlaw21.SchemaBack", spec := "schemaBack", inPlace := ["internal/bytealg.abigen_runtime_cmpstring"], unfollowed := true, recurses := true, plainKeys := false, apart := false }
def SchemaBackSaid : Prop := schemaBackRow.holds Tryz.pinned (OpenSpec.ofChange schemaBackSpec)

/-- ITS FALSE NEIGHBOUR: 'it returns false'. Refute it at one input. -/
def schemaBackWrong : ChangeSpec := { name := "schemaBack", fn := fun _ => fun
  | [d1, d2, d3] => { results := [.lit (.bool false)], args := [d1, d2, d3] }
  | _ => none }
def SchemaBackWrongFalsely : Prop := schemaBackRow.holds Tryz.pinned (OpenSpec.ofChange schemaBackWrong)

/-- 'interregnumlaw21.SchemaOne': WHATEVER THE INPUT: true; the input reads as it did. -/
def schemaOneSpec : ChangeSpec := { name := "schemaOne", fn := fun _ => fun
  | [d] => { results := [.lit (.bool true)], args := [d] }
  | _ => none }
def schemaOneRow : OpenClaim := { program := "ytjgojgmgicpgaaagreat", sum := "6e84ba8ac69e619f75811d17df5fa2a6444e8cee2b83c3decce34004973d7f56", func := "interregnum/interregnumlaw21.SchemaOne", spec := "schemaOne", inPlace := ["internal/bytealg.abigen_runtime_cmpstring"], unfollowed := true, recurses := true, plainKeys := false, apart := false }
def SchemaOneSaid : Prop := schemaOneRow.holds Tryz.pinned (OpenSpec.ofChange schemaOneSpec)

/-- ITS FALSE NEIGHBOUR: 'it returns false'. Refute it at one input. -/
def schemaOneWrong : ChangeSpec := { name := "schemaOne", fn := fun _ => fun
  | [d] => { results := [.lit (.bool false)], args := [d] }
  | _ => none }
def SchemaOneWrongFalsely : Prop := schemaOneRow.holds Tryz.pinned (OpenSpec.ofChange schemaOneWrong)

/-- 'interregnumlaw21.SchemaGoes': WHATEVER THE INPUT: true; the input reads as it did. -/
def schemaGoesSpec : ChangeSpec := { name := "schemaGoes", fn := fun _ => fun
  | [d1, d2] => { results := [.lit (.bool true)], args := [d1, d2] }
  | _ => none }
def schemaGoesRow : OpenClaim := { program := "ytjgojgmgicpgaaagreat", sum := "6e84ba8ac69e619f75811d17df5fa2a6444e8cee2b83c3decce34004973d7f56", func := "interregnum/interregnumlaw21.SchemaGoes", spec := "schemaGoes", inPlace := ["internal/bytealg.abigen_runtime_cmpstring", "slices.overlaps[interregnum/api.Machine]", "slices.overlaps[interregnum/api.Queue]"], unfollowed := true, recurses := true, plainKeys := false, apart := false }
def SchemaGoesSaid : Prop := schemaGoesRow.holds Tryz.pinned (OpenSpec.ofChange schemaGoesSpec)

/-- ITS FALSE NEIGHBOUR: 'it returns false'. Refute it at one input. -/
def schemaGoesWrong : ChangeSpec := { name := "schemaGoes", fn := fun _ => fun
  | [d1, d2] => { results := [.lit (.bool false)], args := [d1, d2] }
  | _ => none }
def SchemaGoesWrongFalsely : Prop := schemaGoesRow.holds Tryz.pinned (OpenSpec.ofChange schemaGoesWrong)

/-- 'interregnumlaw22.HandoffPlays': WHATEVER THE INPUT: true; the input reads as it did. -/
def handoffPlaysSpec : ChangeSpec := { name := "handoffPlays", fn := fun _ => fun
  | [d] => { results := [.lit (.bool true)], args := [d] }
  | _ => none }
def handoffPlaysRow : OpenClaim := { program := "ytjgojgmgicpgaaagreat", sum := "6e84ba8ac69e619f75811d17df5fa2a6444e8cee2b83c3decce34004973d7f56", func := "interregnum/interregnumlaw22.HandoffPlays", spec := "handoffPlays", inPlace := ["internal/bytealg.abigen_runtime_cmpstring"], unfollowed := true, recurses := true, plainKeys := false, apart := false }
def HandoffPlaysSaid : Prop := handoffPlaysRow.holds Tryz.pinned (OpenSpec.ofChange handoffPlaysSpec)

/-- ITS FALSE NEIGHBOUR: 'it returns false'. Refute it at one input. -/
def handoffPlaysWrong : ChangeSpec := { name := "handoffPlays", fn := fun _ => fun
  | [d] => { results := [.lit (.bool false)], args := [d] }
  | _ => none }
def HandoffPlaysWrongFalsely : Prop := handoffPlaysRow.holds Tryz.pinned (OpenSpec.ofChange handoffPlaysWrong)

/-- 'interregnumlaw22.HandoffHidden': WHATEVER THE INPUT: true; the input reads as it did. -/
def handoffHiddenSpec : ChangeSpec := { name := "handoffHidden", fn := fun _ => fun
  | [d1, d2] => { results := [.lit (.bool true)], args := [d1, d2] }
  | _ => none }
def handoffHiddenRow : OpenClaim := { program := "ytjgojgmgicpgaaagreat", sum := "6e84ba8ac69e619f75811d17df5fa2a6444e8cee2b83c3decce34004973d7f56", func := "interregnum/interregnumlaw22.HandoffHidden", spec := "handoffHidden", inPlace := ["internal/bytealg.abigen_runtime_cmpstring", "slices.overlaps[interregnum/api.Machine]", "slices.overlaps[interregnum/api.Queue]"], unfollowed := true, recurses := true, plainKeys := false, apart := false }
def HandoffHiddenSaid : Prop := handoffHiddenRow.holds Tryz.pinned (OpenSpec.ofChange handoffHiddenSpec)

/-- ITS FALSE NEIGHBOUR: 'it returns false'. Refute it at one input. -/
def handoffHiddenWrong : ChangeSpec := { name := "handoffHidden", fn := fun _ => fun
  | [d1, d2] => { results := [.lit (.bool false)], args := [d1, d2] }
  | _ => none }
def HandoffHiddenWrongFalsely : Prop := handoffHiddenRow.holds Tryz.pinned (OpenSpec.ofChange handoffHiddenWrong)

/-- 'interregnumlaw22.HandoffBack': WHATEVER THE INPUT: true; the input reads as it did. -/
def handoffBackSpec : ChangeSpec := { name := "handoffBack", fn := fun _ => fun
  | [d1, d2] => { results := [.lit (.bool true)], args := [d1, d2] }
  | _ => none }
def handoffBackRow : OpenClaim := { program := "ytjgojgmgicpgaaagreat", sum := "6e84ba8ac69e619f75811d17df5fa2a6444e8cee2b83c3decce34004973d7f56", func := "interregnum/interregnumlaw22.HandoffBack", spec := "handoffBack", inPlace := ["internal/bytealg.abigen_runtime_cmpstring"], unfollowed := true, recurses := true, plainKeys := false, apart := false }
def HandoffBackSaid : Prop := handoffBackRow.holds Tryz.pinned (OpenSpec.ofChange handoffBackSpec)

/-- ITS FALSE NEIGHBOUR: 'it returns false'. Refute it at one input. -/
def handoffBackWrong : ChangeSpec := { name := "handoffBack", fn := fun _ => fun
  | [d1, d2] => { results := [.lit (.bool false)], args := [d1, d2] }
  | _ => none }
def HandoffBackWrongFalsely : Prop := handoffBackRow.holds Tryz.pinned (OpenSpec.ofChange handoffBackWrong)

/-- 'interregnumlaw22.HandoffOne': WHATEVER THE INPUT: true; the input reads as it did. -/
def handoffOneSpec : ChangeSpec := { name := "handoffOne", fn := fun _ => fun
  | [d] => { results := [.lit (.bool true)], args := [d] }
  | _ => none }
def handoffOneRow : OpenClaim := { program := "ytjgojgmgicpgaaagreat", sum := "6e84ba8ac69e619f75811d17df5fa2a6444e8cee2b83c3decce34004973d7f56", func := "interregnum/interregnumlaw22.HandoffOne", spec := "handoffOne", inPlace := ["internal/bytealg.abigen_runtime_cmpstring"], unfollowed := true, recurses := true, plainKeys := false, apart := false }
def HandoffOneSaid : Prop := handoffOneRow.holds Tryz.pinned (OpenSpec.ofChange handoffOneSpec)

/-- ITS FALSE NEIGHBOUR: 'it returns false'. Refute it at one input. -/
def handoffOneWrong : ChangeSpec := { name := "handoffOne", fn := fun _ => fun
  | [d] => { results := [.lit (.bool false)], args := [d] }
  | _ => none }
def HandoffOneWrongFalsely : Prop := handoffOneRow.holds Tryz.pinned (OpenSpec.ofChange handoffOneWrong)

/-- 'interregnumlaw22.HandoffEpochs': WHATEVER THE INPUT: true; the input reads as it did. -/
def handoffEpochsSpec : ChangeSpec := { name := "handoffEpochs", fn := fun _ => fun
  | [d] => { results := [.lit (.bool true)], args := [d] }
  | _ => none }
def handoffEpochsRow : OpenClaim := { program := "ytjgojgmgicpgaaagreat", sum := "6e84ba8ac69e619f75811d17df5fa2a6444e8cee2b83c3decce34004973d7f56", func := "interregnum/interregnumlaw22.HandoffEpochs", spec := "handoffEpochs", inPlace := ["internal/bytealg.abigen_runtime_cmpstring"], unfollowed := true, recurses := true, plainKeys := false, apart := false }
def HandoffEpochsSaid : Prop := handoffEpochsRow.holds Tryz.pinned (OpenSpec.ofChange handoffEpochsSpec)

/-- ITS FALSE NEIGHBOUR: 'it returns false'. Refute it at one input. -/
def handoffEpochsWrong : ChangeSpec := { name := "handoffEpochs", fn := fun _ => fun
  | [d] => { results := [.lit (.bool false)], args := [d] }
  | _ => none }
def HandoffEpochsWrongFalsely : Prop := handoffEpochsRow.holds Tryz.pinned (OpenSpec.ofChange handoffEpochsWrong)

/-- 'interregnumlaw22.HandoffNil': WHATEVER THE INPUT: true; the input reads as it did. -/
def handoffNilSpec : ChangeSpec := { name := "handoffNil", fn := fun _ => fun
  | [d1, d2] => { results := [.lit (.bool true)], args := [d1, d2] }
  | _ => none }
def handoffNilRow : OpenClaim := { program := "ytjgojgmgicpgaaagreat", sum := "6e84ba8ac69e619f75811d17df5fa2a6444e8cee2b83c3decce34004973d7f56", func := "interregnum/interregnumlaw22.HandoffNil", spec := "handoffNil", inPlace := ["internal/bytealg.abigen_runtime_cmpstring"], unfollowed := true, recurses := true, plainKeys := false, apart := false }
def HandoffNilSaid : Prop := handoffNilRow.holds Tryz.pinned (OpenSpec.ofChange handoffNilSpec)

/-- ITS FALSE NEIGHBOUR: 'it returns false'. Refute it at one input. -/
def handoffNilWrong : ChangeSpec := { name := "handoffNil", fn := fun _ => fun
  | [d1, d2] => { results := [.lit (.bool false)], args := [d1, d2] }
  | _ => none }
def HandoffNilWrongFalsely : Prop := handoffNilRow.holds Tryz.pinned (OpenSpec.ofChange handoffNilWrong)

/-- 'interregnumlaw22.HandoffTable': WHATEVER THE INPUT: true; the input reads as it did. -/
def handoffTableSpec : ChangeSpec := { name := "handoffTable", fn := fun _ => fun
  | [d1, d2] => { results := [.lit (.bool true)], args := [d1, d2] }
  | _ => none }
def handoffTableRow : OpenClaim := { program := "ytjgojgmgicpgaaagreat", sum := "6e84ba8ac69e619f75811d17df5fa2a6444e8cee2b83c3decce34004973d7f56", func := "interregnum/interregnumlaw22.HandoffTable", spec := "handoffTable", inPlace := ["internal/bytealg.abigen_runtime_cmpstring"], unfollowed := true, recurses := true, plainKeys := false, apart := false }
def HandoffTableSaid : Prop := handoffTableRow.holds Tryz.pinned (OpenSpec.ofChange handoffTableSpec)

/-- ITS FALSE NEIGHBOUR: 'it returns false'. Refute it at one input. -/
def handoffTableWrong : ChangeSpec := { name := "handoffTable", fn := fun _ => fun
  | [d1, d2] => { results := [.lit (.bool false)], args := [d1, d2] }
  | _ => none }
def HandoffTableWrongFalsely : Prop := handoffTableRow.holds Tryz.pinned (OpenSpec.ofChange handoffTableWrong)

/- THE SECOND FORM. 'bulk': how many values and letters a reading holds, each counted each time it is reached (what is shared counts as often as it is met; a slice's spare places count too). A statement '..UptoSaid' is the law's where the arguments, and the package variables that the reading takes, are together of bulk at most 1048576: NARROWER than '..Said'. Prove '..Said' where nothing that the law and all that it calls make is longer than what came in: it says more and counts as full. Else prove '..UptoSaid'. A law counts once. -/
mutual
def uptoBulk {H : Type} : DataW H → Nat
  | .lit (.string bytes) => bytes.length + 1
  | .lit _ => 1
  | .nil => 1
  | .ptr d => uptoBulk d + 1
  | .slice elems spare => uptoBulkAll elems + uptoBulkAll spare + 1
  | .agg parts => uptoBulkAll parts + 1
  | .iface _ d => uptoBulk d + 1
  | .map entries => uptoBulkEntries entries + 1
  | .held _ => 1
def uptoBulkAll {H : Type} : List (DataW H) → Nat
  | [] => 0
  | d :: r => uptoBulk d + uptoBulkAll r
def uptoBulkEntries {H : Type} : List (Lit × DataW H) → Nat
  | [] => 0
  | x :: r => uptoBulkEntry x + uptoBulkEntries r
def uptoBulkEntry {H : Type} : Lit × DataW H → Nat
  | (.string bytes, d) => bytes.length + uptoBulk d + 1
  | (_, d) => uptoBulk d + 1
 end
def uptoSmall : (H : Type) → List (DataW H) → Bool := fun _ ds => decide (uptoBulkAll ds ≤ 1048576)
def OpenSpec.upto (s : _root_.Go.ChangeSpec) : _root_.Go.OpenSpec := { _root_.Go.OpenSpec.ofChange s with cond := some uptoSmall }

/-- 'interregnumlaw21.SchemaBytes', WHERE WHAT IT READS IS OF BULK AT MOST 1048576: true; the input reads as it did. -/
def schemaBytesUptoRow : OpenClaim := { program := "ytjgojgmgicpgaaagreat", sum := "6e84ba8ac69e619f75811d17df5fa2a6444e8cee2b83c3decce34004973d7f56", func := "interregnum/interregnumlaw21.SchemaBytes", spec := "schemaBytes", inPlace := ["internal/bytealg.abigen_runtime_cmpstring"], unfollowed := true, recurses := true, plainKeys := false, apart := false, narrowed := true }
def SchemaBytesUptoSaid : Prop := schemaBytesUptoRow.holds Tryz.pinned (OpenSpec.upto schemaBytesSpec)

/-- 'interregnumlaw21.SchemaBack', WHERE WHAT IT READS IS OF BULK AT MOST 1048576: true; the input reads as it did. -/
def schemaBackUptoRow : OpenClaim := { program := "ytjgojgmgicpgaaagreat", sum := "6e84ba8ac69e619f75811d17df5fa2a6444e8cee2b83c3decce34004973d7f56", func := "interregnum/interregnumlaw21.SchemaBack", spec := "schemaBack", inPlace := ["internal/bytealg.abigen_runtime_cmpstring"], unfollowed := true, recurses := true, plainKeys := false, apart := false, narrowed := true }
def SchemaBackUptoSaid : Prop := schemaBackUptoRow.holds Tryz.pinned (OpenSpec.upto schemaBackSpec)

/-- 'interregnumlaw21.SchemaOne', WHERE WHAT IT READS IS OF BULK AT MOST 1048576: true; the input reads as it did. -/
def schemaOneUptoRow : OpenClaim := { program := "ytjgojgmgicpgaaagreat", sum := "6e84ba8ac69e619f75811d17df5fa2a6444e8cee2b83c3decce34004973d7f56", func := "interregnum/interregnumlaw21.SchemaOne", spec := "schemaOne", inPlace := ["internal/bytealg.abigen_runtime_cmpstring"], unfollowed := true, recurses := true, plainKeys := false, apart := false, narrowed := true }
def SchemaOneUptoSaid : Prop := schemaOneUptoRow.holds Tryz.pinned (OpenSpec.upto schemaOneSpec)

/-- 'interregnumlaw21.SchemaGoes', WHERE WHAT IT READS IS OF BULK AT MOST 1048576: true; the input reads as it did. -/
def schemaGoesUptoRow : OpenClaim := { program := "ytjgojgmgicpgaaagreat", sum := "6e84ba8ac69e619f75811d17df5fa2a6444e8cee2b83c3decce34004973d7f56", func := "interregnum/interregnumlaw21.SchemaGoes", spec := "schemaGoes", inPlace := ["internal/bytealg.abigen_runtime_cmpstring", "slices.overlaps[interregnum/api.Machine]", "slices.overlaps[interregnum/api.Queue]"], unfollowed := true, recurses := true, plainKeys := false, apart := false, narrowed := true }
def SchemaGoesUptoSaid : Prop := schemaGoesUptoRow.holds Tryz.pinned (OpenSpec.upto schemaGoesSpec)

/-- 'interregnumlaw22.HandoffPlays', WHERE WHAT IT READS IS OF BULK AT MOST 1048576: true; the input reads as it did. -/
def handoffPlaysUptoRow : OpenClaim := { program := "ytjgojgmgicpgaaagreat", sum := "6e84ba8ac69e619f75811d17df5fa2a6444e8cee2b83c3decce34004973d7f56", func := "interregnum/interregnumlaw22.HandoffPlays", spec := "handoffPlays", inPlace := ["internal/bytealg.abigen_runtime_cmpstring"], unfollowed := true, recurses := true, plainKeys := false, apart := false, narrowed := true }
def HandoffPlaysUptoSaid : Prop := handoffPlaysUptoRow.holds Tryz.pinned (OpenSpec.upto handoffPlaysSpec)

/-- 'interregnumlaw22.HandoffHidden', WHERE WHAT IT READS IS OF BULK AT MOST 1048576: true; the input reads as it did. -/
def handoffHiddenUptoRow : OpenClaim := { program := "ytjgojgmgicpgaaagreat", sum := "6e84ba8ac69e619f75811d17df5fa2a6444e8cee2b83c3decce34004973d7f56", func := "interregnum/interregnumlaw22.HandoffHidden", spec := "handoffHidden", inPlace := ["internal/bytealg.abigen_runtime_cmpstring", "slices.overlaps[interregnum/api.Machine]", "slices.overlaps[interregnum/api.Queue]"], unfollowed := true, recurses := true, plainKeys := false, apart := false, narrowed := true }
def HandoffHiddenUptoSaid : Prop := handoffHiddenUptoRow.holds Tryz.pinned (OpenSpec.upto handoffHiddenSpec)

/-- 'interregnumlaw22.HandoffBack', WHERE WHAT IT READS IS OF BULK AT MOST 1048576: true; the input reads as it did. -/
def handoffBackUptoRow : OpenClaim := { program := "ytjgojgmgicpgaaagreat", sum := "6e84ba8ac69e619f75811d17df5fa2a6444e8cee2b83c3decce34004973d7f56", func := "interregnum/interregnumlaw22.HandoffBack", spec := "handoffBack", inPlace := ["internal/bytealg.abigen_runtime_cmpstring"], unfollowed := true, recurses := true, plainKeys := false, apart := false, narrowed := true }
def HandoffBackUptoSaid : Prop := handoffBackUptoRow.holds Tryz.pinned (OpenSpec.upto handoffBackSpec)

/-- 'interregnumlaw22.HandoffOne', WHERE WHAT IT READS IS OF BULK AT MOST 1048576: true; the input reads as it did. -/
def handoffOneUptoRow : OpenClaim := { program := "ytjgojgmgicpgaaagreat", sum := "6e84ba8ac69e619f75811d17df5fa2a6444e8cee2b83c3decce34004973d7f56", func := "interregnum/interregnumlaw22.HandoffOne", spec := "handoffOne", inPlace := ["internal/bytealg.abigen_runtime_cmpstring"], unfollowed := true, recurses := true, plainKeys := false, apart := false, narrowed := true }
def HandoffOneUptoSaid : Prop := handoffOneUptoRow.holds Tryz.pinned (OpenSpec.upto handoffOneSpec)

/-- 'interregnumlaw22.HandoffEpochs', WHERE WHAT IT READS IS OF BULK AT MOST 1048576: true; the input reads as it did. -/
def handoffEpochsUptoRow : OpenClaim := { program := "ytjgojgmgicpgaaagreat", sum := "6e84ba8ac69e619f75811d17df5fa2a6444e8cee2b83c3decce34004973d7f56", func := "interregnum/interregnumlaw22.HandoffEpochs", spec := "handoffEpochs", inPlace := ["internal/bytealg.abigen_runtime_cmpstring"], unfollowed := true, recurses := true, plainKeys := false, apart := false, narrowed := true }
def HandoffEpochsUptoSaid : Prop := handoffEpochsUptoRow.holds Tryz.pinned (OpenSpec.upto handoffEpochsSpec)

/-- 'interregnumlaw22.HandoffNil', WHERE WHAT IT READS IS OF BULK AT MOST 1048576: true; the input reads as it did. -/
def handoffNilUptoRow : OpenClaim := { program := "ytjgojgmgicpgaaagreat", sum := "6e84ba8ac69e619f75811d17df5fa2a6444e8cee2b83c3decce34004973d7f56", func := "interregnum/interregnumlaw22.HandoffNil", spec := "handoffNil", inPlace := ["internal/bytealg.abigen_runtime_cmpstring"], unfollowed := true, recurses := true, plainKeys := false, apart := false, narrowed := true }
def HandoffNilUptoSaid : Prop := handoffNilUptoRow.holds Tryz.pinned (OpenSpec.upto handoffNilSpec)

/-- 'interregnumlaw22.HandoffTable', WHERE WHAT IT READS IS OF BULK AT MOST 1048576: true; the input reads as it did. -/
def handoffTableUptoRow : OpenClaim := { program := "ytjgojgmgicpgaaagreat", sum := "6e84ba8ac69e619f75811d17df5fa2a6444e8cee2b83c3decce34004973d7f56", func := "interregnum/interregnumlaw22.HandoffTable", spec := "handoffTable", inPlace := ["internal/bytealg.abigen_runtime_cmpstring"], unfollowed := true, recurses := true, plainKeys := false, apart := false, narrowed := true }
def HandoffTableUptoSaid : Prop := handoffTableUptoRow.holds Tryz.pinned (OpenSpec.upto handoffTableSpec)

end Rows
end Go.Proofs.YtjgojgmgicpgaaaGreat
