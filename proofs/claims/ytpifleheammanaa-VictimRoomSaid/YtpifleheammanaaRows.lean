/-
  No cell of these rows narrows 'for every input' (looked for: loops, veiled, ifaces, maps, wideKeys, modest, calm, conditions, laid).
  DERIVED. THE GIVEN ROWS OF THIS SEAT. 5 by the template 'for every input the law returns true; each argument reads behind the call as it read before'; 0 by the template 'total and deterministic' (their statements: YtpifleheammanaaTotals.lean).
  GIVEN WITH THE SEED: the statements are not yours to turn. If you find one false, say at which input.
  Laid BY PROGRAM, IN A SANDBOX (cutbox-rows.mjs): the forced cells as the released guide's own fill.sh prints them over the translation a30a62d91c483846… (all of the seat's roots in one cut). By AI agents, Wed Nov 11 2026. No macro, syntax, notation, axiom, sorry.
-/
import Derived.Test.YtpifleheammanaaChecked
import GoSem.Claim
import GoSem.ClaimJoined
import GoSem.ClaimMapViews
import Derived.JoinedTies
import Derived.KernelRfl
namespace Go.Proofs.Ytpifleheammanaa
/- THE CELL 'sum', in the pinned program and in every row, IS THE sha256 OF THE DUMP (.gsa) THAT YtpifleheammanaaProg.lean LOADS. Nothing in Lean hashes anything: it is a label: what it is worth is what the hold of that sum in a sandbox is worth. -/
noncomputable def Try.pinned : Pinned := { name := "ytpifleheammanaa", sum := "a30a62d91c48384610a981d84071cfd1da1f0bfe981d49710e176a145d1da898", checked := Try.checked }
namespace Rows
def none {H : Type} : Left H := { results := [], args := [] }

/-- 'interregnumlaw13.VictimTells': WHATEVER THE INPUT: true; the input reads as it did. -/
def victimTellsSpec : ChangeSpec := { name := "victimTells", fn := fun _ => fun
  | [d1, d2, d3] => { results := [.lit (.bool true)], args := [d1, d2, d3] }
  | _ => none }
def victimTellsRow : OpenClaim := { program := "ytpifleheammanaa", sum := "a30a62d91c48384610a981d84071cfd1da1f0bfe981d49710e176a145d1da898", func := "interregnum/interregnumlaw13.VictimTells", spec := "victimTells", inPlace := ["internal/bytealg.abigen_runtime_cmpstring"], unfollowed := true, recurses := true, apart := false }
def VictimTellsSaid : Prop := victimTellsRow.holds Try.pinned (OpenSpec.ofChange victimTellsSpec)

/-- ITS FALSE NEIGHBOUR: 'it returns false'. Refute it at one input. -/
def victimTellsWrong : ChangeSpec := { name := "victimTells", fn := fun _ => fun
  | [d1, d2, d3] => { results := [.lit (.bool false)], args := [d1, d2, d3] }
  | _ => none }
def VictimTellsWrongFalsely : Prop := victimTellsRow.holds Try.pinned (OpenSpec.ofChange victimTellsWrong)

/-- 'interregnumlaw13.VictimRoom': WHATEVER THE INPUT: true; the input reads as it did. -/
def victimRoomSpec : ChangeSpec := { name := "victimRoom", fn := fun _ => fun
  | [d1, d2, d3] => { results := [.lit (.bool true)], args := [d1, d2, d3] }
  | _ => none }
def victimRoomRow : OpenClaim := { program := "ytpifleheammanaa", sum := "a30a62d91c48384610a981d84071cfd1da1f0bfe981d49710e176a145d1da898", func := "interregnum/interregnumlaw13.VictimRoom", spec := "victimRoom", unfollowed := true, recurses := true, apart := false }
def VictimRoomSaid : Prop := victimRoomRow.holds Try.pinned (OpenSpec.ofChange victimRoomSpec)

/-- ITS FALSE NEIGHBOUR: 'it returns false'. Refute it at one input. -/
def victimRoomWrong : ChangeSpec := { name := "victimRoom", fn := fun _ => fun
  | [d1, d2, d3] => { results := [.lit (.bool false)], args := [d1, d2, d3] }
  | _ => none }
def VictimRoomWrongFalsely : Prop := victimRoomRow.holds Try.pinned (OpenSpec.ofChange victimRoomWrong)

/-- 'interregnumlaw13.VictimFewest': WHATEVER THE INPUT: true; the input reads as it did. -/
def victimFewestSpec : ChangeSpec := { name := "victimFewest", fn := fun _ => fun
  | [d1, d2, d3] => { results := [.lit (.bool true)], args := [d1, d2, d3] }
  | _ => none }
def victimFewestRow : OpenClaim := { program := "ytpifleheammanaa", sum := "a30a62d91c48384610a981d84071cfd1da1f0bfe981d49710e176a145d1da898", func := "interregnum/interregnumlaw13.VictimFewest", spec := "victimFewest", inPlace := ["internal/bytealg.abigen_runtime_cmpstring"], unfollowed := true, recurses := true, apart := false }
def VictimFewestSaid : Prop := victimFewestRow.holds Try.pinned (OpenSpec.ofChange victimFewestSpec)

/-- ITS FALSE NEIGHBOUR: 'it returns false'. Refute it at one input. -/
def victimFewestWrong : ChangeSpec := { name := "victimFewest", fn := fun _ => fun
  | [d1, d2, d3] => { results := [.lit (.bool false)], args := [d1, d2, d3] }
  | _ => none }
def VictimFewestWrongFalsely : Prop := victimFewestRow.holds Try.pinned (OpenSpec.ofChange victimFewestWrong)

/-- 'interregnumlaw13.VictimRanks': WHATEVER THE INPUT: true; the input reads as it did. -/
def victimRanksSpec : ChangeSpec := { name := "victimRanks", fn := fun _ => fun
  | [d1, d2, d3] => { results := [.lit (.bool true)], args := [d1, d2, d3] }
  | _ => none }
def victimRanksRow : OpenClaim := { program := "ytpifleheammanaa", sum := "a30a62d91c48384610a981d84071cfd1da1f0bfe981d49710e176a145d1da898", func := "interregnum/interregnumlaw13.VictimRanks", spec := "victimRanks", unfollowed := true, recurses := true, apart := false }
def VictimRanksSaid : Prop := victimRanksRow.holds Try.pinned (OpenSpec.ofChange victimRanksSpec)

/-- ITS FALSE NEIGHBOUR: 'it returns false'. Refute it at one input. -/
def victimRanksWrong : ChangeSpec := { name := "victimRanks", fn := fun _ => fun
  | [d1, d2, d3] => { results := [.lit (.bool false)], args := [d1, d2, d3] }
  | _ => none }
def VictimRanksWrongFalsely : Prop := victimRanksRow.holds Try.pinned (OpenSpec.ofChange victimRanksWrong)

/-- 'interregnumlaw13.VictimOrder': WHATEVER THE INPUT: true; the input reads as it did. -/
def victimOrderSpec : ChangeSpec := { name := "victimOrder", fn := fun _ => fun
  | [d1, d2, d3] => { results := [.lit (.bool true)], args := [d1, d2, d3] }
  | _ => none }
def victimOrderRow : OpenClaim := { program := "ytpifleheammanaa", sum := "a30a62d91c48384610a981d84071cfd1da1f0bfe981d49710e176a145d1da898", func := "interregnum/interregnumlaw13.VictimOrder", spec := "victimOrder", inPlace := ["internal/bytealg.abigen_runtime_cmpstring"], unfollowed := true, recurses := true, apart := false }
def VictimOrderSaid : Prop := victimOrderRow.holds Try.pinned (OpenSpec.ofChange victimOrderSpec)

/-- ITS FALSE NEIGHBOUR: 'it returns false'. Refute it at one input. -/
def victimOrderWrong : ChangeSpec := { name := "victimOrder", fn := fun _ => fun
  | [d1, d2, d3] => { results := [.lit (.bool false)], args := [d1, d2, d3] }
  | _ => none }
def VictimOrderWrongFalsely : Prop := victimOrderRow.holds Try.pinned (OpenSpec.ofChange victimOrderWrong)

/- THE SECOND FORM. 'bulk': how many values and letters a reading holds, each counted each time it is reached (what is shared counts as often as it is met; a slice's spare places count too). A statement '..UptoSaid' is the law's where the arguments, and the package variables that the reading takes, are together of bulk at most 1048576: NARROWER than '..Said'. Prove '..Said' where nothing that the law and all that it calls make is longer than what came in: it says more and counts as full. Else prove '..UptoSaid'. A law counts once. -/
mutual
def uptoBulk {H : Type} : DataW H → Nat
  | .lit (.string bytes) => bytes.length + 1
  | .lit _ => 1
  | .nil => 1
  | .ptr d => uptoBulk d + 1
  | .slice elems spare => uptoBulkAll elems + uptoBulkAll spare + 1
  | .agg parts => uptoBulkAll parts + 1
  | .iface _ d => uptoBulk d + 1
  | .map entries => uptoBulkEntries entries + 1
  | .held _ => 1
def uptoBulkAll {H : Type} : List (DataW H) → Nat
  | [] => 0
  | d :: r => uptoBulk d + uptoBulkAll r
def uptoBulkEntries {H : Type} : List (Lit × DataW H) → Nat
  | [] => 0
  | x :: r => uptoBulkEntry x + uptoBulkEntries r
def uptoBulkEntry {H : Type} : Lit × DataW H → Nat
  | (.string bytes, d) => bytes.length + uptoBulk d + 1
  | (_, d) => uptoBulk d + 1
 end
def uptoSmall : (H : Type) → List (DataW H) → Bool := fun _ ds => decide (uptoBulkAll ds ≤ 1048576)
def OpenSpec.upto (s : _root_.Go.ChangeSpec) : _root_.Go.OpenSpec := { _root_.Go.OpenSpec.ofChange s with cond := some uptoSmall }

/-- 'interregnumlaw13.VictimTells', WHERE WHAT IT READS IS OF BULK AT MOST 1048576: true; the input reads as it did. -/
def victimTellsUptoRow : OpenClaim := { program := "ytpifleheammanaa", sum := "a30a62d91c48384610a981d84071cfd1da1f0bfe981d49710e176a145d1da898", func := "interregnum/interregnumlaw13.VictimTells", spec := "victimTells", inPlace := ["internal/bytealg.abigen_runtime_cmpstring"], unfollowed := true, recurses := true, apart := false, narrowed := true }
def VictimTellsUptoSaid : Prop := victimTellsUptoRow.holds Try.pinned (OpenSpec.upto victimTellsSpec)

/-- 'interregnumlaw13.VictimRoom', WHERE WHAT IT READS IS OF BULK AT MOST 1048576: true; the input reads as it did. -/
def victimRoomUptoRow : OpenClaim := { program := "ytpifleheammanaa", sum := "a30a62d91c48384610a981d84071cfd1da1f0bfe981d49710e176a145d1da898", func := "interregnum/interregnumlaw13.VictimRoom", spec := "victimRoom", unfollowed := true, recurses := true, apart := false, narrowed := true }
def VictimRoomUptoSaid : Prop := victimRoomUptoRow.holds Try.pinned (OpenSpec.upto victimRoomSpec)

/-- 'interregnumlaw13.VictimFewest', WHERE WHAT IT READS IS OF BULK AT MOST 1048576: true; the input reads as it did. -/
def victimFewestUptoRow : OpenClaim := { program := "ytpifleheammanaa", sum := "a30a62d91c48384610a981d84071cfd1da1f0bfe981d49710e176a145d1da898", func := "interregnum/interregnumlaw13.VictimFewest", spec := "victimFewest", inPlace := ["internal/bytealg.abigen_runtime_cmpstring"], unfollowed := true, recurses := true, apart := false, narrowed := true }
def VictimFewestUptoSaid : Prop := victimFewestUptoRow.holds Try.pinned (OpenSpec.upto victimFewestSpec)

/-- 'interregnumlaw13.VictimRanks', WHERE WHAT IT READS IS OF BULK AT MOST 1048576: true; the input reads as it did. -/
def victimRanksUptoRow : OpenClaim := { program := "ytpifleheammanaa", sum := "a30a62d91c48384610a981d84071cfd1da1f0bfe981d49710e176a145d1da898", func := "interregnum/interregnumlaw13.VictimRanks", spec := "victimRanks", unfollowed := true, recurses := true, apart := false, narrowed := true }
def VictimRanksUptoSaid : Prop := victimRanksUptoRow.holds Try.pinned (OpenSpec.upto victimRanksSpec)

/-- 'interregnumlaw13.VictimOrder', WHERE WHAT IT READS IS OF BULK AT MOST 1048576: true; the input reads as it did. -/
def victimOrderUptoRow : OpenClaim := { program := "ytpifleheammanaa", sum := "a30a62d91c48384610a981d84071cfd1da1f0bfe981d49710e176a145d1da898", func := "interregnum/interregnumlaw13.VictimOrder", spec := "victimOrder", inPlace := ["internal/bytealg.abigen_runtime_cmpstring"], unfollowed := true, recurses := true, apart := false, narrowed := true }
def VictimOrderUptoSaid : Prop := victimOrderUptoRow.holds Try.pinned (OpenSpec.upto victimOrderSpec)

end Rows
end Go.Proofs.Ytpifleheammanaa
