/- The walk of BlockPlays: whatever is written, read and cut off, each answer is the document's, and so are all bytes; the zero store is as a new one. Conditions: the slice and its texts are ones that Go can have. -/
import Derived.Test.YtnikhlajlhgikaaWPlaysF
import Derived.Test.YtnikhlajlhgikaaWPlaysT
namespace Go.Proofs.Ytnikhlajlhgikaa
open Go.RowKit
theorem blockPlays.walk (A : Option Addr) (len cap : Nat) (l : List Ox) (z : Bool) (w : World) (wl : len = l.length) (hro : RdO w A l) (wc : len ≤ cap) (wm : cap ≤ 9223372036854775807) (wz : ∀ x ∈ l, x.2.2.2.size ≤ 140737488351232) (wo : ∀ x ∈ l, okO x) : Calls Try.prog 3 #[.slice A len cap, .bool z] w fun e w' => e = .returned (.bool true) ∧ Below w.heap.size w w' := by
  cases z
  case false => exact plays_false A len cap l w wl hro wc wm wz wo
  case true => exact plays_true A len cap l w wl hro wc wm wz wo
end Go.Proofs.Ytnikhlajlhgikaa
