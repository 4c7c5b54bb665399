/- The walk of LabelsPlays, whatever zero is. No condition beyond the form's own. -/
import Derived.Test.YtldijginplgikaaWLabelsPlaysF
import Derived.Test.YtldijginplgikaaWLabelsPlaysT
namespace Go.Proofs.Ytldijginplgikaa
open Go.RowKit
namespace labelsPlays
theorem walk (B0 : Option Addr) (N cap : Nat) (z : List Oh) (zero : Bool) (w : World) (hn0 : N = z.length) (hr0 : RdK w 3 B0 (z.map eO)) (hc1 : N ≤ cap) (hc2 : cap ≤ 9223372036854775807) (hv0 : ∀ y ∈ z, OhOk w y) :
    Calls Try.prog 3 #[.slice B0 N cap, .bool zero] w fun r w' => r = .returned (.bool true) ∧ Below w.heap.size w w' := by
  cases zero with
  | false => exact walkF B0 N cap z w hn0 hr0 hc1 hc2 hv0
  | true => exact walkT B0 N cap z w hn0 hr0 hc1 hc2 hv0
end labelsPlays
end Go.Proofs.Ytldijginplgikaa
