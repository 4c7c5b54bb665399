/- The walk of WheelPlays. No condition beyond the form's own. -/
import Derived.Test.YtbegbecmnhldkaaWWheelPlaysF
import Derived.Test.YtbegbecmnhldkaaWWheelPlaysT
namespace Go.Proofs.Ytbegbecmnhldkaa
open Go.RowKit
namespace wheelPlays
set_option maxHeartbeats 51200000 in
set_option maxRecDepth 100000 in
theorem walk (B0 : Option Addr) (N cap : Nat) (z : List Oe) (zero : Bool) (w : World) (hn0 : N = z.length) (hr0 : RdK w 3 B0 (z.map eE)) (hc1 : N ≤ cap) (hc2 : cap ≤ 9223372036854775807) :
    Calls Try.prog 3 #[.slice B0 N cap, .bool zero] w fun r w' => r = .returned (.bool true) ∧ Below w.heap.size w w' := by
  cases zero with
  | false => exact walkF B0 N cap z w hn0 hr0 hc1 hc2
  | true => exact walkT B0 N cap z w hn0 hr0 hc1 hc2
end wheelPlays
end Go.Proofs.Ytbegbecmnhldkaa
