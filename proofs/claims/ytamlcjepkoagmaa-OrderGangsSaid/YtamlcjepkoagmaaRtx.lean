/- The contract of the document's own Texts: are lists of texts alike. Condition: the slices are ones that Go can have. -/
import Derived.Test.YtamlcjepkoagmaaSt
import Derived.Test.YtamlcjepkoagmaaLat
import Derived.Test.YtamlcjepkoagmaaFew
namespace Go.Proofs.Ytamlcjepkoagmaa
open Go.RowKit
set_option linter.unusedSimpArgs false
set_option linter.unusedVariables false

/-- Are lists of texts alike? -/
def sameS (l r : List ByteArray) : Bool := decide (l = r)
theorem take_eq {α : Type} {l r : List α} {k : Nat} (hl : k < l.length) (hr : k < r.length) (h : l.take k = r.take k) (he : l[k] = r[k]) : l.take (k + 1) = r.take (k + 1) := by
  rw [List.take_succ_eq_append_getElem hl, List.take_succ_eq_append_getElem hr, h, he]

end Go.Proofs.Ytamlcjepkoagmaa
