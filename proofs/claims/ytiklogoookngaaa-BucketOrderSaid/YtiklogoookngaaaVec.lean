/- Vectors of three integers: the contracts of package res (Right, bounded, result, Add, Sub, Fits, Share). No condition beyond those that each contract bears. -/
import Derived.Test.YtiklogoookngaaaVr
import Derived.WalkKit
import Derived.WalkSpells
import Derived.Handy
import Derived.Lib.Hide
import Derived.Lib.MinMax
import Derived.BigQuiet
import Derived.Deep.QuietTactic
import Derived.Deep.RegionWith
namespace Go.Proofs.Ytiklogoookngaaa
open Go.RowKit
set_option linter.unusedSimpArgs false
set_option linter.unusedVariables false







end Go.Proofs.Ytiklogoookngaaa
