/-
  The document's Nearest.
-/
import Derived.Test.YtnnimjaigciedaaNear
import Derived.Test.YtnnimjaigciedaaStep
import Derived.Deep.RegionWith
namespace Go.Proofs.Ytnnimjaigciedaa
open Go.RowKit
set_option linter.unusedVariables false

end Go.Proofs.Ytnnimjaigciedaa
