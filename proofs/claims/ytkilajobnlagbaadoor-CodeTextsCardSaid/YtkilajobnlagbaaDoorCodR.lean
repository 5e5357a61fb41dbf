/-
  What a run comes to: it costs no more than its gas, more gas turns nothing but the lack of it; some programs.
-/
import Derived.Test.YtkilajobnlagbaaDoorCodH
namespace Go.Proofs.YtkilajobnlagbaaDoor
open Go.RowKit
set_option linter.unusedVariables false

theorem runV_ex : runV [1, 0, 0, 0, 0, 0, 0, 0, 2, 1, 0, 0, 0, 0, 0, 0, 0, 3, 6, 0] [] [] 0 100 = (1, 4, 0) := by decide +kernel
theorem runV_jump : (runV [11, 0, 0] [] [] 0 50).2.2 = 24 := by decide +kernel

end Go.Proofs.YtkilajobnlagbaaDoor
