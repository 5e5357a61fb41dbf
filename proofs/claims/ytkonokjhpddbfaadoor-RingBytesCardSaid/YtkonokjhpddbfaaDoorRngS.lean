/-
  The document's Verify (function 57): whether a ring's signature is right; nothing that was there is written.
-/
import Derived.Test.YtkonokjhpddbfaaDoorGI
import Derived.Test.YtkonokjhpddbfaaDoorGE
import Derived.Test.YtkonokjhpddbfaaDoorRngQ
namespace Go.Proofs.YtkonokjhpddbfaaDoor
open Go.RowKit
set_option linter.unusedVariables false

theorem slice29o (g o : Nat) (W : World) : (Instr.sliceAt 29 (.pointer (some ⟨g, o, none⟩)) none none none).run Tryd.prog W = .ok (.slice (some ⟨g, o, none⟩) 32 32) W := slice32p g o W
end Go.Proofs.YtkonokjhpddbfaaDoor
