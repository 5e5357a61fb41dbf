/-
  The statements awake (function 9): the document's example holds; nothing that was there is written.
-/
import Derived.Test.YtbdjlnejlkiijaaDoorRRROf
import Derived.Lib.SlBytesConst
namespace Go.Proofs.YtbdjlnejlkiijaaDoorRRR
open Go.RowKit
set_option linter.unusedVariables false

theorem Parts.one {w : World} {b g : Nat} {t : TypeId} {Ai : Option Addr} {ci n : Nat} {x : List Nat} (h : Blk w g t [.slice Ai n ci]) (hn : n = x.length) (hb : g ≠ b) (hc : ci ≤ 9223372036854775807) (hs : Src w b Ai ci x) : Parts w b (some ⟨g, 0, none⟩) [x] := by
  subst hn
  refine ⟨.inr ⟨g, 0, rfl, h.lt, hb, fun i hi => ?_⟩⟩
  obtain rfl : i = 0 := by simpa using hi
  exact ⟨Ai, ci, by rw [h.cell]; rfl, hc, hs⟩

end Go.Proofs.YtbdjlnejlkiijaaDoorRRR
