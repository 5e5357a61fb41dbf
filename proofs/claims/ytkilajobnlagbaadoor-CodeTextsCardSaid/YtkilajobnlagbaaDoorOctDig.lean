/-
  What an Out's Sum answers (function 32), for whatever bytes the call itself made and whatever sums come: its bytes, and the sums' 32 bytes each behind them; of other memory nothing that was there is written.
-/
import Derived.Test.YtkilajobnlagbaaDoorOctOut
import Derived.Lib.SlBytesConst
import Derived.Deep.RegionHeld3
import Derived.Deep.WholeRow
import Derived.Deep.MidRow
namespace Go.Proofs.YtkilajobnlagbaaDoor.Oct
open Go.RowKit
set_option linter.unusedVariables false

/-- A slice of sums (32 bytes each), read as a list of lists. -/
def Digs (w : World) (A : Option Addr) (ds : List (List Int)) : Prop :=
  (ds = [] ∨ ∃ b off, A = some ⟨b, off, none⟩ ∧ b < w.heap.size ∧ ∀ i, i < ds.length → w.rangeAt b (off + i * 32) (byt (ds.getD i []))) ∧ ∀ d ∈ ds, d.length = 32

theorem rangeAt_below {w w' : World} {b o : Nat} {cs : List Value} {B : Nat} (h : w.rangeAt b o cs) (hB : Below B w w') (hb : b < B) : w'.rangeAt b o cs := fun j v hv => by
  rw [hB.cell (p := ⟨b, o + j, none⟩) hb]
  exact h j v hv

theorem Digs.below {w w' : World} {A : Option Addr} {ds : List (List Int)} (h : Digs w A ds) (hB : Below w.heap.size w w') : Digs w' A ds := by
  refine ⟨?_, h.2⟩
  rcases h.1 with h1 | ⟨b, off, h1, h2, h3⟩
  · exact .inl h1
  · exact .inr ⟨b, off, h1, Nat.lt_of_lt_of_le h2 hB.size, fun i hi => rangeAt_below (h3 i hi) hB h2⟩

theorem Src.row (w : World) (t : TypeId) (l : List Int) : Src (w.alloc (.cells (byt l).toArray t)) (some ⟨w.heap.size, 0, none⟩) 32 l := by
  refine ⟨fun h => (by cases h), .inr ⟨w.heap.size, 0, rfl, by simp, fun i hi => ?_⟩⟩
  rw [Nat.zero_add, World.cell?_alloc_at _ _ _ _ rfl]
  simp [byt, List.getD, hi]

end Go.Proofs.YtkilajobnlagbaaDoor.Oct
