/-
  Small facts for OctetOnes: one sum laid as a slice of its own, the rows of sums, what stays as it was.
-/
import Derived.Test.YtkilajobnlagbaaDoorOctDig
import Derived.ProofKit
import Derived.Great.BuildSlice
import Derived.Deep.RegionHeld3
import Derived.Deep.AppendLies
namespace Go.Proofs.YtkilajobnlagbaaDoor.Oct
open Go.ChangeShapes Go.WideShapes Go.ChangeAt Go.RowKit
set_option linter.unusedVariables false

theorem be8s_one (x : Int) : be8s [x] = be8 x := by simp [be8s]
theorem take_snoc (ns : List Int) (k : Nat) (x : Int) (hk : k < ns.length) (hx : ns.getD k 0 = x) : ns.take k ++ [x] = ns.take (k + 1) := by
  have e : ns[k] = x := by rw [← hx]; simp [List.getD, hk]
  rw [List.take_succ_eq_append_getElem hk, e]

theorem Src.one (w : World) (x : Int) : Src (w.alloc (.cells #[.int .u8 x] 5)) (some ⟨w.heap.size, 0, none⟩) 1 [x] := Src.lit w #[.int .u8 x] [x] rfl
end Go.Proofs.YtkilajobnlagbaaDoor.Oct
