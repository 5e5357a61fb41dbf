/-
  Orders there and back: a line is laid as its order; a program is a row of orders.
-/
import Derived.Test.YtkilajobnlagbaaDoorCodEF
namespace Go.Proofs.YtkilajobnlagbaaDoor
open Go.RowKit
set_option linter.unusedVariables false

def segO (o : Nat × Nat) : List Int := (o.1 : Int) :: (Oct.be8 (o.2 : Int)).drop (8 - fol o.1)
theorem opF_nm : ∀ op < 18, opF (nm op) 18 0 = ((op : Int), true) := by decide +kernel
theorem ba_ext {a b : ByteArray} (h : a.data.toList = b.data.toList) : a = b := by
  cases a with | mk x => cases b with | mk y =>
  exact congrArg ByteArray.mk (Array.toList_inj.1 h)
theorem pow_fol (op : Nat) : 256 ^ fol op = 2 ^ (8 * fol op) := by
  rw [Nat.pow_mul]
theorem pow_le (op : Nat) : 256 ^ fol op ≤ 18446744073709551616 := by
  rcases fol_in op with h | h | h | h <;> rw [h] <;> decide
end Go.Proofs.YtkilajobnlagbaaDoor
