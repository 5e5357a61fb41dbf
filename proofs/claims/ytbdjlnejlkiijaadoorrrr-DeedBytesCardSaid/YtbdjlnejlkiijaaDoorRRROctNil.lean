/-
  What a nil In answers (octet): zeros and empty lists, and ErrNil where it answers an error; memory that was there stays as it was.
-/
import Derived.Test.YtbdjlnejlkiijaaDoorRRROctAwake
import Derived.Deep.RegionHeld3
import Derived.Deep.WholeRow
namespace Go.Proofs.YtbdjlnejlkiijaaDoorRRR.Oct
open Go.RowKit
set_option linter.unusedVariables false

theorem copy_none (a : Option Addr) (n c : Nat) (w : World) : (Builtin.copy_ #[35, 35] 3 #[.slice a n c, .slice none 0 0]).run Tryd.prog w = .ok (.int .i64 0) w := by
  obtain ⟨i0, hi, hz0, hz1, hz2⟩ := info_parts byte_info
  cases a <;> simp [Builtin.copy_, run_underlying Tryd.underlying35, sizeOf, typeInfo, hi, Builtin.lenOf, Builtin.firstCells, storeCells] <;> rfl

theorem make_none (w : World) : (Instr.makeSlice 35 (.int .i64 0) (.int .i64 0)).run Tryd.prog w = .ok (.slice (some ⟨w.heap.size, 0, none⟩) 0 0) (w.alloc (.cells #[] 5)) := by kernel_rfl

/-- A sum that is zero. -/
def zeros : Array Value := Array.replicate 32 (.int .u8 0)
theorem zeros_lit : (#[.int .u8 0, .int .u8 0, .int .u8 0, .int .u8 0, .int .u8 0, .int .u8 0, .int .u8 0, .int .u8 0, .int .u8 0, .int .u8 0, .int .u8 0, .int .u8 0, .int .u8 0, .int .u8 0, .int .u8 0, .int .u8 0, .int .u8 0, .int .u8 0, .int .u8 0, .int .u8 0, .int .u8 0, .int .u8 0, .int .u8 0, .int .u8 0, .int .u8 0, .int .u8 0, .int .u8 0, .int .u8 0, .int .u8 0, .int .u8 0, .int .u8 0, .int .u8 0] : Array Value) = zeros := rfl

end Go.Proofs.YtbdjlnejlkiijaaDoorRRR.Oct
