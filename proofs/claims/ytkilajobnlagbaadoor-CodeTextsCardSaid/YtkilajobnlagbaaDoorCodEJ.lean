/-
  The errors that the library's two variables hold.
-/
import Derived.Test.YtkilajobnlagbaaDoorCodEI
namespace Go.Proofs.YtkilajobnlagbaaDoor
open Go.RowKit Go.ChangeShapes
set_option linter.unusedVariables false

theorem gSyn : Tryd.prog.globalNamed "strconv.ErrSyntax" = some 3 := by kernel_rfl
theorem gRan : Tryd.prog.globalNamed "strconv.ErrRange" = some 4 := by kernel_rfl
theorem gSynT : (Tryd.prog.globals[3]?).map (·.type) = some 96 := by kernel_rfl
theorem gRanT : (Tryd.prog.globals[4]?).map (·.type) = some 96 := by kernel_rfl
theorem cells166 : Tryd.prog.cellsOf 166 = 1 := by kernel_rfl
theorem cells9 : Tryd.prog.cellsOf 9 = 1 := by kernel_rfl
theorem starE : "*" ++ "errors.errorString" = "*errors.errorString" := by decide
theorem row164 (u : TypeId) (h : Tryd.prog.typeName? 3 u = some "*errors.errorString") : u = 164 :=
  typeName_ptr_named (nm := "errors.errorString") (by rw [starE]; kernel_rfl) (by kernel_rfl) (by decide) u (by rw [starE]; exact h)
theorem ecells_of {W : World} (h : laidMetH Tryd.prog LL W) : ECell 3 W ∧ ECell 4 W := by
  have h4 := (laid_plain h)
  unfold LL at h4
  have hR := h4.tail.tail.tail.tail
  have hS := hR.tail
  obtain ⟨a, s, hv, _⟩ := laid_sentinel hR gRan gRanT Tryd.underlying96 row164 Tryd.underlying164 Tryd.underlying166 rfl rfl Tryd.underlying9 cells166 cells9
  obtain ⟨b, r, hw, _⟩ := laid_sentinel hS gSyn gSynT Tryd.underlying96 row164 Tryd.underlying164 Tryd.underlying166 rfl rfl Tryd.underlying9 cells166 cells9
  exact ⟨⟨_, by have h0 := World.var?_cell gSyn hw 0; simpa using h0, .inr ⟨_, _, rfl⟩⟩, ⟨_, by have h0 := World.var?_cell gRan hv 0; simpa using h0, .inr ⟨_, _, rfl⟩⟩⟩
end Go.Proofs.YtkilajobnlagbaaDoor
