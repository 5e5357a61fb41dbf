/-
  Signatures of nothing that fit (for 'there is an input that fits').
-/
import Derived.Test.YtkonokjhpddbfaaDoorGF
import Derived.Test.YtkonokjhpddbfaaDoorRngT
import Derived.Test.YtkonokjhpddbfaaDoorGH
namespace Go.Proofs.YtkonokjhpddbfaaDoor
open Go.ChangeShapes Go.WideShapes Go.ChangeAt Go.RowKit Go.Deep
set_option linter.unusedVariables false

theorem ct99 : Tryd.prog.cellTypes Tryd.prog.depth 99 = some (List.replicate 1024 5 ++ [38, 22]) := by kernel_rfl
theorem rsig_ok (W : World) : Value.okWideB Tryd.prog W 99 (.agg zsig.toArray) = true := by
  unfold Value.okWideB
  rw [Tryd.underlying99]
  simp only [Bool.and_eq_true, beq_iff_eq]
  refine ⟨by rw [List.size_toArray, zsig_length, cells99], ?_⟩
  unfold Cell.okWideRowB
  rw [ct99]
  have hs : zsig.toArray.size = 1026 := by rw [List.size_toArray, zsig_length]
  have hl : (List.replicate 1024 (5 : TypeId) ++ [38, 22]).length = 1026 := by rw [List.length_append, List.length_replicate]; rfl
  simp only [hs, hl, Nat.mod_self, Bool.and_eq_true, List.all_eq_true, List.mem_range]
  refine ⟨rfl, fun i hi => ?_⟩
  rw [Nat.mod_eq_of_lt hi]
  rcases (show i < 1024 ∨ i = 1024 ∨ i = 1025 by omega) with h | rfl | rfl
  · have e1 : zsig.toArray[i]? = some (.int .u8 0) := by
      rw [List.getElem?_toArray]
      unfold zsig rsg
      rw [List.getElem?_append_left (by rw [w8_length, List.length_replicate]; exact h), w8_get _ _ (by rw [List.length_replicate]; exact h)]
      rw [List.getD_eq_getElem?_getD, List.getElem?_replicate, if_pos h]
      rfl
    have e2 : (List.replicate 1024 (5 : TypeId) ++ [38, 22])[i]? = some 5 := by
      rw [List.getElem?_append_left (by rw [List.length_replicate]; exact h), List.getElem?_replicate, if_pos h]
    rw [e1, e2]
    exact cell_ok W
  · have e1 : zsig.toArray[1024]? = some (.int .u32 0) := by
      rw [List.getElem?_toArray]
      exact rsg_key (List.replicate 1024 0) 0 _ List.length_replicate
    have e2 : (List.replicate 1024 (5 : TypeId) ++ [38, 22])[1024]? = some 38 := by
      rw [List.getElem?_append_right (by rw [List.length_replicate]; omega), List.length_replicate]; rfl
    rw [e1, e2]
    exact (show Cell.okWideB Tryd.prog W 38 (.int .u32 0) = true by kernel_rfl)
  · have e1 : zsig.toArray[1025]? = some (.slice none 0 0) := by
      rw [List.getElem?_toArray]
      exact rsg_way (List.replicate 1024 0) 0 _ List.length_replicate
    have e2 : (List.replicate 1024 (5 : TypeId) ++ [38, 22])[1025]? = some 22 := by
      rw [List.getElem?_append_right (by rw [List.length_replicate]; omega), List.length_replicate]; rfl
    rw [e1, e2]
    exact (show Cell.okWideB Tryd.prog W 22 (.slice none 0 0) = true by kernel_rfl)
end Go.Proofs.YtkonokjhpddbfaaDoor
