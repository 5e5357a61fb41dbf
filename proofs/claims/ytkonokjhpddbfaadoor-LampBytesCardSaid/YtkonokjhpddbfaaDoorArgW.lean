/-
  Arguments of zeros that fit (for 'there is an input that fits'), without working out 1024 cells one by one.
-/
import Derived.Test.YtkonokjhpddbfaaDoorArgG
namespace Go.Proofs.YtkonokjhpddbfaaDoor
open Go.ChangeShapes Go.WideShapes Go.ChangeAt Go.RowKit Go.Deep
set_option linter.unusedVariables false

theorem cell_ok (W : World) : Cell.okWideB Tryd.prog W 5 (.int .u8 0) = true := by kernel_rfl
theorem ct51 : Tryd.prog.cellTypes Tryd.prog.depth 51 = some (List.replicate 1024 5) := by kernel_rfl
theorem ct29 : Tryd.prog.cellTypes Tryd.prog.depth 29 = some (List.replicate 32 5) := by kernel_rfl
theorem row_ok (W : World) (t n : Nat) (hn : 0 < n) (ht : Tryd.prog.cellTypes Tryd.prog.depth t = some (List.replicate n 5)) : Cell.okWideRowB Tryd.prog W t (w8 (List.replicate n 0)).toArray = true := by
  unfold Cell.okWideRowB
  rw [ht]
  have hs : (w8 (List.replicate n 0)).toArray.size = n := by rw [List.size_toArray, w8_length, List.length_replicate]
  simp only [hs, List.length_replicate, Nat.mod_self, Bool.and_eq_true, List.all_eq_true, List.mem_range]
  refine ⟨rfl, fun i hi => ?_⟩
  have e1 : (w8 (List.replicate n 0)).toArray[i]? = some (.int .u8 0) := by
    rw [List.getElem?_toArray, w8_get _ _ (by rw [List.length_replicate]; exact hi)]
    simp [List.getD, hi]
  have e2 : (List.replicate n 5)[i % n]? = some 5 := by
    rw [List.getElem?_replicate, if_pos (Nat.mod_lt _ hn)]
  rw [e1, e2]
  exact cell_ok W
theorem sig_ok (W : World) : Value.okWideB Tryd.prog W 51 (.agg (w8 (List.replicate 1024 0)).toArray) = true := by
  unfold Value.okWideB
  rw [Tryd.underlying51]
  simp only [Bool.and_eq_true, beq_iff_eq]
  exact ⟨by rw [List.size_toArray, w8_length, List.length_replicate, cells51], row_ok W 51 1024 (by omega) ct51⟩
theorem sum_ok (W : World) : Value.okWideB Tryd.prog W 29 (.agg (w8 (List.replicate 32 0)).toArray) = true := by
  unfold Value.okWideB
  rw [Tryd.underlying29]
  simp only [Bool.and_eq_true, beq_iff_eq]
  exact ⟨by rw [List.size_toArray, w8_length, List.length_replicate]; kernel_rfl, row_ok W 29 32 (by omega) ct29⟩
/-- Two arguments that fit, of a function with two parameters. -/
theorem in_ok2 (W : World) (f : FuncId) (fn : Func) (v0 v1 : Value) (t0 t1 : TypeId) (hf : Tryd.prog.funcs[f]? = some fn) (hp : fn.params = #[t0, t1]) (hi : (Tryd.prog.inits.idxOf? f).isNone = true) (hb : fn.body.isSome = true) (ho : (!fn.ours) = true) (hn : (fn.nfree == 0) = true)
    (h0 : Value.okWideB Tryd.prog W t0 v0 = true) (h1 : Value.okWideB Tryd.prog W t1 v1 = true) : Input.okWideB Tryd.prog W f ⟨#[], #[v0, v1], []⟩ = true := by
  unfold Input.okWideB
  rw [hf]
  simp only [Bool.and_eq_true]
  refine ⟨⟨⟨rfl, rfl⟩, hi⟩, ⟨⟨⟨hb, ho⟩, hn⟩, by rw [hp]; rfl⟩, ?_⟩
  rw [hp]
  simp only [List.all_eq_true, List.mem_range]
  intro j hj
  have hj2 : j < 2 := hj
  match j, hj2 with
  | 0, _ => exact h0
  | 1, _ => exact h1
end Go.Proofs.YtkonokjhpddbfaaDoor
