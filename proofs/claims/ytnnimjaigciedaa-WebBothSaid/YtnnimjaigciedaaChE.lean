/-
  The document's Turn.
-/
import Derived.Test.YtnnimjaigciedaaChD
namespace Go.Proofs.Ytnnimjaigciedaa
open Go.RowKit
set_option linter.unusedVariables false
theorem tmod4_pos {n : Int} (h : 0 ≤ n.tmod 4) : n.tmod 4 = n % 4 := by
  rw [Int.tmod_eq_emod] at h ⊢
  split at h <;> rename_i h1
  · rw [if_pos h1]; omega
  · exfalso; simp at h1 h; omega
theorem tmod4_neg {n : Int} (h : n.tmod 4 < 0) : n.tmod 4 + 4 = n % 4 := by
  rw [Int.tmod_eq_emod] at h ⊢
  split at h <;> rename_i h1
  · exfalso; omega
  · rw [if_neg h1]; simp

end Go.Proofs.Ytnnimjaigciedaa
