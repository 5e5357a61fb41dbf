/-
  A program is the orders that its text tells.
-/
import Derived.Test.YtkilajobnlagbaaDoorCodEG
namespace Go.Proofs.YtkilajobnlagbaaDoor
open Go.RowKit
set_option linter.unusedVariables false

theorem map_data (L M : List ByteArray) (h : L.map (·.data.toList) = M.map (·.data.toList)) : L = M := by
  induction L generalizing M with
  | nil => cases M with
    | nil => rfl
    | cons b M => simp at h
  | cons a L ih => cases M with
    | nil => simp at h
    | cons b M =>
      simp only [List.map_cons, List.cons.injEq] at h
      rw [ba_ext h.1, ih M h.2]
theorem ordsV_nil : ordsV [] = (0, []) := by decide
theorem ordsV_zero (p : List Int) (h : (ordsV p).1 = 0) : (begF p (p.length + 1) 0 []).1 = 0 ∧ (ordsV p).2 = (begF p (p.length + 1) 0 []).2 := by
  unfold ordsV at h ⊢
  split at h
  · simp at h
  · rename_i h1
    rw [if_neg h1]
    split at h
    · rename_i h2
      exact absurd h h2
    · rename_i h2
      rw [if_neg h2]
      split at h
      · simp at h
      · rename_i h3
        rw [if_neg h3]
        exact ⟨by simpa using h2, rfl⟩
end Go.Proofs.YtkilajobnlagbaaDoor
