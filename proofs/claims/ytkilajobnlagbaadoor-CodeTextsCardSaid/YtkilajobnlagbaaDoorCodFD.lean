/-
  The document's Num: a number's last bytes are the order's.
-/
import Derived.Test.YtkilajobnlagbaaDoorCodFC
import Derived.Test.YtkilajobnlagbaaDoorOctRefNum
namespace Go.Proofs.YtkilajobnlagbaaDoor
open Go.RowKit
set_option linter.unusedVariables false

theorem numV_drop (F u : Nat) (hF : F = 0 ∨ F = 1 ∨ F = 2 ∨ F = 8) (hu : u < 256 ^ F) : Oct.numV F (u : Int) = (Oct.be8 (u : Int)).drop (8 - F) := by
  rcases hF with h | h | h | h <;> subst h
  · rfl
  · simp only [Oct.numV, Oct.be8, Oct.be4, List.cons_append, List.nil_append, List.drop_succ_cons, List.drop_zero, List.cons.injEq, and_true]
    omega
  · simp only [Oct.numV, Oct.be8, Oct.be4, List.cons_append, List.nil_append, List.drop_succ_cons, List.drop_zero, List.cons.injEq, and_true]
    simp at hu
    omega
  · simp only [Oct.numV, Oct.be8, Oct.be4, List.cons_append, List.nil_append, List.drop_zero, Nat.sub_self, List.cons.injEq, and_true]
    simp at hu
    omega
/-- Where the first blank lies, or the end. -/
def spAt : List UInt8 → Nat
  | [] => 0
  | b :: r => if b = 32 then 0 else spAt r + 1
theorem spAt_le : ∀ l : List UInt8, spAt l ≤ l.length
  | [] => Nat.le_refl _
  | b :: r => by
    unfold spAt
    have := spAt_le r
    split <;> simp <;> omega
theorem spAt_step (l : List UInt8) (i : Nat) (h : i < l.length) : i + spAt (l.drop i) = if l[i] = 32 then i else (i + 1) + spAt (l.drop (i + 1)) := by
  rw [List.drop_eq_getElem_cons h, spAt]
  split
  · omega
  · omega
/-- Cutting at the first blank is the library's Cut. -/
theorem cut_spAt : ∀ l : List UInt8, Lib.cut l [32] = if spAt l < l.length then (l.take (spAt l), l.drop (spAt l + 1), true) else (l, [], false)
  | [] => rfl
  | b :: r => by
    have ih := cut_spAt r
    by_cases hb : b = 32
    · subst hb
      have := cut_in 32 [] r (by simp)
      rw [List.nil_append] at this
      rw [this]
      simp [spAt]
    · have hs : spAt (b :: r) = spAt r + 1 := by simp [spAt, hb]
      rw [hs]
      by_cases hc : spAt r < r.length
      · rw [if_pos hc] at ih
        rcases cut_inv 32 r with ⟨h1, h2⟩ | ⟨h1, _⟩
        · rw [ih] at h2
          simp only at h2
          rw [if_pos (by simp; omega)]
          have hn : (32 : UInt8) ∉ r.take (spAt r) := by
            intro hm
            exact spAt_none r hm
          have := cut_in 32 (b :: r.take (spAt r)) (r.drop (spAt r + 1)) (by
            intro hm
            rcases List.mem_cons.1 hm with hm | hm
            · exact hb hm.symm
            · exact hn hm)
          rw [List.cons_append, ← h2] at this
          rw [this]
          simp
        · rw [ih] at h1
          cases h1
      · rw [if_neg hc] at ih
        rcases cut_inv 32 r with ⟨h1, _⟩ | ⟨h1, h2⟩
        · rw [ih] at h1
          cases h1
        · rw [if_neg (by simp; omega)]
          refine cut_out 32 (b :: r) ?_
          intro hm
          rcases List.mem_cons.1 hm with hm | hm
          · exact hb hm.symm
          · exact spAt_none r (by rw [List.take_of_length_le (by omega)]; exact hm)
where
  spAt_none : ∀ l : List UInt8, (32 : UInt8) ∉ l.take (spAt l)
    | [] => by simp
    | b :: r => by
      unfold spAt
      split
      · simp
      · rename_i hb
        rw [List.take_succ_cons]
        intro hm
        rcases List.mem_cons.1 hm with hm | hm
        · exact hb hm.symm
        · exact spAt_none r hm
end Go.Proofs.YtkilajobnlagbaaDoor
