/-
  A text's lines, one behind the other.
-/
import Derived.Test.YtkilajobnlagbaaDoorCodFD
namespace Go.Proofs.YtkilajobnlagbaaDoor
open Go.RowKit
set_option linter.unusedVariables false

/-- The lines of what is left. -/
def segs (l : List UInt8) : List (List UInt8) := Lib.splitK [10] 0 (l.count 10) l
theorem segs_out (l : List UInt8) (h : (10 : UInt8) ∉ l) : segs l = [l] := by
  unfold segs
  rw [List.count_eq_zero.2 h]
  rfl
theorem segs_in (a r : List UInt8) (h : (10 : UInt8) ∉ a) : segs (a ++ 10 :: r) = a :: segs r := by
  unfold segs
  rw [List.count_append, List.count_cons_self, List.count_eq_zero.2 h, Nat.zero_add, Lib.splitK, idx_in 10 a r h, if_neg (by rw [beq_iff_eq]; omega)]
  simp only [Int.toNat_natCast, Nat.add_zero, List.length_cons, List.length_nil, Nat.zero_add]
  rw [List.take_left' rfl, show a ++ 10 :: r = (a ++ [10]) ++ r by simp, List.drop_left' (by simp)]
theorem lines_segs (t : ByteArray) : (linesT t).map (·.data.toList) = segs t.data.toList := by
  unfold linesT segs
  rw [Lib.splitB_data]
  show Lib.splitK [10] 0 (Lib.count t.data.toList [10]) t.data.toList = _
  rw [Lib.count_one]
/-- A line ends at place i: it is what lies from 'fr' to i. -/
theorem segs_at (l : List UInt8) (fr i : Nat) (hf : fr ≤ i) (hi : i < l.length) (h : l[i] = 10) (hn : (10 : UInt8) ∉ (l.drop fr).take (i - fr)) : segs (l.drop fr) = (l.drop fr).take (i - fr) :: segs (l.drop (i + 1)) := by
  have e : l.drop fr = (l.drop fr).take (i - fr) ++ 10 :: l.drop (i + 1) := by
    have h1 : l.drop i = 10 :: l.drop (i + 1) := by rw [List.drop_eq_getElem_cons hi, h]
    have h2 : (l.drop fr).drop (i - fr) = l.drop i := by rw [List.drop_drop]; congr 1; omega
    rw [← h1, ← h2]
    exact (List.take_append_drop _ _).symm
  have := segs_in _ (l.drop (i + 1)) hn
  rw [← e] at this
  exact this
theorem segs_end (l : List UInt8) (fr : Nat) (hf : fr ≤ l.length) (hn : (10 : UInt8) ∉ (l.drop fr).take (l.length - fr)) : segs (l.drop fr) = [(l.drop fr).take (l.length - fr)] := by
  have e : (l.drop fr).take (l.length - fr) = l.drop fr := List.take_of_length_le (by rw [List.length_drop]; omega)
  rw [e] at hn ⊢
  exact segs_out _ hn
theorem noten_step (l : List UInt8) (fr i : Nat) (hf : fr ≤ i) (hi : i < l.length) (h : l[i] ≠ 10) (hn : (10 : UInt8) ∉ (l.drop fr).take (i - fr)) : (10 : UInt8) ∉ (l.drop fr).take (i + 1 - fr) := by
  have hd : i - fr < (l.drop fr).length := by rw [List.length_drop]; omega
  rw [show i + 1 - fr = (i - fr) + 1 by omega, List.take_succ_eq_append_getElem hd]
  intro hm
  rcases List.mem_append.1 hm with hm | hm
  · exact hn hm
  · rw [List.mem_singleton, List.getElem_drop] at hm
    apply h
    rw [hm]
    congr 1
    omega
end Go.Proofs.YtkilajobnlagbaaDoor
