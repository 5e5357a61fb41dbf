/-
  What a walk is told of a slice of integers that came in, and what it makes of it: a list of numbers that are read.
-/
import Derived.Test.YtkiifjkcpangfaaSum
import Derived.ProofKit
import Derived.OpenShut
import Derived.ShutString
import Derived.ChangeOld
namespace Go.Proofs.Ytkiifjkcpangfaa
open Go.ChangeShapes Go.WideShapes Go.ChangeAt Go.RowKit
set_option linter.unusedVariables false

theorem word_wf {x : Int} (h : (Lit.int .u64 x).wf = true) : Word x := by
  simp [Lit.wf, IntKind.min, IntKind.max, IntKind.signed, IntKind.bits] at h
  exact ⟨by omega, by omega⟩

/-- A slice of integers that came in: it is nil; or it leads to a row of so many cells as it has room, each number fitting its kind. -/
def IsRow (k : IntKind) (w : World) (a : Option Addr) (len cap : Nat) (zs : List Int) : Prop :=
  (a = none ∧ len = 0 ∧ cap = 0 ∧ zs = []) ∨
  ∃ x, a = some x ∧ len ≤ cap ∧ cap ≤ maxLen ∧ zs.length = cap ∧ (∀ i, i < zs.length → w.cell? (x.add i) = some (.int k (zs.getD i 0))) ∧ ∀ n ∈ zs, (Lit.int k n).wf = true

theorem IsRow.nums {w : World} {a : Option Addr} {len cap : Nat} {zs : List Int} (h : IsRow .u64 w a len cap zs) : ∃ xs : List Int, xs.length = len ∧ Nums w a xs := by
  rcases h with ⟨rfl, rfl, rfl, rfl⟩ | ⟨x, rfl, hl, hm, hz, hc, hw⟩
  · exact ⟨[], rfl, .inl rfl, by simp, by simp⟩
  · refine ⟨zs.take len, by simp; omega, ?_, fun n hn => word_wf (hw n (List.mem_of_mem_take hn)), ?_⟩
    · by_cases h0 : len = 0
      · subst h0; exact .inl (by simp)
      · obtain ⟨b, off, rfl, hc'⟩ := ints_at hc (by omega)
        right
        refine ⟨b, off, rfl, ?_, ?_⟩
        · exact World.block_lt_of_cell? _ (a := ⟨b, off + 0, none⟩) (hc' 0 (by omega))
        · intro i hi
          have hi' : i < zs.length ∧ i < len := by simp at hi; omega
          rw [hc' i hi'.1]
          simp [List.getD, hi'.2]
    · unfold maxLen at hm
      simp
      omega
end Go.Proofs.Ytkiifjkcpangfaa
