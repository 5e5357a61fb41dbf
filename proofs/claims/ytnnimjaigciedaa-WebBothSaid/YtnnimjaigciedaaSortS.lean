/-
  slices.Sort of a row of one's own.
-/
import Derived.Test.YtnnimjaigciedaaWebRe
import Derived.Test.YtnnimjaigciedaaShelf
import Derived.Sort.OwnSortedInts
namespace Go.Proofs.Ytnnimjaigciedaa
open Go.RowKit
set_option linter.unusedVariables false
theorem sort_any (base g n c : Nat) (l : List Int) (w : World) (hl : l.length = n) (hn : n ≤ 1000) (h : w.ownsRow base 3 1 (.slice (some ⟨g, 0, none⟩) n c) n (ins l)) :
    Calls Try.prog 49 #[.slice (some ⟨g, 0, none⟩) n c] w fun e w' => e = .returned (.tuple #[]) ∧ w'.ownsRow base 3 1 (.slice (some ⟨g, 0, none⟩) n c) n (ins (l.mergeSort fun x y => decide (x ≤ y))) ∧ w.grownBy w' (some g) := by
  subst hl
  rcases h.2 with ⟨h1, _⟩ | ⟨g', cap, cur, hv, hb, hg, hnc, hcm, hcs, htk⟩
  · cases h1
  · injection hv with h1 h2 h3
    injection h1 with h1
    injection h1 with h1
    subst h1 h3
    have hlt : g < w.heap.size := by
      rcases Nat.lt_or_ge g w.heap.size with h2 | h2
      · exact h2
      · rw [Array.getElem?_eq_none h2] at hg; cases hg
    refine (Try.slices_Sort_int g 0 c l w (holds_of_blockI hg (by rw [Nat.mul_one] at htk; exact htk)) hlt (by omega)).mono ?_
    rintro e w' ⟨he, n, os, rfl⟩
    exact ⟨he, ownsRow_sortedI (List.length_mergeSort l) hb hg hnc hcm hcs, grownBy_sortedI _⟩
end Go.Proofs.Ytnnimjaigciedaa
