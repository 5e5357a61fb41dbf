/-
  What an Out's Sum answers (function 32), for whatever bytes the call itself made and whatever sums come: its bytes, and the sums' 32 bytes each behind them; of other memory nothing that was there is written.
-/
import Derived.Test.YtkilajobnlagbaaDoorOctNil
import Derived.Deep.MidRow
namespace Go.Proofs.YtkilajobnlagbaaDoor.Oct
open Go.RowKit
set_option linter.unusedVariables false

/-- A slice of sums (32 bytes each), read as a list of lists. -/
def Digs (w : World) (A : Option Addr) (ds : List (List Int)) : Prop :=
  (ds = [] ∨ ∃ b off, A = some ⟨b, off, none⟩ ∧ b < w.heap.size ∧ ∀ i, i < ds.length → w.rangeAt b (off + i * 32) (byt (ds.getD i []))) ∧ ∀ d ∈ ds, d.length = 32

theorem rangeAt_below {w w' : World} {b o : Nat} {cs : List Value} {B : Nat} (h : w.rangeAt b o cs) (hB : Below B w w') (hb : b < B) : w'.rangeAt b o cs := fun j v hv => by
  rw [hB.cell (p := ⟨b, o + j, none⟩) hb]
  exact h j v hv

theorem Digs.below {w w' : World} {A : Option Addr} {ds : List (List Int)} (h : Digs w A ds) (hB : Below w.heap.size w w') : Digs w' A ds := by
  refine ⟨?_, h.2⟩
  rcases h.1 with h1 | ⟨b, off, h1, h2, h3⟩
  · exact .inl h1
  · exact .inr ⟨b, off, h1, Nat.lt_of_lt_of_le h2 hB.size, fun i hi => rangeAt_below (h3 i hi) hB h2⟩

/-- The sums' bytes. -/
def digs (ds : List (List Int)) : List Int := ds.flatMap id

theorem digs_length (ds : List (List Int)) (h : ∀ d ∈ ds, d.length = 32) : (digs ds).length = 32 * ds.length := by
  induction ds with
  | nil => rfl
  | cons d r ih =>
    have h1 := ih fun d hd => h d (by simp [hd])
    have h2 := h d (by simp)
    simp [digs] at h1 ⊢
    omega

theorem digs_take (ds : List (List Int)) (k : Nat) (x : List Int) (hk : k < ds.length) (hx : ds.getD k [] = x) : digs (ds.take k) ++ x = digs (ds.take (k + 1)) := by
  have e : ds[k] = x := by rw [← hx]; simp [List.getD, hk]
  rw [List.take_succ_eq_append_getElem hk, e]
  simp [digs]

theorem dig_mem (ds : List (List Int)) (k : Nat) (x : List Int) (hk : k < ds.length) (hx : ds.getD k [] = x) : x ∈ ds := by
  rw [← hx]
  simp [List.getD, hk]

theorem Src.row (w : World) (t : TypeId) (l : List Int) : Src (w.alloc (.cells (byt l).toArray t)) (some ⟨w.heap.size, 0, none⟩) 32 l := by
  refine ⟨fun h => (by cases h), .inr ⟨w.heap.size, 0, rfl, by simp, fun i hi => ?_⟩⟩
  rw [Nat.zero_add, World.cell?_alloc_at _ _ _ _ rfl]
  simp [byt, List.getD, hi]

end Go.Proofs.YtkilajobnlagbaaDoor.Oct
