/-
  Some parts that came in, and what stays of a mill behind what is written elsewhere.
-/
import Derived.Test.YtbdjlnejlkiijaaDoorRRREq
namespace Go.Proofs.YtbdjlnejlkiijaaDoorRRR
open Go.RowKit
set_option linter.unusedVariables false

theorem Rep.below {w w' : World} {b : Nat} {l bs : List Nat} (h : Rep w b l bs) (hB : Below w.heap.size w w') : Rep w' b l bs := ⟨h.blk.below hB h.blk.lt, h.len, h.lt, h.rest⟩
theorem Rep.far {w w' : World} {b : Nat} {l bs : List Nat} {r : Option Nat} (h : Rep w b l bs) (hB : w.grownBy w' r) (hr : r ≠ some b) : Rep w' b l bs := ⟨h.blk.grown hB (fun e => hr e.symm), h.len, h.lt, h.rest⟩
theorem Tab.far {w w' : World} {r : Option Nat} (h : Tab w) (hB : w.grownBy w' r) (hr : r ≠ some 0) : Tab w' := fun j v hv => by
  rw [← h j v hv]
  exact World.cell?_of_block (hB.block 0 h.lt (fun e => hr e.symm))

/-- Some parts that came in. -/
structure Came (W : World) (A : Option Addr) (m : Nat) (ps : List (List Nat)) : Prop where
  parts : Parts W W.heap.size A ps
  len : ps.length = m
  most : m ≤ 5864062014805
  each : ∀ p ∈ ps, p.length ≤ 140737488355328 ∧ ∀ x ∈ p, x < 256

theorem Came.total {W : World} {A : Option Addr} {m : Nat} {ps : List (List Nat)} (h : Came W A m ps) (k : Nat) (hk : k ≤ m) : (ps.take k).flatten.length ≤ k * 140737488355328 := by
  induction k with
  | zero => simp
  | succ k ih =>
    have hkp : k < ps.length := by rw [h.len]; omega
    have := ih (by omega)
    rw [flatten_take ps k hkp, List.length_append]
    have h2 := (h.each (ps.getD k []) (by simp [List.getD, hkp])).1
    omega

theorem Came.at_ {W wr : World} {A : Option Addr} {m : Nat} {ps : List (List Nat)} (h : Came W A m ps) (hB : Below W.heap.size W wr) (k : Nat) (hk : k < m) :
    ∃ g off Ai ci, A = some ⟨g, off, none⟩ ∧ g < wr.heap.size ∧ g < W.heap.size ∧ wr.cell? ⟨g, off + k, none⟩ = some (.slice Ai (ps.getD k []).length ci) ∧ ci ≤ 9223372036854775807 ∧ Src wr W.heap.size Ai ci (ps.getD k []) ∧ (ps.take (k + 1)).flatten = (ps.take k).flatten ++ ps.getD k [] ∧ (ps.getD k []).length ≤ 140737488355328 ∧ ∀ B, W.heap.size ≤ B → Src wr B Ai ci (ps.getD k []) := by
  have hkp : k < ps.length := by rw [h.len]; exact hk
  rcases h.parts.at_ with h0 | ⟨g, off, rfl, hg, hgb, hc⟩
  · rw [h0] at hkp
    simp at hkp
  obtain ⟨Ai, ci, hcell, hci, hsrc⟩ := hc k hkp
  refine ⟨g, off, Ai, ci, rfl, Nat.lt_of_lt_of_le hg hB.size, hg, by rw [hB.cell (p := ⟨g, off + k, none⟩) hg]; exact hcell, hci, hsrc.below hB, flatten_take ps k hkp, (h.each _ (by simp [List.getD, hkp])).1, fun B hBB => (hsrc.new hBB).below hB⟩

theorem neq_same (l : List Nat) (h : l.length = 32) (w : World) : (binOp .neq 52 (.agg (w8 l).toArray) (.agg (w8 l).toArray)).run Tryd.prog w = .ok (.bool false) w := by
  rw [neq_row Tryd.underlying52 l l h h]
  simp
theorem eql_same (l : List Nat) (h : l.length = 32) (w : World) : (binOp .eql 52 (.agg (w8 l).toArray) (.agg (w8 l).toArray)).run Tryd.prog w = .ok (.bool true) w := by
  rw [eql_row Tryd.underlying52 l l h h]
  simp
theorem zero25 (w : World) : (zeroValue 52).run Tryd.prog w = .ok (.agg (w8 noSum).toArray) w := by
  have h := Tryd.zeroValue52 w
  rw [h]
  rfl

end Go.Proofs.YtbdjlnejlkiijaaDoorRRR
