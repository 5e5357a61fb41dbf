/-
  A new spot, and one that is stored, at steps of regions that draw their order, whatever block it is.
-/
import Derived.Test.YtnnimjaigciedaaStep
namespace Go.Proofs.Ytnnimjaigciedaa
open Go.RowKit
set_option linter.unusedVariables false

section
variable {ops : Array Oper} {o : Oper} {a : Act} {w : World} {K : Act → World → Prop} {Q : Exit → Act → World → Prop} {E : Prop}
/-- A new spot in slot k: whatever its block is. -/
theorem step_spot (k : Nat) (hw : Region.wanted o (yielded ops a.tmps) = true) (ho : o.op = .alloc 62) (hk : o.dst = some k)
    (h : ∀ X g, Pt X g 62 0 0 → w.heap.size ≤ g → Below w.heap.size w X → K (a.put o.dst (.pointer (some ⟨g, 0, none⟩))) X) :
    if Region.wanted o (yielded ops a.tmps) = true then Oper.wp Try.prog o a w K Q else E :=
  step_new hw 62 ho #[.int .i64 0, .int .i64 0] (by kernel_rfl) (h _ _ (Pt.mk_ rfl) (Nat.le_refl _) ((Below.refl _ _).alloc (Nat.le_refl _) _))

/-- What a store into block g leaves. -/
structure Stored (w X : World) (g : Nat) : Prop where
  far : ∀ g' t x y, g' ≠ g → Pt w g' t x y → Pt X g' t x y
  up : ∀ B v, B ≤ g → Below B v w → Below B v X

theorem step_keep (k : Nat) (hw : Region.wanted o (yielded ops a.tmps) = true) (s : Operand) (ho : o.op = .store 62 (.tmp k) s) (g t : Nat) (x0 y0 x y : Int) (hd : a.eval (.tmp k) = .pointer (some ⟨g, 0, none⟩)) (hs : a.eval s = .agg #[.int .i64 x, .int .i64 y]) (hP : Pt w g t x0 y0)
    (h : ∀ X, Pt X g t x y → Stored w X g → K (a.put o.dst undef) X) :
    if Region.wanted o (yielded ops a.tmps) = true then Oper.wp Try.prog o a w K Q else E :=
  step_store24 hw (.tmp k) s ho g t x0 y0 x y hd hs hP (h _ (hP.set x y) ⟨fun g' t' x' y' hn hp => hp.far hn _ _, fun B v hB hb => (hb.setCell hB _).setCell hB _⟩)
end
end Go.Proofs.Ytnnimjaigciedaa
