/-
  More steps of regions that draw their order: a load, one spot laid as a slice, an append to a row of one's own, a slice stored in a field.
-/
import Derived.Test.YtnnimjaigciedaaWebA
import Derived.Test.YtnnimjaigciedaaStep2
namespace Go.Proofs.Ytnnimjaigciedaa
open Go.RowKit
set_option linter.unusedVariables false

theorem Blk.keep {w w' : World} {g : Nat} {t : TypeId} {cs : List Value} (h : Blk w g t cs) (hb : Below w.heap.size w w') : Blk w' g t cs := Blk.below h hb (Blk.lt h)
theorem ownsRow_far {w : World} {base : Nat} {e : TypeId} {size n : Nat} {v : Value} {xs : List Value} (h : w.ownsRow base e size v n xs) {p : Addr} (hp : p.block < base) (u : Value) : (w.setCell p u).ownsRow base e size v n xs := by
  refine ⟨h.1, ?_⟩
  rcases h.2 with h1 | ⟨g, cap, cur, hv, hb, hg, rest⟩
  · exact .inl h1
  · exact .inr ⟨g, cap, cur, hv, hb, (Below.heap_setCell w p u g (by omega)).trans hg, rest⟩
theorem ownBlock_ne {w : World} {base : Nat} {e : TypeId} {size n : Nat} {v : Value} {xs : List Value} (h : w.ownsRow base e size v n xs) {g : Nat} (hg : g < base) : some g ≠ v.ownBlock := by
  intro e
  have := (h.lt g e.symm).1
  omega

section
variable {ops : Array Oper} {o : Oper} {a : Act} {w : World} {K : Act → World → Prop} {Q : Exit → Act → World → Prop} {E : Prop}
theorem step_yield (hw : Region.wanted o (yielded ops a.tmps) = true) (v : Value) (he : (execOp a.eval o).run Try.prog w = .ok (.value v) w) (h : K (a.put o.dst v) w) :
    if Region.wanted o (yielded ops a.tmps) = true then Oper.wp Try.prog o a w K Q else E := by
  rw [if_pos hw]
  unfold Oper.wp
  rw [he]
  exact h

theorem step_lay1 (hw : Region.wanted o (yielded ops a.tmps) = true) (s : Operand) (ho : o.op = .buildSlice 28 1 #[(0, s)]) (x y : Int) (hs : a.eval s = .agg #[.int .i64 x, .int .i64 y])
    (h : ∀ Y g, Pt Y g 62 x y → Below w.heap.size w Y → K (a.put o.dst (.slice (some ⟨g, 0, none⟩) 1 1)) Y) :
    if Region.wanted o (yielded ops a.tmps) = true then Oper.wp Try.prog o a w K Q else E := by
  rw [if_pos hw]
  have hb : (Instr.buildSlice 28 1 #[(0, .agg #[.int .i64 x, .int .i64 y])]).run Try.prog w = .ok (.slice (some ⟨w.heap.size, 0, none⟩) 1 1) (w.alloc (.cells #[.int .i64 x, .int .i64 y] 62)) := by kernel_rfl
  have e : (execOp a.eval o).run Try.prog w = .ok (.value (.slice (some ⟨w.heap.size, 0, none⟩) 1 1)) (w.alloc (.cells #[.int .i64 x, .int .i64 y] 62)) := by
    unfold execOp
    simp only [ho, List.map_toArray, List.map_cons, List.map_nil, hs, Sem.run_bind, hb, Result.andThen_ok, Sem.run_pure]
  unfold Oper.wp
  rw [e]
  exact h _ _ (Pt.mk_ rfl) ((Below.refl _ _).alloc (Nat.le_refl _) _)

theorem step_app39 (hw : Region.wanted o (yielded ops a.tmps) = true) (s x : Operand) (ho : o.op = .call { callee := .builtin .append, args := #[s, x], argTypes := #[28, 28] })
    (base : Nat) (v : Value) (n : Nat) (xs : List Value) (hs : a.eval s = v) (hO : w.ownsRow base 62 2 v n xs) (g : Nat) (u z : Int) (hx : a.eval x = .slice (some ⟨g, 0, none⟩) 1 1) (hP : Pt w g 62 u z) (hn : n ≤ 1000) (hbase : base ≤ w.heap.size)
    (h : ∀ v' w', w'.ownsRow base 62 2 v' (n + 1) (xs ++ [.int .i64 u, .int .i64 z]) → w.grownBy w' v.ownBlock → K (a.put o.dst v') w') :
    if Region.wanted o (yielded ops a.tmps) = true then Oper.wp Try.prog o a w K Q else E := by
  rw [if_pos hw]
  obtain ⟨i0, hi, hz0, hz1, hz2⟩ := info_parts spot_info
  refine wp_append_own _ s x 28 ho base 62 i0 (.agg #[.int .i64 0, .int .i64 0]) 2 16 Try.underlying28 hi hz0 hz1 hz2 rfl (by decide) v n xs hs hO ⟨g, 0, none⟩ 1 1 [.int .i64 u, .int .i64 z] hx rfl ?_ ?_ ?_ ?_ hbase fun v' w' h1 h2 _ => h v' w' h1 h2
  · intro j t hj
    match j, hj with
    | 0, hj => simp at hj; subst hj; exact hP.c0
    | 1, hj => simp at hj; subst hj; exact hP.c1
  · intro t ht; simp at ht; rcases ht with rfl | rfl <;> rfl
  · unfold maxLen; omega
  · omega
end
end Go.Proofs.Ytnnimjaigciedaa
