/-
  Steps of regions that draw their order: a call, a new variable, a spot that is stored.
  The document's Nearest.
  Spots laid one by one behind each other; the nearest of some; sides.
  A new spot, and one that is stored, at steps of regions that draw their order, whatever block it is.
-/
import Derived.Test.YtnnimjaigciedaaM01
import Derived.Deep.DeepCutAuto
import Derived.Test.YtnnimjaigciedaaM03
import Derived.Deep.RegionWith
namespace Go.Proofs.Ytnnimjaigciedaa
open Go.RowKit
set_option linter.unusedVariables false

section
variable {ops : Array Oper} {o : Oper} {a : Act} {w : World} {K : Act → World → Prop} {Q : Exit → Act → World → Prop} {E : Prop}
theorem step_call (hw : Region.wanted o (yielded ops a.tmps) = true) (f : FuncId) (args : Array Operand) (tys : Array TypeId)
    (ho : o.op = .call { callee := .value (.func f), args := args, argTypes := tys }) (vs : Array Value) (hv : args.map a.eval = vs) {R : Ending → World → Prop} (hf : (callFunc f vs).run Try.prog w = .ok (.enter f vs) w) (hc : Calls Try.prog f vs w R)
    (hR : ∀ e w', R e w' → ∃ v, e = .returned v ∧ K (a.put o.dst v) w') :
    if Region.wanted o (yielded ops a.tmps) = true then Oper.wp Try.prog o a w K Q else E := by
  rw [if_pos hw]
  have e : (execOp a.eval o).run Try.prog w = .ok (.enter f vs) w := by
    unfold execOp
    simp only [ho]
    go_simp
    first | done | (rw [hv]; exact hf)
  unfold Oper.wp
  rw [e, Oper.upon_enter]
  refine hc.mono ?_
  intro e w' hr
  obtain ⟨v, rfl, hv⟩ := hR e w' hr
  exact hv

theorem step_new (hw : Region.wanted o (yielded ops a.tmps) = true) (t : TypeId) (ho : o.op = .alloc t)
    (cells : Array Value) (hb : (Instr.alloc t true (.tuple #[])).run Try.prog w = .ok (.pointer (some ⟨w.heap.size, 0, none⟩)) (w.alloc (.cells cells t)))
    (h : K (a.put o.dst (.pointer (some ⟨w.heap.size, 0, none⟩))) (w.alloc (.cells cells t))) :
    if Region.wanted o (yielded ops a.tmps) = true then Oper.wp Try.prog o a w K Q else E := by
  rw [if_pos hw]
  have e : (execOp a.eval o).run Try.prog w = .ok (.value (.pointer (some ⟨w.heap.size, 0, none⟩))) (w.alloc (.cells cells t)) := by
    unfold execOp
    simp only [ho, Sem.run_bind, hb, Result.andThen_ok, Sem.run_pure]
  unfold Oper.wp
  rw [e]
  exact h

theorem run_store24 (w : World) (g t : Nat) (x0 y0 x y : Int) (h : Pt w g t x0 y0) :
    (storeVar 62 ⟨g, 0, none⟩ (.agg #[.int .i64 x, .int .i64 y])).run Try.prog w = .ok () ((w.setCell ⟨g, 0, none⟩ (.int .i64 x)).setCell ⟨g, 1, none⟩ (.int .i64 y)) := by
  have k1 := h.c0
  have k2 := h.c1
  have k3 := h.f0
  have k4 := h.f1
  go_simp

theorem step_store24 (hw : Region.wanted o (yielded ops a.tmps) = true) (d s : Operand) (ho : o.op = .store 62 d s) (g t : Nat) (x0 y0 x y : Int) (hd : a.eval d = .pointer (some ⟨g, 0, none⟩)) (hs : a.eval s = .agg #[.int .i64 x, .int .i64 y]) (hP : Pt w g t x0 y0)
    (h : K (a.put o.dst undef) ((w.setCell ⟨g, 0, none⟩ (.int .i64 x)).setCell ⟨g, 1, none⟩ (.int .i64 y))) :
    if Region.wanted o (yielded ops a.tmps) = true then Oper.wp Try.prog o a w K Q else E := by
  rw [if_pos hw]
  unfold Oper.wp execOp
  simp only [ho, hd, hs, Instr.storeAt, Instr.sureAddr, Sem.run_bind, Sem.run_pure, Result.andThen_ok, run_store24 w g t x0 y0 x y hP]
  exact h
end
end Go.Proofs.Ytnnimjaigciedaa
namespace Go.Proofs.Ytnnimjaigciedaa
open Go.RowKit
set_option linter.unusedVariables false

end Go.Proofs.Ytnnimjaigciedaa
namespace Go.Proofs.Ytnnimjaigciedaa
open Go.RowKit
set_option linter.unusedVariables false

theorem spot_info : (Try.prog.info? 62).map (fun i => (i.zero, i.size, i.bytes)) = some (some (.agg #[.int .i64 0, .int .i64 0]), 2, 16) := by kernel_rfl

/-- The cells of spots. -/
def flat (l : List (Int × Int)) : List Value := l.flatMap fun f => [.int .i64 f.1, .int .i64 f.2]

theorem flat_snoc (l : List (Int × Int)) (k : Nat) (x : Int × Int) (hk : k < l.length) (hx : l.getD k (0, 0) = x) : flat (l.take k) ++ [.int .i64 x.1, .int .i64 x.2] = flat (l.take (k + 1)) := by
  have e : l[k] = x := by rw [← hx]; simp [List.getD, hk]
  rw [List.take_succ_eq_append_getElem hk, e]
  simp [flat]

theorem SpotRow.of_own {w : World} {base : Nat} {v : Value} {l : List (Int × Int)} (h : w.ownsRow base 62 2 v l.length (flat l)) : ∃ a c, v = .slice a l.length c ∧ SpotRow w a l := by
  have get : ∀ (l : List (Int × Int)) (i : Nat), i < l.length → (flat l)[i * 2]? = some (.int .i64 (l.getD i (0, 0)).1) ∧ (flat l)[i * 2 + 1]? = some (.int .i64 (l.getD i (0, 0)).2) := by
    intro l
    induction l with
    | nil => intro i hi; simp at hi
    | cons f r ih =>
      intro i hi
      have e : flat (f :: r) = .int .i64 f.1 :: .int .i64 f.2 :: flat r := by simp [flat]
      rw [e]
      cases i with
      | zero => simp
      | succ i =>
        have := ih i (by simpa using hi)
        rw [show (i + 1) * 2 = i * 2 + 1 + 1 by omega]
        simpa using this
  rcases h.2 with ⟨rfl, h0⟩ | ⟨g, c, cur, rfl, _, hg, _⟩
  · have : l = [] := List.eq_nil_of_length_eq_zero h0
    subst this
    exact ⟨none, 0, rfl, .inl rfl⟩
  · refine ⟨_, c, rfl, .inr ⟨g, 0, rfl, ?_, fun i hi => ?_⟩⟩
    · rcases Nat.lt_or_ge g w.heap.size with h2 | h2
      · exact h2
      · rw [Array.getElem?_eq_none h2] at hg; cases hg
    · rw [Nat.zero_add, h.cellAt (i * 2) (by omega), h.cellAt (i * 2 + 1) (by omega)]
      exact get l i hi

theorem ownsRow_keep {w w' : World} {base : Nat} {e : TypeId} {size n : Nat} {v : Value} {xs : List Value} (h : w.ownsRow base e size v n xs) (hB : Below w.heap.size w w') : w'.ownsRow base e size v n xs := by
  refine ⟨h.1, ?_⟩
  rcases h.2 with h1 | ⟨g, cap, cur, hv, hb, hg, rest⟩
  · exact .inl h1
  · have hlt : g < w.heap.size := by
      rcases Nat.lt_or_ge g w.heap.size with h2 | h2
      · exact h2
      · rw [Array.getElem?_eq_none h2] at hg; cases hg
    exact .inr ⟨g, cap, cur, hv, hb, (hB.block g hlt).trans hg, rest⟩

theorem Pt.grown {w w' : World} {g : Nat} {t : TypeId} {x y : Int} {r : Option Nat} (h : Pt w g t x y) (hb : w.grownBy w' r) (hg : some g ≠ r) : Pt w' g t x y := Blk.grown h hb hg

/-- How far the spots are. -/
def farAt (x y : Int) (l : List (Int × Int)) (k : Nat) : Int := farP x y (l.getD k (0, 0)).1 (l.getD k (0, 0)).2

/-- The nearest so far. -/
def Nears (x y : Int) (l : List (Int × Int)) (k : Nat) (best least : Int) : Prop :=
  (best = -1 ∧ ∀ j, j < k → farAt x y l j < 0) ∨ (∃ b : Nat, best = b ∧ b < k ∧ least = farAt x y l b ∧ 0 ≤ least ∧ ∀ j, j < k → 0 ≤ farAt x y l j → least ≤ farAt x y l j)

theorem nears_go (x y : Int) (l : List (Int × Int)) : ∀ (n k : Nat) (best least : Int), l.length - k = n → k ≤ l.length → Nears x y l k best least → ∃ le, Nears x y l l.length (nearGo x y (l.drop k) k best least) le := by
  intro n
  induction n with
  | zero =>
    intro k best least hn hk h
    obtain rfl : k = l.length := by omega
    rw [List.drop_eq_nil_of_le (Nat.le_refl _), nearGo]
    exact ⟨least, h⟩
  | succ n ih =>
    intro k best least hn hk h
    rw [drop_spot l k (by omega), nearGo]
    split
    · rename_i hc
      refine ih (k + 1) k _ (by omega) (by omega) (.inr ⟨k, rfl, by omega, rfl, hc.1, fun j hj h0 => ?_⟩)
      by_cases e : j = k
      · subst e; exact Int.le_refl _
      · rcases h with ⟨h1, h2⟩ | ⟨b, h1, h2, h3, h4, h5⟩
        · have := h2 j (by omega); omega
        · have := h5 j (by omega) h0
          have hf : farAt x y l k = farP x y (l.getD k (0, 0)).1 (l.getD k (0, 0)).2 := rfl
          rcases hc.2 with hc2 | hc2 <;> omega
    · rename_i hc
      refine ih (k + 1) best least (by omega) (by omega) ?_
      have hf : farAt x y l k = farP x y (l.getD k (0, 0)).1 (l.getD k (0, 0)).2 := rfl
      rcases h with ⟨h1, h2⟩ | ⟨b, h1, h2, h3, h4, h5⟩
      · refine .inl ⟨h1, fun j hj => ?_⟩
        by_cases e : j = k
        · subst e; rw [hf]; omega
        · exact h2 j (by omega)
      · refine .inr ⟨b, h1, by omega, h3, h4, fun j hj h0 => ?_⟩
        by_cases e : j = k
        · subst e; rw [hf] at h0 ⊢; omega
        · exact h5 j (by omega) h0

theorem near_best (x y : Int) (l : List (Int × Int)) (k : Nat) (hk : k < l.length) (h0 : 0 ≤ farAt x y l k) : ∃ b : Nat, nearP x y l = b ∧ b < l.length ∧ farAt x y l b ≤ farAt x y l k := by
  obtain ⟨le, h⟩ := nears_go x y l l.length 0 (-1) 0 (by omega) (by omega) (.inl ⟨rfl, fun j hj => by omega⟩)
  rcases h with ⟨h1, h2⟩ | ⟨b, h1, h2, h3, h4, h5⟩
  · have := h2 k hk; omega
  · refine ⟨b, h1, h2, ?_⟩
    have := h5 k hk h0
    omega

theorem near_range (x y : Int) (l : List (Int × Int)) : -1 ≤ nearP x y l ∧ nearP x y l < l.length := by
  obtain ⟨le, h⟩ := nears_go x y l l.length 0 (-1) 0 (by omega) (by omega) (.inl ⟨rfl, fun j hj => by omega⟩)
  have e : nearP x y l = nearGo x y (l.drop 0) 0 (-1) 0 := rfl
  rw [← e] at h
  rcases h with ⟨h1, h2⟩ | ⟨b, h1, h2, _⟩ <;> omega

theorem cross_neg (a b c d x y : Int) : crossP c d a b x y = -(crossP a b c d x y) := by
  unfold crossP
  simp only [Int.sub_mul, Int.mul_sub]
  simp only [Int.mul_comm]
  omega

theorem side_neg2 (a b c d x y : Int) : sideP c d a b x y = -(sideP a b c d x y) := by
  unfold sideP
  rw [cross_neg]
  by_cases h : On a b ∧ On c d ∧ On x y
  · rw [if_pos h, if_pos ⟨h.2.1, h.1, h.2.2⟩]
    generalize crossP a b c d x y = t
    split <;> split <;> (try split) <;> (try split) <;> omega
  · rw [if_neg h, if_neg (fun k => h ⟨k.2.1, k.1, k.2.2⟩)]
    rfl

theorem side_range (a b c d x y : Int) : -1 ≤ sideP a b c d x y ∧ sideP a b c d x y ≤ 1 := by
  unfold sideP
  split
  · split
    · omega
    · split <;> omega
  · omega
end Go.Proofs.Ytnnimjaigciedaa
namespace Go.Proofs.Ytnnimjaigciedaa
open Go.RowKit
set_option linter.unusedVariables false

section
variable {ops : Array Oper} {o : Oper} {a : Act} {w : World} {K : Act → World → Prop} {Q : Exit → Act → World → Prop} {E : Prop}
/-- A new spot in slot k: whatever its block is. -/
theorem step_spot (k : Nat) (hw : Region.wanted o (yielded ops a.tmps) = true) (ho : o.op = .alloc 62) (hk : o.dst = some k)
    (h : ∀ X g, Pt X g 62 0 0 → w.heap.size ≤ g → Below w.heap.size w X → K (a.put o.dst (.pointer (some ⟨g, 0, none⟩))) X) :
    if Region.wanted o (yielded ops a.tmps) = true then Oper.wp Try.prog o a w K Q else E :=
  step_new hw 62 ho #[.int .i64 0, .int .i64 0] (by kernel_rfl) (h _ _ (Pt.mk_ rfl) (Nat.le_refl _) ((Below.refl _ _).alloc (Nat.le_refl _) _))

/-- What a store into block g leaves. -/
structure Stored (w X : World) (g : Nat) : Prop where
  far : ∀ g' t x y, g' ≠ g → Pt w g' t x y → Pt X g' t x y
  up : ∀ B v, B ≤ g → Below B v w → Below B v X

theorem step_keep (k : Nat) (hw : Region.wanted o (yielded ops a.tmps) = true) (s : Operand) (ho : o.op = .store 62 (.tmp k) s) (g t : Nat) (x0 y0 x y : Int) (hd : a.eval (.tmp k) = .pointer (some ⟨g, 0, none⟩)) (hs : a.eval s = .agg #[.int .i64 x, .int .i64 y]) (hP : Pt w g t x0 y0)
    (h : ∀ X, Pt X g t x y → Stored w X g → K (a.put o.dst undef) X) :
    if Region.wanted o (yielded ops a.tmps) = true then Oper.wp Try.prog o a w K Q else E :=
  step_store24 hw (.tmp k) s ho g t x0 y0 x y hd hs hP (h _ (hP.set x y) ⟨fun g' t' x' y' hn hp => hp.far hn _ _, fun B v hB hb => (hb.setCell hB _).setCell hB _⟩)
end
end Go.Proofs.Ytnnimjaigciedaa
