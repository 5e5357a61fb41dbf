/-
  Rows of words that a call itself made (slices of uint64), and what is laid behind them.
-/
import Derived.Test.YtbdjlnejlkiijaaDoorRRRRight
import Derived.Test.YtbdjlnejlkiijaaDoorRRREq
import Derived.Deep.RegionHeld3
import Derived.Deep.AppendLies
namespace Go.Proofs.YtbdjlnejlkiijaaDoorRRR
open Go.RowKit
set_option linter.unusedVariables false

def w64 (l : List Nat) : List Value := l.map fun (x : Nat) => Value.int .u64 (x : Int)
theorem w64_length (l : List Nat) : (w64 l).length = l.length := by simp [w64]
theorem w64_one (l : List Nat) : ∀ v ∈ w64 l, v.oneCell' = true := by intro v hv; obtain ⟨n, _, rfl⟩ := List.mem_map.1 hv; rfl
theorem w64_get (l : List Nat) (i : Nat) (h : i < l.length) : (w64 l)[i]? = some (.int .u64 ((l.getD i 0 : Nat) : Int)) := by simp [w64, List.getD, h]
theorem w64_set (l : List Nat) (k x : Nat) : w64 (l.set k x) = (w64 l).set k (.int .u64 (x : Int)) := by simp [w64, List.map_set]
theorem info57 : (Tryd.prog.info? 23).map (fun i => (i.zero, i.size, i.bytes)) = some (some (.int .u64 0), 1, 8) := by kernel_rfl

/-- A slice of words that the call itself made. -/
def Own64 (w : World) (base : Nat) (v : Value) (l : List Nat) : Prop := w.ownsRow base 23 1 v l.length (w64 l)
theorem Own64.nil (w : World) (base : Nat) : Own64 w base (.slice none 0 0) [] := World.ownsRow_nil w base 23 1
theorem Own64.alloc {w : World} {base : Nat} {v : Value} {l : List Nat} (h : Own64 w base v l) (o : Obj) : Own64 (w.alloc o) base v l := World.ownsRow.alloc h o
theorem Own64.below {w w' : World} {base : Nat} {v : Value} {l : List Nat} (h : Own64 w base v l) (hB : Below w.heap.size w w') : Own64 w' base v l := by
  refine ⟨h.1, ?_⟩
  rcases h.2 with h1 | ⟨g, cap, cur, hv, hb, hg, rest⟩
  · exact .inl h1
  · have hlt : g < w.heap.size := by
      rcases Nat.lt_or_ge g w.heap.size with h2 | h2
      · exact h2
      · rw [Array.getElem?_eq_none h2] at hg; cases hg
    exact .inr ⟨g, cap, cur, hv, hb, (hB.block g hlt).trans hg, rest⟩
theorem Own64.form {w : World} {base : Nat} {v : Value} {l : List Nat} (h : Own64 w base v l) (hl : 0 < l.length) : ∃ g c, v = .slice (some ⟨g, 0, none⟩) l.length c ∧ base ≤ g ∧ g < w.heap.size ∧ l.length ≤ c ∧ c ≤ 9223372036854775807 ∧ (∀ i, i < l.length → w.cell? ⟨g, i, none⟩ = some (.int .u64 ((l.getD i 0 : Nat) : Int))) ∧ ∀ i, w.frozen? ⟨g, i, none⟩ = false := by
  rcases h.2 with ⟨_, h0⟩ | ⟨g, c, cur, rfl, hb, hg, hn, hc, _⟩
  · omega
  · have hlt : g < w.heap.size := by
      rcases Nat.lt_or_ge g w.heap.size with h2 | h2
      · exact h2
      · rw [Array.getElem?_eq_none h2] at hg; cases hg
    exact ⟨g, c, rfl, hb, hlt, hn, by unfold maxLen at hc; exact hc, fun i hi => by rw [World.ownsRow.cellAt h i (by omega), w64_get l i hi], fun i => World.ownsRow.frozenAt h i⟩

theorem run_app64 (w : World) (base : Nat) (ty : TypeId) (v : Value) (W : List Nat) (hO : Own64 w base v W) (ad : Addr) (c : Nat) (l : List Nat) (hS : ∀ j u, (w64 l)[j]? = some u → w.cell? (ad.add j) = some u)
    (hb : W.length + l.length ≤ 100000) (hbase : base ≤ w.heap.size) :
    ∃ v' w', (Builtin.append_ #[96, 96] ty #[v, .slice (some ad) l.length c]).run Tryd.prog w = .ok v' w' ∧ Own64 w' base v' (W ++ l) ∧ w.grownBy w' v.ownBlock := by
  obtain ⟨i0, hi, hz0, hz1, hz2⟩ := info_parts info57
  obtain ⟨v', w', hr, h2, h3, _, h5⟩ := run_append_own_at (P := Tryd.prog) w base 96 ty 23 i0 (.int .u64 0) 1 8 Tryd.underlying96 hi hz0 hz1 hz2 rfl (by omega) v W.length (w64 W) hO ad l.length c (w64 l) (by simp [w64]) hS
    (w64_one l) (by unfold maxLen; omega) (by omega) hbase
  refine ⟨v', w', hr, ?_, h3⟩
  unfold Own64
  rw [List.length_append, show w64 (W ++ l) = w64 W ++ w64 l by simp [w64]]
  exact h2

/-- One word more, at a step of a region that draws its order. -/
theorem step_app64 {ops : Array Oper} {o : Oper} {a : Act} {w : World} {K : Act → World → Prop} {Q : Exit → Act → World → Prop} {E : Prop} (hgd : o.guard = none) (s x : Operand)
    (ho : o.op = .call { callee := .builtin .append, args := #[s, x], argTypes := #[96, 96] }) (base : Nat) (v : Value) (W : List Nat) (hs : a.eval s = v) (hO : Own64 w base v W)
    (g : Nat) (t : TypeId) (y : Int) (hx : a.eval x = .slice (some ⟨g, 0, none⟩) 1 1) (hc : Blk w g t [.int .u64 y]) (z : Nat) (hy : y = (z : Int)) (hb : W.length + 1 ≤ 100000) (hbase : base ≤ w.heap.size)
    (h : ∀ v' w', Hid (Own64 w' base v' (W ++ [z])) → Hid (w.grownBy w' v.ownBlock) → K (a.put o.dst v') w') :
    if Region.wanted o (yielded ops a.tmps) = true then Oper.wp Tryd.prog o a w K Q else E := by
  have hw : Region.wanted o (yielded ops a.tmps) = true := by simp [Region.wanted, hgd]
  rw [if_pos hw]
  subst hy
  obtain ⟨v', w', hr, h2, h3⟩ := run_app64 w base o.type v W hO ⟨g, 0, none⟩ 1 [z] (fun j u hu => by
    rw [Addr.add_mid, Nat.zero_add, hc.cell]
    exact hu) (by simpa using hb) hbase
  unfold Oper.wp execOp
  simp only [ho, resolve, invoke, builtin, Sem.run_bind, Sem.run_pure, Result.andThen_ok, List.map_toArray, List.map_cons, List.map_nil, hs, hx]
  have hr' : (Builtin.append_ #[96, 96] o.type #[v, .slice (some ⟨g, 0, none⟩) 1 1]).run Tryd.prog w = .ok v' w' := hr
  rw [hr']
  exact h v' w' (Lib.hid h2) (Lib.hid h3)
theorem wpList_app64 {w : World} {ops : Array Oper} {rest : List Oper} {o : Oper} {a : Act} {Q : Exit → Act → World → Prop} (hgd : o.guard = none) (s x : Operand)
    (ho : o.op = .call { callee := .builtin .append, args := #[s, x], argTypes := #[96, 96] }) (base : Nat) (v : Value) (W : List Nat) (hs : a.eval s = v) (hO : Own64 w base v W)
    (ad : Addr) (n c : Nat) (l : List Nat) (hx : a.eval x = .slice (some ad) n c) (hn : n = l.length) (hS : ∀ j u, (w64 l)[j]? = some u → w.cell? (ad.add j) = some u) (hb : W.length + l.length ≤ 100000) (hbase : base ≤ w.heap.size)
    (h : ∀ v' w', Hid (Own64 w' base v' (W ++ l)) → Hid (w.grownBy w' v.ownBlock) → wpList Tryd.prog ops Q rest (a.put o.dst v') w') : wpList Tryd.prog ops Q (o :: rest) a w := by
  subst hn
  refine wpList_plain hgd fun K hK => ?_
  obtain ⟨v', w', hr, h2, h3⟩ := run_app64 w base o.type v W hO ad c l hS hb hbase
  unfold Oper.wp execOp
  simp only [ho, resolve, invoke, builtin, Sem.run_bind, Sem.run_pure, Result.andThen_ok, List.map_toArray, List.map_cons, List.map_nil, hs, hx, hr]
  exact hK _ _ (h v' w' (Lib.hid h2) (Lib.hid h3))
end Go.Proofs.YtbdjlnejlkiijaaDoorRRR
