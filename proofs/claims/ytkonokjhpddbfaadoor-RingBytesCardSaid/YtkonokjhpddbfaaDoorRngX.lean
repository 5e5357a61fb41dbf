/-
  The document's ring: Sign (function 51): a key's signature by the rows; nothing that was there is written.
-/
import Derived.Test.YtkonokjhpddbfaaDoorRngW
namespace Go.Proofs.YtkonokjhpddbfaaDoor
open Go.RowKit
set_option linter.unusedVariables false

theorem step_store1x {ops : Array Oper} {o : Oper} {a : Act} {w : World} {K : Act → World → Prop} {Q : Exit → Act → World → Prop} {E : Prop} (hw : Region.wanted o (yielded ops a.tmps) = true) (ty : TypeId) (x y : Operand) (ho : o.op = .store ty x y)
    (b off : Nat) (v : Value) (hx : a.eval x = .pointer (some ⟨b, off, none⟩)) (hy : a.eval y = v) (ht : w.there b off 1) (hi : (Tryd.prog.info? ty).map (·.size) = some 1) (h1 : v.oneCell' = true) (hc : v.cells = #[v])
    (h : K (a.put o.dst undef) (w.setCell ⟨b, off, none⟩ v)) : if Region.wanted o (yielded ops a.tmps) = true then Oper.wp Tryd.prog o a w K Q else E := by
  rw [if_pos hw]
  have h0 := run_storeCells_cells (P := Tryd.prog) b off [v] 0 w (fun j hj => by simpa using (ht j (by simpa using hj)).1) (fun j hj => by simpa using (ht j (by simpa using hj)).2) (fun u hu => by simp at hu; subst hu; exact h1)
  have hrun : (storeVar ty ⟨b, off, none⟩ v).run Tryd.prog w = .ok () (w.setCell ⟨b, off, none⟩ v) := by
    cases hq : Tryd.prog.info? ty with
    | none => simp [hq] at hi
    | some i =>
      have hs : i.size = 1 := by simpa [hq] using hi
      simp only [Nat.add_zero] at h0
      simp [storeVar, sizeOf, typeInfo, hq, hc, hs, h0]
      rfl
  unfold Oper.wp execOp
  simp only [ho, hx, hy, Instr.storeAt, Instr.sureAddr, Sem.run_bind, Sem.run_pure, Result.andThen_ok, hrun]
  exact h
/-- The document's rows may be read. -/
def RowsR (w : World) (go : Nat) (seed : List Nat) (tall : Nat) : Prop :=
  ∀ i, i ≤ tall → ∃ gr cr, w.cell? ⟨go, i, none⟩ = some (.slice (some ⟨gr, 0, none⟩) (pw (tall - i)) cr) ∧ pw (tall - i) ≤ cr ∧ cr ≤ 9223372036854775807 ∧ ∀ j, j < pw (tall - i) → w.rangeAt gr (j * 32) (w8 (levN seed i j))
theorem RowsR.below {w w' : World} {b go : Nat} {seed : List Nat} {tall : Nat} (h : RowsR w go seed tall) (hB : Below b w w') (hb : w.heap.size ≤ b) : RowsR w' go seed tall := by
  intro i hi
  obtain ⟨gr, cr, h1, h2, h3, h4⟩ := h i hi
  have hc : ∀ p : Addr, p.block < w.heap.size → w'.cell? p = w.cell? p := fun p hp => (hB.mono hb).cell hp
  exact ⟨gr, cr, (hc ⟨go, i, none⟩ (World.block_lt_of_cell? _ _ h1)).trans h1, h2, h3, fun j hj k u hu => (hc ⟨gr, j * 32 + k, none⟩ (World.block_lt_of_cell? _ _ (h4 j hj k u hu))).trans (h4 j hj k u hu)⟩
theorem OutAt.rows {w : World} {base : Nat} {v : Value} {seed : List Nat} {tall : Nat} (h : OutAt w base v seed tall (tall + 1)) : ∃ go co, v = .slice (some ⟨go, 0, none⟩) (tall + 1) co ∧ go < w.heap.size ∧ base ≤ go ∧ co ≤ 9223372036854775807 ∧ RowsR w go seed tall := by
  obtain ⟨ws, ho, hc⟩ := h
  rcases ho.2 with ⟨_, h0⟩ | ⟨go, co, cur, hv, hb, hg, hn1, hcm, _⟩
  · omega
  · refine ⟨go, co, hv, (ho.lt go (by rw [hv]; rfl)).2, hb, by unfold maxLen at hcm; exact hcm, fun i hi => ?_⟩
    obtain ⟨u, h1, h2, h3⟩ := hc i (by omega)
    obtain ⟨gr, cr, hu, hb2, hl, hn, hm, hr⟩ := own_row (levN_length seed i) (pw_pos (tall - i)) h2
    subst hv
    have h5 := World.ownsRow.cellAt ho i (by omega)
    rw [h1, hu] at h5
    exact ⟨gr, cr, h5, hn, hm, hr⟩

end Go.Proofs.YtkonokjhpddbfaaDoor
