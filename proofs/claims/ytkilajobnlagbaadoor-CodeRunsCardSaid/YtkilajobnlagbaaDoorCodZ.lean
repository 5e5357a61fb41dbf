/-
  The document's Run 13.
-/
import Derived.Test.YtkilajobnlagbaaDoorCodY
namespace Go.Proofs.YtkilajobnlagbaaDoor
open Go.RowKit
set_option linter.unusedVariables false

section
variable {w : World} {B : Nat}
theorem urow_slice {v : Value} {n : Nat} {xs : List Value} (h : w.ownsRow B 25 1 v n xs) : ∃ A c, v = .slice A n c ∧ n ≤ c ∧ c ≤ maxLen ∧ (A = none → n = 0 ∧ c = 0) := by
  rcases h.2 with ⟨rfl, rfl⟩ | ⟨g, c, cur, rfl, _, _, h1, h2, _⟩
  · exact ⟨none, 0, rfl, Nat.le_refl _, by unfold maxLen; omega, fun _ => ⟨rfl, rfl⟩⟩
  · exact ⟨_, c, rfl, h1, h2, fun h => by cases h⟩
theorem urow_cell {A : Option Addr} {n c : Nat} {s : List Int} (h : w.ownsRow B 25 1 (.slice A n c) n (u64s s)) (hl : s.length = n) (hn : 0 < n) : ∃ g, A = some ⟨g, 0, none⟩ ∧ B ≤ g ∧ g < w.heap.size ∧ ∀ i, i < n → w.cell? ⟨g, i, none⟩ = some (.int .u64 (s.getD i 0)) := by
  rcases h.2 with ⟨_, h0⟩ | ⟨g, c', cur, he, hb, hg, h1, h2, h3, h4⟩
  · omega
  · injection he with e1 e2 e3
    subst e1
    refine ⟨g, rfl, hb, ?_, fun i hi => ?_⟩
    · rcases Nat.lt_or_ge g w.heap.size with hlt | hge
      · exact hlt
      · rw [Array.getElem?_eq_none hge] at hg; cases hg
    · rw [cell_of_row w g i cur 25 (0, 0) hg]
      have : (cur.toList.take (n * 1))[i]? = (u64s s)[i]? := by rw [h4]
      rw [List.getElem?_take, if_pos (by omega)] at this
      rw [← Array.getElem?_toList, this]
      exact u64s_get s i (by omega)
theorem urow_turn {v : Value} {n : Nat} {xs : List Value} (h : w.ownsRow B 25 1 v n xs) {w' : World} (hB : B ≤ w.heap.size) (hG : w.grownBy w' v.ownBlock) : Turn B w w' := by
  rcases h.2 with ⟨rfl, _⟩ | ⟨g, c, cur, rfl, hb, hg, _⟩
  · simp only [Value.ownBlock] at hG
    exact Turn.new hB ⟨hG.os, hG.tape, hG.output, hG.size, fun k hk => hG.block k hk (by simp)⟩
  · exact Turn.one hB hb (cs := cur.toList) (tk := 25) (by unfold Blk; simpa using hg) (.inl rfl) hG
set_option maxRecDepth 100000 in
/-- A beginning of a row of one's own, laid apart. -/
theorem lit_app (hB : B ≤ w.heap.size) (A : Option Addr) (L c m : Nat) (s : List Int) (hO : w.ownsRow B 25 1 (.slice A L c) L (u64s s)) (hs : s.length = L) (hm : m ≤ L) (hL : L ≤ 32) :
    ∃ A' c' W, (∀ ty, (Builtin.append_ #[23, 23] ty #[.slice (some ⟨w.heap.size, 0, none⟩) 0 0, .slice A m c]).run Tryd.prog (w.alloc (.cells #[] 25)) = .ok (.slice A' m c') W) ∧ W.ownsRow B 25 1 (.slice A' m c') m (u64s (s.take m)) ∧ Turn B w W := by
  obtain ⟨i0, hi, hzz⟩ := Option.map_eq_some_iff.1 info25
  simp only [Prod.mk.injEq] at hzz
  obtain ⟨hz0, hz1, hz2⟩ := hzz
  have hown : (w.alloc (.cells #[] 25)).ownsRow B 25 1 (.slice (some ⟨w.heap.size, 0, none⟩) 0 0) 0 [] := World.ownsRow_lit w #[] 0 hB (by unfold maxLen; omega) rfl
  have hT0 : Turn B w (w.alloc (.cells #[] 25)) := Turn.new hB ((Below.refl _ _).alloc (Nat.le_refl _) _)
  have hsz : B ≤ (w.alloc (.cells #[] 25)).heap.size := by rw [World.size_alloc]; omega
  by_cases h0 : A = none
  · subst h0
    obtain ⟨rfl, rfl⟩ : L = 0 ∧ c = 0 := by
      obtain ⟨A', c', he, _, _, h⟩ := urow_slice hO
      injection he with e1 e2 e3
      subst e1 e3
      exact h rfl
    obtain rfl : m = 0 := by omega
    refine ⟨_, _, w.alloc (.cells #[] 25), fun ty => ?_, by simpa [u64s] using hown, hT0⟩
    simp [Builtin.append_, run_underlying Tryd.underlying23, sizeOf, typeInfo, hi, Builtin.lenOf, Builtin.firstCells, loadCells, loadCellsFrom, storeCells]
  · have hA : ∃ g, A = some ⟨g, 0, none⟩ ∧ ∀ j u, (u64s (s.take m))[j]? = some u → (w.alloc (.cells #[] 25)).cell? ((⟨g, 0, none⟩ : Addr).add j) = some u := by
      rcases hO.2 with ⟨he, _⟩ | ⟨g, c', cur, he, hb, hg, _⟩
      · injection he with e1; exact absurd e1 h0
      · injection he with e1 e2 e3
        refine ⟨g, e1, fun j u hu => ?_⟩
        have hj : j < m := by
          have := (List.getElem?_eq_some_iff.1 hu).1
          simp [u64s] at this
          omega
        obtain ⟨g', he', _, hlt, hc⟩ := urow_cell hO hs (by omega)
        rw [e1] at he'
        injection he' with he'
        injection he' with he'
        subst he'
        rw [Go.WideShapes.add_plain, Nat.zero_add, World.cell?_alloc_lt _ _ _ hlt, hc j (by omega), ← hu]
        simp [u64s, List.getD, hj, show j < s.length by omega]
    obtain ⟨g, rfl, hn⟩ := hA
    obtain ⟨v', W, hr, h2, h3, h4, h5⟩ := run_append_own_at (P := Tryd.prog) (w.alloc (.cells #[] 25)) B 23 0 25 i0 (.int .u64 0) 1 8 Tryd.underlying23 hi hz0 hz1 hz2 rfl (by omega) _ 0 [] hown ⟨g, 0, none⟩ m c (u64s (s.take m)) (by rw [u64s_length, List.length_take]; omega) hn (u64s_one _) (by unfold maxLen; omega) (by omega) hsz
    rw [Nat.zero_add, List.nil_append] at h2
    obtain ⟨A', c', rfl, _⟩ := urow_slice h2
    exact ⟨A', c', W, fun ty => hr, h2, hT0.trans (urow_turn hown hsz h3)⟩
set_option maxRecDepth 100000 in
/-- What an order lays, behind the rest. -/
theorem own_app (hB : B ≤ w.heap.size) (A A2 : Option Addr) (m c k : Nat) (s l : List Int) (hO : w.ownsRow B 25 1 (.slice A m c) m (u64s s)) (hl : l.length = k) (hA : (A2 = none ∧ k = 0) ∨ ∃ g, A2 = some ⟨g, 0, none⟩ ∧ Blk w g 25 (u64s l)) (hm : m + k ≤ 64) :
    ∃ A' c' W, (∀ ty, (Builtin.append_ #[23, 23] ty #[.slice A m c, .slice A2 k k]).run Tryd.prog w = .ok (.slice A' (m + k) c') W) ∧ W.ownsRow B 25 1 (.slice A' (m + k) c') (m + k) (u64s (s ++ l)) ∧ Turn B w W := by
  obtain ⟨i0, hi, hzz⟩ := Option.map_eq_some_iff.1 info25
  simp only [Prod.mk.injEq] at hzz
  obtain ⟨hz0, hz1, hz2⟩ := hzz
  rcases hA with ⟨rfl, rfl⟩ | ⟨g, rfl, hg⟩
  · obtain rfl : l = [] := List.eq_nil_of_length_eq_zero hl
    obtain ⟨A', c', he, hmc, _⟩ := urow_slice hO
    injection he with e1 e2 e3
    subst e1 e3
    refine ⟨_, _, w, fun ty => ?_, by simpa using hO, Turn.refl _ _⟩
    cases A <;> simp [Builtin.append_, run_underlying Tryd.underlying23, sizeOf, typeInfo, hi, Builtin.lenOf, Builtin.firstCells, loadCells, storeCells, hmc]
  · obtain ⟨v', W, hr, h2, h3, h4, h5⟩ := run_append_own_at (P := Tryd.prog) w B 23 0 25 i0 (.int .u64 0) 1 8 Tryd.underlying23 hi hz0 hz1 hz2 rfl (by omega) _ m (u64s s) hO ⟨g, 0, none⟩ k k (u64s l) (by rw [u64s_length, hl]; omega)
      (fun j u hu => by rw [Go.WideShapes.add_plain, Nat.zero_add, hg.cell]; exact hu) (u64s_one _) (by unfold maxLen; omega) (by omega) hB
    obtain ⟨A', c', rfl, _⟩ := urow_slice h2
    exact ⟨A', c', W, fun ty => hr, by unfold u64s at h2 ⊢; rw [List.map_append]; exact h2, urow_turn hO hB h3⟩
end
theorem laysR_one (op num : Nat) (fs : List Int) (ps : List Bool) (ht x y z : Int) (hop : op < 18) (h : tks op = 1) : laysR op num fs ps ht x y = laysR op num fs ps ht x z := by
  match op, hop, h with
  | 0, _, _ => rfl
  | 8, _, _ => rfl
  | 12, _, _ => rfl
  | 13, _, _ => rfl
  | 15, _, _ => rfl
  | 1, _, h | 2, _, h | 3, _, h | 4, _, h | 5, _, h | 6, _, h | 7, _, h | 9, _, h | 10, _, h | 11, _, h | 14, _, h | 16, _, h | 17, _, h => cases h
  | n + 18, h, _ => omega
theorem laysR_none (op num : Nat) (fs : List Int) (ps : List Bool) (ht x y : Int) (hop : op < 18) (h : tks op = 0) : laysR op num fs ps ht x y = laysR op num fs ps ht 0 0 := by
  match op, hop, h with
  | 1, _, _ => rfl
  | 2, _, _ => rfl
  | 11, _, _ => rfl
  | 16, _, _ => rfl
  | 17, _, _ => rfl
  | 0, _, h | 3, _, h | 4, _, h | 5, _, h | 6, _, h | 7, _, h | 8, _, h | 9, _, h | 10, _, h | 12, _, h | 13, _, h | 14, _, h | 15, _, h => cases h
  | n + 18, h, _ => omega
/-- The topmost number, and the one below it, where they are taken. -/
def topB (s : List Int) (m : Nat) : Int := if m = 0 then 0 else s.getD (s.length - 1) 0
def topA (s : List Int) (m : Nat) : Int := if m = 2 then s.getD (s.length - 2) 0 else 0
theorem lay_same (op num : Nat) (fs : List Int) (ps : List Bool) (ht : Int) (s : List Int) (hop : op < 18) (h : tks op ≤ s.length) :
    laysR op num fs ps ht (tkA s (tks op)) (tkB s (tks op)) = layD op num fs ps ht (topA s (tks op)) (topB s (tks op)) := by
  have h2 := tks_le op
  obtain h0 | h1 | h2 : tks op = 0 ∨ tks op = 1 ∨ tks op = 2 := by omega
  · simp [layD, tkA, tkB, topA, topB, h0]
  · have hs : ¬ s.length < 1 := by omega
    simp only [layD, tkA, tkB, topA, topB, h1, hs, if_false, if_true]
    exact laysR_one op num fs ps ht _ _ _ hop h1
  · have hs : ¬ s.length < 2 := by omega
    simp [layD, tkA, tkB, topA, topB, h2, hs]
theorem layD_nil {op num : Nat} {fs : List Int} {ps : List Bool} {ht a b : Int} : (layD op num fs ps ht a b).2.length ≤ 2 := by
  unfold layD laysR
  split
  all_goals first
    | exact Nat.le_succ_of_le (Nat.le_refl 1)
    | exact Nat.le_refl 2
    | exact Nat.zero_le 2
    | (split <;> simp)
structure DInv (W w : World) (A : Option Addr) (n c : Nat) (fa : Option Addr) (fn fc : Nat) (pa : Option Addr) (pn pc : Nat) (ht : Int) (v : Value) (s : List Int) : Prop where
  turn : Below W.heap.size W w
  box : Blk w W.heap.size 27 [.slice fa fn fc, .slice pa pn pc, .int .u64 ht]
  own : w.ownsRow W.heap.size 25 1 v s.length (u64s s)
  len : s.length ≤ 32
  word : ∀ x ∈ s, Word x
theorem DInv.go {W w w' : World} {A : Option Addr} {n c : Nat} {fa : Option Addr} {fn fc : Nat} {pa : Option Addr} {pn pc : Nat} {ht : Int} {v v' : Value} {s s' : List Int} (h : DInv W w A n c fa fn fc pa pn pc ht v s) (hT : Turn W.heap.size w w')
    (hO : w'.ownsRow W.heap.size 25 1 v' s'.length (u64s s')) (hl : s'.length ≤ 32) (hw : ∀ x ∈ s', Word x) : DInv W w' A n c fa fn fc pa pn pc ht v' s' :=
  ⟨h.turn.trans hT.below, hT.keep _ _ _ (by decide) (by decide) h.box, hO, hl, hw⟩
end Go.Proofs.YtkilajobnlagbaaDoor
