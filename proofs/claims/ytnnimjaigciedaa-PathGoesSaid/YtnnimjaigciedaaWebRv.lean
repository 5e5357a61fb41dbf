/-
  A row of channels in a block that is known whole; one of them stored; steps of the document's Sent.
-/
import Derived.Test.YtnnimjaigciedaaWebRs
namespace Go.Proofs.Ytnnimjaigciedaa
open Go.RowKit
set_option linter.unusedVariables false

theorem eflat_split (es : List Ed) (k : Nat) (hk : k < es.length) (e' : Ed) : eflat (es.set k e') = eflat (es.take k) ++ (ecells e' ++ eflat (es.drop (k + 1))) ∧ eflat es = eflat (es.take k) ++ (ecells (es.getD k ed0) ++ eflat (es.drop (k + 1))) := by
  have h1 : es = es.take k ++ (es.getD k ed0 :: es.drop (k + 1)) := by
    rw [← drop_ed es k hk, List.take_append_drop]
  have h2 : es.set k e' = es.take k ++ (e' :: es.drop (k + 1)) := List.set_eq_take_append_cons_drop ▸ (by rw [if_pos hk])
  constructor
  · rw [h2]; simp [eflat]
  · conv => lhs; rw [h1]
    simp [eflat]
theorem set_at {α : Type} (A R : List α) (n j : Nat) (v : α) (h : A.length = n) : (A ++ R).set (n + j) v = A ++ R.set j v := by
  rw [List.set_append_right _ _ (by omega), show n + j - A.length = j by omega]
theorem row8 {w : World} {g k : Nat} {es : List Ed} {sp : List Value} (h : Blk w g 102 (eflat es ++ sp)) (hk : k < es.length) (p q c d f g' h' i : Int) :
    Blk ((((((((w.setCell ⟨g, k * 8, none⟩ (.int .i64 p)).setCell ⟨g, k * 8 + 1, none⟩ (.int .i64 q)).setCell ⟨g, k * 8 + 2, none⟩ (.int .u64 c)).setCell ⟨g, k * 8 + 3, none⟩ (.int .u64 d)).setCell ⟨g, k * 8 + 4, none⟩ (.int .u64 f)).setCell ⟨g, k * 8 + 5, none⟩ (.int .u64 g')).setCell ⟨g, k * 8 + 6, none⟩ (.int .u64 h')).setCell ⟨g, k * 8 + 7, none⟩ (.int .u64 i)) g 102 (eflat (es.set k ⟨p, q, c, d, f, g', h', i⟩) ++ sp) := by
  have h8 := (((((((h.set_ (k * 8) (.int .i64 p)).set_ (k * 8 + 1) (.int .i64 q)).set_ (k * 8 + 2) (.int .u64 c)).set_ (k * 8 + 3) (.int .u64 d)).set_ (k * 8 + 4) (.int .u64 f)).set_ (k * 8 + 5) (.int .u64 g')).set_ (k * 8 + 6) (.int .u64 h')).set_ (k * 8 + 7) (.int .u64 i)
  obtain ⟨e1, e2⟩ := eflat_split es k hk ⟨p, q, c, d, f, g', h', i⟩
  have hl : (eflat (es.take k)).length = k * 8 := by rw [eflat_length, List.length_take]; omega
  rw [e1]
  rw [e2, List.append_assoc] at h8
  rw [show (eflat (es.take k) ++ (ecells (es.getD k ed0) ++ eflat (es.drop (k + 1)) ++ sp)).set (k * 8) (.int .i64 p) = _ from set_at _ _ (k * 8) 0 _ hl] at h8
  rw [set_at _ _ (k * 8) 1 _ hl, set_at _ _ (k * 8) 2 _ hl, set_at _ _ (k * 8) 3 _ hl, set_at _ _ (k * 8) 4 _ hl, set_at _ _ (k * 8) 5 _ hl, set_at _ _ (k * 8) 6 _ hl, set_at _ _ (k * 8) 7 _ hl] at h8
  rw [List.append_assoc, List.append_assoc]
  rw [List.append_assoc] at h8
  exact h8
theorem row_of {w : World} {g t : Nat} {es : List Ed} {sp : List Value} (h : Blk w g t (eflat es ++ sp)) : EdgeRow w (some ⟨g, 0, none⟩) es := by
  refine .inr ⟨g, 0, rfl, h.lt, fun i hi j v hv => ?_⟩
  have hj : j < 8 := by
    rcases Nat.lt_or_ge j 8 with h | h
    · exact h
    · rw [List.getElem?_eq_none (by simpa [ecells] using h)] at hv; cases hv
  obtain ⟨_, e2⟩ := eflat_split es i hi ed0
  have hl : (eflat (es.take i)).length = i * 8 := by rw [eflat_length, List.length_take]; omega
  have h8 : (ecells (es.getD i ed0)).length = 8 := rfl
  rw [h.cell, e2, Nat.zero_add, List.append_assoc, List.getElem?_append_right (by omega), hl, show i * 8 + j - i * 8 = j by omega, List.append_assoc, List.getElem?_append_left (by omega)]
  exact hv
theorem ed_cells {w : World} {g t k : Nat} {es : List Ed} {sp : List Value} (h : Blk w g t (eflat es ++ sp)) (hk : k < es.length) : ∀ j v, (ecells (es.getD k ed0))[j]? = some v → w.cell? ⟨g, k * 8 + j, none⟩ = some v := by
  rcases row_of h with h0 | ⟨b, off, e, _, hc⟩
  · rw [h0] at hk; simp at hk
  · injection e with e
    injection e with e1 e2
    subst e1 e2
    intro j v hv
    have := hc k hk j v hv
    rwa [Nat.zero_add] at this

theorem lay23 (w : World) : (Instr.buildSlice 23 0 #[]).run Try.prog w = .ok (.slice (some ⟨w.heap.size, 0, none⟩) 0 0) (w.alloc (.cells #[] 102)) := by kernel_rfl
section
variable {ops : Array Oper} {o : Oper} {a : Act} {w : World} {K : Act → World → Prop} {Q : Exit → Act → World → Prop} {E : Prop}
set_option maxRecDepth 100000 in
set_option maxHeartbeats 2000000 in
theorem step_lay23 (hw : Region.wanted o (yielded ops a.tmps) = true) (ho : o.op = .buildSlice 23 0 #[])
    (h : ∀ Y g, Below w.heap.size w Y → Blk Y g 102 [] → w.heap.size ≤ g → K (a.put o.dst (.slice (some ⟨g, 0, none⟩) 0 0)) Y) :
    if Region.wanted o (yielded ops a.tmps) = true then Oper.wp Try.prog o a w K Q else E :=
  step_lay hw 23 0 #[] ho #[] (by simp) _ (w.alloc (.cells #[] 102)) (lay23 w) (h _ _ ((Below.refl _ _).alloc (Nat.le_refl _) _) (Blk.mk_ (cs := []) rfl) (Nat.le_refl _))
set_option maxRecDepth 100000 in
theorem step_new25 (hw : Region.wanted o (yielded ops a.tmps) = true) (ho : o.op = .alloc 25)
    (h : ∀ Y g, Below w.heap.size w Y → Blk Y g 25 [.slice none 0 0, .slice none 0 0] → w.heap.size ≤ g → K (a.put o.dst (.pointer (some ⟨g, 0, none⟩))) Y) :
    if Region.wanted o (yielded ops a.tmps) = true then Oper.wp Try.prog o a w K Q else E :=
  step_new hw 25 ho #[.slice none 0 0, .slice none 0 0] (by kernel_rfl) (h _ _ ((Below.refl _ _).alloc (Nat.le_refl _) _) (Blk.mk_ rfl) (Nat.le_refl _))
set_option maxRecDepth 100000 in
theorem run_store25 (w : World) (g t : Nat) (u v : Value) (a1 b1 : Option Addr) (l1 m1 c1 d1 : Nat) (h : Blk w g t [u, v]) :
    (storeVar 25 ⟨g, 0, none⟩ (.agg #[.slice a1 l1 c1, .slice b1 m1 d1])).run Try.prog w = .ok () ((w.setCell ⟨g, 0, none⟩ (.slice a1 l1 c1)).setCell ⟨g, 1, none⟩ (.slice b1 m1 d1)) := by
  have k1 := h.cell 0
  have k2 := h.cell 1
  simp only [List.getElem?_cons_zero, List.getElem?_cons_succ] at k1 k2
  have k3 := h.frozen 0
  have k4 := h.frozen 1
  go_simp
theorem step_store25 (hw : Region.wanted o (yielded ops a.tmps) = true) (d s : Operand) (ho : o.op = .store 25 d s) (g : Nat) (u v : Value) (a1 b1 : Option Addr) (l1 c1 m1 d1 : Nat) (hd : a.eval d = .pointer (some ⟨g, 0, none⟩)) (hs : a.eval s = .agg #[.slice a1 l1 c1, .slice b1 m1 d1]) (hP : Blk w g 25 [u, v])
    (h : ∀ Y, Blk Y g 25 [.slice a1 l1 c1, .slice b1 m1 d1] → w.grownBy Y (some g) → K (a.put o.dst undef) Y) :
    if Region.wanted o (yielded ops a.tmps) = true then Oper.wp Try.prog o a w K Q else E := by
  have hW : w.grownBy ((w.setCell ⟨g, 0, none⟩ (.slice a1 l1 c1)).setCell ⟨g, 1, none⟩ (.slice b1 m1 d1)) (some g) := only_setCell (p := ⟨g, 1, none⟩) (only_setCell (p := ⟨g, 0, none⟩) (only_refl w _) (.inl rfl) _) (.inl rfl) _
  have hN : Blk ((w.setCell ⟨g, 0, none⟩ (.slice a1 l1 c1)).setCell ⟨g, 1, none⟩ (.slice b1 m1 d1)) g 25 [.slice a1 l1 c1, .slice b1 m1 d1] := (hP.set_ 0 (.slice a1 l1 c1)).set_ 1 (.slice b1 m1 d1)
  have h' := h _ hN hW
  rw [if_pos hw]
  unfold Oper.wp execOp
  simp only [ho, hd, hs, Instr.storeAt, Instr.sureAddr, Sem.run_bind, Sem.run_pure, Result.andThen_ok, run_store25 w g 25 u v a1 b1 l1 m1 c1 d1 hP]
  exact h'
set_option maxRecDepth 100000 in
theorem step_app23 (hw : Region.wanted o (yielded ops a.tmps) = true) (s x : Operand) (ho : o.op = .call { callee := .builtin .append, args := #[s, x], argTypes := #[23, 23] }) (g0 : Nat) (hs : a.eval s = .slice (some ⟨g0, 0, none⟩) 0 0) (hB : Blk w g0 102 [])
    (ad : Addr) (m c : Nat) (hx : a.eval x = .slice (some ad) m c) (es : List Ed) (hl : es.length = m) (hE : EdgeRow w (some ad) es) (hm : m ≤ 100)
    (h : ∀ Y g cap sp, w.grownBy Y (some g0) → Blk Y g 102 (eflat es ++ sp) → (g = g0 ∨ g = w.heap.size) → K (a.put o.dst (.slice (some ⟨g, 0, none⟩) m cap)) Y) :
    if Region.wanted o (yielded ops a.tmps) = true then Oper.wp Try.prog o a w K Q else E := by
  obtain ⟨i0, hi, hz0, hz1, hz2⟩ := info_parts redge_info
  obtain ⟨g, cap, sp, W, hr, hb, _, _, hg, hgr⟩ := append_empty (P := Try.prog) (w := w) 23 102 i0 _ 8 64 Try.underlying23 hi hz0 hz1 hz2 rfl (by decide) g0 hB (some ad) m c (eflat es) (by rw [eflat_length, hl]) (fun b hb j u hu => by
    injection hb with hb
    subst hb
    obtain ⟨h1, h2⟩ := eflat_get es j u hu
    rcases hE with h0 | ⟨b0, off, he, hb0, hc⟩
    · subst h0; simp at h1
    · injection he with he
      subst he
      rw [Go.WideShapes.add_plain, ← hc (j / 8) (by omega) (j % 8) u h2]
      congr 2; omega) (fun h => by cases h) (fun u hu => eflat_one es u hu) (by unfold maxLen; omega) (by omega)
  exact step_append hw s x 23 23 ho _ W (fun ty => by rw [hs, hx]; exact hr ty) (h W g cap sp hgr hb hg)
end
theorem up_grown {B : Nat} {a w w' : World} {g : Nat} (h : Below B a w) (hg : w.grownBy w' (some g)) (hB : B ≤ g) (hs : B ≤ w.heap.size) : Below B a w' :=
  h.grown hg hs (fun k hk => by injection hk with hk; omega)
end Go.Proofs.Ytnnimjaigciedaa
