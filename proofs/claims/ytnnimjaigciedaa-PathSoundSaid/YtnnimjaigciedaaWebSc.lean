/-
  Steps of Sent: a new web, two slices stored in it; what holds behind its clones.
-/
import Derived.Test.YtnnimjaigciedaaWebSb
namespace Go.Proofs.Ytnnimjaigciedaa
open Go.RowKit
set_option linter.unusedVariables false

section
variable {ops : Array Oper} {o : Oper} {a : Act} {w : World} {K : Act → World → Prop} {Q : Exit → Act → World → Prop} {E : Prop}
theorem step_web (hw : Region.wanted o (yielded ops a.tmps) = true) (ho : o.op = .alloc 31)
    (h : ∀ X g, Blk X g 31 [.slice none 0 0, .slice none 0 0] → w.heap.size ≤ g → Below w.heap.size w X → K (a.put o.dst (.pointer (some ⟨g, 0, none⟩))) X) :
    if Region.wanted o (yielded ops a.tmps) = true then Oper.wp Try.prog o a w K Q else E :=
  step_new hw 31 ho #[.slice none 0 0, .slice none 0 0] (by kernel_rfl) (h _ _ (Blk.mk_ (cs := [.slice none 0 0, .slice none 0 0]) rfl) (Nat.le_refl _) ((Below.refl _ _).alloc (Nat.le_refl _) _))

theorem step_store58 (hw : Region.wanted o (yielded ops a.tmps) = true) (d s : Operand) (ho : o.op = .store 31 d s) (g t : Nat) (u v : Value) (a1 b1 : Option Addr) (l1 m1 c1 d1 : Nat) (hd : a.eval d = .pointer (some ⟨g, 0, none⟩)) (hs : a.eval s = .agg #[.slice a1 l1 c1, .slice b1 m1 d1]) (hP : Blk w g t [u, v])
    (h : K (a.put o.dst undef) ((w.setCell ⟨g, 0, none⟩ (.slice a1 l1 c1)).setCell ⟨g, 1, none⟩ (.slice b1 m1 d1))) :
    if Region.wanted o (yielded ops a.tmps) = true then Oper.wp Try.prog o a w K Q else E := by
  rw [if_pos hw]
  have hrun : (storeVar 31 ⟨g, 0, none⟩ (.agg #[.slice a1 l1 c1, .slice b1 m1 d1])).run Try.prog w = .ok () ((w.setCell ⟨g, 0, none⟩ (.slice a1 l1 c1)).setCell ⟨g, 1, none⟩ (.slice b1 m1 d1)) := by
    have k1 := hP.cell 0
    have k2 := hP.cell 1
    simp only [List.getElem?_cons_zero, List.getElem?_cons_succ] at k1 k2
    have k3 := hP.frozen 0
    have k4 := hP.frozen 1
    go_simp
  unfold Oper.wp execOp
  simp only [ho, hd, hs, Instr.storeAt, Instr.sureAddr, Sem.run_bind, Sem.run_pure, Result.andThen_ok, hrun]
  exact h
theorem step_cell66 (hw : Region.wanted o (yielded ops a.tmps) = true) (d s : Operand) (ho : o.op = .store 40 d s) (g i t : Nat) (cs : List Value) (old : Value) (h0 : cs[i]? = some old) (x : Int) (hd : a.eval d = .pointer (some ⟨g, i, none⟩)) (hs : a.eval s = .int .u64 x) (hP : Blk w g t cs)
    (h : K (a.put o.dst undef) (w.setCell ⟨g, i, none⟩ (.int .u64 x))) : if Region.wanted o (yielded ops a.tmps) = true then Oper.wp Try.prog o a w K Q else E := by
  rw [if_pos hw]
  have k1 := hP.cell i
  rw [h0] at k1
  have k2 := hP.frozen i
  have hrun : (storeVar 40 ⟨g, i, none⟩ (.int .u64 x)).run Try.prog w = .ok () (w.setCell ⟨g, i, none⟩ (.int .u64 x)) := by go_simp
  unfold Oper.wp execOp
  simp only [ho, hd, hs, Instr.storeAt, Instr.sureAddr, Sem.run_bind, Sem.run_pure, Result.andThen_ok, hrun]
  exact h
end

/-- The cells of channel k. -/
theorem cur_get {cur : List Value} {es : List Ed} {el k : Nat} {e : Ed} (hT : cur.take (el * 8) = eflat es) (hel : es.length = el) (hk : k < el) (he : es.getD k ed0 = e) (j : Nat) (hj : j < 8) : cur[k * 8 + j]? = (ecells e)[j]? := by
  have h1 := congrArg (·[k * 8 + j]?) hT
  simp only [List.getElem?_take] at h1
  rw [if_pos (by omega)] at h1
  rw [h1]
  obtain ⟨v, hv⟩ : ∃ v, (eflat es)[k * 8 + j]? = some v := by
    have hlen := eflat_length es
    exact ⟨_, List.getElem?_eq_getElem (by omega)⟩
  have h2 := (eflat_get es _ v hv).2
  rw [show (k * 8 + j) / 8 = k by omega, show (k * 8 + j) % 8 = j by omega, he] at h2
  rw [hv, h2]

theorem SpotRow.setFar {w : World} {a : Option Addr} {l : List (Int × Int)} (h : SpotRow w a l) {g i : Nat} (hg : l = [] ∨ ∃ b off, a = some ⟨b, off, none⟩ ∧ b ≠ g) (u : Value) : SpotRow (w.setCell ⟨g, i, none⟩ u) a l := by
  rcases h with h | ⟨b, off, e, hb, hc⟩
  · exact .inl h
  · rcases hg with h0 | ⟨b', off', e', hn⟩
    · exact .inl h0
    · rw [e] at e'
      injection e' with e'
      injection e' with e1 _
      subst e1
      refine .inr ⟨b, off, e, by simpa [World.setCell] using hb, fun j hj => ?_⟩
      rw [World.cell?_setCell_other _ _ _ _ (by intro h2; injection h2 with h2; exact hn h2.symm), World.cell?_setCell_other _ _ _ _ (by intro h2; injection h2 with h2; exact hn h2.symm)]
      exact hc j hj

/-- Behind the clones. -/
structure SentCut (w wc : World) (sl el : Nat) (sp : List (Int × Int)) (es : List Ed) (gN g : Nat) (a1 : Option Addr) (c1 cap : Nat) (cur : List Value) : Prop where
  N : Blk wc gN 31 [.slice a1 sl c1, .slice (some ⟨g, 0, none⟩) el cap]
  G : Blk wc g 52 cur
  T : cur.take (el * 8) = eflat es
  P : SpotRow wc a1 sp
  far : sp = [] ∨ ∃ b off, a1 = some ⟨b, off, none⟩ ∧ b ≠ g
  farR : sp = [] ∨ ∃ b off, a1 = some ⟨b, off, none⟩ ∧ b ≠ w.heap.size + 1
  nil : a1 = none → sp = [] ∧ c1 = 0
  R : Blk wc (w.heap.size + 1) 31 [.slice none 0 0, .slice none 0 0]
  B : Below w.heap.size w wc
  g1 : w.heap.size + 1 < g
  gn : gN ≠ g
  n1 : w.heap.size + 1 < gN

/-- A row in which one channel was turned. -/
theorem row_set {w : World} {g : Nat} {es : List Ed} {cur : List Value} {el : Nat} (hG : Blk w g 52 cur) (hT : cur.take (el * 8) = eflat es) (hel : es.length = el) : EdgeRow w (some ⟨g, 0, none⟩) es := by
  refine .inr ⟨g, 0, rfl, hG.lt, fun i hi j v hv => ?_⟩
  have hj : j < 8 := (List.getElem?_eq_some_iff.1 hv).1
  have h1 : (eflat es)[i * 8 + j]? = some v := by
    have key : ∀ (l : List Ed) (i : Nat), i < l.length → (ecells (l.getD i ed0))[j]? = some v → (eflat l)[i * 8 + j]? = some v := by
      intro l
      induction l with
      | nil => intro i hi; simp at hi
      | cons f r ih =>
        intro i hi hu
        have e : eflat (f :: r) = ecells f ++ eflat r := by simp [eflat]
        have hl : (ecells f).length = 8 := rfl
        rw [e]
        cases i with
        | zero =>
          rw [Nat.zero_mul, Nat.zero_add, List.getElem?_append_left (by rw [hl]; exact hj)]
          simpa using hu
        | succ i =>
          rw [List.getElem?_append_right (by rw [hl]; omega), hl, show (i + 1) * 8 + j - 8 = i * 8 + j by omega]
          exact ih i (by simpa using hi) (by simpa using hu)
    exact key es i hi hv
  rw [hG.cell, Nat.zero_add, ← h1, ← hT, List.getElem?_take, if_pos (by rw [← hel]; omega)]

theorem eflat_set (es : List Ed) (k : Nat) (e : Ed) (hk : k < es.length) : ∀ j, (eflat (es.set k e))[j]? = if j / 8 = k ∧ j < es.length * 8 then (ecells e)[j % 8]? else (eflat es)[j]? := by
  induction es generalizing k with
  | nil => simp at hk
  | cons f r ih =>
    intro j
    have hl : ∀ f, (ecells f).length = 8 := fun _ => rfl
    cases k with
    | zero =>
      have e1 : eflat ((f :: r).set 0 e) = ecells e ++ eflat r := by simp [eflat]
      have e2 : eflat (f :: r) = ecells f ++ eflat r := by simp [eflat]
      rw [e1, e2]
      by_cases hj : j < 8
      · rw [List.getElem?_append_left (by rw [hl]; exact hj), if_pos ⟨by omega, by simp; omega⟩, show j % 8 = j by omega]
      · rw [List.getElem?_append_right (by rw [hl]; omega), if_neg (by omega), List.getElem?_append_right (by rw [hl]; omega), hl, hl]
    | succ k =>
      have e1 : eflat ((f :: r).set (k + 1) e) = ecells f ++ eflat (r.set k e) := by simp [eflat]
      have e2 : eflat (f :: r) = ecells f ++ eflat r := by simp [eflat]
      rw [e1, e2]
      by_cases hj : j < 8
      · rw [List.getElem?_append_left (by rw [hl]; exact hj), if_neg (by omega), List.getElem?_append_left (by rw [hl]; exact hj)]
      · rw [List.getElem?_append_right (by rw [hl]; omega), List.getElem?_append_right (by rw [hl]; omega), hl, ih k (by simpa using hk) (j - 8)]
        have c : ((j - 8) / 8 = k ∧ j - 8 < r.length * 8) ↔ (j / 8 = k + 1 ∧ j < (f :: r).length * 8) := by simp; omega
        by_cases h : (j - 8) / 8 = k ∧ j - 8 < r.length * 8
        · rw [if_pos h, if_pos (c.1 h), show (j - 8) % 8 = j % 8 by omega]
        · rw [if_neg h, if_neg (fun h2 => h (c.2 h2))]

/-- Two cells of channel k turned: the row of the web in which it went. -/
theorem cur_set {cur : List Value} {es : List Ed} {el k : Nat} {e : Ed} (x y : Int) (hT : cur.take (el * 8) = eflat es) (hel : es.length = el) (hk : k < el) (he : es.getD k ed0 = e) :
    ((cur.set (k * 8 + 2) (.int .u64 x)).set (k * 8 + 3) (.int .u64 y)).take (el * 8) = eflat (es.set k { e with c := x, d := y }) := by
  apply List.ext_getElem?
  intro j
  rw [eflat_set es k _ (by omega) j, ← hT]
  rw [List.getElem?_take, List.getElem?_take]
  have hlen : el * 8 ≤ cur.length := by
    have h := congrArg List.length hT
    rw [List.length_take, eflat_length, hel] at h
    omega
  by_cases hj : j < el * 8
  · rw [if_pos hj, if_pos hj]
    have hcur : cur[j]? = (eflat es)[j]? := by rw [← hT, List.getElem?_take, if_pos hj]
    by_cases hk8 : j / 8 = k
    · rw [if_pos ⟨hk8, by rw [hel]; exact hj⟩]
      have hg : cur[j]? = (ecells e)[j % 8]? := by
        rw [hcur]
        have h := eflat_set es k e (by omega) j
        rw [if_pos ⟨hk8, by rw [hel]; exact hj⟩] at h
        rw [← h]
        congr 2
        rw [← he]
        apply List.ext_getElem?
        intro i
        rw [List.getElem?_set]
        split
        · rename_i h1; subst h1
          rw [if_pos (by omega), List.getD, List.getElem?_eq_getElem (by omega)]
          rfl
        · rfl
      obtain ⟨pe, qe, ce, de, fe, ge, he', ie⟩ := e
      simp only [List.getElem?_set, List.length_set]
      have h8 : j % 8 = 0 ∨ j % 8 = 1 ∨ j % 8 = 2 ∨ j % 8 = 3 ∨ j % 8 = 4 ∨ j % 8 = 5 ∨ j % 8 = 6 ∨ j % 8 = 7 := by omega
      rcases h8 with h | h | h | h | h | h | h | h
      · rw [if_neg (by omega), if_neg (by omega), hg, h]; rfl
      · rw [if_neg (by omega), if_neg (by omega), hg, h]; rfl
      · rw [if_neg (by omega), if_pos (by omega), if_pos (by omega), h]; rfl
      · rw [if_pos (by omega), if_pos (by omega), h]; rfl
      · rw [if_neg (by omega), if_neg (by omega), hg, h]; rfl
      · rw [if_neg (by omega), if_neg (by omega), hg, h]; rfl
      · rw [if_neg (by omega), if_neg (by omega), hg, h]; rfl
      · rw [if_neg (by omega), if_neg (by omega), hg, h]; rfl
    · rw [if_neg (fun h => hk8 h.1)]
      simp only [List.getElem?_set]
      rw [if_neg (by omega), if_neg (by omega)]
  · rw [if_neg hj, if_neg (by rw [hel]; omega), if_neg hj]
end Go.Proofs.Ytnnimjaigciedaa
