/-
  What routes that are found have, and the best of them, in numbers.
-/
import Derived.Test.YtnnimjaigciedaaPathP
namespace Go.Proofs.Ytnnimjaigciedaa
open Go.RowKit
set_option linter.unusedVariables false

/-- What holds of each route that is found. -/
theorem goS_all (P : Tr → Prop) {F : Stp → List Tr → List Tr × Bool} {l : List Int} : ∀ (S : List Stp) (acc : List Tr), (∀ q ∈ S, q.t ∉ l → ∀ a : List Tr, (∀ t ∈ a, P t) → ∀ t ∈ (F q a).1, P t) → (∀ t ∈ acc, P t) → ∀ t ∈ (goS F l S acc).1, P t := by
  intro S
  induction S with
  | nil => intro acc _ h; exact h
  | cons q r ih =>
    intro acc hF h
    have hF2 : ∀ q ∈ r, q.t ∉ l → ∀ a : List Tr, (∀ t ∈ a, P t) → ∀ t ∈ (F q a).1, P t := fun q hq => hF q (List.mem_cons_of_mem _ hq)
    unfold goS
    split
    · exact ih acc hF2 h
    · rename_i hm
      have h1 := hF q (by simp) hm acc h
      split
      · exact ih _ hF2 h1
      · exact h1
theorem eachL_all {sl : Nat} {es : List Ed} {goal amt : Int} (P : Tr → Prop) (I : List Int → List Stp → Prop) (hgoal : ∀ l s, I l s → lastI l = goal → PayOk amt s → P (l, s)) (hstep : ∀ l s q, I l s → lastI l ≠ goal → q ∈ stepsL sl es (lastI l) 0 → q.t ∉ l → I (l ++ [q.t]) (s ++ [q])) :
    ∀ (f : Nat) (l : List Int) (s : List Stp) (acc : List Tr), I l s → (∀ t ∈ acc, P t) → ∀ t ∈ (eachL sl es goal amt f l s acc).1, P t := by
  have leaf : ∀ (l : List Int) (s : List Stp) (acc : List Tr), I l s → lastI l = goal → (∀ t ∈ acc, P t) → ∀ t ∈ ((if PayOk amt s then (acc ++ [(l, s)], decide (acc.length + 1 < 32)) else (acc, true)) : List Tr × Bool).1, P t := by
    intro l s acc hI hg h t ht
    split at ht
    · rename_i hp
      rcases List.mem_append.1 ht with h1 | h1
      · exact h t h1
      · simp at h1; subst h1; exact hgoal l s hI hg hp
    · exact h t ht
  intro f
  induction f with
  | zero =>
    intro l s acc hI h
    unfold eachL
    split
    · rename_i hg; exact leaf l s acc hI hg h
    · exact h
  | succ f ih =>
    intro l s acc hI h
    unfold eachL
    split
    · rename_i hg; exact leaf l s acc hI hg h
    · rename_i hg
      exact goS_all P _ acc (fun q hq hm a ha => ih _ _ a (hstep l s q hI hg hq hm) ha) h
/-- A route's first amount. -/
def firstE (amt : Int) (t : Tr) : Int := (amtsE amt t.2).2.getD 0 0
def lessE (amt : Int) (t m : Tr) : Int := orE (cmpE (firstE amt t) (firstE amt m)) (cmpE (t.2.length : Int) (m.2.length : Int))
def bestF (amt : Int) : Tr → List Tr → Tr
  | m, [] => m
  | m, t :: r => if lessE amt t m < 0 then bestF amt t r else bestF amt m r
def bestL (amt : Int) : List Tr → Tr
  | [] => ([], [])
  | t :: r => bestF amt t r
theorem rtflat_at (l : List Rt) : ∀ (i : Nat) (r : Rt), l[i]? = some r → ∀ j u, r.cells[j]? = some u → (rtflat l)[i * 3 + j]? = some u := by
  induction l with
  | nil => intro i r h; simp at h
  | cons q t ih =>
    intro i r h j u hu
    have e : rtflat (q :: t) = q.cells ++ rtflat t := rfl
    have hl : q.cells.length = 3 := rfl
    cases i with
    | zero =>
      simp at h
      subst h
      have hj : j < 3 := by
        rcases Nat.lt_or_ge j 3 with h1 | h1
        · exact h1
        · rw [List.getElem?_eq_none (by rw [hl]; exact h1)] at hu; cases hu
      rw [e, Nat.zero_mul, Nat.zero_add, List.getElem?_append_left (by rw [hl]; exact hj)]
      exact hu
    | succ i =>
      rw [e, List.getElem?_append_right (by rw [hl]; omega), hl, show (i + 1) * 3 + j - 3 = i * 3 + j by omega]
      exact ih i r (by simpa using h) j u hu
theorem own_cells3 {w : World} {base g n c : Nat} {l : List Rt} (h : w.ownsRow base 89 3 (.slice (some ⟨g, 0, none⟩) n c) n (rtflat l)) {i : Nat} {r : Rt} (hr : l[i]? = some r) : w.cell? ⟨g, i * 3, none⟩ = some (.slice r.na r.l.length r.nc) ∧ w.cell? ⟨g, i * 3 + 1, none⟩ = some (.slice r.ga r.s.length r.gc) ∧ w.cell? ⟨g, i * 3 + 2, none⟩ = some (.slice r.aa r.s.length r.ac) := by
  have k := fun j u hu => h.cells (g := g) rfl (i * 3 + j) u (rtflat_at l i r hr j u hu)
  have k0 := k 0 _ rfl
  have k1 := k 1 _ rfl
  have k2 := k 2 _ rfl
  rw [Go.WideShapes.add_plain] at k0 k1 k2
  refine ⟨?_, ?_, ?_⟩
  · simpa [Nat.add_assoc] using k0
  · simpa [Nat.add_assoc] using k1
  · simpa [Nat.add_assoc] using k2
section
variable {ops : Array Oper} {o : Oper} {a : Act} {w : World} {K : Act → World → Prop} {Q : Exit → Act → World → Prop} {E : Prop}
theorem step_callv (hw : Region.wanted o (yielded ops a.tmps) = true) (k : Nat) (f : FuncId) (args : Array Operand) (tys : Array TypeId)
    (ho : o.op = .call { callee := .value (.tmp k), args := args, argTypes := tys }) (ht : a.tmps[k]?.getD undef = .func (.func f) #[] #[]) (vs : Array Value) (hv : args.map a.eval = vs) {R : Ending → World → Prop} (hf : (callFunc f vs).run Try.prog w = .ok (.enter f vs) w) (hc : Calls Try.prog f vs w R)
    (hR : ∀ e w', R e w' → ∃ v, e = .returned v ∧ K (a.put o.dst v) w') :
    if Region.wanted o (yielded ops a.tmps) = true then Oper.wp Try.prog o a w K Q else E := by
  rw [if_pos hw]
  have e : (execOp a.eval o).run Try.prog w = .ok (.enter f vs) w := by
    unfold execOp
    simp only [ho]
    go_simp
  unfold Oper.wp
  rw [e, Oper.upon_enter]
  refine hc.mono ?_
  intro e w' hr
  obtain ⟨v, rfl, hv⟩ := hR e w' hr
  exact hv
end
end Go.Proofs.Ytnnimjaigciedaa
