/-
  Steps of regions that draw their order: a call, a new variable, a spot that is stored.
-/
import Derived.Test.YtnnimjaigciedaaMem
import Derived.Deep.DeepCutAuto
namespace Go.Proofs.Ytnnimjaigciedaa
open Go.RowKit
set_option linter.unusedVariables false

section
variable {ops : Array Oper} {o : Oper} {a : Act} {w : World} {K : Act → World → Prop} {Q : Exit → Act → World → Prop} {E : Prop}
theorem step_call (hw : Region.wanted o (yielded ops a.tmps) = true) (f : FuncId) (args : Array Operand) (tys : Array TypeId)
    (ho : o.op = .call { callee := .value (.func f), args := args, argTypes := tys }) (vs : Array Value) (hv : args.map a.eval = vs) {R : Ending → World → Prop} (hf : (callFunc f vs).run Try.prog w = .ok (.enter f vs) w) (hc : Calls Try.prog f vs w R)
    (hR : ∀ e w', R e w' → ∃ v, e = .returned v ∧ K (a.put o.dst v) w') :
    if Region.wanted o (yielded ops a.tmps) = true then Oper.wp Try.prog o a w K Q else E := by
  rw [if_pos hw]
  have e : (execOp a.eval o).run Try.prog w = .ok (.enter f vs) w := by
    unfold execOp
    simp only [ho]
    go_simp
    first | done | (rw [hv]; exact hf)
  unfold Oper.wp
  rw [e, Oper.upon_enter]
  refine hc.mono ?_
  intro e w' hr
  obtain ⟨v, rfl, hv⟩ := hR e w' hr
  exact hv

theorem step_new (hw : Region.wanted o (yielded ops a.tmps) = true) (t : TypeId) (ho : o.op = .alloc t)
    (cells : Array Value) (hb : (Instr.alloc t true (.tuple #[])).run Try.prog w = .ok (.pointer (some ⟨w.heap.size, 0, none⟩)) (w.alloc (.cells cells t)))
    (h : K (a.put o.dst (.pointer (some ⟨w.heap.size, 0, none⟩))) (w.alloc (.cells cells t))) :
    if Region.wanted o (yielded ops a.tmps) = true then Oper.wp Try.prog o a w K Q else E := by
  rw [if_pos hw]
  have e : (execOp a.eval o).run Try.prog w = .ok (.value (.pointer (some ⟨w.heap.size, 0, none⟩))) (w.alloc (.cells cells t)) := by
    unfold execOp
    simp only [ho, Sem.run_bind, hb, Result.andThen_ok, Sem.run_pure]
  unfold Oper.wp
  rw [e]
  exact h

theorem run_store24 (w : World) (g t : Nat) (x0 y0 x y : Int) (h : Pt w g t x0 y0) :
    (storeVar 62 ⟨g, 0, none⟩ (.agg #[.int .i64 x, .int .i64 y])).run Try.prog w = .ok () ((w.setCell ⟨g, 0, none⟩ (.int .i64 x)).setCell ⟨g, 1, none⟩ (.int .i64 y)) := by
  have k1 := h.c0
  have k2 := h.c1
  have k3 := h.f0
  have k4 := h.f1
  go_simp

theorem step_store24 (hw : Region.wanted o (yielded ops a.tmps) = true) (d s : Operand) (ho : o.op = .store 62 d s) (g t : Nat) (x0 y0 x y : Int) (hd : a.eval d = .pointer (some ⟨g, 0, none⟩)) (hs : a.eval s = .agg #[.int .i64 x, .int .i64 y]) (hP : Pt w g t x0 y0)
    (h : K (a.put o.dst undef) ((w.setCell ⟨g, 0, none⟩ (.int .i64 x)).setCell ⟨g, 1, none⟩ (.int .i64 y))) :
    if Region.wanted o (yielded ops a.tmps) = true then Oper.wp Try.prog o a w K Q else E := by
  rw [if_pos hw]
  unfold Oper.wp execOp
  simp only [ho, hd, hs, Instr.storeAt, Instr.sureAddr, Sem.run_bind, Sem.run_pure, Result.andThen_ok, run_store24 w g t x0 y0 x y hP]
  exact h
end
end Go.Proofs.Ytnnimjaigciedaa
