/-
  The document's lamp, its small functions: first (function 95), Bit (39): what they answer; nothing that was there is written.
  The document's Cover (function 68) and Secret (69): what they answer; nothing that was there is written.
  The document's Sign (function 26): what it answers; nothing that was there is written.
  The document's Leaf (function 23): what it answers; nothing that was there is written.
  The document's From (function 29): what it answers; nothing that was there is written.
-/
import Derived.Test.YtkonokjhpddbfaaDoorGD
import Derived.Test.YtkonokjhpddbfaaDoorGB
import Derived.Test.YtkonokjhpddbfaaDoorGC
namespace Go.Proofs.YtkonokjhpddbfaaDoor
open Go.RowKit
set_option linter.unusedVariables false

end Go.Proofs.YtkonokjhpddbfaaDoor
namespace Go.Proofs.YtkonokjhpddbfaaDoor
open Go.RowKit
set_option linter.unusedVariables false

/-- A slice literal, at a step of a region that draws its order. -/
theorem step_lay {ops : Array Oper} {o : Oper} {a : Act} {w : World} {K : Act → World → Prop} {Q : Exit → Act → World → Prop} {E : Prop} (hw : Region.wanted o (yielded ops a.tmps) = true) (t len : Nat) (parts : Array (Nat × Operand)) (ho : o.op = .buildSlice t len parts)
    (vals : Array (Nat × Value)) (hv : (parts.map fun (i, x) => (i, a.eval x)) = vals) (cells : Array Value) (e : TypeId) (hb : (Instr.buildSlice t len vals).run Tryd.prog w = .ok (.slice (some ⟨w.heap.size, 0, none⟩) len len) (w.alloc (.cells cells e)))
    (h : K (a.put o.dst (.slice (some ⟨w.heap.size, 0, none⟩) len len)) (w.alloc (.cells cells e))) :
    if Region.wanted o (yielded ops a.tmps) = true then Oper.wp Tryd.prog o a w K Q else E := by
  rw [if_pos hw]
  have e : (execOp a.eval o).run Tryd.prog w = .ok (.value (.slice (some ⟨w.heap.size, 0, none⟩) len len)) (w.alloc (.cells cells e)) := by
    unfold execOp
    simp only [ho, hv, Sem.run_bind, hb, Result.andThen_ok, Sem.run_pure]
  unfold Oper.wp
  rw [e]
  exact h

theorem numV_four (n : Nat) (hn : n < 4294967296) : Oct.numV 4 (n : Int) = ints (four n) := by
  simp only [Oct.numV, ints, four, List.nil_append, List.cons_append, List.map_cons, List.map_nil, List.cons.injEq, and_true]
  omega
end Go.Proofs.YtkonokjhpddbfaaDoor
namespace Go.Proofs.YtkonokjhpddbfaaDoor
open Go.RowKit
set_option linter.unusedVariables false

end Go.Proofs.YtkonokjhpddbfaaDoor
namespace Go.Proofs.YtkonokjhpddbfaaDoor
open Go.RowKit
set_option linter.unusedVariables false

/-- A new variable, at a step of a region that draws its order. -/
theorem step_new {ops : Array Oper} {o : Oper} {a : Act} {w : World} {K : Act → World → Prop} {Q : Exit → Act → World → Prop} {E : Prop} (hw : Region.wanted o (yielded ops a.tmps) = true) (t : TypeId) (ho : o.op = .alloc t)
    (cells : Array Value) (hb : (Instr.alloc t true (.tuple #[])).run Tryd.prog w = .ok (.pointer (some ⟨w.heap.size, 0, none⟩)) (w.alloc (.cells cells t)))
    (h : K (a.put o.dst (.pointer (some ⟨w.heap.size, 0, none⟩))) (w.alloc (.cells cells t))) :
    if Region.wanted o (yielded ops a.tmps) = true then Oper.wp Tryd.prog o a w K Q else E := by
  rw [if_pos hw]
  have e : (execOp a.eval o).run Tryd.prog w = .ok (.value (.pointer (some ⟨w.heap.size, 0, none⟩))) (w.alloc (.cells cells t)) := by
    unfold execOp
    simp only [ho, Sem.run_bind, hb, Result.andThen_ok, Sem.run_pure]
  unfold Oper.wp
  rw [e]
  exact h

end Go.Proofs.YtkonokjhpddbfaaDoor
namespace Go.Proofs.YtkonokjhpddbfaaDoor
open Go.RowKit
set_option linter.unusedVariables false

end Go.Proofs.YtkonokjhpddbfaaDoor
