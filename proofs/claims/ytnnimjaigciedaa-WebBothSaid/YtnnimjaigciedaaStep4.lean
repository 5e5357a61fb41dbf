/-
  A slice stored in a field of a block that is known.
-/
import Derived.Test.YtnnimjaigciedaaStep3
namespace Go.Proofs.Ytnnimjaigciedaa
open Go.RowKit
set_option linter.unusedVariables false

theorem own_slice {w : World} {base : Nat} {e : TypeId} {size n : Nat} {v : Value} {xs : List Value} (h : w.ownsRow base e size v n xs) : ∃ a c, v = .slice a n c := by
  rcases h.2 with ⟨rfl, rfl⟩ | ⟨g, c, _, rfl, _⟩
  · exact ⟨none, 0, rfl⟩
  · exact ⟨_, c, rfl⟩

section
variable {ops : Array Oper} {o : Oper} {a : Act} {w : World} {K : Act → World → Prop} {Q : Exit → Act → World → Prop} {E : Prop}
theorem step_slice39 (hw : Region.wanted o (yielded ops a.tmps) = true) (d s : Operand) (ho : o.op = .store 28 d s) (g t : Nat) (cs : List Value) (old : Value) (h0 : cs[0]? = some old) (sa : Option Addr) (n c : Nat)
    (hd : a.eval d = .pointer (some ⟨g, 0, none⟩)) (hs : a.eval s = .slice sa n c) (hP : Blk w g t cs)
    (h : K (a.put o.dst undef) (w.setCell ⟨g, 0, none⟩ (.slice sa n c))) : if Region.wanted o (yielded ops a.tmps) = true then Oper.wp Try.prog o a w K Q else E := by
  rw [if_pos hw]
  have k1 := hP.cell 0
  rw [h0] at k1
  have k2 := hP.frozen 0
  have hrun : (storeVar 28 ⟨g, 0, none⟩ (.slice sa n c)).run Try.prog w = .ok () (w.setCell ⟨g, 0, none⟩ (.slice sa n c)) := by go_simp
  unfold Oper.wp execOp
  simp only [ho, hd, hs, Instr.storeAt, Instr.sureAddr, Sem.run_bind, Sem.run_pure, Result.andThen_ok, hrun]
  exact h
end
end Go.Proofs.Ytnnimjaigciedaa
