/-
  What a side has free, and whether a state may be, in numbers.
-/
import Derived.Test.YtkiifjkcpangfaaPacT
namespace Go.Proofs.Ytkiifjkcpangfaa
open Go.RowKit
set_option linter.unusedVariables false

theorem addE0 {s x : Int} (h : s + x < 18446744073709551616) : addE s x = 0 := by unfold addE; rw [if_pos h]
theorem addV0 {s x : Int} (h : s + x < 18446744073709551616) : addV s x = s + x := by unfold addV; rw [if_pos h]
theorem free2_iff (h : Int × Int) (p mo m t : Int) : (free2 h p mo m t).2 = 0 ↔ h.2 = 0 ∧ p + mo < 18446744073709551616 ∧ m ≤ p + mo ∧ t ≤ p + mo - m ∧ h.1 ≤ p + mo - m - t := by
  unfold free2
  repeat' split
  all_goals simp
  all_goals omega
theorem free2_val {h : Int × Int} {p mo m t : Int} (h0 : (free2 h p mo m t).2 = 0) : (free2 h p mo m t).1 = p + mo - m - t - h.1 := by
  rw [free2_iff] at h0
  obtain ⟨a, b, c, d, e⟩ := h0
  rw [free2_ok a (by omega) (by omega) (by omega) (by omega)]
theorem free2_e (h : Int × Int) (hh : h.2 = 0 ∨ h.2 = 11) (p mo m t : Int) : (free2 h p mo m t).2 = 0 ∨ (free2 h p mo m t).2 = 11 ∨ (free2 h p mo m t).2 = 12 := by
  unfold free2
  repeat' split
  all_goals simp
  all_goals omega
theorem soundE_iff (s : St) (p0 p1 : Int) : soundE s p0 p1 = 0 ↔ s.rd ≤ 200 ∧ s.cs.length ≤ 8 ∧ soundGo s.cs 0 s.cs = 0 ∧ (freeF s p0 p1 0).2 = 0 ∧ (freeF s p0 p1 1).2 = 0 := by
  constructor
  · exact sound_parts
  · rintro ⟨h1, h2, h3, h4, h5⟩
    unfold soundE
    rw [if_neg (by omega), if_neg (by simpa using h3), if_neg (by simpa using h4), h5]
theorem freeF_0 (s : St) (p0 p1 : Int) : freeF s p0 p1 0 = free2 (heldGo 0 0 s.cs) p0 s.m1 s.m0 s.t0 := by unfold freeF; rw [if_pos rfl]
theorem freeF_1 (s : St) (p0 p1 : Int) : freeF s p0 p1 1 = free2 (heldGo 1 0 s.cs) p1 s.m0 s.m1 s.t1 := by unfold freeF; rw [if_neg (by decide), if_pos rfl]
theorem nextE_zero {s : St} {p0 p1 side k amt : Int} {c : Cnd} {id : Int} (h : nextE s p0 p1 side k amt c id = 0) :
    soundE s p0 p1 = 0 ∧ s.rd ≠ 200 ∧ side = turnF (s.rd + 1) ∧ doE s.nxt p0 p1 side k amt c id = 0 ∧ nextS s p0 p1 side k amt c id = doS s.nxt side k amt c id ∧ soundE (doS s.nxt side k amt c id) p0 p1 = 0 := by
  by_cases h1 : soundE s p0 p1 = 0
  · by_cases h2 : s.rd = 200
    · rw [nextE_2 h1 h2] at h; cases h
    · by_cases h3 : side = turnF (s.rd + 1)
      · by_cases h4 : doE s.nxt p0 p1 side k amt c id = 0
        · refine ⟨h1, h2, h3, h4, by unfold nextS; rw [if_pos h], ?_⟩
          rw [nextE_5 h1 h2 h3 h4] at h; exact h
        · rw [nextE_4 h1 h2 h3 h4] at h; exact absurd h h4
      · rw [nextE_3 h1 h2 h3] at h; cases h
  · rw [nextE_1 h1] at h; exact absurd h h1
theorem run_field_op {P : Program} {o : Oper} {a : Act} {w : World} {t : TypeId} {x : Operand} {f : Nat} (ho : o.op = .field t x f) (u : Value) (hx : a.eval x = u) (v : Value) (hb : (Instr.field t u f).run P w = .ok v w) : (execOp a.eval o).run P w = .ok (.value v) w := by
  unfold execOp
  simp only [ho, hx, Sem.run_bind, hb, Result.andThen_ok, Sem.run_pure]
theorem field62 (k a : Int) (c : Cnd) (id : Int) (hok : c.Ok) (W : World) : (Instr.field 62 (.agg (ocells k a c id).toArray) 2).run Try.prog W = .ok (.agg c.cells.toArray) W := by
  obtain ⟨id', side, amt, h, ex⟩ := c
  have hl : h.length = 32 := hok.h
  match h, hl with
  | [a0, a1, a2, a3, a4, a5, a6, a7, a8, a9, b0, b1, b2, b3, b4, b5, b6, b7, b8, b9, c0, c1, c2, c3, c4, c5, c6, c7, c8, c9, d0, d1], _ =>
    show (Instr.field 62 _ 2).run Try.prog W = _
    kernel_rfl
theorem built62l (k : Int) (c : Cnd) (hok : c.Ok) (W : World) : (Instr.build 62 #[(0, .int .i64 k), (2, .agg c.cells.toArray)]).run Try.prog W = .ok (.agg (ocells k 0 c 0).toArray) W := by
  obtain ⟨id', side, amt, h, ex⟩ := c
  have hl : h.length = 32 := hok.h
  refine run_build W 62 _ _ ?_
  match h, hl with
  | [a0, a1, a2, a3, a4, a5, a6, a7, a8, a9, b0, b1, b2, b3, b4, b5, b6, b7, b8, b9, c0, c1, c2, c3, c4, c5, c6, c7, c8, c9, d0, d1], _ =>
    show Program.built Try.prog 62 _ = some _
    kernel_rfl
theorem built62i (k id : Int) (W : World) : (Instr.build 62 #[(0, .int .i64 k), (3, .int .u64 id)]).run Try.prog W = .ok (.agg (ocells k 0 cnd0 id).toArray) W := by kernel_rfl
theorem ocells_2 (k a : Int) (c : Cnd) (id : Int) : (ocells k a c id)[2]? = some (.int .u64 c.id) := rfl
theorem ocells_3 (k a : Int) (c : Cnd) (id : Int) : (ocells k a c id)[3]? = some (.int .i64 c.side) := rfl
theorem ocells_4 (k a : Int) (c : Cnd) (id : Int) : (ocells k a c id)[4]? = some (.int .u64 c.amt) := rfl
/-- A payment by a side. -/
def Cnd.by_ (c : Cnd) (s : Int) : Cnd := ⟨c.id, s, c.amt, c.h, c.ex⟩
theorem Cnd.Ok.by_ {c : Cnd} (h : c.Ok) (s : Int) : (c.by_ s).Ok := ⟨h.id, h.amt, h.h⟩
theorem ocells_by (k a : Int) (c : Cnd) (id s : Int) : (ocells k a c id).set 3 (.int .i64 s) = ocells k a (c.by_ s) id := rfl

end Go.Proofs.Ytkiifjkcpangfaa
