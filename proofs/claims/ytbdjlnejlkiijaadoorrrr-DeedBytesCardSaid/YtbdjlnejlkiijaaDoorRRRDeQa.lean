/-
  The two layings alike; the law's light (5); steps.
-/
import Derived.Test.YtbdjlnejlkiijaaDoorRRRDeK
import Derived.Test.YtbdjlnejlkiijaaDoorRRRDeO
import Derived.Test.YtbdjlnejlkiijaaDoorRRRDeP
import Derived.Test.YtbdjlnejlkiijaaDoorRRRDeG
import Derived.Test.YtbdjlnejlkiijaaDoorRRROctAwake
import Derived.Test.YtbdjlnejlkiijaaDoorRRRCame
namespace Go.Proofs.YtbdjlnejlkiijaaDoorRRR
open Go.RowKit
set_option linter.unusedVariables false
set_option linter.unusedSimpArgs false

theorem be8_num (x : Int) (h : 0 ≤ x ∧ x ≤ 18446744073709551615) : Oct.be8 x = Oct.numV 8 x := by
  simp only [Oct.be8, Oct.be4, Oct.numV, List.nil_append, List.cons_append, List.cons.injEq, and_true]
  omega
theorem be4_num (x : Int) (h : 0 ≤ x ∧ x ≤ 4294967295) : Oct.be4 x = Oct.numV 4 x := by
  simp only [Oct.be4, Oct.numV, List.nil_append, List.cons_append, List.cons.injEq, and_true]
  omega
theorem cond_eq (c : Cnd) (h : CndW c) : condL c = condD c := by
  unfold condL condD
  rw [be8_num _ h.1, be8_num _ h.2.1, be8_num _ h.2.2]
  simp only [List.append_assoc]
theorem flat_eq : ∀ (cs : List Cnd), (∀ c ∈ cs, CndW c) → cs.flatMap condL = cs.flatMap condD
  | [], _ => rfl
  | c :: r, h => by rw [List.flatMap_cons, List.flatMap_cons, cond_eq c (h c (by simp)), flat_eq r fun x hx => h x (by simp [hx])]
theorem stL_eq (ch rd m0 m1 t0 t1 : Int) (cs : List Cnd) (HWD : (0 ≤ ch ∧ ch ≤ 4294967295) ∧ (0 ≤ rd ∧ rd ≤ 18446744073709551615) ∧ (0 ≤ m0 ∧ m0 ≤ 18446744073709551615) ∧ (0 ≤ m1 ∧ m1 ≤ 18446744073709551615) ∧ (0 ≤ t0 ∧ t0 ≤ 18446744073709551615) ∧ (0 ≤ t1 ∧ t1 ≤ 18446744073709551615)) (h : ∀ c ∈ cs, CndW c) : stL ch rd m0 m1 t0 t1 cs = stD ch rd m0 m1 t0 t1 cs := by
  unfold stL stH stD
  rw [flat_eq cs h, be4_num _ HWD.1, be8_num _ HWD.2.1, be8_num _ HWD.2.2.1, be8_num _ HWD.2.2.2.1, be8_num _ HWD.2.2.2.2.1, be8_num _ HWD.2.2.2.2.2]
  simp only [List.append_assoc]
theorem opL_eq (kd amt id : Int) (c : Cnd) (h : (0 ≤ amt ∧ amt ≤ 18446744073709551615) ∧ (0 ≤ id ∧ id ≤ 18446744073709551615)) (hw : CndW c) : opL kd amt c id = opD kd amt c id := by
  unfold opL opD
  rw [cond_eq c hw, be8_num _ h.1, be8_num _ h.2]
  simp only [List.append_assoc]
theorem dsum_eq (ch rd m0 m1 t0 t1 : Int) (cs : List Cnd) (HWD : (0 ≤ ch ∧ ch ≤ 4294967295) ∧ (0 ≤ rd ∧ rd ≤ 18446744073709551615) ∧ (0 ≤ m0 ∧ m0 ≤ 18446744073709551615) ∧ (0 ≤ m1 ∧ m1 ≤ 18446744073709551615) ∧ (0 ≤ t0 ∧ t0 ≤ 18446744073709551615) ∧ (0 ≤ t1 ∧ t1 ≤ 18446744073709551615)) (h : ∀ c ∈ cs, CndW c) : dsum ch rd m0 m1 t0 t1 cs = dsumD ch rd m0 m1 t0 t1 cs := by
  unfold dsum dsumD rtext
  rw [stL_eq ch rd m0 m1 t0 t1 cs HWD h, be4_num _ HWD.1]
theorem wpAnyH_at {P : Program} {md : Region.Mode} {ops : Array Oper} {Q : Exit → Act → World → Prop} {S : World → Prop} {fuel fuel' : Nat} {L L' : Array Bool} {a : Act} {w : World} (hf : fuel' = fuel) (hL : L' = L) (h : wpAnyH P md ops Q S fuel L a w) : wpAnyH P md ops Q S fuel' L' a w := by
  subst hf
  subst hL
  exact h
theorem wpAnyH_cut {P : Program} {md : Region.Mode} {ops : Array Oper} {Q : Exit → Act → World → Prop} {S : World → Prop} {fuel : Nat} {L : Array Bool} {a : Act} {w : World} (F : Array Oper → (Exit → Act → World → Prop) → Prop) (h1 : F ops Q) (h2 : F ops Q → wpAnyH P md ops Q S fuel L a w) : wpAnyH P md ops Q S fuel L a w := h2 h1
theorem own_five (X : World) : Oct.Own (X.alloc (.cells #[.int .u8 5] 5)) X.heap.size (.slice (some ⟨X.heap.size, 0, none⟩) 1 1) [5] := World.ownsRow_lit X (Oct.byt [5]).toArray 1 (Nat.le_refl _) (by unfold maxLen; omega) rfl
theorem own_srcI {w : World} {base : Nat} {A : Option Addr} {n c : Nat} {l : List Int} (h : Oct.Own w base (.slice A n c) l) : Oct.Src w A c l := by
  obtain ⟨A', c', hv, hs⟩ := Oct.Own.src h
  injection hv with e1 e2 e3
  rw [e1, e3]
  exact hs
theorem run_conv_op {o : Oper} {a : Act} {s d : TypeId} {x : Operand} {v u : Value} {w : World} (ho : o.op = .convert s d x) (hx : a.eval x = v) (h : (convert s d v).run Tryd.prog w = .ok u w) : (execOp a.eval o).run Tryd.prog w = .ok (.value u) w := by
  unfold execOp
  simp only [ho, hx, Sem.run_bind, h, Result.andThen_ok, Sem.run_pure]
theorem run_eq_str {o : Oper} {a : Act} {x y : Operand} {s : ByteArray} (ho : o.op = .binOp .eql 9 x y 9) (hx : a.eval x = .string s) (hy : a.eval y = .string s) (w : World) : (execOp a.eval o).run Tryd.prog w = .ok (.value (.bool true)) w := by
  unfold execOp
  simp only [ho, hx, hy]
  go_simp
theorem to_string35 (w : World) (A : Option Addr) (c n : Nat) (l : List Int) (hn : n = l.length) (hS : Oct.Src w A c l) : (convert 35 9 (.slice A n c)).run Tryd.prog w = .ok (.string (Oct.txt l)) w := by
  have h := Oct.to_string w A c n l hn hS
  subst hn
  rw [run_convert_bytes_string w 36 9 5 A l.length c Tryd.underlying36 Tryd.underlying5 Tryd.underlying9] at h
  rw [run_convert_bytes_string w 35 9 5 A l.length c Tryd.underlying35 Tryd.underlying5 Tryd.underlying9]
  exact h
theorem guard52 : Tryd.prog.eqGuardType Tryd.prog.depth 52 = false := by kernel_rfl
theorem info32 (kd amt : Int) (c : Cnd) (id : Int) (h : c.Ok) : (Tryd.prog.info? 32).map (·.size) = some (opC kd amt c id).length := by
  rw [opC_len _ _ _ h]
  kernel_rfl
set_option maxRecDepth 100000 in
set_option maxHeartbeats 4000000 in
theorem light_any (ch rd m0 m1 t0 t1 : Int) (As : Option Addr) (n cp : Nat) (w : World) (hn : n ≤ 9223372036854775807) : Calls Tryd.prog 5 #[.agg #[.int .u32 ch, .int .u64 rd, .int .u64 m0, .int .u64 m1, .int .u64 t0, .int .u64 t1, .slice As n cp]] w fun e w' => e = .returned (.bool (decide ((n : Int) ≤ 30))) ∧ Below w.heap.size w w' := by
  go_enter Tryd.func5, Tryd.ntmps5
  go_wp2
  go_ret
  exact ⟨rfl, (Below.refl _ _).alloc (Nat.le_refl _) _⟩
theorem L1 {α : Type} (l : List α) (i : Nat) (a : α) : l.toArray.setIfInBounds i a = (l.set i a).toArray := by simp
theorem L2 {α : Type} (x a : α) (l : List α) : (x :: l).set 0 a = a :: l := rfl
theorem L3 {α : Type} (x a : α) (l : List α) (n : Nat) : (x :: l).set (n + 1) a = x :: l.set n a := rfl
end Go.Proofs.YtbdjlnejlkiijaaDoorRRR
