/-
  The place of the order that is done behind another one.
-/
import Derived.Test.YtkilajobnlagbaaDoorCodD
namespace Go.Proofs.YtkilajobnlagbaaDoor
open Go.RowKit
set_option linter.unusedVariables false

def nextV (op num bh : Nat) (a : Int) : Nat := if op = 11 ∨ op = 12 ∧ a ≠ 0 then num else bh
set_option maxRecDepth 100000 in
set_option maxHeartbeats 4000000 in
theorem next_any (op num bh F C TK : Nat) (NM : ByteArray) (a : Int) (w : World) (hop : op < 18) (hnum : op = 11 ∨ op = 12 → num ≤ 65535) :
    Calls Tryd.prog 23 #[.agg #[.int .i64 (op : Int), .string NM, .int .i64 (F : Int), .int .i64 (C : Int), .int .i64 (TK : Int), .int .u64 (num : Int), .int .i64 (bh : Int)], .int .u64 a] w fun e w' => e = .returned (.int .i64 (nextV op num bh a : Int)) ∧ Below w.heap.size w w' := by
  have hB := fun o => (Below.refl w.heap.size w).alloc (Nat.le_refl _) o
  have HB := Lib.hid hB
  clear hB
  by_cases h1 : op = 11
  · subst h1
    have e : nextV 11 num bh a = num := by unfold nextV; rw [if_pos (.inl rfl)]
    have hn := hnum (.inl rfl)
    have n1 : (num : Int) ≤ 65535 := by omega
    have n0 : (0 : Int) ≤ (num : Int) := Int.natCast_nonneg _
    rw [e, show ((11 : Nat) : Int) = 11 from rfl]
    clear e hnum hn hop
    go_enter Tryd.func23, Tryd.ntmps23
    go_wp2
    go_ret
    exact ⟨rfl, HB.out _⟩
  · by_cases h2 : op = 12
    · subst h2
      have hn := hnum (.inr rfl)
      have n1 : (num : Int) ≤ 65535 := by omega
      have n0 : (0 : Int) ≤ (num : Int) := Int.natCast_nonneg _
      by_cases h3 : a = 0
      · subst h3
        have e : nextV 12 num bh 0 = bh := by unfold nextV; rw [if_neg (by simp)]
        rw [e, show ((12 : Nat) : Int) = 12 from rfl]
        clear e hnum hn hop h1
        go_enter Tryd.func23, Tryd.ntmps23
        go_wp2
        go_ret
        exact ⟨rfl, HB.out _⟩
      · have e : nextV 12 num bh a = num := by unfold nextV; rw [if_pos (.inr ⟨rfl, h3⟩)]
        rw [e, show ((12 : Nat) : Int) = 12 from rfl]
        have n2 : (a != 0) = true := by simp [h3]
        clear e hnum hn hop h1
        go_enter Tryd.func23, Tryd.ntmps23
        go_wp2
        go_ret
        exact ⟨rfl, HB.out _⟩
    · have e : nextV op num bh a = bh := by unfold nextV; rw [if_neg (by omega)]
      rw [e]
      have q1 : ¬ ((op : Int) = 11) := by omega
      have q2 : ¬ ((op : Int) = 12) := by omega
      clear e hnum hop h1 h2
      go_enter Tryd.func23, Tryd.ntmps23
      go_wp2
      go_ret
      exact ⟨rfl, HB.out _⟩

/-- What a run comes to: the number, what it cost, what is wrong. -/
def runL (p : List Int) (fs : List Int) (ps : List Bool) (ht : Int) (gas : Nat) : Nat → Nat → Nat → List Int → Int × Nat × Int
  | 0, at_, cost, s => (0, cost, 24)
  | fuel + 1, at_, cost, s =>
    if ordE p at_ ≠ 0 then (0, cost, ordE p at_) else
    if gas < cost + cst (opAt p at_) then (0, cost, 24) else
    if tkE s (tks (opAt p at_)) ≠ 0 then (0, cost + cst (opAt p at_), tkE s (tks (opAt p at_))) else
    if opAt p at_ = 0 then (tkA s 1, cost + cst 0, 0) else
    if doE (tkL s (tks (opAt p at_))) (laysR (opAt p at_) (numAt p at_).toNat fs ps ht (tkA s (tks (opAt p at_))) (tkB s (tks (opAt p at_)))) ≠ 0 then
      (0, cost + cst (opAt p at_), doE (tkL s (tks (opAt p at_))) (laysR (opAt p at_) (numAt p at_).toNat fs ps ht (tkA s (tks (opAt p at_))) (tkB s (tks (opAt p at_))))) else
    runL p fs ps ht gas fuel (nextV (opAt p at_) (numAt p at_).toNat (at_ + 1 + fol (opAt p at_)) (tkA s (tks (opAt p at_)))) (cost + cst (opAt p at_))
      (doL (tkL s (tks (opAt p at_))) (laysR (opAt p at_) (numAt p at_).toNat fs ps ht (tkA s (tks (opAt p at_))) (tkB s (tks (opAt p at_)))))
def runV (p : List Int) (fs : List Int) (ps : List Bool) (ht : Int) (gas : Int) : Int × Nat × Int :=
  if 256 < p.length ∨ gas < 0 ∨ 4096 < gas then (0, 0, 1) else runL p fs ps ht gas.toNat (gas.toNat + 1) 0 0 []
end Go.Proofs.YtkilajobnlagbaaDoor
