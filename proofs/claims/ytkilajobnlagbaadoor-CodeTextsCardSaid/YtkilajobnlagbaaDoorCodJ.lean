/-
  ordersOf: the beginnings of a program's orders, or what is wrong; leaps.
-/
import Derived.Test.YtkilajobnlagbaaDoorCodI
namespace Go.Proofs.YtkilajobnlagbaaDoor
open Go.RowKit
set_option linter.unusedVariables false

def leapB (op : Nat) : Bool := decide (op = 11 ∨ op = 12)
set_option maxRecDepth 100000 in
set_option maxHeartbeats 4000000 in
theorem leaps_any (op F C TK bh : Nat) (num : Int) (NM : ByteArray) (w : World) :
    Calls Tryd.prog 48 #[.agg #[.int .i64 (op : Int), .string NM, .int .i64 (F : Int), .int .i64 (C : Int), .int .i64 (TK : Int), .int .u64 num, .int .i64 (bh : Int)]] w fun e w' => e = .returned (.bool (leapB op)) ∧ Below w.heap.size w w' := by
  have hB := fun o => (Below.refl w.heap.size w).alloc (Nat.le_refl _) o
  have HB := Lib.hid hB
  clear hB
  by_cases h1 : op = 11
  · subst h1
    have e : leapB 11 = true := rfl
    rw [e, show ((11 : Nat) : Int) = 11 from rfl]
    clear e
    go_enter Tryd.func48, Tryd.ntmps48
    go_wp2
    go_ret
    exact ⟨rfl, HB.out _⟩
  · by_cases h2 : op = 12
    · subst h2
      have e : leapB 12 = true := rfl
      rw [e, show ((12 : Nat) : Int) = 12 from rfl]
      clear e
      go_enter Tryd.func48, Tryd.ntmps48
      go_wp2
      go_ret
      exact ⟨rfl, HB.out _⟩
    · have e : leapB op = false := by unfold leapB; simp [h1, h2]
      rw [e]
      have q1 : ¬ ((op : Int) = 11) := by omega
      have q2 : ¬ ((op : Int) = 12) := by omega
      have q3 : ((op : Int) == 11) = false := by simp [q1]
      have q4 : ((op : Int) == 12) = false := by simp [q2]
      clear e h1 h2 q1 q2
      go_enter Tryd.func48, Tryd.ntmps48
      go_wp2
      go_ret
      exact ⟨rfl, HB.out _⟩

/-- The order that begins at a place. -/
def cellsAt (p : List Int) (b : Nat) : List Value := ordCells (opAt p b) (numAt p b) (b + 1 + fol (opAt p b))
def oflat (p : List Int) (bs : List Nat) : List Value := bs.flatMap (cellsAt p)
theorem cellsAt_length (p : List Int) (b : Nat) : (cellsAt p b).length = 7 := rfl
theorem oflat_length (p : List Int) (bs : List Nat) : (oflat p bs).length = bs.length * 7 := by
  induction bs with
  | nil => rfl
  | cons b r ih => simp only [oflat, List.flatMap_cons, List.length_append, List.length_cons, cellsAt_length] at *; omega
theorem oflat_snoc (p : List Int) (bs : List Nat) (b : Nat) : oflat p bs ++ cellsAt p b = oflat p (bs ++ [b]) := by simp [oflat]
theorem oflat_get (p : List Int) (bs : List Nat) (i j : Nat) (hi : i < bs.length) (hj : j < 7) : (oflat p bs)[i * 7 + j]? = (cellsAt p (bs.getD i 0))[j]? := by
  induction bs generalizing i with
  | nil => simp at hi
  | cons b r ih =>
    cases i with
    | zero =>
      simp only [oflat, List.flatMap_cons, Nat.zero_mul, Nat.zero_add]
      rw [List.getElem?_append_left (by rw [cellsAt_length]; exact hj)]
      rfl
    | succ i =>
      simp only [oflat, List.flatMap_cons]
      rw [List.getElem?_append_right (by rw [cellsAt_length]; omega), cellsAt_length]
      have := ih i (by simpa using hi)
      rw [show (i + 1) * 7 + j - 7 = i * 7 + j by omega]
      simpa [oflat, List.getD] using this
/-- The beginnings, order by order. -/
def begF (p : List Int) : Nat → Nat → List Nat → Int × List Nat
  | 0, _, bs => (0, bs)
  | f + 1, at_, bs => if p.length ≤ at_ then (0, bs) else if ordE p at_ ≠ 0 then (ordE p at_, []) else begF p f (at_ + 1 + fol (opAt p at_)) (bs ++ [at_])
/-- Whether an order leaps to where none begins. -/
def lost (p : List Int) (bs : List Nat) (b : Nat) : Bool := leapB (opAt p b) && (decide ((p.length : Int) ≤ numAt p b) || !(bs.contains (numAt p b).toNat))
def ordsV (p : List Int) : Int × List Nat :=
  if 256 < p.length then (1, []) else
  if (begF p (p.length + 1) 0 []).1 ≠ 0 then ((begF p (p.length + 1) 0 []).1, []) else
  if (begF p (p.length + 1) 0 []).2.any (lost p (begF p (p.length + 1) 0 []).2) then (10, []) else (0, (begF p (p.length + 1) 0 []).2)
/-- Which places begin an order. -/
def begs (n : Nat) (bs : List Nat) : List Value := (List.range n).map fun k => .bool (bs.contains k)
theorem begs_length (n : Nat) (bs : List Nat) : (begs n bs).length = n := by simp [begs]
theorem begs_get (n k : Nat) (bs : List Nat) (h : k < n) : (begs n bs)[k]? = some (.bool (bs.contains k)) := by simp [begs, h]
theorem begs_set (n k : Nat) (bs : List Nat) : (begs n bs).set k (.bool true) = begs n (bs ++ [k]) := by
  apply List.ext_getElem?
  intro i
  rw [List.getElem?_set]
  by_cases hi : i < n
  · rw [begs_get n i _ hi, begs_get n i _ hi, begs_length]
    by_cases e : k = i
    · subst e
      simp [hi]
    · have e' : ¬ i = k := fun h => e h.symm
      simp [e, e', List.contains_eq_mem]
  · have h1 : (begs n (bs ++ [k]))[i]? = none := List.getElem?_eq_none (by rw [begs_length]; omega)
    have h2 : (begs n bs)[i]? = none := List.getElem?_eq_none (by rw [begs_length]; omega)
    rw [h1, h2, begs_length]
    by_cases e : k = i
    · simp [e, hi]
    · simp [e]
theorem begs_new (n : Nat) : begs n [] = List.replicate n (.bool false) := by
  apply List.ext_getElem?
  intro i
  by_cases hi : i < n
  · rw [begs_get n i _ hi]; simp [hi]
  · rw [List.getElem?_eq_none (by rw [begs_length]; omega), List.getElem?_eq_none (by simp; omega)]
end Go.Proofs.YtkilajobnlagbaaDoor
