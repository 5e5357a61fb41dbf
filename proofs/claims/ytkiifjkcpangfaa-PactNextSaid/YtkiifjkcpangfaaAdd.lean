/-
  money's Add and Sub, the document's Add.
-/
import Derived.Test.YtkiifjkcpangfaaMem
namespace Go.Proofs.Ytkiifjkcpangfaa
open Go.RowKit
set_option linter.unusedVariables false

/-- A number of 64 bits. -/
def Word (x : Int) : Prop := 0 ≤ x ∧ x ≤ 18446744073709551615

theorem Try.add64 (x y : Int) (hx : 0 ≤ x) (hy : 0 ≤ y) (w : World) : (callFunc 47 #[.int .u64 x, .int .u64 y, .int .u64 0]).run Try.prog w =
    .ok (.value (.tuple #[.int .u64 ((x + y) % 18446744073709551616), .int .u64 ((x + y) / 18446744073709551616)])) w := by
  rw [run_callFunc_extern Try.func47 (by kernel_rfl) (by kernel_rfl) (by kernel_rfl) (e := add64Entry) (by kernel_rfl), run_add64 x y 0 hx hy (by omega) (by omega)]
  simp

def addE (a b : Int) : Int := if a + b < 18446744073709551616 then 0 else 11
def addV (a b : Int) : Int := if a + b < 18446744073709551616 then a + b else 0
def subE (a b : Int) : Int := if a < b then 12 else 0
def subV (a b : Int) : Int := if a < b then 0 else a - b

theorem add_any (a b : Int) (w : World) (ha : Word a) (hb : Word b) :
    Calls Try.prog 34 #[.int .u64 a, .int .u64 b] w fun e w' => e = .returned (.tuple #[.int .u64 (addV a b), .int .i64 (addE a b)]) ∧ w = w' := by
  obtain ⟨a0, a1⟩ := ha
  obtain ⟨b0, b1⟩ := hb
  by_cases h : a + b < 18446744073709551616
  · rw [addV, addE, if_pos h, if_pos h]
    have e1 : (a + b) / 18446744073709551616 = 0 := by omega
    have e2 : (a + b) % 18446744073709551616 = a + b := by omega
    go_enter Try.func34, Try.ntmps34
    go_wp2_with (simp only [Try.add64 a b a0 b0, e1, e2])
    go_ret2
    exact ⟨rfl, rfl⟩
  · rw [addV, addE, if_neg h, if_neg h]
    have e1 : (a + b) / 18446744073709551616 = 1 := by omega
    obtain ⟨z, e2⟩ : ∃ z, (a + b) % 18446744073709551616 = z := ⟨_, rfl⟩
    go_enter Try.func34, Try.ntmps34
    go_wp2_with (simp only [Try.add64 a b a0 b0, e1, e2])
    go_ret2
    exact ⟨rfl, rfl⟩

theorem sub_any (a b : Int) (w : World) (ha : Word a) (hb : Word b) :
    Calls Try.prog 36 #[.int .u64 a, .int .u64 b] w fun e w' => e = .returned (.tuple #[.int .u64 (subV a b), .int .i64 (subE a b)]) ∧ w = w' := by
  obtain ⟨a0, a1⟩ := ha
  obtain ⟨b0, b1⟩ := hb
  by_cases h : a < b
  · rw [subV, subE, if_pos h, if_pos h]
    go_enter Try.func36, Try.ntmps36
    go_wp2
    go_ret2
    exact ⟨rfl, rfl⟩
  · rw [subV, subE, if_neg h, if_neg h]
    go_enter Try.func36, Try.ntmps36
    go_wp2
    go_ret2
    exact ⟨rfl, rfl⟩


theorem addV_word {a b : Int} (ha : Word a) (hb : Word b) : Word (addV a b) := by
  unfold addV Word at *
  split <;> omega
theorem addE_cases (a b : Int) : addE a b = 0 ∨ addE a b = 11 := by
  unfold addE
  split
  · exact .inl rfl
  · exact .inr rfl

theorem radd_any (a b : Int) (w : World) (ha : Word a) (hb : Word b) :
    Calls Try.prog 29 #[.int .u64 a, .int .u64 b] w fun e w' => e = .returned (.tuple #[.int .u64 (addV a b), .int .i64 (addE a b)]) ∧ w = w' := by
  obtain ⟨a0, a1⟩ := ha
  obtain ⟨b0, b1⟩ := hb
  by_cases h : a + b < 18446744073709551616
  · rw [addV, addE, if_pos h, if_pos h]
    go_enter Try.func29, Try.ntmps29
    go_wp2
    go_ret2
    exact ⟨rfl, rfl⟩
  · rw [addV, addE, if_neg h, if_neg h]
    go_enter Try.func29, Try.ntmps29
    go_wp2
    go_ret2
    exact ⟨rfl, rfl⟩
end Go.Proofs.Ytkiifjkcpangfaa
