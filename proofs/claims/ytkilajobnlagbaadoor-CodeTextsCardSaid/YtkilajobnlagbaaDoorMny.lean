/-
  Package money's Add, Sub and Mul, for every input: sums, differences, products that never go round.
-/
import Derived.Shelf.Bits.Mul64
import Derived.Laws.Externs
import Derived.Test.YtkilajobnlagbaaDoorMem
namespace Go.Proofs.YtkilajobnlagbaaDoor
open Go.RowKit Go.Shelf
set_option linter.unusedVariables false

def lays264_ren : Go.Shelf.Ren := ⟨fun | 264 => 63 | n => n, fun | 53 => 25 | 46 => 125 | n => n, fun | n => n⟩
theorem lays264 : Go.Proofs.Lays.n264 Tryd.prog lays264_ren := {
  mixed := by kernel_rfl
  f264 := Tryd.func63.trans (congrArg some (by kernel_rfl))
  t46 := Tryd.underlying125
  a46 := Tryd.isAgg125
  z46 := Tryd.sizeOf125
  v46 := Tryd.zeroValue125
  t53 := Tryd.underlying25
  a53 := Tryd.isAgg25
  z53 := Tryd.sizeOf25
  v53 := Tryd.zeroValue25 }
theorem bits_Mul64 (x y : Nat) (hx : x < 18446744073709551616) (hy : y < 18446744073709551616) (w : World) :
    Calls Tryd.prog 63 #[.int .u64 x, .int .u64 y] w fun e w' => e = .returned (.tuple #[.int .u64 ((x * y / 18446744073709551616 : Nat) : Int), .int .u64 ((x * y % 18446744073709551616 : Nat) : Int)]) ∧ w' = w := Any.bits_Mul64 lays264 x y hx hy w
theorem add64 (x y : Int) (hx : 0 ≤ x) (hy : 0 ≤ y) (w : World) : (callFunc 62 #[.int .u64 x, .int .u64 y, .int .u64 0]).run Tryd.prog w =
    .ok (.value (.tuple #[.int .u64 ((x + y) % 18446744073709551616), .int .u64 ((x + y) / 18446744073709551616)])) w := by
  rw [run_callFunc_extern Tryd.func62 (by kernel_rfl) (by kernel_rfl) (by kernel_rfl) (e := add64Entry) (by kernel_rfl), run_add64 x y 0 hx hy (by omega) (by omega)]
  simp only [Result.andThen, Int.add_zero]

/-- A number of 64 bits. -/
def Word (x : Int) : Prop := 0 ≤ x ∧ x ≤ 18446744073709551615
def mulH (a b : Int) : Int := a * b / 18446744073709551616
def mulL (a b : Int) : Int := a * b % 18446744073709551616
def addE (a b : Int) : Int := if a + b < 18446744073709551616 then 0 else 11
def addV (a b : Int) : Int := if a + b < 18446744073709551616 then a + b else 0
def subE (a b : Int) : Int := if a < b then 12 else 0
def subV (a b : Int) : Int := if a < b then 0 else a - b
def mulE (a b : Int) : Int := if a * b < 18446744073709551616 then 0 else 11
def mulV (a b : Int) : Int := if a * b < 18446744073709551616 then a * b else 0

theorem mul64_any (a b : Int) (w : World) (ha : Word a) (hb : Word b) :
    Calls Tryd.prog 63 #[.int .u64 a, .int .u64 b] w fun e w' => e = .returned (.tuple #[.int .u64 (mulH a b), .int .u64 (mulL a b)]) ∧ w = w' := by
  obtain ⟨x, rfl⟩ := Int.eq_ofNat_of_zero_le ha.1
  obtain ⟨y, rfl⟩ := Int.eq_ofNat_of_zero_le hb.1
  refine (bits_Mul64 x y (by have := ha.2; omega) (by have := hb.2; omega) w).mono fun _ _ ⟨he, hw⟩ => ⟨?_, hw.symm⟩
  rw [he]
  unfold mulH mulL
  rw [Int.natCast_ediv, Int.natCast_emod, Int.natCast_mul]
  rfl

theorem add_any (a b : Int) (w : World) (ha : Word a) (hb : Word b) :
    Calls Tryd.prog 40 #[.int .u64 a, .int .u64 b] w fun e w' => e = .returned (.tuple #[.int .u64 (addV a b), .int .i64 (addE a b)]) ∧ w = w' := by
  obtain ⟨a0, a1⟩ := ha
  obtain ⟨b0, b1⟩ := hb
  by_cases h : a + b < 18446744073709551616
  · rw [addV, addE, if_pos h, if_pos h]
    have e1 : (a + b) / 18446744073709551616 = 0 := by omega
    have e2 : (a + b) % 18446744073709551616 = a + b := by omega
    go_enter Tryd.func40, Tryd.ntmps40
    go_wp2_with (simp only [add64 a b a0 b0, e1, e2])
    go_ret2
    exact ⟨rfl, rfl⟩
  · rw [addV, addE, if_neg h, if_neg h]
    have e1 : (a + b) / 18446744073709551616 = 1 := by omega
    go_enter Tryd.func40, Tryd.ntmps40
    go_wp2_with (simp only [add64 a b a0 b0, e1])
    go_ret2
    exact ⟨rfl, rfl⟩

theorem sub_any (a b : Int) (w : World) (ha : Word a) (hb : Word b) :
    Calls Tryd.prog 41 #[.int .u64 a, .int .u64 b] w fun e w' => e = .returned (.tuple #[.int .u64 (subV a b), .int .i64 (subE a b)]) ∧ w = w' := by
  obtain ⟨a0, a1⟩ := ha
  obtain ⟨b0, b1⟩ := hb
  by_cases h : a < b
  · rw [subV, subE, if_pos h, if_pos h]
    go_enter Tryd.func41, Tryd.ntmps41
    go_wp2
    go_ret2
    exact ⟨rfl, rfl⟩
  · rw [subV, subE, if_neg h, if_neg h]
    go_enter Tryd.func41, Tryd.ntmps41
    go_wp2
    go_ret2
    exact ⟨rfl, rfl⟩

theorem mul_any (a b : Int) (w : World) (ha : Word a) (hb : Word b) :
    Calls Tryd.prog 42 #[.int .u64 a, .int .u64 b] w fun e w' => e = .returned (.tuple #[.int .u64 (mulV a b), .int .i64 (mulE a b)]) ∧ w = w' := by
  have hm := mul64_any a b w ha hb
  have h0 : 0 ≤ a * b := Int.mul_nonneg ha.1 hb.1
  by_cases h : a * b < 18446744073709551616
  · rw [mulV, mulE, if_pos h, if_pos h]
    rw [show mulH a b = 0 by unfold mulH; omega, show mulL a b = a * b by unfold mulL; omega] at hm
    go_enter Tryd.func42, Tryd.ntmps42
    go_wp2_with fail
    refine hm.mono ?_
    rintro e w' ⟨rfl, rfl⟩
    go_wp2
    go_ret2
    exact ⟨rfl, rfl⟩
  · rw [mulV, mulE, if_neg h, if_neg h]
    have hh : mulH a b ≠ 0 := by unfold mulH; omega
    obtain ⟨H, hH⟩ : ∃ H, mulH a b = H := ⟨_, rfl⟩
    rw [hH] at hm hh
    go_enter Tryd.func42, Tryd.ntmps42
    go_wp2_with fail
    refine hm.mono ?_
    rintro e w' ⟨rfl, rfl⟩
    go_wp2
    go_ret2
    exact ⟨rfl, rfl⟩
end Go.Proofs.YtkilajobnlagbaaDoor
