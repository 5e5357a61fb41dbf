/-
  The chart's numbers: what the document's answers are, as plain functions; complex numbers of whole parts.
-/
import Derived.Test.YtnnimjaigciedaaFlt
import Derived.Laws.BitsLemmas
namespace Go.Proofs.Ytnnimjaigciedaa

/-- On the chart. -/
def On (x y : Int) : Prop := -1000 ≤ x ∧ x ≤ 1000 ∧ -1000 ≤ y ∧ y ≤ 1000
instance (x y : Int) : Decidable (On x y) := by unfold On; exact inferInstance

/-- A spot and an error. -/
structure Res where
  x : Int
  y : Int
  e : Int
deriving DecidableEq

def held (x y : Int) : Res := if On x y then ⟨x, y, 0⟩ else ⟨0, 0, 11⟩
def moveP (a b c d : Int) : Res := if On a b ∧ On c d then held (a + c) (b + d) else ⟨0, 0, 1⟩
def timesP (a b c d : Int) : Res := if On a b ∧ On c d then held (a * c - b * d) (a * d + b * c) else ⟨0, 0, 1⟩
def rotX : Nat → Int → Int → Int
  | 0, x, _ => x
  | k + 1, x, y => rotX k (-y) x
def rotY : Nat → Int → Int → Int
  | 0, _, y => y
  | k + 1, x, y => rotY k (-y) x
def turnP (a b c d n : Int) : Res := if On a b ∧ On c d then held (c + rotX (n % 4).toNat (a - c) (b - d)) (d + rotY (n % 4).toNat (a - c) (b - d)) else ⟨0, 0, 1⟩
def mirrorP (a b : Int) : Res := if On a b then ⟨a, -b, 0⟩ else ⟨0, 0, 1⟩
def farP (a b c d : Int) : Int := if On a b ∧ On c d then (a - c) * (a - c) + (b - d) * (b - d) else -1
def crossP (a b c d x y : Int) : Int := (c - a) * (y - b) - (d - b) * (x - a)
def sideP (a b c d x y : Int) : Int := if On a b ∧ On c d ∧ On x y then (if 0 < crossP a b c d x y then 1 else if crossP a b c d x y < 0 then -1 else 0) else 0

theorem mul_bound {a b A B : Int} (h1 : -A ≤ a) (h2 : a ≤ A) (h3 : -B ≤ b) (h4 : b ≤ B) : -(A * B) ≤ a * b ∧ a * b ≤ A * B := by
  have hA : 0 ≤ A := by omega
  have hB : 0 ≤ B := by omega
  have e1 : 0 ≤ (A - a) * (B + b) := Int.mul_nonneg (by omega) (by omega)
  have e2 : 0 ≤ (A + a) * (B - b) := Int.mul_nonneg (by omega) (by omega)
  have e3 : 0 ≤ (A - a) * (B - b) := Int.mul_nonneg (by omega) (by omega)
  have e4 : 0 ≤ (A + a) * (B + b) := Int.mul_nonneg (by omega) (by omega)
  simp only [Int.sub_mul, Int.add_mul, Int.mul_sub, Int.mul_add] at e1 e2 e3 e4
  generalize A * B = M at *
  generalize a * b = m at *
  generalize A * b = u at *
  generalize a * B = v at *
  omega

theorem i64_and3 (n : Int) : bits .and .i64 n 3 = n % 4 := by
  have h3 : (BitVec.ofInt 64 3).toNat = 2 ^ 2 - 1 := by decide
  have key : (BitVec.ofInt 64 n &&& BitVec.ofInt 64 3).toNat = (n % ((2 ^ 64 : Nat) : Int)).toNat % 2 ^ 2 := by
    rw [BitVec.toNat_and, BitVec.toNat_ofInt, h3, Nat.and_two_pow_sub_one_eq_mod]
  show IntKind.i64.wrap ((BitVec.ofInt 64 n &&& BitVec.ofInt 64 3).toNat : Nat) = n % 4
  rw [key, IntKind.wrap_i64]
  omega

/-- A complex number of two whole parts. -/
theorem csum {x y u v : Nat} {a b c d : Int} (hx : IsF x a) (hy : IsF y b) (hu : IsF u c) (hv : IsF v d) (h1 : (a + c).natAbs < 2 ^ 53) (h2 : (b + d).natAbs < 2 ^ 53) :
    ∃ re im, cSumBits .add .f64 x y u v = some (re, im) ∧ IsF re (a + c) ∧ IsF im (b + d) := by
  obtain ⟨r, e1, f1⟩ := hx.add hu h1
  obtain ⟨i, e2, f2⟩ := hy.add hv h2
  exact ⟨r, i, by simp [cSumBits, e1, e2], f1, f2⟩

theorem cdiff {x y u v : Nat} {a b c d : Int} (hx : IsF x a) (hy : IsF y b) (hu : IsF u c) (hv : IsF v d) (h1 : (a - c).natAbs < 2 ^ 53) (h2 : (b - d).natAbs < 2 ^ 53) :
    ∃ re im, cSumBits .sub .f64 x y u v = some (re, im) ∧ IsF re (a - c) ∧ IsF im (b - d) := by
  obtain ⟨r, e1, f1⟩ := hx.sub hu h1
  obtain ⟨i, e2, f2⟩ := hy.sub hv h2
  exact ⟨r, i, by simp [cSumBits, e1, e2], f1, f2⟩

theorem cprod {x y u v : Nat} {a b c d : Int} (hx : IsF x a) (hy : IsF y b) (hu : IsF u c) (hv : IsF v d) (h1 : (a * c).natAbs < 2 ^ 53) (h2 : (b * d).natAbs < 2 ^ 53) (h3 : (a * d).natAbs < 2 ^ 53) (h4 : (b * c).natAbs < 2 ^ 53)
    (h5 : (a * c - b * d).natAbs < 2 ^ 53) (h6 : (a * d + b * c).natAbs < 2 ^ 53) : ∃ re im, cMulBits x y u v = some (re, im) ∧ IsF re (a * c - b * d) ∧ IsF im (a * d + b * c) := by
  obtain ⟨r1, e1, f1⟩ := hx.mul hu h1
  obtain ⟨r2, e2, f2⟩ := hy.mul hv h2
  obtain ⟨r3, e3, f3⟩ := hx.mul hv h3
  obtain ⟨r4, e4, f4⟩ := hy.mul hu h4
  obtain ⟨r5, e5, f5⟩ := f1.sub f2 h5
  obtain ⟨r6, e6, f6⟩ := f3.add f4 h6
  exact ⟨r5, r6, by simp [cMulBits, e1, e2, e3, e4, e5, e6], f5, f6⟩
end Go.Proofs.Ytnnimjaigciedaa
