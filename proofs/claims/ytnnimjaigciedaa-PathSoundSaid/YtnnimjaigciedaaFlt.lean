/-
  Floating point numbers that are whole: sums, differences, products below 2^53 are exact; read as integers; ordered; negated.
-/
import Derived.Laws.ComplexArith
namespace Go.Proofs.Ytnnimjaigciedaa
open Ieee

/-- A datum that is the whole number n (a zero of either sign). -/
def Val (d : Datum) (n : Int) : Prop := ∃ (s : Bool) (k : Nat), d = .number s (n.natAbs * 2 ^ k) (-(k : Int)) ∧ (n < 0 → s = true) ∧ (0 < n → s = false)

theorem signed_val {s : Bool} {n : Int} (k u : Nat) (h1 : n < 0 → s = true) (h2 : 0 < n → s = false) : signed s (n.natAbs * 2 ^ k) u = n * ((2 ^ (k + u) : Nat) : Int) := by
  have e : n.natAbs * 2 ^ k * 2 ^ u = n.natAbs * 2 ^ (k + u) := by rw [Nat.mul_assoc, ← Nat.pow_add]
  unfold signed
  rw [Nat.shiftLeft_eq, e]
  generalize 2 ^ (k + u) = P
  rcases Int.lt_trichotomy n 0 with h | h | h
  · rw [h1 h]
    have : n = -(n.natAbs : Int) := by omega
    simp only [if_true]
    conv => rhs; rw [this]
    rw [Int.natCast_mul, Int.neg_mul]
  · subst h; simp
  · rw [h2 h]
    have : n = (n.natAbs : Int) := by omega
    simp only [Bool.false_eq_true, if_false]
    conv => rhs; rw [this]
    rw [Int.natCast_mul]

theorem natAbs_mul_pow (n : Int) (P : Nat) : (n * (P : Int)).natAbs = n.natAbs * P := by
  rw [Int.natAbs_mul, Int.natAbs_natCast]

theorem Val.sum {d e : Datum} {n m : Int} (hd : Val d n) (he : Val e m) : ∃ r, d.sum e = some r ∧ Val r (n + m) := by
  obtain ⟨s, k, rfl, h1, h2⟩ := hd
  obtain ⟨t, l, rfl, h3, h4⟩ := he
  refine ⟨_, rfl, ?_⟩
  have eb : min (-(k : Int)) (-(l : Int)) = -((max k l : Nat) : Int) := by omega
  have e1 : (-(k : Int) - min (-(k : Int)) (-(l : Int))).toNat = max k l - k := by omega
  have e2 : (-(l : Int) - min (-(k : Int)) (-(l : Int))).toNat = max k l - l := by omega
  have et : signed s (n.natAbs * 2 ^ k) (-(k : Int) - min (-(k : Int)) (-(l : Int))).toNat + signed t (m.natAbs * 2 ^ l) (-(l : Int) - min (-(k : Int)) (-(l : Int))).toNat = (n + m) * ((2 ^ (max k l) : Nat) : Int) := by
    rw [e1, e2, signed_val k _ h1 h2, signed_val l _ h3 h4, Int.add_mul]
    rw [show k + (max k l - k) = max k l by omega, show l + (max k l - l) = max k l by omega]
  have hP : 0 < ((2 ^ (max k l) : Nat) : Int) := by exact_mod_cast Nat.two_pow_pos _
  simp only [et]
  simp only [eb, natAbs_mul_pow]
  refine ⟨_, max k l, rfl, ?_, ?_⟩
  · intro h
    have hn : (n + m) * ((2 ^ (max k l) : Nat) : Int) < 0 := Int.mul_neg_of_neg_of_pos h hP
    rw [if_neg (by omega)]
    simpa using hn
  · intro h
    have hn : 0 < (n + m) * ((2 ^ (max k l) : Nat) : Int) := Int.mul_pos h hP
    rw [if_neg (by omega)]
    simp only [decide_eq_false_iff_not]
    omega

theorem Val.opposite {d : Datum} {n : Int} (hd : Val d n) : Val d.opposite (-n) := by
  obtain ⟨s, k, rfl, h1, h2⟩ := hd
  refine ⟨!s, k, by simp [Datum.opposite], ?_, ?_⟩
  · intro h; rw [h2 (by omega)]; rfl
  · intro h; rw [h1 (by omega)]; rfl

theorem Val.product {d e : Datum} {n m : Int} (hd : Val d n) (he : Val e m) : ∃ r, d.product e = some r ∧ Val r (n * m) := by
  obtain ⟨s, k, rfl, h1, h2⟩ := hd
  obtain ⟨t, l, rfl, h3, h4⟩ := he
  refine ⟨_, rfl, s ^^ t, k + l, ?_, ?_, ?_⟩
  · congr 1
    · rw [Int.natAbs_mul, Nat.pow_add]
      simp only [Nat.mul_assoc, Nat.mul_left_comm]
    · omega
  · intro h
    rcases Int.lt_trichotomy n 0 with a | a | a
    · rcases Int.lt_trichotomy m 0 with b | b | b
      · have := Int.mul_pos_of_neg_of_neg a b; omega
      · subst b; simp at h
      · rw [h1 a, h4 b]; rfl
    · subst a; simp at h
    · rcases Int.lt_trichotomy m 0 with b | b | b
      · rw [h2 a, h3 b]; rfl
      · subst b; simp at h
      · have := Int.mul_pos a b; omega
  · intro h
    rcases Int.lt_trichotomy n 0 with a | a | a
    · rcases Int.lt_trichotomy m 0 with b | b | b
      · rw [h1 a, h3 b]; rfl
      · subst b; simp at h
      · have := Int.mul_neg_of_neg_of_pos a b; omega
    · subst a; simp at h
    · rcases Int.lt_trichotomy m 0 with b | b | b
      · have := Int.mul_neg_of_pos_of_neg a b; omega
      · subst b; simp at h
      · rw [h2 a, h4 b]; rfl

theorem log2_mul_pow (a k : Nat) (h : a ≠ 0) : (a * 2 ^ k).log2 = a.log2 + k := by
  induction k with
  | zero => simp
  | succ k ih => rw [Nat.pow_succ, ← Nat.mul_assoc, Nat.mul_comm _ 2, Nat.log2_two_mul (Nat.mul_ne_zero h (by have := Nat.two_pow_pos k; omega)), ih]; omega

theorem cut_exact (way : Toward) (neg : Bool) (a k : Nat) : way.cut neg (a * 2 ^ k) k = a := by
  by_cases h : a = 0
  · subst h
    have hp : 0 < 1 <<< min k ((0 : Nat).log2 + 2) := by rw [Nat.shiftLeft_eq]; have := Nat.two_pow_pos (min k ((0 : Nat).log2 + 2)); omega
    unfold Toward.cut
    simp only [Nat.zero_mul, Nat.zero_div, Nat.zero_mod]
    cases way <;> simp <;> omega
  · have hm : min k ((a * 2 ^ k).log2 + 2) = k := by rw [log2_mul_pow a k h]; omega
    have hp := Nat.two_pow_pos k
    unfold Toward.cut
    simp only [hm, Nat.shiftLeft_eq, Nat.one_mul, Nat.mul_div_cancel _ hp, Nat.mul_mod_left]
    cases way <;> simp <;> omega

theorem bits_of (a : Nat) (h : a ≠ 0) (hb : a < 2 ^ 53) : a.log2 ≤ 52 ∧ 2 ^ 52 ≤ a * 2 ^ (52 - a.log2) ∧ a * 2 ^ (52 - a.log2) < 2 ^ 53 := by
  have h1 : a.log2 < 53 := (Nat.log2_lt h).2 hb
  have h2 : 2 ^ a.log2 ≤ a := Nat.log2_self_le h
  have h3 : a < 2 ^ (a.log2 + 1) := Nat.lt_log2_self
  have e1 : 2 ^ a.log2 * 2 ^ (52 - a.log2) = 2 ^ 52 := by rw [← Nat.pow_add]; congr 1; omega
  have e2 : 2 ^ (a.log2 + 1) * 2 ^ (52 - a.log2) = 2 ^ 53 := by rw [← Nat.pow_add]; congr 1; omega
  refine ⟨by omega, ?_, ?_⟩
  · rw [← e1]; exact Nat.mul_le_mul_right _ h2
  · rw [← e2]; exact Nat.mul_lt_mul_of_pos_right h3 (Nat.two_pow_pos _)

/-- A whole number below 2^53 is written and read as itself. -/
theorem Val.write {d : Datum} {n : Int} (hd : Val d n) (hn : n.natAbs < 2 ^ 53) : Val (double.read (double.write d)) n := by
  obtain ⟨s, k, rfl, h1, h2⟩ := hd
  show Val (double.read (double.nearest s (n.natAbs * 2 ^ k) (-(k : Int)))) n
  generalize ha : n.natAbs = a at hn
  by_cases h0 : a = 0
  · subst h0
    refine ⟨s, 1074, ?_, h1, h2⟩
    rw [ha]
    simp only [Nat.zero_mul]
    rw [show double.nearest s 0 (-(k : Int)) = double.word s 0 from if_pos rfl]
    cases s <;> rfl
  · obtain ⟨hl, hlo, hhi⟩ := bits_of a h0 hn
    have hne : a * 2 ^ k ≠ 0 := Nat.mul_ne_zero h0 (by have := Nat.two_pow_pos k; omega)
    refine ⟨s, 52 - a.log2, ?_, h1, h2⟩
    rw [ha]
    have hlast : max (-(k : Int) + ((a * 2 ^ k).log2 : Int) - (double.fractionBits : Int)) double.leastPlace = (a.log2 : Int) - 52 := by
      rw [log2_mul_pow a k h0]
      show max _ (-1074 : Int) = _
      show max (-(k : Int) + ((a.log2 + k : Nat) : Int) - ((52 : Nat) : Int)) (-1074 : Int) = _
      omega
    have hkept : Toward.even.cut s ((a * 2 ^ k) <<< (-(k : Int) - ((a.log2 : Int) - 52)).toNat) (((a.log2 : Int) - 52) - -(k : Int)).toNat = a * 2 ^ (52 - a.log2) := by
      by_cases hk : k ≤ 52 - a.log2
      · rw [show (-(k : Int) - ((a.log2 : Int) - 52)).toNat = 52 - a.log2 - k by omega, show (((a.log2 : Int) - 52) - -(k : Int)).toNat = 0 by omega, Nat.shiftLeft_eq, Nat.mul_assoc, ← Nat.pow_add, show k + (52 - a.log2 - k) = 52 - a.log2 by omega]
        have := cut_exact .even s (a * 2 ^ (52 - a.log2)) 0
        simpa using this
      · rw [show (-(k : Int) - ((a.log2 : Int) - 52)).toNat = 0 by omega, show (((a.log2 : Int) - 52) - -(k : Int)).toNat = k - (52 - a.log2) by omega, Nat.shiftLeft_eq, Nat.pow_zero, Nat.mul_one]
        have e : a * 2 ^ k = (a * 2 ^ (52 - a.log2)) * 2 ^ (k - (52 - a.log2)) := by rw [Nat.mul_assoc, ← Nat.pow_add]; congr 2; omega
        rw [e, cut_exact]
    have hw : double.nearest s (a * 2 ^ k) (-(k : Int)) = double.word s ((a.log2 + 1022) * 4503599627370496 + a * 2 ^ (52 - a.log2)) := by
      unfold Format.nearest
      rw [if_neg hne]
      simp only [hlast, hkept]
      congr 1
      show min ((((a.log2 : Int) - 52) - (-1074 : Int)).toNat * 4503599627370496 + a * 2 ^ (52 - a.log2)) (2047 * 4503599627370496) = _
      rw [show (((a.log2 : Int) - 52) - (-1074 : Int)).toNat = a.log2 + 1022 by omega]
      omega
    rw [hw]
    generalize a * 2 ^ (52 - a.log2) = K at hlo hhi ⊢
    generalize a.log2 = L at hl ⊢
    have hr : (L + 1022) * 4503599627370496 + K < 9223372036854775808 := by omega
    have hS : double.signWeight = 9223372036854775808 := by rfl
    have hB : double.binade = 4503599627370496 := by rfl
    have hI : double.infRung = 2047 * 4503599627370496 := by rfl
    have hL : double.leastPlace = -1074 := by rfl
    unfold Format.read Format.word
    rw [hS, hB, hI, hL]
    have hq : ((L + 1022) * 4503599627370496 + K) / 4503599627370496 - 1 = L + 1022 := by omega
    have hm : 4503599627370496 + ((L + 1022) * 4503599627370496 + K) % 4503599627370496 = K := by omega
    cases s
    · simp only [Bool.false_eq_true, if_false]
      rw [Nat.mod_eq_of_lt hr, Nat.div_eq_of_lt hr, if_neg (by omega), if_pos (by omega), hq, hm]
      refine congrArg (Datum.number _ _) ?_
      omega
    · simp only [if_true]
      rw [show (9223372036854775808 + ((L + 1022) * 4503599627370496 + K)) % 9223372036854775808 = (L + 1022) * 4503599627370496 + K by omega, show (9223372036854775808 + ((L + 1022) * 4503599627370496 + K)) / 9223372036854775808 = 1 by omega, if_neg (by omega), if_pos (by omega), hq, hm]
      refine congrArg (Datum.number _ _) ?_
      omega

/-- The bits x are the whole number n. -/
def IsF (x : Nat) (n : Int) : Prop := Val (double.read x) n

theorem IsF.one : IsF 4607182418800017408 1 := ⟨false, 52, rfl, by simp, by simp⟩

theorem IsF.add {x y : Nat} {n m : Int} (hx : IsF x n) (hy : IsF y m) (h : (n + m).natAbs < 2 ^ 53) : ∃ r, floatBits .add .f64 x y = some r ∧ IsF r (n + m) := by
  obtain ⟨d, e, hd⟩ := Val.sum hx hy
  refine ⟨double.write d, ?_, hd.write h⟩
  show ((double.read x).sum (double.read y)).map double.write = _
  rw [e]; rfl

theorem IsF.sub {x y : Nat} {n m : Int} (hx : IsF x n) (hy : IsF y m) (h : (n - m).natAbs < 2 ^ 53) : ∃ r, floatBits .sub .f64 x y = some r ∧ IsF r (n - m) := by
  obtain ⟨d, e, hd⟩ := Val.sum hx (Val.opposite hy)
  rw [← Int.sub_eq_add_neg] at hd
  refine ⟨double.write d, ?_, hd.write h⟩
  show ((double.read x).sum (double.read y).opposite).map double.write = _
  rw [e]; rfl

theorem IsF.mul {x y : Nat} {n m : Int} (hx : IsF x n) (hy : IsF y m) (h : (n * m).natAbs < 2 ^ 53) : ∃ r, floatBits .mul .f64 x y = some r ∧ IsF r (n * m) := by
  obtain ⟨d, e, hd⟩ := Val.product hx hy
  refine ⟨double.write d, ?_, hd.write h⟩
  show ((double.read x).product (double.read y)).map double.write = _
  rw [e]; rfl

theorem IsF.of_int {n : Int} (h : n.natAbs < 2 ^ 53) : IsF (floatOfInt .f64 n) n := by
  show Val (double.read (double.write (.number (n < 0) n.natAbs 0))) n
  refine Val.write ⟨_, 0, by simp; rfl, ?_, ?_⟩ h
  · intro h; simpa using h
  · intro h; simp; omega

theorem IsF.zero : IsF 0 0 := by
  have h : IsF (floatOfInt .f64 0) 0 := IsF.of_int (by decide)
  rw [show floatOfInt .f64 0 = 0 from rfl] at h
  exact h

theorem IsF.neg {x : Nat} {n : Int} (hx : IsF x n) : IsF (Op.negFloat .f64 x) (-n) := by
  have e : double.read (Op.negFloat .f64 x) = (double.read x).opposite := by
    show double.read (x ^^^ 2 ^ 63) = _
    have h1 : (x ^^^ 2 ^ 63) % 2 ^ 63 = x % 2 ^ 63 := by rw [Nat.xor_mod_two_pow]; simp
    have h2 : (x ^^^ 2 ^ 63) / 2 ^ 63 % 2 = (x / 2 ^ 63 + 1) % 2 := by
      rw [Nat.xor_div_two_pow, show 2 ^ 63 / 2 ^ 63 = 1 from rfl]
      have := Nat.xor_mod_two_pow (a := x / 2 ^ 63) (b := 1) (n := 1)
      rw [show 2 ^ 1 = 2 from rfl] at this
      rw [this]
      rcases Nat.mod_two_eq_zero_or_one (x / 2 ^ 63) with h | h
      · rw [Nat.add_mod, h]; rfl
      · rw [Nat.add_mod, h]; rfl
    have hS : double.signWeight = 2 ^ 63 := rfl
    have h3 : ((x / 2 ^ 63 + 1) % 2 == 1) = !(x / 2 ^ 63 % 2 == 1) := by
      rcases Nat.mod_two_eq_zero_or_one (x / 2 ^ 63) with h | h
      · rw [Nat.add_mod, h]; rfl
      · rw [Nat.add_mod, h]; rfl
    unfold Format.read
    simp only [hS, h1, h2, h3]
    split
    · rfl
    · split
      · rfl
      · split <;> rfl
  rw [IsF, e]
  exact Val.opposite hx

theorem IsF.toInt {x : Nat} {n : Int} (hx : IsF x n) (h : n.natAbs < 2 ^ 53) : floatToIntVal .f64 x .i64 = some n := by
  have e : (FloatKind.f64.decode x).toInt .zero = some n := by
    obtain ⟨s, k, e, h1, h2⟩ := hx
    show (double.read x).toInt .zero = _
    rw [e]
    unfold Datum.toInt Datum.integral
    have e1 : (n.natAbs * 2 ^ k) <<< (-(k : Int)).toNat = n.natAbs * 2 ^ k := by rw [show (-(k : Int)).toNat = 0 by omega]; rfl
    have e2 : (- -(k : Int)).toNat = k := by omega
    simp only [e1, e2, cut_exact]
    have := signed_val (s := s) (n := n) 0 0 h1 h2
    simpa using this
  unfold floatToIntVal
  rw [e]
  have h3 : IntKind.i64.min ≤ n ∧ n ≤ IntKind.i64.max := by
    show (-9223372036854775808 : Int) ≤ n ∧ n ≤ 9223372036854775807
    omega
  simp only [if_pos h3]

theorem IsF.order {x y : Nat} {n m : Int} (hx : IsF x n) (hy : IsF y m) : FloatKind.f64.format.order x y = some (compare n m) := by
  show (double.read x).order (double.read y) = _
  obtain ⟨s, k, e1, h1, h2⟩ := hx
  obtain ⟨t, l, e2, h3, h4⟩ := hy
  rw [e1, e2]
  unfold Datum.order
  have f1 : (-(k : Int) - min (-(k : Int)) (-(l : Int))).toNat = max k l - k := by omega
  have f2 : (-(l : Int) - min (-(k : Int)) (-(l : Int))).toNat = max k l - l := by omega
  simp only [f1, f2, signed_val k _ h1 h2, signed_val l _ h3 h4]
  rw [show k + (max k l - k) = max k l by omega, show l + (max k l - l) = max k l by omega]
  have hP : 0 < ((2 ^ (max k l) : Nat) : Int) := by exact_mod_cast Nat.two_pow_pos _
  generalize ((2 ^ (max k l) : Nat) : Int) = P at hP
  congr 1
  rcases Int.lt_trichotomy n m with h | h | h
  · have := Int.mul_lt_mul_of_pos_right h hP
    show compareOfLessAndEq _ _ = compareOfLessAndEq _ _
    unfold compareOfLessAndEq
    rw [if_pos h, if_pos this]
  · subst h; simp
  · have := Int.mul_lt_mul_of_pos_right h hP
    show compareOfLessAndEq _ _ = compareOfLessAndEq _ _
    unfold compareOfLessAndEq
    rw [if_neg (by omega), if_neg (by omega), if_neg (by omega), if_neg (by omega)]
end Go.Proofs.Ytnnimjaigciedaa
