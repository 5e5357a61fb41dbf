/-
  Plain arithmetic behind math/bits.Div64 (division of two words by one, digit by digit); it speaks of no program.
-/
namespace Go.Proofs.Ytneacogenjlhgaa

theorem kn_iff (U V v1 v0 d q r : Int) (hV : V = v1 * 4294967296 + v0) (hp : 0 < V) (hr : U = q * v1 + r) :
    (U * 4294967296 + d) / V < q ↔ 4294967296 * r + d < q * v0 := by
  rw [Int.ediv_lt_iff_lt_mul hp]
  have e : q * V = U * 4294967296 - r * 4294967296 + q * v0 := by grind
  rw [e]
  omega

theorem kn_small (U V d : Int) (_h0 : 0 ≤ U) (hUV : U < V) (_hd : 0 ≤ d) (hd' : d < 4294967296) : (U * 4294967296 + d) / V < 4294967296 := by
  rw [Int.ediv_lt_iff_lt_mul (by omega)]
  omega

theorem kn_pos (U V d : Int) (h0 : 0 ≤ U) (hUV : U < V) (hd : 0 ≤ d) : 0 ≤ (U * 4294967296 + d) / V :=
  Int.ediv_nonneg (by omega) (by omega)

theorem kn_first (U V v1 v0 d : Int) (hV : V = v1 * 4294967296 + v0) (h1 : 2147483648 ≤ v1) (h0 : 0 ≤ v0) (h0' : v0 < 4294967296) (hd' : d < 4294967296) (hU : 0 ≤ U) (hUV : U < V) :
    (U * 4294967296 + d) / V ≤ U / v1 ∧ U / v1 ≤ 4294967297 := by
  have hm := Int.mul_ediv_add_emod U v1
  have hm0 := Int.emod_nonneg U (b := v1) (by omega)
  have hm1 := Int.emod_lt_of_pos U (b := v1) (by omega)
  refine ⟨?_, ?_⟩
  · have : (U * 4294967296 + d) / V < U / v1 + 1 := by
      rw [Int.ediv_lt_iff_lt_mul (by omega)]
      have e : (U / v1 + 1) * V = (v1 * (U / v1) + v1) * 4294967296 + (U / v1 + 1) * v0 := by grind
      have hq : 0 ≤ U / v1 := Int.ediv_nonneg hU (by omega)
      have hn : 0 ≤ (U / v1 + 1) * v0 := Int.mul_nonneg (by omega) h0
      rw [e]
      omega
    omega
  · have : U / v1 < 4294967298 := by
      rw [Int.ediv_lt_iff_lt_mul (by omega)]
      omega
    omega

/-- Behind a break the digit is right. -/
theorem kn_break (U V v1 v0 d q r : Int) (hV : V = v1 * 4294967296 + v0) (hp : 0 < V) (h0 : 0 ≤ v0) (h0' : v0 < 4294967296) (hd : 0 ≤ d) (hr : U = q * v1 + r)
    (hq : q ≤ 4294967296) (hb : 4294967296 ≤ r) : q ≤ (U * 4294967296 + d) / V := by
  refine Int.not_lt.mp fun h => ?_
  rw [kn_iff U V v1 v0 d q r hV hp hr] at h
  have : q * v0 ≤ 4294967296 * v0 := Int.mul_le_mul_of_nonneg_right hq h0
  omega

/-- What is left behind a digit, reckoned round 2^64. -/
theorem kn_left (U V d : Int) (hp : 0 < V) (hV : V < 18446744073709551616) :
    (U * 4294967296 + d - (U * 4294967296 + d) / V * V) % 18446744073709551616 = (U * 4294967296 + d) % V := by
  have hm := Int.mul_ediv_add_emod (U * 4294967296 + d) V
  have hm0 := Int.emod_nonneg (U * 4294967296 + d) (b := V) (by omega)
  have hm1 := Int.emod_lt_of_pos (U * 4294967296 + d) hp
  have e : U * 4294967296 + d - (U * 4294967296 + d) / V * V = (U * 4294967296 + d) % V := by grind
  rw [e]
  exact Int.emod_eq_of_lt hm0 (by omega)

/-- Two digits are the quotient and the rest. -/
theorem kn_two (U V d1 d0 : Int) (hp : 0 < V) :
    (U * 4294967296 + d1) / V * 4294967296 + ((U * 4294967296 + d1) % V * 4294967296 + d0) / V = (U * 18446744073709551616 + d1 * 4294967296 + d0) / V
      ∧ ((U * 4294967296 + d1) % V * 4294967296 + d0) % V = (U * 18446744073709551616 + d1 * 4294967296 + d0) % V := by
  have hm := Int.mul_ediv_add_emod (U * 4294967296 + d1) V
  have hn := Int.mul_ediv_add_emod ((U * 4294967296 + d1) % V * 4294967296 + d0) V
  have hn0 := Int.emod_nonneg ((U * 4294967296 + d1) % V * 4294967296 + d0) (b := V) (by omega)
  have hn1 := Int.emod_lt_of_pos ((U * 4294967296 + d1) % V * 4294967296 + d0) hp
  have e : U * 18446744073709551616 + d1 * 4294967296 + d0 = ((U * 4294967296 + d1) % V * 4294967296 + d0) % V + V * ((U * 4294967296 + d1) / V * 4294967296 + ((U * 4294967296 + d1) % V * 4294967296 + d0) / V) := by grind
  constructor
  · rw [e, Int.add_mul_ediv_left _ _ (by omega), Int.ediv_eq_zero_of_lt hn0 hn1]; omega
  · rw [e, Int.add_mul_emod_self_left, Int.emod_eq_of_lt hn0 hn1]

/-- The normalised dividend is the dividend, shifted. -/
theorem kn_shift (hi lo p p' : Int) (hp : 0 < p) (hpp : p * p' = 18446744073709551616) :
    (hi * p + lo / p') * 18446744073709551616 + lo * p % 18446744073709551616 = (hi * 18446744073709551616 + lo) * p := by
  have hp' : 0 < p' := Int.pos_of_mul_pos_right (by omega : 0 < p * p') hp
  have e : lo * p % 18446744073709551616 = (lo % p') * p := by
    rw [← hpp, Int.mul_comm lo p, Int.mul_emod_mul_of_pos _ _ hp, Int.mul_comm]
  have hm := Int.mul_ediv_add_emod lo p'
  rw [e]
  grind

theorem kn_scale (n y p : Int) (hp : 0 < p) : n * p / (y * p) = n / y ∧ n * p % (y * p) / p = n % y := by
  constructor
  · exact Int.mul_ediv_mul_of_pos_left n y hp
  · rw [Int.mul_comm n p, Int.mul_comm y p, Int.mul_emod_mul_of_pos _ _ hp, Int.mul_ediv_cancel_left _ (by omega)]

end Go.Proofs.Ytneacogenjlhgaa
