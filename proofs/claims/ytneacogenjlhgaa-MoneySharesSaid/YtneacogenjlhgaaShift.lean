/-
  Plain arithmetic: how far a word is shifted so that its highest bit is set, and masks and joins of words of 64 bits; it speaks of no program.
-/
import Derived.Lib.BitFns
import Derived.Laws.BitsLemmas
import Derived.IntWalk
import Derived.Test.YtneacogenjlhgaaArith
namespace Go.Proofs.Ytneacogenjlhgaa

theorem bitLenAux_spec : ∀ (f x : Nat), 0 < x → x < 2 ^ f → ∃ n, Lib.bitLenAux f x = n + 1 ∧ n + 1 ≤ f ∧ 2 ^ n ≤ x ∧ x < 2 ^ (n + 1)
  | 0, x, h0, h => by simp at h; omega
  | f + 1, x, h0, h => by
    by_cases h1 : x / 2 = 0
    · refine ⟨0, ?_, by omega, by omega, by omega⟩
      simp only [Lib.bitLenAux]
      rw [if_neg (by omega), h1]
      cases f <;> simp [Lib.bitLenAux]
    · obtain ⟨n, e, hn, h2, h3⟩ := bitLenAux_spec f (x / 2) (by omega) (by rw [Nat.pow_succ] at h; omega)
      refine ⟨n + 1, ?_, by omega, by rw [Nat.pow_succ]; omega, by rw [Nat.pow_succ]; omega⟩
      simp only [Lib.bitLenAux]
      rw [if_neg (by omega), e]
      omega

/-- The shift: s with 2^63 ≤ y * 2^s < 2^64. -/
theorem shift_of (y : Int) (h0 : 0 < y) (h1 : y ≤ 18446744073709551615) :
    ∃ s : Nat, s ≤ 63 ∧ 64 - (Lib.bitLen y.toNat : Int) = s ∧ 9223372036854775808 ≤ y * 2 ^ s ∧ y * 2 ^ s < 18446744073709551616 := by
  obtain ⟨Y, rfl⟩ := Int.eq_ofNat_of_zero_le (Int.le_of_lt h0)
  obtain ⟨n, e, hn, h2, h3⟩ := bitLenAux_spec 64 Y (by omega) (by simp; omega)
  have hp : 2 ^ n * 2 ^ (63 - n) = (9223372036854775808 : Nat) := by rw [← Nat.pow_add, show n + (63 - n) = 63 by omega]
  have hpp : 2 ^ (n + 1) * 2 ^ (63 - n) = (18446744073709551616 : Nat) := by rw [← Nat.pow_add, show n + 1 + (63 - n) = 64 by omega]
  have hpos : 0 < 2 ^ (63 - n) := Nat.two_pow_pos _
  have ec : ((Y * 2 ^ (63 - n) : Nat) : Int) = (Y : Int) * 2 ^ (63 - n) := by rw [Int.natCast_mul, Int.natCast_pow]; rfl
  refine ⟨63 - n, by omega, ?_, ?_, ?_⟩
  · unfold Lib.bitLen
    rw [Int.toNat_natCast, e]
    omega
  · have : 2 ^ n * 2 ^ (63 - n) ≤ Y * 2 ^ (63 - n) := Nat.mul_le_mul_right _ h2
    rw [hp] at this
    rw [← ec]
    exact Int.ofNat_le.mpr this
  · have : Y * 2 ^ (63 - n) < 2 ^ (n + 1) * 2 ^ (63 - n) := Nat.mul_lt_mul_of_pos_right h3 hpos
    rw [hpp] at this
    rw [← ec]
    exact Int.ofNat_lt.mpr this

theorem pow_split (s : Nat) (hs : s ≤ 63) : (2 : Int) ^ s * 2 ^ (64 - s) = 18446744073709551616 := by
  rw [← Int.pow_add, show s + (64 - s) = 64 by omega]
  rfl

theorem pow_pos (s : Nat) : (0 : Int) < 2 ^ s := Int.pow_pos (by decide)

theorem wraps_u64 (n : Int) (h₀ : 0 ≤ n) (h₁ : n < 2 ^ 64) : IntKind.u64.wrap n = n := IntWalk.u64_in n ⟨h₀, by omega⟩

theorem mask32 (x : Int) (h0 : 0 ≤ x) (h1 : x < 18446744073709551616) : bits .and .u64 x 4294967295 = x % 4294967296 :=
  bits_mask .u64 64 (by decide) wraps_u64 32 (by decide) x h0 h1

/-- The higher word of the shifted dividend. -/
theorem high_word (hi lo y : Int) (s : Nat) (hs : s ≤ 63) (h0 : 0 ≤ hi) (hh : hi < y) (hy : y * 2 ^ s < 18446744073709551616) (hl0 : 0 ≤ lo) (hl : lo ≤ 18446744073709551615) :
    bits .or .u64 (hi * 2 ^ s) (lo / 2 ^ (64 - s)) = hi * 2 ^ s + lo / 2 ^ (64 - s) ∧ 0 ≤ hi * 2 ^ s ∧ hi * 2 ^ s < 18446744073709551616 ∧ 0 ≤ hi * 2 ^ s + lo / 2 ^ (64 - s) ∧ hi * 2 ^ s + lo / 2 ^ (64 - s) < y * 2 ^ s := by
  have hp := pow_pos s
  have hp' := pow_pos (64 - s)
  have hpp := pow_split s hs
  have a0 : 0 ≤ hi * 2 ^ s := Int.mul_nonneg h0 (Int.le_of_lt hp)
  have a1 : (hi + 1) * 2 ^ s ≤ y * 2 ^ s := Int.mul_le_mul_of_nonneg_right (by omega) (Int.le_of_lt hp)
  rw [Int.add_mul, Int.one_mul] at a1
  have b0 : 0 ≤ lo / 2 ^ (64 - s) := Int.ediv_nonneg hl0 (Int.le_of_lt hp')
  have b1 : lo / 2 ^ (64 - s) < 2 ^ s := by
    rw [Int.ediv_lt_iff_lt_mul hp', hpp]
    omega
  refine ⟨?_, a0, by omega, by omega, by omega⟩
  exact bits_join .u64 64 (by decide) wraps_u64 s _ _ a0 (Int.mul_emod_left _ _) (by omega) b0 b1 (by omega)

end Go.Proofs.Ytneacogenjlhgaa
