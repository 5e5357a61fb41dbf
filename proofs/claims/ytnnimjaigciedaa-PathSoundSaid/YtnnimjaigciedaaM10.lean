/-
  The contracts of math/bits that this program calls (Len64, LeadingZeros64, Mul64: laid off the shelf in plain words; Add64: the model's own entry), for every input that fits a uint64.
  Plain arithmetic behind math/bits.Div64 (division of two words by one, digit by digit); it speaks of no program.
  Plain arithmetic: how far a word is shifted so that its highest bit is set, and masks and joins of words of 64 bits; it speaks of no program.
  math/bits.Div64 (function 69 of this program): for every hi < y it returns the quotient and the rest of (hi, lo) by y, and leaves memory as it was (it may draw an order).
-/
import Derived.Shelf.Small.Bits
import Derived.Shelf.Strconv.Itoa0
import Derived.Shelf.Bits.Mul64
import Derived.Laws.Externs
import Derived.Test.YtnnimjaigciedaaProg
import Derived.Lib.BitFns
import Derived.Laws.BitsLemmas
import Derived.IntWalk
import Derived.WalkKit
import Derived.WalkSpells
import Derived.RegionTactic
import Derived.ChangeAlike
import Derived.Deep.QuietTactic
import Derived.BigQuiet
import Derived.RowKit3
import Derived.Lib.Hide
namespace Go.Proofs
open Go.Shelf
def Try.lays134_ren : Go.Shelf.Ren := ⟨fun | 134 => 121 | 129 => 101 | n => n, fun | 53 => 40 | 3 => 3 | 4 => 4 | 46 => 142 | 5 => 5 | 9 => 9 | n => n, fun | n => n⟩
theorem Try.lays134 : Go.Proofs.Lays.n134 Try.prog Try.lays134_ren := {
  mixed := by kernel_rfl
  f129 := Try.func101.trans (congrArg some (by kernel_rfl))
  f134 := Try.func121.trans (congrArg some (by kernel_rfl))
  t3 := Try.underlying3
  a3 := Try.isAgg3
  z3 := Try.sizeOf3
  v3 := Try.zeroValue3
  t4 := Try.underlying4
  a4 := Try.isAgg4
  z4 := Try.sizeOf4
  v4 := Try.zeroValue4
  t5 := Try.underlying5
  a5 := Try.isAgg5
  z5 := Try.sizeOf5
  v5 := Try.zeroValue5
  t9 := Try.underlying9
  a9 := Try.isAgg9
  z9 := Try.sizeOf9
  v9 := Try.zeroValue9
  t46 := Try.underlying142
  a46 := Try.isAgg142
  z46 := Try.sizeOf142
  v46 := Try.zeroValue142
  t53 := Try.underlying40
  a53 := Try.isAgg40
  z53 := Try.sizeOf40
  v53 := Try.zeroValue40 }
/-- bits.LeadingZeros64: "LeadingZeros64 returns the number of leading zero bits in x; the result is 64 for x == 0.": IT RETURNS '64 - Lib.bitLen x'; the world is as it was. ITS CALLEE bits.Len64 IS MET BY ITS OWN CONTRACT OFF THE SHELF (lay that first): entered in place it sends the kernel out of memory. (LAID: no walk: one application.) -/
theorem Try.bits_LeadingZeros64 (x : Int) (w : World) (h0 : 0 ≤ x) (h1 : x ≤ 18446744073709551615) :
    Calls Try.prog 121 #[.int .u64 x] w fun e w' => e = .returned (.int .i64 (64 - (Lib.bitLen x.toNat : Int))) ∧ w' = w := Any.bits_LeadingZeros64 Try.lays134 x w h0 h1
def Try.lays129_ren : Go.Shelf.Ren := ⟨fun | 129 => 101 | n => n, fun | 53 => 40 | 3 => 3 | 4 => 4 | 46 => 142 | 5 => 5 | 9 => 9 | n => n, fun | n => n⟩
theorem Try.lays129 : Go.Proofs.Lays.n129 Try.prog Try.lays129_ren := {
  mixed := by kernel_rfl
  f129 := Try.func101.trans (congrArg some (by kernel_rfl))
  t3 := Try.underlying3
  a3 := Try.isAgg3
  z3 := Try.sizeOf3
  v3 := Try.zeroValue3
  t4 := Try.underlying4
  a4 := Try.isAgg4
  z4 := Try.sizeOf4
  v4 := Try.zeroValue4
  t5 := Try.underlying5
  a5 := Try.isAgg5
  z5 := Try.sizeOf5
  v5 := Try.zeroValue5
  t9 := Try.underlying9
  a9 := Try.isAgg9
  z9 := Try.sizeOf9
  v9 := Try.zeroValue9
  t46 := Try.underlying142
  a46 := Try.isAgg142
  z46 := Try.sizeOf142
  v46 := Try.zeroValue142
  t53 := Try.underlying40
  a53 := Try.isAgg40
  z53 := Try.sizeOf40
  v53 := Try.zeroValue40 }
/-- bits.Len64: "Len64 returns the minimum number of bits required to represent x; the result is 0 for x == 0.": IT RETURNS 'Lib.bitLen x'; the world is as it was. ('h0', 'h1': x is a uint64.) (LAID: no walk: one application.) -/
theorem Try.bits_Len64 (x : Int) (w : World) (h0 : 0 ≤ x) (h1 : x ≤ 18446744073709551615) :
    Calls Try.prog 101 #[.int .u64 x] w fun e w' => e = .returned (.int .i64 (Lib.bitLen x.toNat)) ∧ w' = w := Any.bits_Len64 Try.lays129 x w h0 h1
def Try.lays264_ren : Go.Shelf.Ren := ⟨fun | 264 => 119 | n => n, fun | 53 => 40 | 46 => 142 | n => n, fun | n => n⟩
theorem Try.lays264 : Go.Proofs.Lays.n264 Try.prog Try.lays264_ren := {
  mixed := by kernel_rfl
  f264 := Try.func119.trans (congrArg some (by kernel_rfl))
  t46 := Try.underlying142
  a46 := Try.isAgg142
  z46 := Try.sizeOf142
  v46 := Try.zeroValue142
  t53 := Try.underlying40
  a53 := Try.isAgg40
  z53 := Try.sizeOf40
  v53 := Try.zeroValue40 }
open Go.RowKit Go.Lib in
theorem Try.bits_Mul64 (x y : Nat) (hx : x < 18446744073709551616) (hy : y < 18446744073709551616) (w : World) :
    Calls Try.prog 119 #[.int .u64 x, .int .u64 y] w fun e w' => e = .returned (.tuple #[.int .u64 ((x * y / 18446744073709551616 : Nat) : Int), .int .u64 ((x * y % 18446744073709551616 : Nat) : Int)]) ∧ w' = w := Any.bits_Mul64 Try.lays264 x y hx hy w
/-- math/bits.Add64 with no carry in: the sum's low word and its carry. -/
theorem Try.add64 (x y : Int) (hx : 0 ≤ x) (hy : 0 ≤ y) (w : World) : (callFunc 80 #[.int .u64 x, .int .u64 y, .int .u64 0]).run Try.prog w =
    .ok (.value (.tuple #[.int .u64 ((x + y) % 18446744073709551616), .int .u64 ((x + y) / 18446744073709551616)])) w := by
  rw [run_callFunc_extern Try.func80 (by kernel_rfl) (by kernel_rfl) (by kernel_rfl) (e := add64Entry) (by kernel_rfl), run_add64 x y 0 hx hy (by omega) (by omega)]
  simp only [Result.andThen, Int.add_zero]
end Go.Proofs
namespace Go.Proofs.Ytnnimjaigciedaa.Mon

theorem kn_iff (U V v1 v0 d q r : Int) (hV : V = v1 * 4294967296 + v0) (hp : 0 < V) (hr : U = q * v1 + r) :
    (U * 4294967296 + d) / V < q ↔ 4294967296 * r + d < q * v0 := by
  rw [Int.ediv_lt_iff_lt_mul hp]
  have e : q * V = U * 4294967296 - r * 4294967296 + q * v0 := by grind
  rw [e]
  omega

theorem kn_small (U V d : Int) (_h0 : 0 ≤ U) (hUV : U < V) (_hd : 0 ≤ d) (hd' : d < 4294967296) : (U * 4294967296 + d) / V < 4294967296 := by
  rw [Int.ediv_lt_iff_lt_mul (by omega)]
  omega

theorem kn_pos (U V d : Int) (h0 : 0 ≤ U) (hUV : U < V) (hd : 0 ≤ d) : 0 ≤ (U * 4294967296 + d) / V :=
  Int.ediv_nonneg (by omega) (by omega)

theorem kn_first (U V v1 v0 d : Int) (hV : V = v1 * 4294967296 + v0) (h1 : 2147483648 ≤ v1) (h0 : 0 ≤ v0) (h0' : v0 < 4294967296) (hd' : d < 4294967296) (hU : 0 ≤ U) (hUV : U < V) :
    (U * 4294967296 + d) / V ≤ U / v1 ∧ U / v1 ≤ 4294967297 := by
  have hm := Int.mul_ediv_add_emod U v1
  have hm0 := Int.emod_nonneg U (b := v1) (by omega)
  have hm1 := Int.emod_lt_of_pos U (b := v1) (by omega)
  refine ⟨?_, ?_⟩
  · have : (U * 4294967296 + d) / V < U / v1 + 1 := by
      rw [Int.ediv_lt_iff_lt_mul (by omega)]
      have e : (U / v1 + 1) * V = (v1 * (U / v1) + v1) * 4294967296 + (U / v1 + 1) * v0 := by grind
      have hq : 0 ≤ U / v1 := Int.ediv_nonneg hU (by omega)
      have hn : 0 ≤ (U / v1 + 1) * v0 := Int.mul_nonneg (by omega) h0
      rw [e]
      omega
    omega
  · have : U / v1 < 4294967298 := by
      rw [Int.ediv_lt_iff_lt_mul (by omega)]
      omega
    omega

/-- Behind a break the digit is right. -/
theorem kn_break (U V v1 v0 d q r : Int) (hV : V = v1 * 4294967296 + v0) (hp : 0 < V) (h0 : 0 ≤ v0) (h0' : v0 < 4294967296) (hd : 0 ≤ d) (hr : U = q * v1 + r)
    (hq : q ≤ 4294967296) (hb : 4294967296 ≤ r) : q ≤ (U * 4294967296 + d) / V := by
  refine Int.not_lt.mp fun h => ?_
  rw [kn_iff U V v1 v0 d q r hV hp hr] at h
  have : q * v0 ≤ 4294967296 * v0 := Int.mul_le_mul_of_nonneg_right hq h0
  omega

/-- What is left behind a digit, reckoned round 2^64. -/
theorem kn_left (U V d : Int) (hp : 0 < V) (hV : V < 18446744073709551616) :
    (U * 4294967296 + d - (U * 4294967296 + d) / V * V) % 18446744073709551616 = (U * 4294967296 + d) % V := by
  have hm := Int.mul_ediv_add_emod (U * 4294967296 + d) V
  have hm0 := Int.emod_nonneg (U * 4294967296 + d) (b := V) (by omega)
  have hm1 := Int.emod_lt_of_pos (U * 4294967296 + d) hp
  have e : U * 4294967296 + d - (U * 4294967296 + d) / V * V = (U * 4294967296 + d) % V := by grind
  rw [e]
  exact Int.emod_eq_of_lt hm0 (by omega)

/-- Two digits are the quotient and the rest. -/
theorem kn_two (U V d1 d0 : Int) (hp : 0 < V) :
    (U * 4294967296 + d1) / V * 4294967296 + ((U * 4294967296 + d1) % V * 4294967296 + d0) / V = (U * 18446744073709551616 + d1 * 4294967296 + d0) / V
      ∧ ((U * 4294967296 + d1) % V * 4294967296 + d0) % V = (U * 18446744073709551616 + d1 * 4294967296 + d0) % V := by
  have hm := Int.mul_ediv_add_emod (U * 4294967296 + d1) V
  have hn := Int.mul_ediv_add_emod ((U * 4294967296 + d1) % V * 4294967296 + d0) V
  have hn0 := Int.emod_nonneg ((U * 4294967296 + d1) % V * 4294967296 + d0) (b := V) (by omega)
  have hn1 := Int.emod_lt_of_pos ((U * 4294967296 + d1) % V * 4294967296 + d0) hp
  have e : U * 18446744073709551616 + d1 * 4294967296 + d0 = ((U * 4294967296 + d1) % V * 4294967296 + d0) % V + V * ((U * 4294967296 + d1) / V * 4294967296 + ((U * 4294967296 + d1) % V * 4294967296 + d0) / V) := by grind
  constructor
  · rw [e, Int.add_mul_ediv_left _ _ (by omega), Int.ediv_eq_zero_of_lt hn0 hn1]; omega
  · rw [e, Int.add_mul_emod_self_left, Int.emod_eq_of_lt hn0 hn1]

/-- The normalised dividend is the dividend, shifted. -/
theorem kn_shift (hi lo p p' : Int) (hp : 0 < p) (hpp : p * p' = 18446744073709551616) :
    (hi * p + lo / p') * 18446744073709551616 + lo * p % 18446744073709551616 = (hi * 18446744073709551616 + lo) * p := by
  have hp' : 0 < p' := Int.pos_of_mul_pos_right (by omega : 0 < p * p') hp
  have e : lo * p % 18446744073709551616 = (lo % p') * p := by
    rw [← hpp, Int.mul_comm lo p, Int.mul_emod_mul_of_pos _ _ hp, Int.mul_comm]
  have hm := Int.mul_ediv_add_emod lo p'
  rw [e]
  grind

theorem kn_scale (n y p : Int) (hp : 0 < p) : n * p / (y * p) = n / y ∧ n * p % (y * p) / p = n % y := by
  constructor
  · exact Int.mul_ediv_mul_of_pos_left n y hp
  · rw [Int.mul_comm n p, Int.mul_comm y p, Int.mul_emod_mul_of_pos _ _ hp, Int.mul_ediv_cancel_left _ (by omega)]

end Go.Proofs.Ytnnimjaigciedaa.Mon
namespace Go.Proofs.Ytnnimjaigciedaa.Mon

theorem bitLenAux_spec : ∀ (f x : Nat), 0 < x → x < 2 ^ f → ∃ n, Lib.bitLenAux f x = n + 1 ∧ n + 1 ≤ f ∧ 2 ^ n ≤ x ∧ x < 2 ^ (n + 1)
  | 0, x, h0, h => by simp at h; omega
  | f + 1, x, h0, h => by
    by_cases h1 : x / 2 = 0
    · refine ⟨0, ?_, by omega, by omega, by omega⟩
      simp only [Lib.bitLenAux]
      rw [if_neg (by omega), h1]
      cases f <;> simp [Lib.bitLenAux]
    · obtain ⟨n, e, hn, h2, h3⟩ := bitLenAux_spec f (x / 2) (by omega) (by rw [Nat.pow_succ] at h; omega)
      refine ⟨n + 1, ?_, by omega, by rw [Nat.pow_succ]; omega, by rw [Nat.pow_succ]; omega⟩
      simp only [Lib.bitLenAux]
      rw [if_neg (by omega), e]
      omega

/-- The shift: s with 2^63 ≤ y * 2^s < 2^64. -/
theorem shift_of (y : Int) (h0 : 0 < y) (h1 : y ≤ 18446744073709551615) :
    ∃ s : Nat, s ≤ 63 ∧ 64 - (Lib.bitLen y.toNat : Int) = s ∧ 9223372036854775808 ≤ y * 2 ^ s ∧ y * 2 ^ s < 18446744073709551616 := by
  obtain ⟨Y, rfl⟩ := Int.eq_ofNat_of_zero_le (Int.le_of_lt h0)
  obtain ⟨n, e, hn, h2, h3⟩ := bitLenAux_spec 64 Y (by omega) (by simp; omega)
  have hp : 2 ^ n * 2 ^ (63 - n) = (9223372036854775808 : Nat) := by rw [← Nat.pow_add, show n + (63 - n) = 63 by omega]
  have hpp : 2 ^ (n + 1) * 2 ^ (63 - n) = (18446744073709551616 : Nat) := by rw [← Nat.pow_add, show n + 1 + (63 - n) = 64 by omega]
  have hpos : 0 < 2 ^ (63 - n) := Nat.two_pow_pos _
  have ec : ((Y * 2 ^ (63 - n) : Nat) : Int) = (Y : Int) * 2 ^ (63 - n) := by rw [Int.natCast_mul, Int.natCast_pow]; rfl
  refine ⟨63 - n, by omega, ?_, ?_, ?_⟩
  · unfold Lib.bitLen
    rw [Int.toNat_natCast, e]
    omega
  · have : 2 ^ n * 2 ^ (63 - n) ≤ Y * 2 ^ (63 - n) := Nat.mul_le_mul_right _ h2
    rw [hp] at this
    rw [← ec]
    exact Int.ofNat_le.mpr this
  · have : Y * 2 ^ (63 - n) < 2 ^ (n + 1) * 2 ^ (63 - n) := Nat.mul_lt_mul_of_pos_right h3 hpos
    rw [hpp] at this
    rw [← ec]
    exact Int.ofNat_lt.mpr this

theorem pow_split (s : Nat) (hs : s ≤ 63) : (2 : Int) ^ s * 2 ^ (64 - s) = 18446744073709551616 := by
  rw [← Int.pow_add, show s + (64 - s) = 64 by omega]
  rfl

theorem pow_pos (s : Nat) : (0 : Int) < 2 ^ s := Int.pow_pos (by decide)

theorem wraps_u64 (n : Int) (h₀ : 0 ≤ n) (h₁ : n < 2 ^ 64) : IntKind.u64.wrap n = n := IntWalk.u64_in n ⟨h₀, by omega⟩

theorem mask32 (x : Int) (h0 : 0 ≤ x) (h1 : x < 18446744073709551616) : bits .and .u64 x 4294967295 = x % 4294967296 :=
  bits_mask .u64 64 (by decide) wraps_u64 32 (by decide) x h0 h1

/-- The higher word of the shifted dividend. -/
theorem high_word (hi lo y : Int) (s : Nat) (hs : s ≤ 63) (h0 : 0 ≤ hi) (hh : hi < y) (hy : y * 2 ^ s < 18446744073709551616) (hl0 : 0 ≤ lo) (hl : lo ≤ 18446744073709551615) :
    bits .or .u64 (hi * 2 ^ s) (lo / 2 ^ (64 - s)) = hi * 2 ^ s + lo / 2 ^ (64 - s) ∧ 0 ≤ hi * 2 ^ s ∧ hi * 2 ^ s < 18446744073709551616 ∧ 0 ≤ hi * 2 ^ s + lo / 2 ^ (64 - s) ∧ hi * 2 ^ s + lo / 2 ^ (64 - s) < y * 2 ^ s := by
  have hp := pow_pos s
  have hp' := pow_pos (64 - s)
  have hpp := pow_split s hs
  have a0 : 0 ≤ hi * 2 ^ s := Int.mul_nonneg h0 (Int.le_of_lt hp)
  have a1 : (hi + 1) * 2 ^ s ≤ y * 2 ^ s := Int.mul_le_mul_of_nonneg_right (by omega) (Int.le_of_lt hp)
  rw [Int.add_mul, Int.one_mul] at a1
  have b0 : 0 ≤ lo / 2 ^ (64 - s) := Int.ediv_nonneg hl0 (Int.le_of_lt hp')
  have b1 : lo / 2 ^ (64 - s) < 2 ^ s := by
    rw [Int.ediv_lt_iff_lt_mul hp', hpp]
    omega
  refine ⟨?_, a0, by omega, by omega, by omega⟩
  exact bits_join .u64 64 (by decide) wraps_u64 s _ _ a0 (Int.mul_emod_left _ _) (by omega) b0 b1 (by omega)

end Go.Proofs.Ytnnimjaigciedaa.Mon
namespace Go.Proofs.Ytnnimjaigciedaa.Mon
open Go.RowKit
set_option linter.unusedVariables false

theorem lz_any (y : Int) (s : Nat) (w : World) (h0 : 0 ≤ y) (h1 : y ≤ 18446744073709551615) (hs : 64 - (Lib.bitLen y.toNat : Int) = s) :
    Calls Try.prog 121 #[.int .u64 y] w fun e w' => e = .returned (.int .i64 s) ∧ w = w' :=
  (Try.bits_LeadingZeros64 y w h0 h1).mono fun _ _ ⟨he, hw⟩ => ⟨by rw [he, hs], hw.symm⟩

/-- What a round of a digit's loop knows: Q is the digit, q a guess that is not below it. -/
def Digit (U V v1 v0 d Q q r : Int) : Prop := V = v1 * 4294967296 + v0 ∧ 0 < V ∧ 0 ≤ v0 ∧ v0 < 4294967296 ∧ 0 ≤ d ∧ Q = (U * 4294967296 + d) / V ∧ Q < 4294967296 ∧ 0 ≤ Q ∧ U = q * v1 + r ∧ Q ≤ q

theorem Digit.next {U V v1 v0 d Q q r : Int} (h : Digit U V v1 v0 d Q q r) (hq : Q < q) : Digit U V v1 v0 d Q (q - 1) (r + v1) := by
  obtain ⟨a, b, c, c', d', e, f, f', g, i⟩ := h
  exact ⟨a, b, c, c', d', e, f, f', by grind, by omega⟩

theorem Digit.more {U V v1 v0 d Q q r : Int} (h : Digit U V v1 v0 d Q q r) (hq : Q < q) (_hq' : q < 4294967296) (hv : v0 < 4294967296) : 4294967296 * r + d < IntKind.u64.wrap (q * v0) := by
  obtain ⟨a, b, c, c', d', e, f, f', g, i⟩ := h
  have hm : q * v0 ≤ 4294967295 * 4294967295 := Int.mul_le_mul (by omega) (by omega) c (by omega)
  have h0 : 0 ≤ q * v0 := Int.mul_nonneg (by omega) c
  rw [IntWalk.u64_in _ ⟨h0, by omega⟩, ← kn_iff U V v1 v0 d q r a b g]
  omega

theorem Digit.done {U V v1 v0 d Q q r : Int} (h : Digit U V v1 v0 d Q q r) (hq : q ≤ Q) : IntKind.u64.wrap (q * v0) ≤ 4294967296 * r + d := by
  obtain ⟨a, b, c, c', d', e, f, f', g, i⟩ := h
  have hm : q * v0 ≤ 4294967295 * 4294967295 := Int.mul_le_mul (by omega) (by omega) c (by omega)
  have h0 : 0 ≤ q * v0 := Int.mul_nonneg (by omega) c
  rw [IntWalk.u64_in _ ⟨h0, by omega⟩]
  have := kn_iff U V v1 v0 d q r a b g
  omega

theorem Digit.broke {U V v1 v0 d Q q r : Int} (h : Digit U V v1 v0 d Q q r) (hq : Q < q) (hq' : q ≤ 4294967297) (hb : 4294967296 ≤ r + v1) : q - 1 = Q := by
  obtain ⟨a, b, c, c', d', e, f, f', g, i⟩ := h.next hq
  have := kn_break U V v1 v0 d (q - 1) (r + v1) a b c c' d' g (by omega) hb
  omega

set_option maxRecDepth 100000 in
set_option maxHeartbeats 4000000 in
theorem div64_core (hi lo y V v1 v0 U L d1 d0 Q1 Q0 q p r A A2 A3 U2 q2 p2 r2 C C2 C3 R : Int) (s : Nat) (w : World) (hh0 : 0 < hi) (hh : hi < y) (hl0 : 0 ≤ lo) (hl : lo ≤ 18446744073709551615) (hy : y ≤ 18446744073709551615)
    (hs : s ≤ 63) (HS : Hid (64 - (Lib.bitLen y.toNat : Int) = s))
    (eV : IntKind.u64.wrap (y * 2 ^ s) = V) (eV1 : V / 4294967296 = v1) (eV0 : bits BinOp.and IntKind.u64 V 4294967295 = v0)
    (eU : bits BinOp.or IntKind.u64 (IntKind.u64.wrap (hi * 2 ^ s)) (lo / 2 ^ (64 - s)) = U)
    (eL : IntKind.u64.wrap (lo * 2 ^ s) = L) (eL1 : L / 4294967296 = d1) (eL0 : bits BinOp.and IntKind.u64 L 4294967295 = d0)
    (b1 : 2147483648 ≤ v1) (b1' : v1 ≤ 4294967295) (b0 : 0 ≤ v0) (b0' : v0 ≤ 4294967295) (hU : 0 ≤ U) (hU' : U ≤ 18446744073709551615)
    (c1 : 0 ≤ d1) (c1' : d1 ≤ 4294967295) (c0 : 0 ≤ d0) (c0' : d0 ≤ 4294967295)
    (eq : U / v1 = q) (ep : IntKind.u64.wrap (q * v1) = p) (ip : 0 ≤ p) (ip' : p ≤ U) (er : U - p = r) (iq : 0 ≤ q) (iq' : q ≤ 4294967297) (ir : 0 ≤ r) (ir' : r < 4294967296)
    (HD1 : Hid (Digit U V v1 v0 d1 Q1 q r)) (j1 : 0 ≤ Q1) (j1' : Q1 ≤ 4294967295) (j0 : 0 ≤ Q0) (j0' : Q0 ≤ 4294967295)
    (eA : IntKind.u64.wrap (U * 4294967296) = A) (eA2 : IntKind.u64.wrap (A + d1) = A2) (eA3 : IntKind.u64.wrap (Q1 * V) = A3) (eA4 : IntKind.u64.wrap (A2 - A3) = U2) (iU2 : 0 ≤ U2) (iU2' : U2 ≤ 18446744073709551615)
    (eq2 : U2 / v1 = q2) (ep2 : IntKind.u64.wrap (q2 * v1) = p2) (ip2 : 0 ≤ p2) (ip2' : p2 ≤ U2) (er2 : U2 - p2 = r2) (iq2 : 0 ≤ q2) (iq2' : q2 ≤ 4294967297) (ir2 : 0 ≤ r2) (ir2' : r2 < 4294967296)
    (HD2 : Hid (Digit U2 V v1 v0 d0 Q0 q2 r2))
    (eC : IntKind.u64.wrap (U2 * 4294967296) = C) (eC2 : IntKind.u64.wrap (C + d0) = C2) (eC3 : IntKind.u64.wrap (Q0 * V) = C3) (eC4 : IntKind.u64.wrap (C2 - C3) = R) (iR : 0 ≤ R) (iR' : R ≤ 18446744073709551615) :
    Calls Try.prog 120 #[.int .u64 hi, .int .u64 lo, .int .u64 y] w fun e w' => e = .returned (.tuple #[.int .u64 (Q1 * 4294967296 + Q0), .int .u64 (R / 2 ^ s)]) ∧ w = w' := by
  have h1 : (y == 0) = false := by simp; omega
  have h2 : (hi == 0) = false := by simp; omega
  go_enter Try.func120, Try.ntmps120
  go_wp2_with (go_at_call 121; refine (lz_any _ s _ (by omega) (by omega) HS.out).mono ?_; rintro e w' ⟨rfl, rfl⟩)
  go_loop [15, 16] (fun t u => ∃ q r : Int, t = .int .u64 q ∧ u = .int .u64 r ∧ 0 ≤ q ∧ q ≤ 4294967297 ∧ 0 ≤ r ∧ r < 4294967296 ∧ Hid (Digit U V v1 v0 d1 Q1 q r)) (fun t _ => (intOf t).toNat)
  case atStart => exact ⟨q, r, by rw [eq], rfl, iq, iq', ir, ir', HD1⟩
  case round =>
    clear eq ep ip ip' er iq iq' ir ir' HD1
    obtain ⟨q, r, rfl, rfl, hq0, hq1, hr0, hr1, hD⟩ := hrel
    obtain ⟨m, hm⟩ : ∃ m, IntKind.u64.wrap (q * v0) = m := ⟨_, rfl⟩
    have hcase : (Q1 < q ∧ 4294967296 ≤ q ∧ r + v1 < 4294967296) ∨ (Q1 < q ∧ q < 4294967296 ∧ 4294967296 * r + d1 < m ∧ r + v1 < 4294967296) ∨ (Q1 < q ∧ 4294967296 ≤ q ∧ 4294967296 ≤ r + v1 ∧ q - 1 = Q1) ∨ (Q1 < q ∧ q < 4294967296 ∧ 4294967296 * r + d1 < m ∧ 4294967296 ≤ r + v1 ∧ q - 1 = Q1) ∨ (q = Q1 ∧ q < 4294967296 ∧ m ≤ 4294967296 * r + d1) := by
      have i1 : Q1 ≤ q := hD.out.2.2.2.2.2.2.2.2.2
      by_cases hc : Q1 < q
      · by_cases hc' : 4294967296 ≤ q
        · by_cases hb : r + v1 < 4294967296
          · exact .inl ⟨hc, hc', hb⟩
          · exact .inr (.inr (.inl ⟨hc, hc', by omega, hD.out.broke hc hq1 (by omega)⟩))
        · have hmo := hm ▸ hD.out.more hc (by omega) (by omega)
          by_cases hb : r + v1 < 4294967296
          · exact .inr (.inl ⟨hc, by omega, hmo, hb⟩)
          · exact .inr (.inr (.inr (.inl ⟨hc, by omega, hmo, by omega, hD.out.broke hc hq1 (by omega)⟩)))
      · exact .inr (.inr (.inr (.inr ⟨by omega, by omega, hm ▸ hD.out.done (by omega)⟩)))
    rcases hcase with ⟨g1, g2, g3⟩ | ⟨g1, g2, g3, g4⟩ | ⟨g1, g2, g3, g4⟩ | ⟨g1, g2, g3, g4, g5⟩ | ⟨g1, g2, g3⟩
    · go_wp2
      go_round
      case rel => exact ⟨q - 1, r + v1, rfl, rfl, by omega, by omega, by omega, by omega, Lib.hid (hD.out.next g1)⟩
      case measure => simp [intOf]; omega
    · go_wp2
      go_round
      case rel => exact ⟨q - 1, r + v1, rfl, rfl, by omega, by omega, by omega, by omega, Lib.hid (hD.out.next g1)⟩
      case measure => simp [intOf]; omega
    rotate_right 1
    subst g1
    all_goals
      go_wp2
      clear hm hD
      go_loop [18, 16] (fun t u => ∃ q r : Int, t = .int .u64 q ∧ u = .int .u64 r ∧ 0 ≤ q ∧ q ≤ 4294967297 ∧ 0 ≤ r ∧ r < 4294967296 ∧ Hid (Digit U2 V v1 v0 d0 Q0 q r)) (fun t _ => (intOf t).toNat)
      case atStart => exact ⟨q2, r2, by first | rfl | rw [eq2], rfl, iq2, iq2', ir2, ir2', HD2⟩
      case round =>
        clear eq2 ep2 ip2 ip2' er2 iq2 iq2' ir2 ir2' HD2
        obtain ⟨q, r, rfl, rfl, hq0, hq1, hr0, hr1, hD⟩ := hrel
        obtain ⟨m, hm⟩ : ∃ m, IntKind.u64.wrap (q * v0) = m := ⟨_, rfl⟩
        have hcase : (Q0 < q ∧ 4294967296 ≤ q ∧ r + v1 < 4294967296) ∨ (Q0 < q ∧ q < 4294967296 ∧ 4294967296 * r + d0 < m ∧ r + v1 < 4294967296) ∨ (Q0 < q ∧ 4294967296 ≤ q ∧ 4294967296 ≤ r + v1 ∧ q - 1 = Q0) ∨ (Q0 < q ∧ q < 4294967296 ∧ 4294967296 * r + d0 < m ∧ 4294967296 ≤ r + v1 ∧ q - 1 = Q0) ∨ (q = Q0 ∧ q < 4294967296 ∧ m ≤ 4294967296 * r + d0) := by
          have i1 : Q0 ≤ q := hD.out.2.2.2.2.2.2.2.2.2
          by_cases hc : Q0 < q
          · by_cases hc' : 4294967296 ≤ q
            · by_cases hb : r + v1 < 4294967296
              · exact .inl ⟨hc, hc', hb⟩
              · exact .inr (.inr (.inl ⟨hc, hc', by omega, hD.out.broke hc hq1 (by omega)⟩))
            · have hmo := hm ▸ hD.out.more hc (by omega) (by omega)
              by_cases hb : r + v1 < 4294967296
              · exact .inr (.inl ⟨hc, by omega, hmo, hb⟩)
              · exact .inr (.inr (.inr (.inl ⟨hc, by omega, hmo, by omega, hD.out.broke hc hq1 (by omega)⟩)))
          · exact .inr (.inr (.inr (.inr ⟨by omega, by omega, hm ▸ hD.out.done (by omega)⟩)))
        rcases hcase with ⟨g1, g2, g3⟩ | ⟨g1, g2, g3, g4⟩ | ⟨g1, g2, g3, g4⟩ | ⟨g1, g2, g3, g4, g5⟩ | ⟨g1, g2, g3⟩
        · go_wp2
          go_round
          case rel => exact ⟨q - 1, r + v1, rfl, rfl, by omega, by omega, by omega, by omega, Lib.hid (hD.out.next g1)⟩
          case measure => simp [intOf]; omega
        · go_wp2
          go_round
          case rel => exact ⟨q - 1, r + v1, rfl, rfl, by omega, by omega, by omega, by omega, Lib.hid (hD.out.next g1)⟩
          case measure => simp [intOf]; omega
        rotate_right 1
        subst g1
        all_goals
          go_wp2
          go_ret2
          exact ⟨rfl, rfl⟩
end Go.Proofs.Ytnnimjaigciedaa.Mon
