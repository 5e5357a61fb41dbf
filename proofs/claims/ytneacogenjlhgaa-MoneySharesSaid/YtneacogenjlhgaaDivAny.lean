/-
  math/bits.Div64 for every hi < y: the quotient and the rest, and memory as it was (an order may have been drawn).
-/
import Derived.Test.YtneacogenjlhgaaDiv
namespace Go.Proofs.Ytneacogenjlhgaa
open Go.RowKit

def divQ (hi lo y : Int) : Int := (hi * 18446744073709551616 + lo) / y
def divR (hi lo y : Int) : Int := (hi * 18446744073709551616 + lo) % y

set_option maxHeartbeats 1000000 in
theorem div64_lo (lo y : Int) (w : World) (hl0 : 0 ≤ lo) (hl : lo ≤ 18446744073709551615) (hy0 : 0 < y) (hy : y ≤ 18446744073709551615) :
    Calls Try.prog 69 #[.int .u64 0, .int .u64 lo, .int .u64 y] w fun e w' => e = .returned (.tuple #[.int .u64 (lo / y), .int .u64 (lo % y)]) ∧ ∃ n, w' = w.drewN n := by
  have h1 : (y == 0) = false := by simp; omega
  go_enter Try.func69, Try.ntmps69
  go_wp2
  go_quiet (fail)
  go_wp2
  go_ret2
  exact ⟨rfl, _, rfl⟩

theorem wrap_id (x : Int) (h0 : 0 ≤ x) (h1 : x < 18446744073709551616) : IntKind.u64.wrap x = x := IntWalk.u64_in x ⟨h0, by omega⟩
theorem wrap_mod (x : Int) : IntKind.u64.wrap x = x % 18446744073709551616 := IntKind.wrap_u64 x

/-- A first guess of a digit. -/
theorem digit_first (U V v1 v0 d : Int) (hV : V = v1 * 4294967296 + v0) (h1 : 2147483648 ≤ v1) (h1' : v1 ≤ 4294967295) (h0 : 0 ≤ v0) (h0' : v0 < 4294967296) (hd : 0 ≤ d) (hd' : d < 4294967296) (hU : 0 ≤ U) (hUV : U < V) :
    IntKind.u64.wrap (U / v1 * v1) = U / v1 * v1 ∧ 0 ≤ U / v1 * v1 ∧ U / v1 * v1 ≤ U ∧ 0 ≤ U / v1 ∧ U / v1 ≤ 4294967297 ∧ 0 ≤ U - U / v1 * v1 ∧ U - U / v1 * v1 < 4294967296 ∧ Digit U V v1 v0 d ((U * 4294967296 + d) / V) (U / v1) (U - U / v1 * v1)
      ∧ 0 ≤ (U * 4294967296 + d) / V ∧ (U * 4294967296 + d) / V ≤ 4294967295 := by
  have hm := Int.mul_ediv_add_emod U v1
  rw [Int.mul_comm] at hm
  have hm0 := Int.emod_nonneg U (b := v1) (by omega)
  have hm1 := Int.emod_lt_of_pos U (b := v1) (by omega)
  have hq0 : 0 ≤ U / v1 := Int.ediv_nonneg hU (by omega)
  have hp0 : 0 ≤ U / v1 * v1 := Int.mul_nonneg hq0 (by omega)
  have hf := kn_first U V v1 v0 d hV h1 h0 h0' hd' hU hUV
  have hs := kn_small U V d hU hUV hd hd'
  have hp := kn_pos U V d hU hUV hd
  exact ⟨wrap_id _ hp0 (by omega), hp0, by omega, hq0, hf.2, by omega, by omega, ⟨hV, by omega, h0, h0', hd, rfl, hs, hp, by omega, hf.1⟩, hp, by omega⟩

/-- What is left, reckoned round. -/
theorem left_wrap (U V d : Int) (hp : 0 < V) (hV : V < 18446744073709551616) :
    IntKind.u64.wrap (IntKind.u64.wrap (IntKind.u64.wrap (U * 4294967296) + d) - IntKind.u64.wrap ((U * 4294967296 + d) / V * V)) = (U * 4294967296 + d) % V := by
  rw [← kn_left U V d hp hV]
  generalize (U * 4294967296 + d) / V * V = z
  rw [wrap_mod, wrap_mod, wrap_mod, wrap_mod]
  omega

set_option maxHeartbeats 1000000 in
theorem div64_hi (hi lo y : Int) (w : World) (hh0 : 0 < hi) (hh : hi < y) (hl0 : 0 ≤ lo) (hl : lo ≤ 18446744073709551615) (hy : y ≤ 18446744073709551615) :
    Calls Try.prog 69 #[.int .u64 hi, .int .u64 lo, .int .u64 y] w fun e w' => e = .returned (.tuple #[.int .u64 (divQ hi lo y), .int .u64 (divR hi lo y)]) ∧ w = w' := by
  obtain ⟨s, hs, hbl, hlow, hhigh⟩ := shift_of y (by omega) hy
  obtain ⟨eO, o0, o1, u0, u1⟩ := high_word hi lo y s hs (by omega) hh hhigh hl0 hl
  have hpp := pow_split s hs
  have hps := pow_pos s
  have hsh := kn_shift hi lo (2 ^ s) (2 ^ (64 - s)) hps hpp
  have hsc := kn_scale (hi * 18446744073709551616 + lo) y (2 ^ s) hps
  have L0 := Int.emod_nonneg (lo * 2 ^ s) (b := 18446744073709551616) (by omega)
  have L1 := Int.emod_lt_of_pos (lo * 2 ^ s) (b := 18446744073709551616) (by omega)
  obtain ⟨V, hV⟩ : ∃ V, V = y * 2 ^ s := ⟨_, rfl⟩
  obtain ⟨U, hU⟩ : ∃ U, U = hi * 2 ^ s + lo / 2 ^ (64 - s) := ⟨_, rfl⟩
  obtain ⟨L, hL⟩ : ∃ L, L = lo * 2 ^ s % 18446744073709551616 := ⟨_, rfl⟩
  rw [← hV] at hlow hhigh u1
  rw [← hU] at eO u0 u1 hsh
  rw [← hL] at L0 L1 hsh
  rw [← hV, ← hsh] at hsc
  have hVd : V = V / 4294967296 * 4294967296 + V % 4294967296 := by omega
  have hLd : L = L / 4294967296 * 4294967296 + L % 4294967296 := by omega
  have d1 := digit_first U V (V / 4294967296) (V % 4294967296) (L / 4294967296) hVd (by omega) (by omega) (by omega) (by omega) (by omega) (by omega) u0 u1
  have r0 := Int.emod_nonneg (U * 4294967296 + L / 4294967296) (b := V) (by omega)
  have r1 := Int.emod_lt_of_pos (U * 4294967296 + L / 4294967296) (b := V) (by omega)
  have d2 := digit_first ((U * 4294967296 + L / 4294967296) % V) V (V / 4294967296) (V % 4294967296) (L % 4294967296) hVd (by omega) (by omega) (by omega) (by omega) (by omega) (by omega) r0 r1
  have l1 := left_wrap U V (L / 4294967296) (by omega) hhigh
  have l2 := left_wrap ((U * 4294967296 + L / 4294967296) % V) V (L % 4294967296) (by omega) hhigh
  have t := kn_two U V (L / 4294967296) (L % 4294967296) (by omega)
  have s0 := Int.emod_nonneg ((U * 4294967296 + L / 4294967296) % V * 4294967296 + L % 4294967296) (b := V) (by omega)
  have s1 := Int.emod_lt_of_pos ((U * 4294967296 + L / 4294967296) % V * 4294967296 + L % 4294967296) (b := V) (by omega)
  have e1 : divQ hi lo y = (U * 4294967296 + L / 4294967296) / V * 4294967296 + ((U * 4294967296 + L / 4294967296) % V * 4294967296 + L % 4294967296) / V := by
    unfold divQ
    rw [t.1, ← hsc.1]
    congr 1
    omega
  have e2 : divR hi lo y = ((U * 4294967296 + L / 4294967296) % V * 4294967296 + L % 4294967296) % V / 2 ^ s := by
    unfold divR
    rw [t.2, ← hsc.2]
    congr 2
    omega
  rw [e1, e2]
  obtain ⟨p1, p2, p3, p4, p5, p6, p7, p8, p9, p10⟩ := d1
  obtain ⟨q1, q2, q3, q4, q5, q6, q7, q8, q9, q10⟩ := d2
  have eV : IntKind.u64.wrap (y * 2 ^ s) = V := by rw [← hV]; exact wrap_id V (by omega) hhigh
  have eU : bits BinOp.or IntKind.u64 (IntKind.u64.wrap (hi * 2 ^ s)) (lo / 2 ^ (64 - s)) = U := by rw [wrap_id _ o0 o1]; exact eO
  have eL : IntKind.u64.wrap (lo * 2 ^ s) = L := by rw [hL]; exact wrap_mod _
  exact div64_core hi lo y V (V / 4294967296) (V % 4294967296) U L (L / 4294967296) (L % 4294967296) _ _ _ _ _ _ _ _ _ _ _ _ _ _ _ _ s w hh0 hh hl0 hl hy hs (Lib.hid hbl)
    eV rfl (mask32 V (by omega) hhigh) eU eL rfl (mask32 L L0 L1) (by omega) (by omega) (by omega) (by omega) u0 (by omega) (by omega) (by omega) (by omega) (by omega)
    rfl p1 p2 p3 rfl p4 p5 p6 p7 (Lib.hid p8) p9 p10 q9 q10 rfl rfl rfl l1 r0 (by omega) rfl q1 q2 q3 rfl q4 q5 q6 q7 (Lib.hid q8) rfl rfl rfl l2 s0 (by omega)

/-- math/bits.Div64, wherever it doesn't panic. -/
theorem div64_any (hi lo y : Int) (w : World) (hh0 : 0 ≤ hi) (hh : hi < y) (hl0 : 0 ≤ lo) (hl : lo ≤ 18446744073709551615) (hy : y ≤ 18446744073709551615) :
    Calls Try.prog 69 #[.int .u64 hi, .int .u64 lo, .int .u64 y] w fun e w' => e = .returned (.tuple #[.int .u64 (divQ hi lo y), .int .u64 (divR hi lo y)]) ∧ ∃ n, w' = w.drewN n := by
  by_cases h : hi = 0
  · subst h
    have e1 : divQ 0 lo y = lo / y := by unfold divQ; congr 1; omega
    have e2 : divR 0 lo y = lo % y := by unfold divR; congr 1; omega
    rw [e1, e2]
    exact div64_lo lo y w hl0 hl hh hy
  · exact (div64_hi hi lo y w (by omega) hh hl0 hl hy).mono fun _ _ ⟨he, hw⟩ => ⟨he, 0, hw.symm⟩

end Go.Proofs.Ytneacogenjlhgaa
