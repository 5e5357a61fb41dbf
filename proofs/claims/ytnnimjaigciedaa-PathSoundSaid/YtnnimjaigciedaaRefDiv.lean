/-
  tollhouseref02.Divide (function 66): for every product in four parts and every divisor that is not 0 it returns the quotient round 2^64, the rest, and whether the quotient is too great.
-/
import Derived.Test.YtnnimjaigciedaaM11
import Derived.LoopN
namespace Go.Proofs.Ytnnimjaigciedaa.Mon
open Go.RowKit
set_option linter.unusedVariables false

/-- A number in four parts of 32 bits. -/
def Four (w0 w1 w2 w3 N : Int) : Prop := 0 ≤ w0 ∧ w0 < 4294967296 ∧ 0 ≤ w1 ∧ w1 < 4294967296 ∧ 0 ≤ w2 ∧ w2 < 4294967296 ∧ 0 ≤ w3 ∧ w3 < 4294967296 ∧ N = w0 + w1 * 4294967296 + w2 * 18446744073709551616 + w3 * 79228162514264337593543950336

/-- A bit, behind whole parts. -/
theorem bit_part (w M : Int) (j : Nat) (hj : j < 32) : (w + 4294967296 * M) / 2 ^ j % 2 = w / 2 ^ j % 2 := by
  have hp := pow_pos j
  have e : (4294967296 : Int) = 2 ^ j * (2 * 2 ^ (31 - j)) := by
    rw [← Int.mul_assoc, Int.mul_comm (2 ^ j) 2, Int.mul_assoc, ← Int.pow_add, show j + (31 - j) = 31 by omega]
    rfl
  rw [e, Int.mul_assoc, Int.add_mul_ediv_left _ _ (by omega), Int.mul_assoc, Int.add_mul_emod_self_left]

theorem pow_add32 (c j : Nat) : (2 : Int) ^ (32 * c + j) = 2 ^ (32 * c) * 2 ^ j := Int.pow_add _ _ _

theorem bit_two (N : Int) (i : Nat) (d : Int) (h : N / 2 ^ i % 2 = d) : N / 2 ^ i = 2 * (N / 2 ^ (i + 1)) + d := by
  have e : N / 2 ^ (i + 1) = N / 2 ^ i / 2 := by
    rw [Int.pow_succ, Int.ediv_ediv_of_nonneg (Int.le_of_lt (pow_pos i))]
  rw [e]
  omega

theorem bit_at (w0 w1 w2 w3 N : Int) (h : Four w0 w1 w2 w3 N) (c : Nat) (x : Int) (hx : (c = 0 ∧ x = w0) ∨ (c = 1 ∧ x = w1) ∨ (c = 2 ∧ x = w2) ∨ (c = 3 ∧ x = w3)) (i : Nat) (hi : i / 32 = c) :
    N / 2 ^ i = 2 * (N / 2 ^ (i + 1)) + (x / 2 ^ (i % 32)).tmod 2 ∧ 0 ≤ (x / 2 ^ (i % 32)).tmod 2 ∧ (x / 2 ^ (i % 32)).tmod 2 ≤ 1 := by
  obtain ⟨a0, a1, b0, b1, c0, c1, d0, d1, hN⟩ := h
  have hx0 : 0 ≤ x := by omega
  have hq : 0 ≤ x / 2 ^ (i % 32) := Int.ediv_nonneg hx0 (Int.le_of_lt (pow_pos _))
  have et : (x / 2 ^ (i % 32)).tmod 2 = x / 2 ^ (i % 32) % 2 := Int.tmod_eq_emod_of_nonneg hq
  rw [et]
  refine ⟨bit_two N i _ ?_, by omega, by omega⟩
  have ei : i = 32 * c + i % 32 := by omega
  have ep : (2 : Int) ^ i = 2 ^ (32 * c) * 2 ^ (i % 32) := by rw [← pow_add32, ← ei]
  rw [ep, ← Int.ediv_ediv_of_nonneg (Int.le_of_lt (pow_pos _))]
  have hj : i % 32 < 32 := by omega
  generalize i % 32 = j at *
  rcases hx with ⟨rfl, rfl⟩ | ⟨rfl, rfl⟩ | ⟨rfl, rfl⟩ | ⟨rfl, rfl⟩
  · have e : N / 2 ^ (32 * 0) = x + 4294967296 * (w1 + w2 * 4294967296 + w3 * 18446744073709551616) := by
      show N / 1 = _
      omega
    rw [e, bit_part _ _ _ hj]
  · have e : N / 2 ^ (32 * 1) = x + 4294967296 * (w2 + w3 * 4294967296) := by
      show N / 4294967296 = _
      omega
    rw [e, bit_part _ _ _ hj]
  · have e : N / 2 ^ (32 * 2) = x + 4294967296 * w3 := by
      show N / 18446744073709551616 = _
      omega
    rw [e, bit_part _ _ _ hj]
  · have e : N / 2 ^ (32 * 3) = x + 4294967296 * 0 := by
      show N / 79228162514264337593543950336 = _
      omega
    rw [e, bit_part _ _ _ hj]

/-- Where the division stands behind the bits from k on. -/
def Dv (N o : Int) (k : Nat) (Q L : Int) (b : Bool) : Prop := Q = N / 2 ^ k / o % 18446744073709551616 ∧ L = N / 2 ^ k % o ∧ b = decide (18446744073709551616 ≤ N / 2 ^ k / o)

theorem Dv.bounds {N o : Int} {k : Nat} {Q L : Int} {b : Bool} (h : Dv N o k Q L b) (ho : 0 < o) : 0 ≤ Q ∧ Q ≤ 18446744073709551615 ∧ 0 ≤ L ∧ L < o := by
  obtain ⟨h1, h2, _⟩ := h
  have := Int.emod_nonneg (N / 2 ^ k) (b := o) (by omega)
  have := Int.emod_lt_of_pos (N / 2 ^ k) ho
  omega

theorem Dv.next {N o : Int} {i : Nat} {Q L d : Int} {b : Bool} (h : Dv N o (i + 1) Q L b) (hN : 0 ≤ N) (ho : 0 < o) (ho' : o < 18446744073709551616) (hd : N / 2 ^ i = 2 * (N / 2 ^ (i + 1)) + d) (_hd0 : 0 ≤ d) (_hd1 : d ≤ 1)
    (c Q' L' : Int) (b' : Bool) (hc : (c = 1 ∧ o ≤ 2 * L + d) ∨ (c = 0 ∧ 2 * L + d < o)) (hQ : Q' = (2 * Q + c) % 18446744073709551616) (hL : L' = (2 * L + d - c * o) % 18446744073709551616)
    (hb : b' = (b || decide (9223372036854775808 ≤ Q))) : Dv N o i Q' L' b' := by
  have hB := h.bounds ho
  obtain ⟨h1, h2, h3⟩ := h
  have hm := Int.mul_ediv_add_emod (N / 2 ^ (i + 1)) o
  have hn : 0 ≤ N / 2 ^ (i + 1) := Int.ediv_nonneg hN (Int.le_of_lt (pow_pos _))
  have hz : 0 ≤ N / 2 ^ (i + 1) / o := Int.ediv_nonneg hn (Int.le_of_lt ho)
  rw [← h2] at hm
  have key : N / 2 ^ i = (2 * L + d - c * o) + o * (2 * (N / 2 ^ (i + 1) / o) + c) := by
    rw [hd]
    clear hd h1 h2 h3 hQ hL hb hz hn hB hc
    generalize N / 2 ^ (i + 1) / o = z at *
    generalize N / 2 ^ (i + 1) = n at *
    grind
  have lr : 0 ≤ 2 * L + d - c * o ∧ 2 * L + d - c * o < o := by
    rcases hc with ⟨rfl, hc⟩ | ⟨rfl, hc⟩ <;> omega
  have eq : N / 2 ^ i / o = 2 * (N / 2 ^ (i + 1) / o) + c := by
    rw [key, Int.add_mul_ediv_left _ _ (by omega), Int.ediv_eq_zero_of_lt lr.1 lr.2]
    omega
  have er : N / 2 ^ i % o = 2 * L + d - c * o := by
    rw [key, Int.add_mul_emod_self_left, Int.emod_eq_of_lt lr.1 lr.2]
  refine ⟨?_, ?_, ?_⟩
  · rw [eq, hQ, h1]
    generalize N / 2 ^ (i + 1) / o = z at *
    omega
  · rw [er, hL]
    exact Int.emod_eq_of_lt lr.1 (by omega)
  · rw [eq, hb, h3, h1]
    generalize N / 2 ^ (i + 1) / o = z at *
    rw [Bool.eq_iff_iff]
    simp only [Bool.or_eq_true, decide_eq_true_eq]
    omega

theorem Dv.start (N o : Int) (hN : 0 ≤ N) (hN' : N < 340282366920938463463374607431768211456) (ho : 0 < o) : Dv N o 128 0 0 false := by
  have e : N / 2 ^ 128 = 0 := Int.ediv_eq_zero_of_lt hN hN'
  unfold Dv
  rw [e]
  simp

set_option maxRecDepth 100000 in
set_option maxHeartbeats 8000000 in
theorem rdivide_any (w0 w1 w2 w3 N o : Int) (w : World) (hF : Four w0 w1 w2 w3 N) (ho : 0 < o) (ho' : o ≤ 18446744073709551615) :
    Calls Try.prog 116 #[.agg #[.int .u64 w0, .int .u64 w1, .int .u64 w2, .int .u64 w3], .int .u64 o] w fun e w' => e = .returned (.tuple #[.int .u64 (N / o % 18446744073709551616), .int .u64 (N % o), .bool (decide (18446744073709551616 ≤ N / o))]) ∧ Below w.heap.size w w' := by
  have HF := Lib.hid hF
  obtain ⟨a0, a1, b0, b1, c0, c1, d0, d1, hN⟩ := hF
  have HN : Hid (0 ≤ N ∧ N < 340282366920938463463374607431768211456) := ⟨by omega, by omega⟩
  clear hN
  obtain ⟨R1, hR1⟩ : ∃ R, R = N / o % 18446744073709551616 := ⟨_, rfl⟩
  obtain ⟨R2, hR2⟩ : ∃ R, R = N % o := ⟨_, rfl⟩
  obtain ⟨R3, hR3⟩ : ∃ R, R = decide (18446744073709551616 ≤ N / o) := ⟨_, rfl⟩
  rw [← hR1, ← hR2, ← hR3]
  have HR := Lib.hid (And.intro hR1 (And.intro hR2 hR3))
  clear hR1 hR2 hR3
  go_enter Try.func116, Try.ntmps116
  go_wp2
  go_loop [7, 8, 9, 10, 11, 12] (fun q l ov i _ _ => ∃ (k : Nat) (Q L : Int) (b : Bool), k ≤ 128 ∧ i = .int .i64 ((k : Int) - 1) ∧ q = .int .u64 Q ∧ l = .int .u64 L ∧ ov = .bool b ∧ Hid (Dv N o k Q L b)) (fun _ _ _ i _ _ => (intOf i + 1).toNat)
  case atStart => exact ⟨128, 0, 0, false, by omega, rfl, rfl, rfl, rfl, Lib.hid (Dv.start N o HN.out.1 HN.out.2 ho)⟩
  case round =>
    obtain ⟨k, Q, L, b, hk, rfl, rfl, rfl, rfl, HD⟩ := hrel
    obtain ⟨hQ, hQ', hL, hL'⟩ := HD.out.bounds ho
    by_cases hk0 : k = 0
    · subst hk0
      go_wp2
      go_ret3
      refine ⟨?_, (Below.refl _ _).alloc (Nat.le_refl _) _⟩
      obtain ⟨e1, e2, e3⟩ := HD.out
      obtain ⟨f1, f2, f3⟩ := HR.out
      have z : N / 2 ^ 0 = N := by show N / 1 = N; omega
      rw [z] at e1 e2 e3
      rw [f1, f2, f3, ← e1, ← e2, ← e3]
      rfl
    · obtain ⟨i, rfl⟩ : ∃ i, k = i + 1 := ⟨k - 1, by omega⟩
      clear hk0
      have e : ((i + 1 : Nat) : Int) - 1 = i := by omega
      rw [e]
      clear e
      have hc : (i : Int) / 32 = 0 ∨ (i : Int) / 32 = 1 ∨ (i : Int) / 32 = 2 ∨ (i : Int) / 32 = 3 := by omega
      rcases hc with hc | hc | hc | hc
      · have HB := Lib.hid (bit_at w0 w1 w2 w3 N HF.out 0 w0 (.inl ⟨rfl, rfl⟩) i (by omega))
        obtain ⟨d, hd⟩ : ∃ d, (w0 / 2 ^ (i % 32)).tmod 2 = d := ⟨_, rfl⟩
        rw [hd] at HB
        have j0 := HB.out.2.1
        have j1 := HB.out.2.2
        by_cases hL2 : 9223372036854775808 ≤ L
        · by_cases hQ2 : 9223372036854775808 ≤ Q
          · go_wp2
            go_round
            case rel => exact ⟨i, _, _, _, by omega, rfl, rfl, rfl, rfl, Lib.hid (HD.out.next HN.out.1 ho (by omega) HB.out.1 j0 j1 1 _ _ _ (.inl ⟨rfl, by omega⟩) (by simp only [wrap_mod]; omega) (by simp only [wrap_mod]; omega) (by simp [hQ2]))⟩
            case measure => simp [intOf]
          · go_wp2
            go_round
            case rel => exact ⟨i, _, _, _, by omega, rfl, rfl, rfl, rfl, Lib.hid (HD.out.next HN.out.1 ho (by omega) HB.out.1 j0 j1 1 _ _ _ (.inl ⟨rfl, by omega⟩) (by first | omega | (simp only [wrap_mod]; omega)) (by simp only [wrap_mod]; omega) (by simp [hQ2]))⟩
            case measure => simp [intOf]
        · by_cases hs : o ≤ L * 2 + d
          · by_cases hQ2 : 9223372036854775808 ≤ Q
            · go_wp2
              go_round
              case rel => exact ⟨i, _, _, _, by omega, rfl, rfl, rfl, rfl, Lib.hid (HD.out.next HN.out.1 ho (by omega) HB.out.1 j0 j1 1 _ _ _ (.inl ⟨rfl, by omega⟩) (by simp only [wrap_mod]; omega) (by first | omega | (simp only [wrap_mod]; omega)) (by simp [hQ2]))⟩
              case measure => simp [intOf]
            · go_wp2
              go_round
              case rel => exact ⟨i, _, _, _, by omega, rfl, rfl, rfl, rfl, Lib.hid (HD.out.next HN.out.1 ho (by omega) HB.out.1 j0 j1 1 _ _ _ (.inl ⟨rfl, by omega⟩) (by first | omega | (simp only [wrap_mod]; omega)) (by first | omega | (simp only [wrap_mod]; omega)) (by simp [hQ2]))⟩
              case measure => simp [intOf]
          · by_cases hQ2 : 9223372036854775808 ≤ Q
            · go_wp2
              go_round
              case rel => exact ⟨i, _, _, _, by omega, rfl, rfl, rfl, rfl, Lib.hid (HD.out.next HN.out.1 ho (by omega) HB.out.1 j0 j1 0 _ _ _ (.inr ⟨rfl, by omega⟩) (by simp only [wrap_mod]; omega) (by first | omega | (simp only [wrap_mod]; omega)) (by simp [hQ2]))⟩
              case measure => simp [intOf]
            · go_wp2
              go_round
              case rel => exact ⟨i, _, _, _, by omega, rfl, rfl, rfl, rfl, Lib.hid (HD.out.next HN.out.1 ho (by omega) HB.out.1 j0 j1 0 _ _ _ (.inr ⟨rfl, by omega⟩) (by first | omega | (simp only [wrap_mod]; omega)) (by first | omega | (simp only [wrap_mod]; omega)) (by simp [hQ2]))⟩
              case measure => simp [intOf]
      · have HB := Lib.hid (bit_at w0 w1 w2 w3 N HF.out 1 w1 (.inr (.inl ⟨rfl, rfl⟩)) i (by omega))
        obtain ⟨d, hd⟩ : ∃ d, (w1 / 2 ^ (i % 32)).tmod 2 = d := ⟨_, rfl⟩
        rw [hd] at HB
        have j0 := HB.out.2.1
        have j1 := HB.out.2.2
        by_cases hL2 : 9223372036854775808 ≤ L
        · by_cases hQ2 : 9223372036854775808 ≤ Q
          · go_wp2
            go_round
            case rel => exact ⟨i, _, _, _, by omega, rfl, rfl, rfl, rfl, Lib.hid (HD.out.next HN.out.1 ho (by omega) HB.out.1 j0 j1 1 _ _ _ (.inl ⟨rfl, by omega⟩) (by simp only [wrap_mod]; omega) (by simp only [wrap_mod]; omega) (by simp [hQ2]))⟩
            case measure => simp [intOf]
          · go_wp2
            go_round
            case rel => exact ⟨i, _, _, _, by omega, rfl, rfl, rfl, rfl, Lib.hid (HD.out.next HN.out.1 ho (by omega) HB.out.1 j0 j1 1 _ _ _ (.inl ⟨rfl, by omega⟩) (by first | omega | (simp only [wrap_mod]; omega)) (by simp only [wrap_mod]; omega) (by simp [hQ2]))⟩
            case measure => simp [intOf]
        · by_cases hs : o ≤ L * 2 + d
          · by_cases hQ2 : 9223372036854775808 ≤ Q
            · go_wp2
              go_round
              case rel => exact ⟨i, _, _, _, by omega, rfl, rfl, rfl, rfl, Lib.hid (HD.out.next HN.out.1 ho (by omega) HB.out.1 j0 j1 1 _ _ _ (.inl ⟨rfl, by omega⟩) (by simp only [wrap_mod]; omega) (by first | omega | (simp only [wrap_mod]; omega)) (by simp [hQ2]))⟩
              case measure => simp [intOf]
            · go_wp2
              go_round
              case rel => exact ⟨i, _, _, _, by omega, rfl, rfl, rfl, rfl, Lib.hid (HD.out.next HN.out.1 ho (by omega) HB.out.1 j0 j1 1 _ _ _ (.inl ⟨rfl, by omega⟩) (by first | omega | (simp only [wrap_mod]; omega)) (by first | omega | (simp only [wrap_mod]; omega)) (by simp [hQ2]))⟩
              case measure => simp [intOf]
          · by_cases hQ2 : 9223372036854775808 ≤ Q
            · go_wp2
              go_round
              case rel => exact ⟨i, _, _, _, by omega, rfl, rfl, rfl, rfl, Lib.hid (HD.out.next HN.out.1 ho (by omega) HB.out.1 j0 j1 0 _ _ _ (.inr ⟨rfl, by omega⟩) (by simp only [wrap_mod]; omega) (by first | omega | (simp only [wrap_mod]; omega)) (by simp [hQ2]))⟩
              case measure => simp [intOf]
            · go_wp2
              go_round
              case rel => exact ⟨i, _, _, _, by omega, rfl, rfl, rfl, rfl, Lib.hid (HD.out.next HN.out.1 ho (by omega) HB.out.1 j0 j1 0 _ _ _ (.inr ⟨rfl, by omega⟩) (by first | omega | (simp only [wrap_mod]; omega)) (by first | omega | (simp only [wrap_mod]; omega)) (by simp [hQ2]))⟩
              case measure => simp [intOf]
      · have HB := Lib.hid (bit_at w0 w1 w2 w3 N HF.out 2 w2 (.inr (.inr (.inl ⟨rfl, rfl⟩))) i (by omega))
        obtain ⟨d, hd⟩ : ∃ d, (w2 / 2 ^ (i % 32)).tmod 2 = d := ⟨_, rfl⟩
        rw [hd] at HB
        have j0 := HB.out.2.1
        have j1 := HB.out.2.2
        by_cases hL2 : 9223372036854775808 ≤ L
        · by_cases hQ2 : 9223372036854775808 ≤ Q
          · go_wp2
            go_round
            case rel => exact ⟨i, _, _, _, by omega, rfl, rfl, rfl, rfl, Lib.hid (HD.out.next HN.out.1 ho (by omega) HB.out.1 j0 j1 1 _ _ _ (.inl ⟨rfl, by omega⟩) (by simp only [wrap_mod]; omega) (by simp only [wrap_mod]; omega) (by simp [hQ2]))⟩
            case measure => simp [intOf]
          · go_wp2
            go_round
            case rel => exact ⟨i, _, _, _, by omega, rfl, rfl, rfl, rfl, Lib.hid (HD.out.next HN.out.1 ho (by omega) HB.out.1 j0 j1 1 _ _ _ (.inl ⟨rfl, by omega⟩) (by first | omega | (simp only [wrap_mod]; omega)) (by simp only [wrap_mod]; omega) (by simp [hQ2]))⟩
            case measure => simp [intOf]
        · by_cases hs : o ≤ L * 2 + d
          · by_cases hQ2 : 9223372036854775808 ≤ Q
            · go_wp2
              go_round
              case rel => exact ⟨i, _, _, _, by omega, rfl, rfl, rfl, rfl, Lib.hid (HD.out.next HN.out.1 ho (by omega) HB.out.1 j0 j1 1 _ _ _ (.inl ⟨rfl, by omega⟩) (by simp only [wrap_mod]; omega) (by first | omega | (simp only [wrap_mod]; omega)) (by simp [hQ2]))⟩
              case measure => simp [intOf]
            · go_wp2
              go_round
              case rel => exact ⟨i, _, _, _, by omega, rfl, rfl, rfl, rfl, Lib.hid (HD.out.next HN.out.1 ho (by omega) HB.out.1 j0 j1 1 _ _ _ (.inl ⟨rfl, by omega⟩) (by first | omega | (simp only [wrap_mod]; omega)) (by first | omega | (simp only [wrap_mod]; omega)) (by simp [hQ2]))⟩
              case measure => simp [intOf]
          · by_cases hQ2 : 9223372036854775808 ≤ Q
            · go_wp2
              go_round
              case rel => exact ⟨i, _, _, _, by omega, rfl, rfl, rfl, rfl, Lib.hid (HD.out.next HN.out.1 ho (by omega) HB.out.1 j0 j1 0 _ _ _ (.inr ⟨rfl, by omega⟩) (by simp only [wrap_mod]; omega) (by first | omega | (simp only [wrap_mod]; omega)) (by simp [hQ2]))⟩
              case measure => simp [intOf]
            · go_wp2
              go_round
              case rel => exact ⟨i, _, _, _, by omega, rfl, rfl, rfl, rfl, Lib.hid (HD.out.next HN.out.1 ho (by omega) HB.out.1 j0 j1 0 _ _ _ (.inr ⟨rfl, by omega⟩) (by first | omega | (simp only [wrap_mod]; omega)) (by first | omega | (simp only [wrap_mod]; omega)) (by simp [hQ2]))⟩
              case measure => simp [intOf]
      · have HB := Lib.hid (bit_at w0 w1 w2 w3 N HF.out 3 w3 (.inr (.inr (.inr ⟨rfl, rfl⟩))) i (by omega))
        obtain ⟨d, hd⟩ : ∃ d, (w3 / 2 ^ (i % 32)).tmod 2 = d := ⟨_, rfl⟩
        rw [hd] at HB
        have j0 := HB.out.2.1
        have j1 := HB.out.2.2
        by_cases hL2 : 9223372036854775808 ≤ L
        · by_cases hQ2 : 9223372036854775808 ≤ Q
          · go_wp2
            go_round
            case rel => exact ⟨i, _, _, _, by omega, rfl, rfl, rfl, rfl, Lib.hid (HD.out.next HN.out.1 ho (by omega) HB.out.1 j0 j1 1 _ _ _ (.inl ⟨rfl, by omega⟩) (by simp only [wrap_mod]; omega) (by simp only [wrap_mod]; omega) (by simp [hQ2]))⟩
            case measure => simp [intOf]
          · go_wp2
            go_round
            case rel => exact ⟨i, _, _, _, by omega, rfl, rfl, rfl, rfl, Lib.hid (HD.out.next HN.out.1 ho (by omega) HB.out.1 j0 j1 1 _ _ _ (.inl ⟨rfl, by omega⟩) (by first | omega | (simp only [wrap_mod]; omega)) (by simp only [wrap_mod]; omega) (by simp [hQ2]))⟩
            case measure => simp [intOf]
        · by_cases hs : o ≤ L * 2 + d
          · by_cases hQ2 : 9223372036854775808 ≤ Q
            · go_wp2
              go_round
              case rel => exact ⟨i, _, _, _, by omega, rfl, rfl, rfl, rfl, Lib.hid (HD.out.next HN.out.1 ho (by omega) HB.out.1 j0 j1 1 _ _ _ (.inl ⟨rfl, by omega⟩) (by simp only [wrap_mod]; omega) (by first | omega | (simp only [wrap_mod]; omega)) (by simp [hQ2]))⟩
              case measure => simp [intOf]
            · go_wp2
              go_round
              case rel => exact ⟨i, _, _, _, by omega, rfl, rfl, rfl, rfl, Lib.hid (HD.out.next HN.out.1 ho (by omega) HB.out.1 j0 j1 1 _ _ _ (.inl ⟨rfl, by omega⟩) (by first | omega | (simp only [wrap_mod]; omega)) (by first | omega | (simp only [wrap_mod]; omega)) (by simp [hQ2]))⟩
              case measure => simp [intOf]
          · by_cases hQ2 : 9223372036854775808 ≤ Q
            · go_wp2
              go_round
              case rel => exact ⟨i, _, _, _, by omega, rfl, rfl, rfl, rfl, Lib.hid (HD.out.next HN.out.1 ho (by omega) HB.out.1 j0 j1 0 _ _ _ (.inr ⟨rfl, by omega⟩) (by simp only [wrap_mod]; omega) (by first | omega | (simp only [wrap_mod]; omega)) (by simp [hQ2]))⟩
              case measure => simp [intOf]
            · go_wp2
              go_round
              case rel => exact ⟨i, _, _, _, by omega, rfl, rfl, rfl, rfl, Lib.hid (HD.out.next HN.out.1 ho (by omega) HB.out.1 j0 j1 0 _ _ _ (.inr ⟨rfl, by omega⟩) (by first | omega | (simp only [wrap_mod]; omega)) (by first | omega | (simp only [wrap_mod]; omega)) (by simp [hQ2]))⟩
              case measure => simp [intOf]
end Go.Proofs.Ytnnimjaigciedaa.Mon
