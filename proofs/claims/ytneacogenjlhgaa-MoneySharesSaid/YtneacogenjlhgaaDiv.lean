/-
  math/bits.Div64 (function 69 of this program): for every hi < y it returns the quotient and the rest of (hi, lo) by y, and leaves memory as it was (it may draw an order).
-/
import Derived.Test.YtneacogenjlhgaaBits
import Derived.Test.YtneacogenjlhgaaShift
import Derived.WalkKit
import Derived.WalkSpells
import Derived.RegionTactic
import Derived.ChangeAlike
import Derived.Deep.QuietTactic
import Derived.BigQuiet
import Derived.RowKit3
import Derived.Lib.Hide
namespace Go.Proofs.Ytneacogenjlhgaa
open Go.RowKit
set_option linter.unusedVariables false

theorem lz_any (y : Int) (s : Nat) (w : World) (h0 : 0 ≤ y) (h1 : y ≤ 18446744073709551615) (hs : 64 - (Lib.bitLen y.toNat : Int) = s) :
    Calls Try.prog 70 #[.int .u64 y] w fun e w' => e = .returned (.int .i64 s) ∧ w = w' :=
  (Try.bits_LeadingZeros64 y w h0 h1).mono fun _ _ ⟨he, hw⟩ => ⟨by rw [he, hs], hw.symm⟩

/-- What a round of a digit's loop knows: Q is the digit, q a guess that is not below it. -/
def Digit (U V v1 v0 d Q q r : Int) : Prop := V = v1 * 4294967296 + v0 ∧ 0 < V ∧ 0 ≤ v0 ∧ v0 < 4294967296 ∧ 0 ≤ d ∧ Q = (U * 4294967296 + d) / V ∧ Q < 4294967296 ∧ 0 ≤ Q ∧ U = q * v1 + r ∧ Q ≤ q

theorem Digit.next {U V v1 v0 d Q q r : Int} (h : Digit U V v1 v0 d Q q r) (hq : Q < q) : Digit U V v1 v0 d Q (q - 1) (r + v1) := by
  obtain ⟨a, b, c, c', d', e, f, f', g, i⟩ := h
  exact ⟨a, b, c, c', d', e, f, f', by grind, by omega⟩

theorem Digit.more {U V v1 v0 d Q q r : Int} (h : Digit U V v1 v0 d Q q r) (hq : Q < q) (_hq' : q < 4294967296) (hv : v0 < 4294967296) : 4294967296 * r + d < IntKind.u64.wrap (q * v0) := by
  obtain ⟨a, b, c, c', d', e, f, f', g, i⟩ := h
  have hm : q * v0 ≤ 4294967295 * 4294967295 := Int.mul_le_mul (by omega) (by omega) c (by omega)
  have h0 : 0 ≤ q * v0 := Int.mul_nonneg (by omega) c
  rw [IntWalk.u64_in _ ⟨h0, by omega⟩, ← kn_iff U V v1 v0 d q r a b g]
  omega

theorem Digit.done {U V v1 v0 d Q q r : Int} (h : Digit U V v1 v0 d Q q r) (hq : q ≤ Q) : IntKind.u64.wrap (q * v0) ≤ 4294967296 * r + d := by
  obtain ⟨a, b, c, c', d', e, f, f', g, i⟩ := h
  have hm : q * v0 ≤ 4294967295 * 4294967295 := Int.mul_le_mul (by omega) (by omega) c (by omega)
  have h0 : 0 ≤ q * v0 := Int.mul_nonneg (by omega) c
  rw [IntWalk.u64_in _ ⟨h0, by omega⟩]
  have := kn_iff U V v1 v0 d q r a b g
  omega

theorem Digit.broke {U V v1 v0 d Q q r : Int} (h : Digit U V v1 v0 d Q q r) (hq : Q < q) (hq' : q ≤ 4294967297) (hb : 4294967296 ≤ r + v1) : q - 1 = Q := by
  obtain ⟨a, b, c, c', d', e, f, f', g, i⟩ := h.next hq
  have := kn_break U V v1 v0 d (q - 1) (r + v1) a b c c' d' g (by omega) hb
  omega

set_option maxRecDepth 100000 in
set_option maxHeartbeats 4000000 in
theorem div64_core (hi lo y V v1 v0 U L d1 d0 Q1 Q0 q p r A A2 A3 U2 q2 p2 r2 C C2 C3 R : Int) (s : Nat) (w : World) (hh0 : 0 < hi) (hh : hi < y) (hl0 : 0 ≤ lo) (hl : lo ≤ 18446744073709551615) (hy : y ≤ 18446744073709551615)
    (hs : s ≤ 63) (HS : Hid (64 - (Lib.bitLen y.toNat : Int) = s))
    (eV : IntKind.u64.wrap (y * 2 ^ s) = V) (eV1 : V / 4294967296 = v1) (eV0 : bits BinOp.and IntKind.u64 V 4294967295 = v0)
    (eU : bits BinOp.or IntKind.u64 (IntKind.u64.wrap (hi * 2 ^ s)) (lo / 2 ^ (64 - s)) = U)
    (eL : IntKind.u64.wrap (lo * 2 ^ s) = L) (eL1 : L / 4294967296 = d1) (eL0 : bits BinOp.and IntKind.u64 L 4294967295 = d0)
    (b1 : 2147483648 ≤ v1) (b1' : v1 ≤ 4294967295) (b0 : 0 ≤ v0) (b0' : v0 ≤ 4294967295) (hU : 0 ≤ U) (hU' : U ≤ 18446744073709551615)
    (c1 : 0 ≤ d1) (c1' : d1 ≤ 4294967295) (c0 : 0 ≤ d0) (c0' : d0 ≤ 4294967295)
    (eq : U / v1 = q) (ep : IntKind.u64.wrap (q * v1) = p) (ip : 0 ≤ p) (ip' : p ≤ U) (er : U - p = r) (iq : 0 ≤ q) (iq' : q ≤ 4294967297) (ir : 0 ≤ r) (ir' : r < 4294967296)
    (HD1 : Hid (Digit U V v1 v0 d1 Q1 q r)) (j1 : 0 ≤ Q1) (j1' : Q1 ≤ 4294967295) (j0 : 0 ≤ Q0) (j0' : Q0 ≤ 4294967295)
    (eA : IntKind.u64.wrap (U * 4294967296) = A) (eA2 : IntKind.u64.wrap (A + d1) = A2) (eA3 : IntKind.u64.wrap (Q1 * V) = A3) (eA4 : IntKind.u64.wrap (A2 - A3) = U2) (iU2 : 0 ≤ U2) (iU2' : U2 ≤ 18446744073709551615)
    (eq2 : U2 / v1 = q2) (ep2 : IntKind.u64.wrap (q2 * v1) = p2) (ip2 : 0 ≤ p2) (ip2' : p2 ≤ U2) (er2 : U2 - p2 = r2) (iq2 : 0 ≤ q2) (iq2' : q2 ≤ 4294967297) (ir2 : 0 ≤ r2) (ir2' : r2 < 4294967296)
    (HD2 : Hid (Digit U2 V v1 v0 d0 Q0 q2 r2))
    (eC : IntKind.u64.wrap (U2 * 4294967296) = C) (eC2 : IntKind.u64.wrap (C + d0) = C2) (eC3 : IntKind.u64.wrap (Q0 * V) = C3) (eC4 : IntKind.u64.wrap (C2 - C3) = R) (iR : 0 ≤ R) (iR' : R ≤ 18446744073709551615) :
    Calls Try.prog 69 #[.int .u64 hi, .int .u64 lo, .int .u64 y] w fun e w' => e = .returned (.tuple #[.int .u64 (Q1 * 4294967296 + Q0), .int .u64 (R / 2 ^ s)]) ∧ w = w' := by
  have h1 : (y == 0) = false := by simp; omega
  have h2 : (hi == 0) = false := by simp; omega
  go_enter Try.func69, Try.ntmps69
  go_wp2_with (go_at_call 70; refine (lz_any _ s _ (by omega) (by omega) HS.out).mono ?_; rintro e w' ⟨rfl, rfl⟩)
  go_loop [15, 16] (fun t u => ∃ q r : Int, t = .int .u64 q ∧ u = .int .u64 r ∧ 0 ≤ q ∧ q ≤ 4294967297 ∧ 0 ≤ r ∧ r < 4294967296 ∧ Hid (Digit U V v1 v0 d1 Q1 q r)) (fun t _ => (intOf t).toNat)
  case atStart => exact ⟨q, r, by rw [eq], rfl, iq, iq', ir, ir', HD1⟩
  case round =>
    clear eq ep ip ip' er iq iq' ir ir' HD1
    obtain ⟨q, r, rfl, rfl, hq0, hq1, hr0, hr1, hD⟩ := hrel
    obtain ⟨m, hm⟩ : ∃ m, IntKind.u64.wrap (q * v0) = m := ⟨_, rfl⟩
    have hcase : (Q1 < q ∧ 4294967296 ≤ q ∧ r + v1 < 4294967296) ∨ (Q1 < q ∧ q < 4294967296 ∧ 4294967296 * r + d1 < m ∧ r + v1 < 4294967296) ∨ (Q1 < q ∧ 4294967296 ≤ q ∧ 4294967296 ≤ r + v1 ∧ q - 1 = Q1) ∨ (Q1 < q ∧ q < 4294967296 ∧ 4294967296 * r + d1 < m ∧ 4294967296 ≤ r + v1 ∧ q - 1 = Q1) ∨ (q = Q1 ∧ q < 4294967296 ∧ m ≤ 4294967296 * r + d1) := by
      have i1 : Q1 ≤ q := hD.out.2.2.2.2.2.2.2.2.2
      by_cases hc : Q1 < q
      · by_cases hc' : 4294967296 ≤ q
        · by_cases hb : r + v1 < 4294967296
          · exact .inl ⟨hc, hc', hb⟩
          · exact .inr (.inr (.inl ⟨hc, hc', by omega, hD.out.broke hc hq1 (by omega)⟩))
        · have hmo := hm ▸ hD.out.more hc (by omega) (by omega)
          by_cases hb : r + v1 < 4294967296
          · exact .inr (.inl ⟨hc, by omega, hmo, hb⟩)
          · exact .inr (.inr (.inr (.inl ⟨hc, by omega, hmo, by omega, hD.out.broke hc hq1 (by omega)⟩)))
      · exact .inr (.inr (.inr (.inr ⟨by omega, by omega, hm ▸ hD.out.done (by omega)⟩)))
    rcases hcase with ⟨g1, g2, g3⟩ | ⟨g1, g2, g3, g4⟩ | ⟨g1, g2, g3, g4⟩ | ⟨g1, g2, g3, g4, g5⟩ | ⟨g1, g2, g3⟩
    · go_wp2
      go_round
      case rel => exact ⟨q - 1, r + v1, rfl, rfl, by omega, by omega, by omega, by omega, Lib.hid (hD.out.next g1)⟩
      case measure => simp [intOf]; omega
    · go_wp2
      go_round
      case rel => exact ⟨q - 1, r + v1, rfl, rfl, by omega, by omega, by omega, by omega, Lib.hid (hD.out.next g1)⟩
      case measure => simp [intOf]; omega
    rotate_right 1
    subst g1
    all_goals
      go_wp2
      clear hm hD
      go_loop [18, 16] (fun t u => ∃ q r : Int, t = .int .u64 q ∧ u = .int .u64 r ∧ 0 ≤ q ∧ q ≤ 4294967297 ∧ 0 ≤ r ∧ r < 4294967296 ∧ Hid (Digit U2 V v1 v0 d0 Q0 q r)) (fun t _ => (intOf t).toNat)
      case atStart => exact ⟨q2, r2, by first | rfl | rw [eq2], rfl, iq2, iq2', ir2, ir2', HD2⟩
      case round =>
        clear eq2 ep2 ip2 ip2' er2 iq2 iq2' ir2 ir2' HD2
        obtain ⟨q, r, rfl, rfl, hq0, hq1, hr0, hr1, hD⟩ := hrel
        obtain ⟨m, hm⟩ : ∃ m, IntKind.u64.wrap (q * v0) = m := ⟨_, rfl⟩
        have hcase : (Q0 < q ∧ 4294967296 ≤ q ∧ r + v1 < 4294967296) ∨ (Q0 < q ∧ q < 4294967296 ∧ 4294967296 * r + d0 < m ∧ r + v1 < 4294967296) ∨ (Q0 < q ∧ 4294967296 ≤ q ∧ 4294967296 ≤ r + v1 ∧ q - 1 = Q0) ∨ (Q0 < q ∧ q < 4294967296 ∧ 4294967296 * r + d0 < m ∧ 4294967296 ≤ r + v1 ∧ q - 1 = Q0) ∨ (q = Q0 ∧ q < 4294967296 ∧ m ≤ 4294967296 * r + d0) := by
          have i1 : Q0 ≤ q := hD.out.2.2.2.2.2.2.2.2.2
          by_cases hc : Q0 < q
          · by_cases hc' : 4294967296 ≤ q
            · by_cases hb : r + v1 < 4294967296
              · exact .inl ⟨hc, hc', hb⟩
              · exact .inr (.inr (.inl ⟨hc, hc', by omega, hD.out.broke hc hq1 (by omega)⟩))
            · have hmo := hm ▸ hD.out.more hc (by omega) (by omega)
              by_cases hb : r + v1 < 4294967296
              · exact .inr (.inl ⟨hc, by omega, hmo, hb⟩)
              · exact .inr (.inr (.inr (.inl ⟨hc, by omega, hmo, by omega, hD.out.broke hc hq1 (by omega)⟩)))
          · exact .inr (.inr (.inr (.inr ⟨by omega, by omega, hm ▸ hD.out.done (by omega)⟩)))
        rcases hcase with ⟨g1, g2, g3⟩ | ⟨g1, g2, g3, g4⟩ | ⟨g1, g2, g3, g4⟩ | ⟨g1, g2, g3, g4, g5⟩ | ⟨g1, g2, g3⟩
        · go_wp2
          go_round
          case rel => exact ⟨q - 1, r + v1, rfl, rfl, by omega, by omega, by omega, by omega, Lib.hid (hD.out.next g1)⟩
          case measure => simp [intOf]; omega
        · go_wp2
          go_round
          case rel => exact ⟨q - 1, r + v1, rfl, rfl, by omega, by omega, by omega, by omega, Lib.hid (hD.out.next g1)⟩
          case measure => simp [intOf]; omega
        rotate_right 1
        subst g1
        all_goals
          go_wp2
          go_ret2
          exact ⟨rfl, rfl⟩
end Go.Proofs.Ytneacogenjlhgaa
