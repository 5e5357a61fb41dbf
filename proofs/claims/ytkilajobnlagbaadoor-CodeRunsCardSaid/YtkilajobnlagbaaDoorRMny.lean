/-
  The document's Add 44, Sub 45, Mul 46 (and Wide 64): the same numbers as the program's.
-/
import Derived.Test.YtkilajobnlagbaaDoorMny
namespace Go.Proofs.YtkilajobnlagbaaDoor
open Go.RowKit
set_option linter.unusedVariables false

theorem wrap_id (x : Int) (h0 : 0 ≤ x) (h1 : x ≤ 18446744073709551615) : IntKind.u64.wrap x = x := by
  simp [IntKind.wrap, IntKind.signed, IntKind.bits]; omega
def Four (w0 w1 w2 w3 N : Int) : Prop := 0 ≤ w0 ∧ w0 < 4294967296 ∧ 0 ≤ w1 ∧ w1 < 4294967296 ∧ 0 ≤ w2 ∧ w2 < 4294967296 ∧ 0 ≤ w3 ∧ w3 < 4294967296 ∧ N = w0 + w1 * 4294967296 + w2 * 18446744073709551616 + w3 * 79228162514264337593543950336
set_option maxRecDepth 100000 in
set_option maxHeartbeats 4000000 in
theorem wide_core (a b x0 x1 y0 y1 p00 p01 p10 p11 o0 k0 t1 k1 o1 k2 o2 k3 : Int) (w : World) (ha : 0 ≤ a) (ha' : a ≤ 18446744073709551615) (hb : 0 ≤ b) (hb' : b ≤ 18446744073709551615)
    (e0 : a % 4294967296 = x0) (e1 : a / 4294967296 = x1) (f0 : b % 4294967296 = y0) (f1 : b / 4294967296 = y1)
    (g00 : IntKind.u64.wrap (x0 * y0) = p00) (g01 : IntKind.u64.wrap (x0 * y1) = p01) (g10 : IntKind.u64.wrap (x1 * y0) = p10) (g11 : IntKind.u64.wrap (x1 * y1) = p11)
    (b00 : 0 ≤ p00) (c00 : p00 ≤ 18446744065119617025) (b01 : 0 ≤ p01) (c01 : p01 ≤ 18446744065119617025) (b10 : 0 ≤ p10) (c10 : p10 ≤ 18446744065119617025) (b11 : 0 ≤ p11) (c11 : p11 ≤ 18446744065119617025)
    (r0 : p00 % 4294967296 = o0) (s0 : p00 / 4294967296 = k0) (k00 : 0 ≤ k0) (k01 : k0 ≤ 4294967294)
    (r1 : (p01 + k0) % 4294967296 = t1) (s1 : (p01 + k0) / 4294967296 = k1) (t10 : 0 ≤ t1) (t11 : t1 ≤ 4294967295) (k10 : 0 ≤ k1) (k11 : k1 ≤ 4294967295)
    (r2 : (t1 + p10) % 4294967296 = o1) (s2 : (t1 + p10) / 4294967296 = k2) (k20 : 0 ≤ k2) (k21 : k2 ≤ 4294967295)
    (r3 : (k1 + p11 + k2) % 4294967296 = o2) (s3 : (k1 + p11 + k2) / 4294967296 = k3) (k30 : 0 ≤ k3) (k31 : k3 ≤ 4294967295) :
    Calls Tryd.prog 64 #[.int .u64 a, .int .u64 b] w fun e w' => e = .returned (.agg #[.int .u64 o0, .int .u64 o1, .int .u64 o2, .int .u64 k3]) ∧ Below w.heap.size w w' := by
  have hset : ∀ (w : World) (n : Nat) (a : Addr) (v : Value), (w.drewN n).setCell a v = (w.setCell a v).drewN n := fun _ _ _ _ => rfl
  go_enter Tryd.func64, Tryd.ntmps64
  go_wp2
  refine wp_loop_rounds 3 ?_
  rw [rounds_succ]
  go_wp2
  refine wp_loop_rounds 3 ?_
  rw [rounds_succ]
  go_wp2
  go_quiet (fail)
  go_wp2
  rw [rounds_succ]
  go_wp2
  go_quiet (fail)
  go_wp2
  rw [rounds_succ]
  go_wp2_with fail
  rw [rounds_succ]
  go_wp2_with fail
  refine wp_loop_rounds 3 ?_
  rw [rounds_succ]
  go_wp2_with fail
  go_quiet (fail)
  go_wp2_with fail
  rw [rounds_succ]
  go_wp2_with fail
  go_quiet (fail)
  go_wp2_with fail
  rw [rounds_succ]
  go_wp2_with fail
  rw [rounds_succ]
  go_wp2_with fail
  exact bodyPost_ret (v := .agg #[.int .u64 o0, .int .u64 o1, .int .u64 o2, .int .u64 k3]) (by simp [results, Tryd.results64, go_sem]) rfl
    ⟨rfl, below_drewN (((((Below.refl _ _).alloc (Nat.le_refl _) _).alloc (by simp) _).alloc (by simp; omega) _).alloc (by simp; omega) _) _⟩

/-- What a call of Wide answers. -/
def WidePost (a b : Int) (w : World) (e : Ending) (w' : World) : Prop := ∃ o0 o1 o2 o3, e = .returned (.agg #[.int .u64 o0, .int .u64 o1, .int .u64 o2, .int .u64 o3]) ∧ Four o0 o1 o2 o3 (a * b) ∧ Below w.heap.size w w'

theorem part_bound (x y : Int) (hx : 0 ≤ x) (hx' : x ≤ 4294967295) (hy : 0 ≤ y) (hy' : y ≤ 4294967295) : IntKind.u64.wrap (x * y) = x * y ∧ 0 ≤ x * y ∧ x * y ≤ 18446744065119617025 := by
  have h0 : 0 ≤ x * y := Int.mul_nonneg hx hy
  have h1 : x * y ≤ 4294967295 * 4294967295 := Int.mul_le_mul hx' hy' hy (by omega)
  exact ⟨wrap_id _ h0 (by omega), h0, by omega⟩

theorem wide_any (a b : Int) (w : World) (ha : Word a) (hb : Word b) : Calls Tryd.prog 64 #[.int .u64 a, .int .u64 b] w (WidePost a b w) := by
  obtain ⟨a0, a1⟩ := ha
  obtain ⟨b0, b1⟩ := hb
  obtain ⟨x0, e0⟩ : ∃ x, a % 4294967296 = x := ⟨_, rfl⟩
  obtain ⟨x1, e1⟩ : ∃ x, a / 4294967296 = x := ⟨_, rfl⟩
  obtain ⟨y0, f0⟩ : ∃ x, b % 4294967296 = x := ⟨_, rfl⟩
  obtain ⟨y1, f1⟩ : ∃ x, b / 4294967296 = x := ⟨_, rfl⟩
  obtain ⟨g00, b00, c00⟩ := part_bound x0 y0 (by omega) (by omega) (by omega) (by omega)
  obtain ⟨g01, b01, c01⟩ := part_bound x0 y1 (by omega) (by omega) (by omega) (by omega)
  obtain ⟨g10, b10, c10⟩ := part_bound x1 y0 (by omega) (by omega) (by omega) (by omega)
  obtain ⟨g11, b11, c11⟩ := part_bound x1 y1 (by omega) (by omega) (by omega) (by omega)
  have ea : a = x1 * 4294967296 + x0 := by omega
  have eb : b = y1 * 4294967296 + y0 := by omega
  have eab : a * b = x0 * y0 + (x0 * y1 + x1 * y0) * 4294967296 + x1 * y1 * 18446744073709551616 := by rw [ea, eb]; grind
  obtain ⟨p00, h00⟩ : ∃ p, x0 * y0 = p := ⟨_, rfl⟩
  obtain ⟨p01, h01⟩ : ∃ p, x0 * y1 = p := ⟨_, rfl⟩
  obtain ⟨p10, h10⟩ : ∃ p, x1 * y0 = p := ⟨_, rfl⟩
  obtain ⟨p11, h11⟩ : ∃ p, x1 * y1 = p := ⟨_, rfl⟩
  rw [h00, h01, h10, h11] at eab
  rw [h00] at g00 b00 c00
  rw [h01] at g01 b01 c01
  rw [h10] at g10 b10 c10
  rw [h11] at g11 b11 c11
  obtain ⟨o0, r0⟩ : ∃ x, p00 % 4294967296 = x := ⟨_, rfl⟩
  obtain ⟨k0, s0⟩ : ∃ x, p00 / 4294967296 = x := ⟨_, rfl⟩
  obtain ⟨t1, r1⟩ : ∃ x, (p01 + k0) % 4294967296 = x := ⟨_, rfl⟩
  obtain ⟨k1, s1⟩ : ∃ x, (p01 + k0) / 4294967296 = x := ⟨_, rfl⟩
  obtain ⟨o1, r2⟩ : ∃ x, (t1 + p10) % 4294967296 = x := ⟨_, rfl⟩
  obtain ⟨k2, s2⟩ : ∃ x, (t1 + p10) / 4294967296 = x := ⟨_, rfl⟩
  obtain ⟨o2, r3⟩ : ∃ x, (k1 + p11 + k2) % 4294967296 = x := ⟨_, rfl⟩
  obtain ⟨k3, s3⟩ : ∃ x, (k1 + p11 + k2) / 4294967296 = x := ⟨_, rfl⟩
  refine (wide_core a b x0 x1 y0 y1 p00 p01 p10 p11 o0 k0 t1 k1 o1 k2 o2 k3 w a0 a1 b0 b1 e0 e1 f0 f1 (by rw [h00]; exact g00) (by rw [h01]; exact g01) (by rw [h10]; exact g10) (by rw [h11]; exact g11)
    b00 c00 b01 c01 b10 c10 b11 c11 r0 s0 (by omega) (by omega) r1 s1 (by omega) (by omega) (by omega) (by omega) r2 s2 (by omega) (by omega) r3 s3 (by omega) (by omega)).mono fun e w' ⟨he, hB⟩ => ?_
  exact ⟨o0, o1, o2, k3, he, ⟨by omega, by omega, by omega, by omega, by omega, by omega, by omega, by omega, by omega⟩, hB⟩
theorem radd_any (a b : Int) (w : World) (ha : Word a) (hb : Word b) :
    Calls Tryd.prog 44 #[.int .u64 a, .int .u64 b] w fun e w' => e = .returned (.tuple #[.int .u64 (addV a b), .int .i64 (addE a b)]) ∧ w = w' := by
  obtain ⟨a0, a1⟩ := ha
  obtain ⟨b0, b1⟩ := hb
  by_cases h : a + b < 18446744073709551616
  · rw [addV, addE, if_pos h, if_pos h]
    go_enter Tryd.func44, Tryd.ntmps44
    go_wp2
    go_ret2
    exact ⟨rfl, rfl⟩
  · rw [addV, addE, if_neg h, if_neg h]
    go_enter Tryd.func44, Tryd.ntmps44
    go_wp2
    go_ret2
    exact ⟨rfl, rfl⟩

theorem rsub_any (a b : Int) (w : World) (ha : Word a) (hb : Word b) :
    Calls Tryd.prog 45 #[.int .u64 a, .int .u64 b] w fun e w' => e = .returned (.tuple #[.int .u64 (subV a b), .int .i64 (subE a b)]) ∧ w = w' := by
  obtain ⟨a0, a1⟩ := ha
  obtain ⟨b0, b1⟩ := hb
  by_cases h : a < b
  · rw [subV, subE, if_pos h, if_pos h]
    go_enter Tryd.func45, Tryd.ntmps45
    go_wp2
    go_ret2
    exact ⟨rfl, rfl⟩
  · rw [subV, subE, if_neg h, if_neg h]
    go_enter Tryd.func45, Tryd.ntmps45
    go_wp2
    go_ret2
    exact ⟨rfl, rfl⟩

theorem four_small {o0 o1 o2 o3 N : Int} (h : Four o0 o1 o2 o3 N) :
    (N < 18446744073709551616 ∧ (o2 != 0) = false ∧ (o3 != 0) = false ∧ N = o1 * 4294967296 + o0) ∨ (18446744073709551616 ≤ N ∧ (o2 != 0) = true) ∨ (18446744073709551616 ≤ N ∧ (o2 != 0) = false ∧ (o3 != 0) = true) := by
  obtain ⟨a0, a1, b0, b1, c0, c1, d0, d1, hN⟩ := h
  by_cases h2 : o2 = 0
  · subst h2
    by_cases h3 : o3 = 0
    · subst h3
      exact .inl ⟨by omega, by rfl, by rfl, by omega⟩
    · exact .inr (.inr ⟨by omega, by rfl, by simpa using h3⟩)
  · exact .inr (.inl ⟨by omega, by simpa using h2⟩)

set_option maxHeartbeats 1000000 in
theorem rmul_any (a b : Int) (w : World) (ha : Word a) (hb : Word b) :
    Calls Tryd.prog 46 #[.int .u64 a, .int .u64 b] w fun e w' => e = .returned (.tuple #[.int .u64 (mulV a b), .int .i64 (mulE a b)]) ∧ Below w.heap.size w w' := by
  go_enter Tryd.func46, Tryd.ntmps46
  go_wp2_with fail
  refine (wide_any _ _ _ ha hb).mono ?_
  rintro e w' ⟨o0, o1, o2, o3, rfl, hF, hB⟩
  have hs := hB.size
  have HF := Lib.hid (four_small hF)
  obtain ⟨a0, a1, b0, b1, c0, c1, d0, d1, hN⟩ := hF
  clear hN
  rcases HF.out with ⟨g1, g2, g3, g4⟩ | ⟨g1, g2⟩ | ⟨g1, g2, g3⟩
  · have H1 : Hid (mulV a b = o1 * 4294967296 + o0 ∧ mulE a b = 0) := by
      refine ⟨?_, ?_⟩
      · rw [mulV, if_pos g1, g4]
      · rw [mulE, if_pos g1]
    clear g1 g4
    go_wp2
    go_ret2
    refine ⟨by rw [H1.out.1, H1.out.2]; rfl, hB.alloc hs _⟩
  · have H1 : Hid (mulV a b = 0 ∧ mulE a b = 11) := ⟨by rw [mulV, if_neg (by omega)], by rw [mulE, if_neg (by omega)]⟩
    clear g1
    go_wp2
    go_ret2
    refine ⟨by rw [H1.out.1, H1.out.2]; rfl, hB.alloc hs _⟩
  · have H1 : Hid (mulV a b = 0 ∧ mulE a b = 11) := ⟨by rw [mulV, if_neg (by omega)], by rw [mulE, if_neg (by omega)]⟩
    clear g1
    go_wp2
    go_ret2
    refine ⟨by rw [H1.out.1, H1.out.2]; rfl, hB.alloc hs _⟩

end Go.Proofs.YtkilajobnlagbaaDoor
