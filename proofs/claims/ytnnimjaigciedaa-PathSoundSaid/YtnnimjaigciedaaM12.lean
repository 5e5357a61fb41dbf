/-
  tollhouseref02.Wide (function 64): for every two numbers it returns their product in four parts of 32 bits.
  What a fee's calls answer (Of, Over), for every input, and the document's three examples (awake); memory that was there stays as it was.
  What the document's own calls of package money answer (Add, Sub, Mul, Part, Up, Of, Over of tollhouseref02), for every input: the same numbers as the program's; memory that was there stays as it was.
-/
import Derived.Test.YtnnimjaigciedaaRefDiv
import Derived.Test.YtnnimjaigciedaaM11
namespace Go.Proofs.Ytnnimjaigciedaa.Mon
open Go.RowKit
set_option linter.unusedVariables false

set_option maxRecDepth 100000 in
set_option maxHeartbeats 4000000 in
theorem wide_core (a b x0 x1 y0 y1 p00 p01 p10 p11 o0 k0 t1 k1 o1 k2 o2 k3 : Int) (w : World) (ha : 0 ≤ a) (ha' : a ≤ 18446744073709551615) (hb : 0 ≤ b) (hb' : b ≤ 18446744073709551615)
    (e0 : a % 4294967296 = x0) (e1 : a / 4294967296 = x1) (f0 : b % 4294967296 = y0) (f1 : b / 4294967296 = y1)
    (g00 : IntKind.u64.wrap (x0 * y0) = p00) (g01 : IntKind.u64.wrap (x0 * y1) = p01) (g10 : IntKind.u64.wrap (x1 * y0) = p10) (g11 : IntKind.u64.wrap (x1 * y1) = p11)
    (b00 : 0 ≤ p00) (c00 : p00 ≤ 18446744065119617025) (b01 : 0 ≤ p01) (c01 : p01 ≤ 18446744065119617025) (b10 : 0 ≤ p10) (c10 : p10 ≤ 18446744065119617025) (b11 : 0 ≤ p11) (c11 : p11 ≤ 18446744065119617025)
    (r0 : p00 % 4294967296 = o0) (s0 : p00 / 4294967296 = k0) (k00 : 0 ≤ k0) (k01 : k0 ≤ 4294967294)
    (r1 : (p01 + k0) % 4294967296 = t1) (s1 : (p01 + k0) / 4294967296 = k1) (t10 : 0 ≤ t1) (t11 : t1 ≤ 4294967295) (k10 : 0 ≤ k1) (k11 : k1 ≤ 4294967295)
    (r2 : (t1 + p10) % 4294967296 = o1) (s2 : (t1 + p10) / 4294967296 = k2) (k20 : 0 ≤ k2) (k21 : k2 ≤ 4294967295)
    (r3 : (k1 + p11 + k2) % 4294967296 = o2) (s3 : (k1 + p11 + k2) / 4294967296 = k3) (k30 : 0 ≤ k3) (k31 : k3 ≤ 4294967295) :
    Calls Try.prog 117 #[.int .u64 a, .int .u64 b] w fun e w' => e = .returned (.agg #[.int .u64 o0, .int .u64 o1, .int .u64 o2, .int .u64 k3]) ∧ Below w.heap.size w w' := by
  have hset : ∀ (w : World) (n : Nat) (a : Addr) (v : Value), (w.drewN n).setCell a v = (w.setCell a v).drewN n := fun _ _ _ _ => rfl
  go_enter Try.func117, Try.ntmps117
  go_wp2
  refine wp_loop_rounds 3 ?_
  rw [rounds_succ]
  go_wp2
  refine wp_loop_rounds 3 ?_
  rw [rounds_succ]
  go_wp2
  go_quiet (fail)
  go_wp2
  rw [rounds_succ]
  go_wp2
  go_quiet (fail)
  go_wp2
  rw [rounds_succ]
  go_wp2_with fail
  rw [rounds_succ]
  go_wp2_with fail
  refine wp_loop_rounds 3 ?_
  rw [rounds_succ]
  go_wp2_with fail
  go_quiet (fail)
  go_wp2_with fail
  rw [rounds_succ]
  go_wp2_with fail
  go_quiet (fail)
  go_wp2_with fail
  rw [rounds_succ]
  go_wp2_with fail
  rw [rounds_succ]
  go_wp2_with fail
  exact bodyPost_ret (v := .agg #[.int .u64 o0, .int .u64 o1, .int .u64 o2, .int .u64 k3]) (by simp [results, Try.results117, go_sem]) rfl
    ⟨rfl, below_drewN (((((Below.refl _ _).alloc (Nat.le_refl _) _).alloc (by simp) _).alloc (by simp; omega) _).alloc (by simp; omega) _) _⟩

/-- What a call of Wide answers. -/
def WidePost (a b : Int) (w : World) (e : Ending) (w' : World) : Prop := ∃ o0 o1 o2 o3, e = .returned (.agg #[.int .u64 o0, .int .u64 o1, .int .u64 o2, .int .u64 o3]) ∧ Four o0 o1 o2 o3 (a * b) ∧ Below w.heap.size w w'

theorem part_bound (x y : Int) (hx : 0 ≤ x) (hx' : x ≤ 4294967295) (hy : 0 ≤ y) (hy' : y ≤ 4294967295) : IntKind.u64.wrap (x * y) = x * y ∧ 0 ≤ x * y ∧ x * y ≤ 18446744065119617025 := by
  have h0 : 0 ≤ x * y := Int.mul_nonneg hx hy
  have h1 : x * y ≤ 4294967295 * 4294967295 := Int.mul_le_mul hx' hy' hy (by omega)
  exact ⟨wrap_id _ h0 (by omega), h0, by omega⟩

theorem wide_any (a b : Int) (w : World) (ha : Word a) (hb : Word b) : Calls Try.prog 117 #[.int .u64 a, .int .u64 b] w (WidePost a b w) := by
  obtain ⟨a0, a1⟩ := ha
  obtain ⟨b0, b1⟩ := hb
  obtain ⟨x0, e0⟩ : ∃ x, a % 4294967296 = x := ⟨_, rfl⟩
  obtain ⟨x1, e1⟩ : ∃ x, a / 4294967296 = x := ⟨_, rfl⟩
  obtain ⟨y0, f0⟩ : ∃ x, b % 4294967296 = x := ⟨_, rfl⟩
  obtain ⟨y1, f1⟩ : ∃ x, b / 4294967296 = x := ⟨_, rfl⟩
  obtain ⟨g00, b00, c00⟩ := part_bound x0 y0 (by omega) (by omega) (by omega) (by omega)
  obtain ⟨g01, b01, c01⟩ := part_bound x0 y1 (by omega) (by omega) (by omega) (by omega)
  obtain ⟨g10, b10, c10⟩ := part_bound x1 y0 (by omega) (by omega) (by omega) (by omega)
  obtain ⟨g11, b11, c11⟩ := part_bound x1 y1 (by omega) (by omega) (by omega) (by omega)
  have ea : a = x1 * 4294967296 + x0 := by omega
  have eb : b = y1 * 4294967296 + y0 := by omega
  have eab : a * b = x0 * y0 + (x0 * y1 + x1 * y0) * 4294967296 + x1 * y1 * 18446744073709551616 := by rw [ea, eb]; grind
  obtain ⟨p00, h00⟩ : ∃ p, x0 * y0 = p := ⟨_, rfl⟩
  obtain ⟨p01, h01⟩ : ∃ p, x0 * y1 = p := ⟨_, rfl⟩
  obtain ⟨p10, h10⟩ : ∃ p, x1 * y0 = p := ⟨_, rfl⟩
  obtain ⟨p11, h11⟩ : ∃ p, x1 * y1 = p := ⟨_, rfl⟩
  rw [h00, h01, h10, h11] at eab
  rw [h00] at g00 b00 c00
  rw [h01] at g01 b01 c01
  rw [h10] at g10 b10 c10
  rw [h11] at g11 b11 c11
  obtain ⟨o0, r0⟩ : ∃ x, p00 % 4294967296 = x := ⟨_, rfl⟩
  obtain ⟨k0, s0⟩ : ∃ x, p00 / 4294967296 = x := ⟨_, rfl⟩
  obtain ⟨t1, r1⟩ : ∃ x, (p01 + k0) % 4294967296 = x := ⟨_, rfl⟩
  obtain ⟨k1, s1⟩ : ∃ x, (p01 + k0) / 4294967296 = x := ⟨_, rfl⟩
  obtain ⟨o1, r2⟩ : ∃ x, (t1 + p10) % 4294967296 = x := ⟨_, rfl⟩
  obtain ⟨k2, s2⟩ : ∃ x, (t1 + p10) / 4294967296 = x := ⟨_, rfl⟩
  obtain ⟨o2, r3⟩ : ∃ x, (k1 + p11 + k2) % 4294967296 = x := ⟨_, rfl⟩
  obtain ⟨k3, s3⟩ : ∃ x, (k1 + p11 + k2) / 4294967296 = x := ⟨_, rfl⟩
  refine (wide_core a b x0 x1 y0 y1 p00 p01 p10 p11 o0 k0 t1 k1 o1 k2 o2 k3 w a0 a1 b0 b1 e0 e1 f0 f1 (by rw [h00]; exact g00) (by rw [h01]; exact g01) (by rw [h10]; exact g10) (by rw [h11]; exact g11)
    b00 c00 b01 c01 b10 c10 b11 c11 r0 s0 (by omega) (by omega) r1 s1 (by omega) (by omega) (by omega) (by omega) r2 s2 (by omega) (by omega) r3 s3 (by omega) (by omega)).mono fun e w' ⟨he, hB⟩ => ?_
  exact ⟨o0, o1, o2, k3, he, ⟨by omega, by omega, by omega, by omega, by omega, by omega, by omega, by omega, by omega⟩, hB⟩
end Go.Proofs.Ytnnimjaigciedaa.Mon
namespace Go.Proofs.Ytnnimjaigciedaa.Mon
open Go.RowKit

theorem word_lit (n : Int) (h : 0 ≤ n ∧ n ≤ 18446744073709551615) : Word n := h

set_option maxHeartbeats 1000000 in
theorem of_any (b r x : Int) (w : World) (hb : Word b) (hr : Word r) (hx : Word x) :
    Calls Try.prog 112 #[.agg #[.int .u64 b, .int .u64 r], .int .u64 x] w fun e w' => e = .returned (.tuple #[.int .u64 (ofV b r x), .int .i64 (ofE b r x)]) ∧ Below w.heap.size w w' := by
  have hs : Word 1000000 := by unfold Word; omega
  have hv := partV_word hx hr hs
  by_cases h0 : partE x r 1000000 = 0
  · have b0 : (partE x r 1000000 != 0) = false := by simp [h0]
    have H1 : Hid (ofV b r x = addV b (partV x r 1000000)) := by show _ = _; simp [ofV, h0]
    have H2 : Hid (ofE b r x = addE b (partV x r 1000000)) := by show _ = _; simp [ofE, h0]
    clear h0
    go_enter Try.func112, Try.ntmps112
    go_wp2_with (first | (go_at_call 115; refine (part_any _ _ _ _ hx hr hs).mono ?_; rintro e w' ⟨rfl, n, rfl⟩) | (go_at_call 53; refine (add_any _ _ _ hb hv).mono ?_; rintro e w' ⟨rfl, rfl⟩))
    go_ret2
    exact ⟨by rw [H1.out, H2.out]; rfl, below_drewN ((Below.refl _ _).alloc (Nat.le_refl _) _) _⟩
  · have b0 : (partE x r 1000000 != 0) = true := by simpa using h0
    have H1 : Hid (ofV b r x = 0) := by show _ = _; simp [ofV, h0]
    have H2 : Hid (ofE b r x = partE x r 1000000) := by show _ = _; simp [ofE, h0]
    clear h0
    go_enter Try.func112, Try.ntmps112
    go_wp2_with (go_at_call 115; refine (part_any _ _ _ _ hx hr hs).mono ?_; rintro e w' ⟨rfl, n, rfl⟩)
    go_ret2
    exact ⟨by rw [H1.out, H2.out]; rfl, below_drewN ((Below.refl _ _).alloc (Nat.le_refl _) _) _⟩

set_option maxHeartbeats 1000000 in
theorem over_any (b r x : Int) (w : World) (hb : Word b) (hr : Word r) (hx : Word x) :
    Calls Try.prog 105 #[.agg #[.int .u64 b, .int .u64 r], .int .u64 x] w fun e w' => e = .returned (.tuple #[.int .u64 (overV b r x), .int .i64 (overE b r x)]) ∧ Below w.heap.size w w' := by
  have hv := ofV_word hb hr hx
  by_cases h0 : ofE b r x = 0
  · have b0 : (ofE b r x != 0) = false := by simp [h0]
    have H1 : Hid (overV b r x = addV x (ofV b r x)) := by show _ = _; simp [overV, h0]
    have H2 : Hid (overE b r x = addE x (ofV b r x)) := by show _ = _; simp [overE, h0]
    clear h0
    go_enter Try.func105, Try.ntmps105
    go_wp2_with (first | (go_at_call 112; refine (of_any _ _ _ _ hb hr hx).mono ?_; rintro e w' ⟨rfl, hB⟩) | (go_at_call 53; refine (add_any _ _ _ hx hv).mono ?_; rintro e w' ⟨rfl, rfl⟩))
    go_ret2
    exact ⟨by rw [H1.out, H2.out]; rfl, ((Below.refl _ _).alloc (Nat.le_refl _) _).trans (hB.mono (by simp))⟩
  · have b0 : (ofE b r x != 0) = true := by simpa using h0
    have H1 : Hid (overV b r x = 0) := by show _ = _; simp [overV, h0]
    have H2 : Hid (overE b r x = ofE b r x) := by show _ = _; simp [overE, h0]
    clear h0
    go_enter Try.func105, Try.ntmps105
    go_wp2_with (go_at_call 112; refine (of_any _ _ _ _ hb hr hx).mono ?_; rintro e w' ⟨rfl, hB⟩)
    go_ret2
    exact ⟨by rw [H1.out, H2.out]; rfl, ((Below.refl _ _).alloc (Nat.le_refl _) _).trans (hB.mono (by simp))⟩

theorem ex_part : partV 7 1 2 = 3 := by decide
theorem ex_up : upV 7 1 2 = 4 := by decide
theorem ex_of : ofV 1 10000 500 = 6 := by decide

end Go.Proofs.Ytnnimjaigciedaa.Mon
namespace Go.Proofs.Ytnnimjaigciedaa.Mon
open Go.RowKit
set_option linter.unusedVariables false

theorem radd_any (a b : Int) (w : World) (ha : Word a) (hb : Word b) :
    Calls Try.prog 56 #[.int .u64 a, .int .u64 b] w fun e w' => e = .returned (.tuple #[.int .u64 (addV a b), .int .i64 (addE a b)]) ∧ w = w' := by
  obtain ⟨a0, a1⟩ := ha
  obtain ⟨b0, b1⟩ := hb
  by_cases h : a + b < 18446744073709551616
  · rw [addV, addE, if_pos h, if_pos h]
    go_enter Try.func56, Try.ntmps56
    go_wp2
    go_ret2
    exact ⟨rfl, rfl⟩
  · rw [addV, addE, if_neg h, if_neg h]
    go_enter Try.func56, Try.ntmps56
    go_wp2
    go_ret2
    exact ⟨rfl, rfl⟩

theorem four_small {o0 o1 o2 o3 N : Int} (h : Four o0 o1 o2 o3 N) :
    (N < 18446744073709551616 ∧ (o2 != 0) = false ∧ (o3 != 0) = false ∧ N = o1 * 4294967296 + o0) ∨ (18446744073709551616 ≤ N ∧ (o2 != 0) = true) ∨ (18446744073709551616 ≤ N ∧ (o2 != 0) = false ∧ (o3 != 0) = true) := by
  obtain ⟨a0, a1, b0, b1, c0, c1, d0, d1, hN⟩ := h
  by_cases h2 : o2 = 0
  · subst h2
    by_cases h3 : o3 = 0
    · subst h3
      exact .inl ⟨by omega, by rfl, by rfl, by omega⟩
    · exact .inr (.inr ⟨by omega, by rfl, by simpa using h3⟩)
  · exact .inr (.inl ⟨by omega, by simpa using h2⟩)

/-- What Divide answers at a product, in the program's own numbers. -/
theorem quo_cases (a m o : Int) (ha : Word a) (hm : Word m) (ho : 0 < o) :
    (decide (18446744073709551616 ≤ a * m / o) = false ∧ partE a m o = 0 ∧ a * m / o % 18446744073709551616 = partV a m o ∧ a * m % o = partR a m o) ∨
    (decide (18446744073709551616 ≤ a * m / o) = true ∧ partE a m o = 11 ∧ partV a m o = 0 ∧ partR a m o = 0) := by
  have h0 := (mul_le_word ha hm).1
  have h1 : 0 ≤ a * m / o := Int.ediv_nonneg h0 (Int.le_of_lt ho)
  have hz : o ≠ 0 := by omega
  by_cases h : a * m / o < 18446744073709551616
  · left
    have e : partE a m o = 0 := by rw [partE, if_neg hz, if_pos h]
    exact ⟨by simp; omega, e, by rw [partV, if_pos e]; omega, by rw [partR, if_pos e]⟩
  · right
    have e : partE a m o = 11 := by rw [partE, if_neg hz, if_neg h]
    exact ⟨by simp; omega, e, by rw [partV, if_neg (by omega)], by rw [partR, if_neg (by omega)]⟩

set_option maxHeartbeats 1000000 in
theorem rpart_any (a m o : Int) (w : World) (ha : Word a) (hm : Word m) (ho : Word o) :
    Calls Try.prog 113 #[.int .u64 a, .int .u64 m, .int .u64 o] w fun e w' => e = .returned (.tuple #[.int .u64 (partV a m o), .int .i64 (partE a m o)]) ∧ Below w.heap.size w w' := by
  by_cases h0 : o = 0
  · subst h0
    have e1 : partE a m 0 = 1 := by simp [partE]
    have e2 : partV a m 0 = 0 := by simp [partV, e1]
    rw [e1, e2]
    clear e1 e2
    go_enter Try.func113, Try.ntmps113
    go_wp2
    go_ret2
    exact ⟨rfl, Below.refl _ _⟩
  · have hz : (o == 0) = false := by simpa using h0
    obtain ⟨o0, o1⟩ := ho
    have hp : 0 < o := by omega
    clear h0
    have HC := Lib.hid (quo_cases a m o ha hm hp)
    go_enter Try.func113, Try.ntmps113
    go_wp2_with fail
    refine (wide_any _ _ _ ha hm).mono ?_
    rintro e w' ⟨p0, p1, p2, p3, rfl, hF, hB⟩
    have HF := Lib.hid hF
    clear hF
    go_wp2_with fail
    refine (rdivide_any _ _ _ _ (a * m) _ _ HF.out hp o1).mono ?_
    rintro e w'' ⟨rfl, hB'⟩
    have hB2 := hB.trans (hB'.mono hB.size)
    rcases HC.out with ⟨g1, g2, g3, g4⟩ | ⟨g1, g2, g3, g4⟩
    · have H := Lib.hid g2
      rw [g1, g3]
      clear g1 g2 g3 g4
      go_wp2
      go_ret2
      exact ⟨by rw [H.out]; rfl, hB2⟩
    · have H := Lib.hid (And.intro g2 g3)
      rw [g1]
      clear g1 g2 g3 g4
      go_wp2
      go_ret2
      exact ⟨by rw [H.out.1, H.out.2]; rfl, hB2⟩

end Go.Proofs.Ytnnimjaigciedaa.Mon
