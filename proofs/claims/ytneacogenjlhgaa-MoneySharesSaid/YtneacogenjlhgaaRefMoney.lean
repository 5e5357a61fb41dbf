/-
  What the document's own calls of package money answer (Add, Sub, Mul, Part, Up, Of, Over of tollhouseref02), for every input: the same numbers as the program's; memory that was there stays as it was.
-/
import Derived.Test.YtneacogenjlhgaaRefWide
import Derived.Test.YtneacogenjlhgaaFee
namespace Go.Proofs.Ytneacogenjlhgaa
open Go.RowKit
set_option linter.unusedVariables false

theorem radd_any (a b : Int) (w : World) (ha : Word a) (hb : Word b) :
    Calls Try.prog 34 #[.int .u64 a, .int .u64 b] w fun e w' => e = .returned (.tuple #[.int .u64 (addV a b), .int .i64 (addE a b)]) ∧ w = w' := by
  obtain ⟨a0, a1⟩ := ha
  obtain ⟨b0, b1⟩ := hb
  by_cases h : a + b < 18446744073709551616
  · rw [addV, addE, if_pos h, if_pos h]
    go_enter Try.func34, Try.ntmps34
    go_wp2
    go_ret2
    exact ⟨rfl, rfl⟩
  · rw [addV, addE, if_neg h, if_neg h]
    go_enter Try.func34, Try.ntmps34
    go_wp2
    go_ret2
    exact ⟨rfl, rfl⟩

theorem rsub_any (a b : Int) (w : World) (ha : Word a) (hb : Word b) :
    Calls Try.prog 36 #[.int .u64 a, .int .u64 b] w fun e w' => e = .returned (.tuple #[.int .u64 (subV a b), .int .i64 (subE a b)]) ∧ w = w' := by
  obtain ⟨a0, a1⟩ := ha
  obtain ⟨b0, b1⟩ := hb
  by_cases h : a < b
  · rw [subV, subE, if_pos h, if_pos h]
    go_enter Try.func36, Try.ntmps36
    go_wp2
    go_ret2
    exact ⟨rfl, rfl⟩
  · rw [subV, subE, if_neg h, if_neg h]
    go_enter Try.func36, Try.ntmps36
    go_wp2
    go_ret2
    exact ⟨rfl, rfl⟩

theorem four_small {o0 o1 o2 o3 N : Int} (h : Four o0 o1 o2 o3 N) :
    (N < 18446744073709551616 ∧ (o2 != 0) = false ∧ (o3 != 0) = false ∧ N = o1 * 4294967296 + o0) ∨ (18446744073709551616 ≤ N ∧ (o2 != 0) = true) ∨ (18446744073709551616 ≤ N ∧ (o2 != 0) = false ∧ (o3 != 0) = true) := by
  obtain ⟨a0, a1, b0, b1, c0, c1, d0, d1, hN⟩ := h
  by_cases h2 : o2 = 0
  · subst h2
    by_cases h3 : o3 = 0
    · subst h3
      exact .inl ⟨by omega, by rfl, by rfl, by omega⟩
    · exact .inr (.inr ⟨by omega, by rfl, by simpa using h3⟩)
  · exact .inr (.inl ⟨by omega, by simpa using h2⟩)

set_option maxHeartbeats 1000000 in
theorem rmul_any (a b : Int) (w : World) (ha : Word a) (hb : Word b) :
    Calls Try.prog 38 #[.int .u64 a, .int .u64 b] w fun e w' => e = .returned (.tuple #[.int .u64 (mulV a b), .int .i64 (mulE a b)]) ∧ Below w.heap.size w w' := by
  go_enter Try.func38, Try.ntmps38
  go_wp2_with fail
  refine (wide_any _ _ _ ha hb).mono ?_
  rintro e w' ⟨o0, o1, o2, o3, rfl, hF, hB⟩
  have hs := hB.size
  have HF := Lib.hid (four_small hF)
  obtain ⟨a0, a1, b0, b1, c0, c1, d0, d1, hN⟩ := hF
  clear hN
  rcases HF.out with ⟨g1, g2, g3, g4⟩ | ⟨g1, g2⟩ | ⟨g1, g2, g3⟩
  · have H1 : Hid (mulV a b = o1 * 4294967296 + o0 ∧ mulE a b = 0) := by
      refine ⟨?_, ?_⟩
      · rw [mulV, if_pos g1, g4]
      · rw [mulE, if_pos g1]
    clear g1 g4
    go_wp2
    go_ret2
    refine ⟨by rw [H1.out.1, H1.out.2]; rfl, hB.alloc hs _⟩
  · have H1 : Hid (mulV a b = 0 ∧ mulE a b = 11) := ⟨by rw [mulV, if_neg (by omega)], by rw [mulE, if_neg (by omega)]⟩
    clear g1
    go_wp2
    go_ret2
    refine ⟨by rw [H1.out.1, H1.out.2]; rfl, hB.alloc hs _⟩
  · have H1 : Hid (mulV a b = 0 ∧ mulE a b = 11) := ⟨by rw [mulV, if_neg (by omega)], by rw [mulE, if_neg (by omega)]⟩
    clear g1
    go_wp2
    go_ret2
    refine ⟨by rw [H1.out.1, H1.out.2]; rfl, hB.alloc hs _⟩

/-- What Divide answers at a product, in the program's own numbers. -/
theorem quo_cases (a m o : Int) (ha : Word a) (hm : Word m) (ho : 0 < o) :
    (decide (18446744073709551616 ≤ a * m / o) = false ∧ partE a m o = 0 ∧ a * m / o % 18446744073709551616 = partV a m o ∧ a * m % o = partR a m o) ∨
    (decide (18446744073709551616 ≤ a * m / o) = true ∧ partE a m o = 11 ∧ partV a m o = 0 ∧ partR a m o = 0) := by
  have h0 := (mul_le_word ha hm).1
  have h1 : 0 ≤ a * m / o := Int.ediv_nonneg h0 (Int.le_of_lt ho)
  have hz : o ≠ 0 := by omega
  by_cases h : a * m / o < 18446744073709551616
  · left
    have e : partE a m o = 0 := by rw [partE, if_neg hz, if_pos h]
    exact ⟨by simp; omega, e, by rw [partV, if_pos e]; omega, by rw [partR, if_pos e]⟩
  · right
    have e : partE a m o = 11 := by rw [partE, if_neg hz, if_neg h]
    exact ⟨by simp; omega, e, by rw [partV, if_neg (by omega)], by rw [partR, if_neg (by omega)]⟩

set_option maxHeartbeats 1000000 in
theorem rpart_any (a m o : Int) (w : World) (ha : Word a) (hm : Word m) (ho : Word o) :
    Calls Try.prog 44 #[.int .u64 a, .int .u64 m, .int .u64 o] w fun e w' => e = .returned (.tuple #[.int .u64 (partV a m o), .int .i64 (partE a m o)]) ∧ Below w.heap.size w w' := by
  by_cases h0 : o = 0
  · subst h0
    have e1 : partE a m 0 = 1 := by simp [partE]
    have e2 : partV a m 0 = 0 := by simp [partV, e1]
    rw [e1, e2]
    clear e1 e2
    go_enter Try.func44, Try.ntmps44
    go_wp2
    go_ret2
    exact ⟨rfl, Below.refl _ _⟩
  · have hz : (o == 0) = false := by simpa using h0
    obtain ⟨o0, o1⟩ := ho
    have hp : 0 < o := by omega
    clear h0
    have HC := Lib.hid (quo_cases a m o ha hm hp)
    go_enter Try.func44, Try.ntmps44
    go_wp2_with fail
    refine (wide_any _ _ _ ha hm).mono ?_
    rintro e w' ⟨p0, p1, p2, p3, rfl, hF, hB⟩
    have HF := Lib.hid hF
    clear hF
    go_wp2_with fail
    refine (rdivide_any _ _ _ _ (a * m) _ _ HF.out hp o1).mono ?_
    rintro e w'' ⟨rfl, hB'⟩
    have hB2 := hB.trans (hB'.mono hB.size)
    rcases HC.out with ⟨g1, g2, g3, g4⟩ | ⟨g1, g2, g3, g4⟩
    · have H := Lib.hid g2
      rw [g1, g3]
      clear g1 g2 g3 g4
      go_wp2
      go_ret2
      exact ⟨by rw [H.out]; rfl, hB2⟩
    · have H := Lib.hid (And.intro g2 g3)
      rw [g1]
      clear g1 g2 g3 g4
      go_wp2
      go_ret2
      exact ⟨by rw [H.out.1, H.out.2]; rfl, hB2⟩

set_option maxHeartbeats 1000000 in
theorem rup_any (a m o : Int) (w : World) (ha : Word a) (hm : Word m) (ho : Word o) :
    Calls Try.prog 46 #[.int .u64 a, .int .u64 m, .int .u64 o] w fun e w' => e = .returned (.tuple #[.int .u64 (upV a m o), .int .i64 (upE a m o)]) ∧ Below w.heap.size w w' := by
  have hv := partV_word ha hm ho
  have hr := partR_word ha hm ho
  by_cases h0 : o = 0
  · subst h0
    have e1 : partE a m 0 = 1 := by simp [partE]
    have e2 : upV a m 0 = 0 := by simp [upV, e1]
    have e3 : upE a m 0 = 1 := by simp [upE, e1]
    rw [e2, e3]
    clear e1 e2 e3
    go_enter Try.func46, Try.ntmps46
    go_wp2
    go_ret2
    exact ⟨rfl, Below.refl _ _⟩
  · have hz : (o == 0) = false := by simpa using h0
    obtain ⟨o0, o1⟩ := ho
    have hp : 0 < o := by omega
    clear h0
    have HC := Lib.hid (quo_cases a m o ha hm hp)
    go_enter Try.func46, Try.ntmps46
    go_wp2_with fail
    refine (wide_any _ _ _ ha hm).mono ?_
    rintro e w' ⟨p0, p1, p2, p3, rfl, hF, hB⟩
    have HF := Lib.hid hF
    clear hF
    go_wp2_with fail
    refine (rdivide_any _ _ _ _ (a * m) _ _ HF.out hp o1).mono ?_
    rintro e w'' ⟨rfl, hB'⟩
    have hB2 := hB.trans (hB'.mono hB.size)
    obtain ⟨v0, v1⟩ := hv
    obtain ⟨r0, r1⟩ := hr
    rcases HC.out with ⟨g1, g2, g3, g4⟩ | ⟨g1, g2, g3, g4⟩
    · rw [g1, g3, g4]
      by_cases k1 : partR a m o = 0
      · have H : Hid (upV a m o = partV a m o ∧ upE a m o = 0) := ⟨by simp [upV, g2, k1], by simp [upE, g2, k1]⟩
        rw [k1]
        clear g1 g2 g3 g4 k1
        go_wp2
        go_ret2
        exact ⟨by rw [H.out.1, H.out.2]; rfl, hB2⟩
      · have k2 : 0 < partR a m o := by omega
        by_cases k3 : partV a m o = 18446744073709551615
        · have H : Hid (upV a m o = 0 ∧ upE a m o = 11) := ⟨by simp [upV, g2, k1, addV, k3], by simp [upE, g2, k1, addE, k3]⟩
          have k4 : (partV a m o == 18446744073709551615) = true := by simp [k3]
          clear g1 g2 g3 g4 k1 k3
          go_wp2
          go_ret2
          exact ⟨by rw [H.out.1, H.out.2]; rfl, hB2⟩
        · have H : Hid (upV a m o = partV a m o + 1 ∧ upE a m o = 0) := by
            refine ⟨?_, ?_⟩
            · simp only [upV, g2, addV, k1]; simp; omega
            · simp only [upE, g2, addE, k1]; simp; omega
          have k4 : (partV a m o == 18446744073709551615) = false := by simpa using k3
          have k5 : partV a m o ≤ 18446744073709551614 := by omega
          clear g1 g2 g3 g4 k1 k3
          go_wp2
          go_ret2
          exact ⟨by rw [H.out.1, H.out.2]; rfl, hB2⟩
    · have H : Hid (upV a m o = 0 ∧ upE a m o = 11) := ⟨by simp [upV, g2], by simp [upE, g2]⟩
      rw [g1]
      clear g1 g2 g3 g4
      go_wp2
      go_ret2
      exact ⟨by rw [H.out.1, H.out.2]; rfl, hB2⟩

theorem is_any (a e : Int) (w : World) : Calls Try.prog 42 #[.int .u64 a, .int .i64 e, .int .u64 a, .int .i64 e] w fun r w' => r = .returned (.bool true) ∧ w = w' := by
  have h1 : (a == a) = true := by simp
  have h2 : (e == e) = true := by simp
  go_enter Try.func42, Try.ntmps42
  go_wp2
  go_ret
  exact ⟨rfl, rfl⟩
end Go.Proofs.Ytneacogenjlhgaa
