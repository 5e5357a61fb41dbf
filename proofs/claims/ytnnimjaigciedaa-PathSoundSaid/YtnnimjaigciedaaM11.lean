/-
  math/bits.Div64 for every hi < y: the quotient and the rest, and memory as it was (an order may have been drawn).
  What package money's calls answer (Add, Sub, Mul, divide, Part, Up, Of, Over), for every input, with the document's numbers; memory that was there stays as it was.
-/
import Derived.Test.YtnnimjaigciedaaM10
import Derived.WalkSmall
namespace Go.Proofs.Ytnnimjaigciedaa.Mon
open Go.RowKit

def divQ (hi lo y : Int) : Int := (hi * 18446744073709551616 + lo) / y
def divR (hi lo y : Int) : Int := (hi * 18446744073709551616 + lo) % y

set_option maxHeartbeats 1000000 in
theorem div64_lo (lo y : Int) (w : World) (hl0 : 0 ≤ lo) (hl : lo ≤ 18446744073709551615) (hy0 : 0 < y) (hy : y ≤ 18446744073709551615) :
    Calls Try.prog 120 #[.int .u64 0, .int .u64 lo, .int .u64 y] w fun e w' => e = .returned (.tuple #[.int .u64 (lo / y), .int .u64 (lo % y)]) ∧ ∃ n, w' = w.drewN n := by
  have h1 : (y == 0) = false := by simp; omega
  go_enter Try.func120, Try.ntmps120
  go_wp2
  go_quiet (fail)
  go_wp2
  go_ret2
  exact ⟨rfl, _, rfl⟩

theorem wrap_id (x : Int) (h0 : 0 ≤ x) (h1 : x < 18446744073709551616) : IntKind.u64.wrap x = x := IntWalk.u64_in x ⟨h0, by omega⟩
theorem wrap_mod (x : Int) : IntKind.u64.wrap x = x % 18446744073709551616 := IntKind.wrap_u64 x

/-- A first guess of a digit. -/
theorem digit_first (U V v1 v0 d : Int) (hV : V = v1 * 4294967296 + v0) (h1 : 2147483648 ≤ v1) (h1' : v1 ≤ 4294967295) (h0 : 0 ≤ v0) (h0' : v0 < 4294967296) (hd : 0 ≤ d) (hd' : d < 4294967296) (hU : 0 ≤ U) (hUV : U < V) :
    IntKind.u64.wrap (U / v1 * v1) = U / v1 * v1 ∧ 0 ≤ U / v1 * v1 ∧ U / v1 * v1 ≤ U ∧ 0 ≤ U / v1 ∧ U / v1 ≤ 4294967297 ∧ 0 ≤ U - U / v1 * v1 ∧ U - U / v1 * v1 < 4294967296 ∧ Digit U V v1 v0 d ((U * 4294967296 + d) / V) (U / v1) (U - U / v1 * v1)
      ∧ 0 ≤ (U * 4294967296 + d) / V ∧ (U * 4294967296 + d) / V ≤ 4294967295 := by
  have hm := Int.mul_ediv_add_emod U v1
  rw [Int.mul_comm] at hm
  have hm0 := Int.emod_nonneg U (b := v1) (by omega)
  have hm1 := Int.emod_lt_of_pos U (b := v1) (by omega)
  have hq0 : 0 ≤ U / v1 := Int.ediv_nonneg hU (by omega)
  have hp0 : 0 ≤ U / v1 * v1 := Int.mul_nonneg hq0 (by omega)
  have hf := kn_first U V v1 v0 d hV h1 h0 h0' hd' hU hUV
  have hs := kn_small U V d hU hUV hd hd'
  have hp := kn_pos U V d hU hUV hd
  exact ⟨wrap_id _ hp0 (by omega), hp0, by omega, hq0, hf.2, by omega, by omega, ⟨hV, by omega, h0, h0', hd, rfl, hs, hp, by omega, hf.1⟩, hp, by omega⟩

/-- What is left, reckoned round. -/
theorem left_wrap (U V d : Int) (hp : 0 < V) (hV : V < 18446744073709551616) :
    IntKind.u64.wrap (IntKind.u64.wrap (IntKind.u64.wrap (U * 4294967296) + d) - IntKind.u64.wrap ((U * 4294967296 + d) / V * V)) = (U * 4294967296 + d) % V := by
  rw [← kn_left U V d hp hV]
  generalize (U * 4294967296 + d) / V * V = z
  rw [wrap_mod, wrap_mod, wrap_mod, wrap_mod]
  omega

set_option maxHeartbeats 1000000 in
theorem div64_hi (hi lo y : Int) (w : World) (hh0 : 0 < hi) (hh : hi < y) (hl0 : 0 ≤ lo) (hl : lo ≤ 18446744073709551615) (hy : y ≤ 18446744073709551615) :
    Calls Try.prog 120 #[.int .u64 hi, .int .u64 lo, .int .u64 y] w fun e w' => e = .returned (.tuple #[.int .u64 (divQ hi lo y), .int .u64 (divR hi lo y)]) ∧ w = w' := by
  obtain ⟨s, hs, hbl, hlow, hhigh⟩ := shift_of y (by omega) hy
  obtain ⟨eO, o0, o1, u0, u1⟩ := high_word hi lo y s hs (by omega) hh hhigh hl0 hl
  have hpp := pow_split s hs
  have hps := pow_pos s
  have hsh := kn_shift hi lo (2 ^ s) (2 ^ (64 - s)) hps hpp
  have hsc := kn_scale (hi * 18446744073709551616 + lo) y (2 ^ s) hps
  have L0 := Int.emod_nonneg (lo * 2 ^ s) (b := 18446744073709551616) (by omega)
  have L1 := Int.emod_lt_of_pos (lo * 2 ^ s) (b := 18446744073709551616) (by omega)
  obtain ⟨V, hV⟩ : ∃ V, V = y * 2 ^ s := ⟨_, rfl⟩
  obtain ⟨U, hU⟩ : ∃ U, U = hi * 2 ^ s + lo / 2 ^ (64 - s) := ⟨_, rfl⟩
  obtain ⟨L, hL⟩ : ∃ L, L = lo * 2 ^ s % 18446744073709551616 := ⟨_, rfl⟩
  rw [← hV] at hlow hhigh u1
  rw [← hU] at eO u0 u1 hsh
  rw [← hL] at L0 L1 hsh
  rw [← hV, ← hsh] at hsc
  have hVd : V = V / 4294967296 * 4294967296 + V % 4294967296 := by omega
  have hLd : L = L / 4294967296 * 4294967296 + L % 4294967296 := by omega
  have d1 := digit_first U V (V / 4294967296) (V % 4294967296) (L / 4294967296) hVd (by omega) (by omega) (by omega) (by omega) (by omega) (by omega) u0 u1
  have r0 := Int.emod_nonneg (U * 4294967296 + L / 4294967296) (b := V) (by omega)
  have r1 := Int.emod_lt_of_pos (U * 4294967296 + L / 4294967296) (b := V) (by omega)
  have d2 := digit_first ((U * 4294967296 + L / 4294967296) % V) V (V / 4294967296) (V % 4294967296) (L % 4294967296) hVd (by omega) (by omega) (by omega) (by omega) (by omega) (by omega) r0 r1
  have l1 := left_wrap U V (L / 4294967296) (by omega) hhigh
  have l2 := left_wrap ((U * 4294967296 + L / 4294967296) % V) V (L % 4294967296) (by omega) hhigh
  have t := kn_two U V (L / 4294967296) (L % 4294967296) (by omega)
  have s0 := Int.emod_nonneg ((U * 4294967296 + L / 4294967296) % V * 4294967296 + L % 4294967296) (b := V) (by omega)
  have s1 := Int.emod_lt_of_pos ((U * 4294967296 + L / 4294967296) % V * 4294967296 + L % 4294967296) (b := V) (by omega)
  have e1 : divQ hi lo y = (U * 4294967296 + L / 4294967296) / V * 4294967296 + ((U * 4294967296 + L / 4294967296) % V * 4294967296 + L % 4294967296) / V := by
    unfold divQ
    rw [t.1, ← hsc.1]
    congr 1
    omega
  have e2 : divR hi lo y = ((U * 4294967296 + L / 4294967296) % V * 4294967296 + L % 4294967296) % V / 2 ^ s := by
    unfold divR
    rw [t.2, ← hsc.2]
    congr 2
    omega
  rw [e1, e2]
  obtain ⟨p1, p2, p3, p4, p5, p6, p7, p8, p9, p10⟩ := d1
  obtain ⟨q1, q2, q3, q4, q5, q6, q7, q8, q9, q10⟩ := d2
  have eV : IntKind.u64.wrap (y * 2 ^ s) = V := by rw [← hV]; exact wrap_id V (by omega) hhigh
  have eU : bits BinOp.or IntKind.u64 (IntKind.u64.wrap (hi * 2 ^ s)) (lo / 2 ^ (64 - s)) = U := by rw [wrap_id _ o0 o1]; exact eO
  have eL : IntKind.u64.wrap (lo * 2 ^ s) = L := by rw [hL]; exact wrap_mod _
  exact div64_core hi lo y V (V / 4294967296) (V % 4294967296) U L (L / 4294967296) (L % 4294967296) _ _ _ _ _ _ _ _ _ _ _ _ _ _ _ _ s w hh0 hh hl0 hl hy hs (Lib.hid hbl)
    eV rfl (mask32 V (by omega) hhigh) eU eL rfl (mask32 L L0 L1) (by omega) (by omega) (by omega) (by omega) u0 (by omega) (by omega) (by omega) (by omega) (by omega)
    rfl p1 p2 p3 rfl p4 p5 p6 p7 (Lib.hid p8) p9 p10 q9 q10 rfl rfl rfl l1 r0 (by omega) rfl q1 q2 q3 rfl q4 q5 q6 q7 (Lib.hid q8) rfl rfl rfl l2 s0 (by omega)

/-- math/bits.Div64, wherever it doesn't panic. -/
theorem div64_any (hi lo y : Int) (w : World) (hh0 : 0 ≤ hi) (hh : hi < y) (hl0 : 0 ≤ lo) (hl : lo ≤ 18446744073709551615) (hy : y ≤ 18446744073709551615) :
    Calls Try.prog 120 #[.int .u64 hi, .int .u64 lo, .int .u64 y] w fun e w' => e = .returned (.tuple #[.int .u64 (divQ hi lo y), .int .u64 (divR hi lo y)]) ∧ ∃ n, w' = w.drewN n := by
  by_cases h : hi = 0
  · subst h
    have e1 : divQ 0 lo y = lo / y := by unfold divQ; congr 1; omega
    have e2 : divR 0 lo y = lo % y := by unfold divR; congr 1; omega
    rw [e1, e2]
    exact div64_lo lo y w hl0 hl hh hy
  · exact (div64_hi hi lo y w (by omega) hh hl0 hl hy).mono fun _ _ ⟨he, hw⟩ => ⟨he, 0, hw.symm⟩

end Go.Proofs.Ytnnimjaigciedaa.Mon
namespace Go.Proofs.Ytnnimjaigciedaa.Mon
open Go.RowKit

/-- A number of 64 bits. -/
def Word (x : Int) : Prop := 0 ≤ x ∧ x ≤ 18446744073709551615

def mulH (a b : Int) : Int := a * b / 18446744073709551616
def mulL (a b : Int) : Int := a * b % 18446744073709551616
def addE (a b : Int) : Int := if a + b < 18446744073709551616 then 0 else 11
def addV (a b : Int) : Int := if a + b < 18446744073709551616 then a + b else 0
def subE (a b : Int) : Int := if a < b then 12 else 0
def subV (a b : Int) : Int := if a < b then 0 else a - b
def mulE (a b : Int) : Int := if a * b < 18446744073709551616 then 0 else 11
def mulV (a b : Int) : Int := if a * b < 18446744073709551616 then a * b else 0
def partE (a m o : Int) : Int := if o = 0 then 1 else if a * m / o < 18446744073709551616 then 0 else 11
def partV (a m o : Int) : Int := if partE a m o = 0 then a * m / o else 0
def partR (a m o : Int) : Int := if partE a m o = 0 then a * m % o else 0
def upE (a m o : Int) : Int := if partE a m o ≠ 0 then partE a m o else if partR a m o = 0 then 0 else addE (partV a m o) 1
def upV (a m o : Int) : Int := if partE a m o ≠ 0 then 0 else if partR a m o = 0 then partV a m o else addV (partV a m o) 1
def ofE (b r x : Int) : Int := if partE x r 1000000 ≠ 0 then partE x r 1000000 else addE b (partV x r 1000000)
def ofV (b r x : Int) : Int := if partE x r 1000000 ≠ 0 then 0 else addV b (partV x r 1000000)
def overE (b r x : Int) : Int := if ofE b r x ≠ 0 then ofE b r x else addE x (ofV b r x)
def overV (b r x : Int) : Int := if ofE b r x ≠ 0 then 0 else addV x (ofV b r x)

theorem mul_le_word {a b : Int} (ha : Word a) (hb : Word b) : 0 ≤ a * b ∧ a * b ≤ 18446744073709551615 * 18446744073709551615 :=
  ⟨Int.mul_nonneg ha.1 hb.1, Int.mul_le_mul ha.2 hb.2 hb.1 (by omega)⟩

theorem mulH_word {a b : Int} (ha : Word a) (hb : Word b) : Word (mulH a b) := by
  have := mul_le_word ha hb
  unfold mulH Word
  omega

theorem mulL_word (a b : Int) : Word (mulL a b) := by
  unfold mulL Word
  omega

theorem addV_word {a b : Int} (ha : Word a) (hb : Word b) : Word (addV a b) := by
  unfold addV Word at *
  split <;> omega

theorem partE_cases (a m o : Int) : partE a m o = 1 ∨ partE a m o = 0 ∨ partE a m o = 11 := by
  unfold partE
  split
  · exact .inl rfl
  · split
    · exact .inr (.inl rfl)
    · exact .inr (.inr rfl)

theorem addE_cases (a b : Int) : addE a b = 0 ∨ addE a b = 11 := by
  unfold addE
  split
  · exact .inl rfl
  · exact .inr rfl

theorem partV_word {a m o : Int} (ha : Word a) (hm : Word m) (ho : Word o) : Word (partV a m o) := by
  have h0 := (mul_le_word ha hm).1
  unfold partV
  split
  · rename_i h
    unfold partE at h
    have hd : 0 ≤ a * m / o := Int.ediv_nonneg h0 ho.1
    unfold Word
    split at h
    · omega
    · split at h <;> omega
  · unfold Word; omega

theorem partR_word {a m o : Int} (_ha : Word a) (_hm : Word m) (ho : Word o) : Word (partR a m o) := by
  unfold partR
  split
  · rename_i h
    unfold partE at h
    unfold Word at *
    split at h
    · omega
    · rename_i hne
      have h1 := Int.emod_nonneg (a * m) hne
      have h2 := Int.emod_lt_of_pos (a * m) (b := o) (by omega)
      omega
  · unfold Word; omega

theorem ofV_word {b r x : Int} (hb : Word b) (hr : Word r) (hx : Word x) : Word (ofV b r x) := by
  unfold ofV
  split
  · unfold Word; omega
  · exact addV_word hb (partV_word hx hr (by unfold Word; omega))

theorem overV_word {b r x : Int} (hb : Word b) (hr : Word r) (hx : Word x) : Word (overV b r x) := by
  unfold overV
  split
  · unfold Word; omega
  · exact addV_word hx (ofV_word hb hr hx)

theorem mul64_any (a b : Int) (w : World) (ha : Word a) (hb : Word b) :
    Calls Try.prog 119 #[.int .u64 a, .int .u64 b] w fun e w' => e = .returned (.tuple #[.int .u64 (mulH a b), .int .u64 (mulL a b)]) ∧ w = w' := by
  obtain ⟨x, rfl⟩ := Int.eq_ofNat_of_zero_le ha.1
  obtain ⟨y, rfl⟩ := Int.eq_ofNat_of_zero_le hb.1
  refine (Try.bits_Mul64 x y (by have := ha.2; omega) (by have := hb.2; omega) w).mono fun _ _ ⟨he, hw⟩ => ⟨?_, hw.symm⟩
  rw [he]
  unfold mulH mulL
  rw [Int.natCast_ediv, Int.natCast_emod, Int.natCast_mul]
  rfl

theorem add_any (a b : Int) (w : World) (ha : Word a) (hb : Word b) :
    Calls Try.prog 53 #[.int .u64 a, .int .u64 b] w fun e w' => e = .returned (.tuple #[.int .u64 (addV a b), .int .i64 (addE a b)]) ∧ w = w' := by
  obtain ⟨a0, a1⟩ := ha
  obtain ⟨b0, b1⟩ := hb
  by_cases h : a + b < 18446744073709551616
  · rw [addV, addE, if_pos h, if_pos h]
    have e1 : (a + b) / 18446744073709551616 = 0 := by omega
    have e2 : (a + b) % 18446744073709551616 = a + b := by omega
    go_enter Try.func53, Try.ntmps53
    go_wp2_with (simp only [Try.add64 a b a0 b0, e1, e2])
    go_ret2
    exact ⟨rfl, rfl⟩
  · rw [addV, addE, if_neg h, if_neg h]
    have e1 : (a + b) / 18446744073709551616 = 1 := by omega
    obtain ⟨z, e2⟩ : ∃ z, (a + b) % 18446744073709551616 = z := ⟨_, rfl⟩
    go_enter Try.func53, Try.ntmps53
    go_wp2_with (simp only [Try.add64 a b a0 b0, e1, e2])
    go_ret2
    exact ⟨rfl, rfl⟩

theorem sub_any (a b : Int) (w : World) (ha : Word a) (hb : Word b) :
    Calls Try.prog 52 #[.int .u64 a, .int .u64 b] w fun e w' => e = .returned (.tuple #[.int .u64 (subV a b), .int .i64 (subE a b)]) ∧ w = w' := by
  obtain ⟨a0, a1⟩ := ha
  obtain ⟨b0, b1⟩ := hb
  by_cases h : a < b
  · rw [subV, subE, if_pos h, if_pos h]
    go_enter Try.func52, Try.ntmps52
    go_wp2
    go_ret2
    exact ⟨rfl, rfl⟩
  · rw [subV, subE, if_neg h, if_neg h]
    go_enter Try.func52, Try.ntmps52
    go_wp2
    go_ret2
    exact ⟨rfl, rfl⟩

theorem mulH_zero (a b : Int) (ha : Word a) (hb : Word b) : mulH a b = 0 ↔ a * b < 18446744073709551616 := by
  have := (mul_le_word ha hb).1
  unfold mulH
  omega

theorem mulL_low (a b : Int) (ha : Word a) (hb : Word b) (h : a * b < 18446744073709551616) : mulL a b = a * b := by
  have := (mul_le_word ha hb).1
  unfold mulL
  omega

theorem mulH_of (a m o : Int) (ha : Word a) (hm : Word m) (ho : 0 < o) : mulH a m < o ↔ a * m / o < 18446744073709551616 := by
  have := (mul_le_word ha hm).1
  unfold mulH
  rw [Int.ediv_lt_iff_lt_mul (by omega), Int.ediv_lt_iff_lt_mul ho, Int.mul_comm o]

theorem divQ_of (a m o : Int) : divQ (mulH a m) (mulL a m) o = a * m / o := by
  unfold divQ mulH mulL
  congr 1
  omega

theorem divR_of (a m o : Int) : divR (mulH a m) (mulL a m) o = a * m % o := by
  unfold divR mulH mulL
  congr 1
  omega

set_option maxHeartbeats 1000000 in
theorem divide_any (a m o : Int) (w : World) (ha : Word a) (hm : Word m) (ho : Word o) :
    Calls Try.prog 118 #[.int .u64 a, .int .u64 m, .int .u64 o] w fun e w' => e = .returned (.tuple #[.int .u64 (partV a m o), .int .u64 (partR a m o), .int .i64 (partE a m o)]) ∧ ∃ n, w' = w.drewN n := by
  by_cases h0 : o = 0
  · subst h0
    have e1 : partE a m 0 = 1 := by simp [partE]
    have e2 : partV a m 0 = 0 := by simp [partV, e1]
    have e3 : partR a m 0 = 0 := by simp [partR, e1]
    rw [e1, e2, e3]
    clear e1 e2 e3
    go_enter Try.func118, Try.ntmps118
    go_wp2
    go_ret3
    exact ⟨rfl, 0, rfl⟩
  · have hz : (o == 0) = false := by simpa using h0
    have hmH := mulH_word ha hm
    have hmL := mulL_word a m
    obtain ⟨o0, o1⟩ := ho
    obtain ⟨x0, x1⟩ := hmH
    obtain ⟨y0, y1⟩ := hmL
    by_cases h1 : mulH a m < o
    · have h2 := (mulH_of a m o ha hm (by omega)).1 h1
      have e1 : partE a m o = 0 := by simp [partE, h0, h2]
      have e2 : partV a m o = divQ (mulH a m) (mulL a m) o := by simp [partV, e1, divQ_of]
      have e3 : partR a m o = divR (mulH a m) (mulL a m) o := by simp [partR, e1, divR_of]
      rw [e1, e2, e3]
      clear e1 e2 e3 h2 h0
      go_enter Try.func118, Try.ntmps118
      go_wp2_with (first | (go_at_call 119; refine (mul64_any a m _ ha hm).mono ?_; rintro e w' ⟨rfl, rfl⟩) | (go_at_call 120; refine (div64_any _ _ _ _ (by omega) (by omega) (by omega) (by omega) (by omega)).mono ?_; rintro e w' ⟨rfl, n, rfl⟩))
      go_ret3
      exact ⟨rfl, _, rfl⟩
    · have h2 := mt (mulH_of a m o ha hm (by omega)).2 h1
      have e1 : partE a m o = 11 := by simp [partE, h0, h2]
      have e2 : partV a m o = 0 := by simp [partV, e1]
      have e3 : partR a m o = 0 := by simp [partR, e1]
      rw [e1, e2, e3]
      clear e1 e2 e3 h2 h0
      go_enter Try.func118, Try.ntmps118
      go_wp2_with (go_at_call 119; refine (mul64_any a m _ ha hm).mono ?_; rintro e w' ⟨rfl, rfl⟩)
      go_ret3
      exact ⟨rfl, 0, rfl⟩

theorem part_any (a m o : Int) (w : World) (ha : Word a) (hm : Word m) (ho : Word o) :
    Calls Try.prog 115 #[.int .u64 a, .int .u64 m, .int .u64 o] w fun e w' => e = .returned (.tuple #[.int .u64 (partV a m o), .int .i64 (partE a m o)]) ∧ ∃ n, w' = w.drewN n := by
  go_enter Try.func115, Try.ntmps115
  go_wp2_with (go_at_call 118; refine (divide_any _ _ _ _ ha hm ho).mono ?_; rintro e w' ⟨rfl, n, rfl⟩)
  go_ret2
  exact ⟨rfl, _, rfl⟩

end Go.Proofs.Ytnnimjaigciedaa.Mon
