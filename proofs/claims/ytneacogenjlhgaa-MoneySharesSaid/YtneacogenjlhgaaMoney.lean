/-
  What package money's calls answer (Add, Sub, Mul, divide, Part, Up, Of, Over), for every input, with the document's numbers; memory that was there stays as it was.
-/
import Derived.Test.YtneacogenjlhgaaDivAny
import Derived.WalkSmall
namespace Go.Proofs.Ytneacogenjlhgaa
open Go.RowKit

/-- A number of 64 bits. -/
def Word (x : Int) : Prop := 0 ≤ x ∧ x ≤ 18446744073709551615

def mulH (a b : Int) : Int := a * b / 18446744073709551616
def mulL (a b : Int) : Int := a * b % 18446744073709551616
def addE (a b : Int) : Int := if a + b < 18446744073709551616 then 0 else 11
def addV (a b : Int) : Int := if a + b < 18446744073709551616 then a + b else 0
def subE (a b : Int) : Int := if a < b then 12 else 0
def subV (a b : Int) : Int := if a < b then 0 else a - b
def mulE (a b : Int) : Int := if a * b < 18446744073709551616 then 0 else 11
def mulV (a b : Int) : Int := if a * b < 18446744073709551616 then a * b else 0
def partE (a m o : Int) : Int := if o = 0 then 1 else if a * m / o < 18446744073709551616 then 0 else 11
def partV (a m o : Int) : Int := if partE a m o = 0 then a * m / o else 0
def partR (a m o : Int) : Int := if partE a m o = 0 then a * m % o else 0
def upE (a m o : Int) : Int := if partE a m o ≠ 0 then partE a m o else if partR a m o = 0 then 0 else addE (partV a m o) 1
def upV (a m o : Int) : Int := if partE a m o ≠ 0 then 0 else if partR a m o = 0 then partV a m o else addV (partV a m o) 1
def ofE (b r x : Int) : Int := if partE x r 1000000 ≠ 0 then partE x r 1000000 else addE b (partV x r 1000000)
def ofV (b r x : Int) : Int := if partE x r 1000000 ≠ 0 then 0 else addV b (partV x r 1000000)
def overE (b r x : Int) : Int := if ofE b r x ≠ 0 then ofE b r x else addE x (ofV b r x)
def overV (b r x : Int) : Int := if ofE b r x ≠ 0 then 0 else addV x (ofV b r x)

theorem mul_le_word {a b : Int} (ha : Word a) (hb : Word b) : 0 ≤ a * b ∧ a * b ≤ 18446744073709551615 * 18446744073709551615 :=
  ⟨Int.mul_nonneg ha.1 hb.1, Int.mul_le_mul ha.2 hb.2 hb.1 (by omega)⟩

theorem mulH_word {a b : Int} (ha : Word a) (hb : Word b) : Word (mulH a b) := by
  have := mul_le_word ha hb
  unfold mulH Word
  omega

theorem mulL_word (a b : Int) : Word (mulL a b) := by
  unfold mulL Word
  omega

theorem addV_word {a b : Int} (ha : Word a) (hb : Word b) : Word (addV a b) := by
  unfold addV Word at *
  split <;> omega

theorem partE_cases (a m o : Int) : partE a m o = 1 ∨ partE a m o = 0 ∨ partE a m o = 11 := by
  unfold partE
  split
  · exact .inl rfl
  · split
    · exact .inr (.inl rfl)
    · exact .inr (.inr rfl)

theorem addE_cases (a b : Int) : addE a b = 0 ∨ addE a b = 11 := by
  unfold addE
  split
  · exact .inl rfl
  · exact .inr rfl

theorem partV_word {a m o : Int} (ha : Word a) (hm : Word m) (ho : Word o) : Word (partV a m o) := by
  have h0 := (mul_le_word ha hm).1
  unfold partV
  split
  · rename_i h
    unfold partE at h
    have hd : 0 ≤ a * m / o := Int.ediv_nonneg h0 ho.1
    unfold Word
    split at h
    · omega
    · split at h <;> omega
  · unfold Word; omega

theorem partR_word {a m o : Int} (_ha : Word a) (_hm : Word m) (ho : Word o) : Word (partR a m o) := by
  unfold partR
  split
  · rename_i h
    unfold partE at h
    unfold Word at *
    split at h
    · omega
    · rename_i hne
      have h1 := Int.emod_nonneg (a * m) hne
      have h2 := Int.emod_lt_of_pos (a * m) (b := o) (by omega)
      omega
  · unfold Word; omega

theorem ofV_word {b r x : Int} (hb : Word b) (hr : Word r) (hx : Word x) : Word (ofV b r x) := by
  unfold ofV
  split
  · unfold Word; omega
  · exact addV_word hb (partV_word hx hr (by unfold Word; omega))

theorem overV_word {b r x : Int} (hb : Word b) (hr : Word r) (hx : Word x) : Word (overV b r x) := by
  unfold overV
  split
  · unfold Word; omega
  · exact addV_word hx (ofV_word hb hr hx)

theorem mul64_any (a b : Int) (w : World) (ha : Word a) (hb : Word b) :
    Calls Try.prog 63 #[.int .u64 a, .int .u64 b] w fun e w' => e = .returned (.tuple #[.int .u64 (mulH a b), .int .u64 (mulL a b)]) ∧ w = w' := by
  obtain ⟨x, rfl⟩ := Int.eq_ofNat_of_zero_le ha.1
  obtain ⟨y, rfl⟩ := Int.eq_ofNat_of_zero_le hb.1
  refine (Try.bits_Mul64 x y (by have := ha.2; omega) (by have := hb.2; omega) w).mono fun _ _ ⟨he, hw⟩ => ⟨?_, hw.symm⟩
  rw [he]
  unfold mulH mulL
  rw [Int.natCast_ediv, Int.natCast_emod, Int.natCast_mul]
  rfl

theorem add_any (a b : Int) (w : World) (ha : Word a) (hb : Word b) :
    Calls Try.prog 33 #[.int .u64 a, .int .u64 b] w fun e w' => e = .returned (.tuple #[.int .u64 (addV a b), .int .i64 (addE a b)]) ∧ w = w' := by
  obtain ⟨a0, a1⟩ := ha
  obtain ⟨b0, b1⟩ := hb
  by_cases h : a + b < 18446744073709551616
  · rw [addV, addE, if_pos h, if_pos h]
    have e1 : (a + b) / 18446744073709551616 = 0 := by omega
    have e2 : (a + b) % 18446744073709551616 = a + b := by omega
    go_enter Try.func33, Try.ntmps33
    go_wp2_with (simp only [Try.add64 a b a0 b0, e1, e2])
    go_ret2
    exact ⟨rfl, rfl⟩
  · rw [addV, addE, if_neg h, if_neg h]
    have e1 : (a + b) / 18446744073709551616 = 1 := by omega
    obtain ⟨z, e2⟩ : ∃ z, (a + b) % 18446744073709551616 = z := ⟨_, rfl⟩
    go_enter Try.func33, Try.ntmps33
    go_wp2_with (simp only [Try.add64 a b a0 b0, e1, e2])
    go_ret2
    exact ⟨rfl, rfl⟩

theorem sub_any (a b : Int) (w : World) (ha : Word a) (hb : Word b) :
    Calls Try.prog 35 #[.int .u64 a, .int .u64 b] w fun e w' => e = .returned (.tuple #[.int .u64 (subV a b), .int .i64 (subE a b)]) ∧ w = w' := by
  obtain ⟨a0, a1⟩ := ha
  obtain ⟨b0, b1⟩ := hb
  by_cases h : a < b
  · rw [subV, subE, if_pos h, if_pos h]
    go_enter Try.func35, Try.ntmps35
    go_wp2
    go_ret2
    exact ⟨rfl, rfl⟩
  · rw [subV, subE, if_neg h, if_neg h]
    go_enter Try.func35, Try.ntmps35
    go_wp2
    go_ret2
    exact ⟨rfl, rfl⟩

theorem mulH_zero (a b : Int) (ha : Word a) (hb : Word b) : mulH a b = 0 ↔ a * b < 18446744073709551616 := by
  have := (mul_le_word ha hb).1
  unfold mulH
  omega

theorem mulL_low (a b : Int) (ha : Word a) (hb : Word b) (h : a * b < 18446744073709551616) : mulL a b = a * b := by
  have := (mul_le_word ha hb).1
  unfold mulL
  omega

theorem mul_any (a b : Int) (w : World) (ha : Word a) (hb : Word b) :
    Calls Try.prog 37 #[.int .u64 a, .int .u64 b] w fun e w' => e = .returned (.tuple #[.int .u64 (mulV a b), .int .i64 (mulE a b)]) ∧ w = w' := by
  by_cases h : a * b < 18446744073709551616
  · rw [mulV, mulE, if_pos h, if_pos h]
    have H1 := Lib.hid (mulL_low a b ha hb h)
    have h0 : (mulH a b != 0) = false := by simp [(mulH_zero a b ha hb).2 h]
    clear h
    go_enter Try.func37, Try.ntmps37
    go_wp2_with (go_at_call 63; refine (mul64_any a b _ ha hb).mono ?_; rintro e w' ⟨rfl, rfl⟩)
    go_ret2
    exact ⟨by rw [H1.out]; rfl, rfl⟩
  · rw [mulV, mulE, if_neg h, if_neg h]
    have h0 : (mulH a b != 0) = true := by
      have := mt (mulH_zero a b ha hb).1 h
      simpa using this
    clear h
    go_enter Try.func37, Try.ntmps37
    go_wp2_with (go_at_call 63; refine (mul64_any a b _ ha hb).mono ?_; rintro e w' ⟨rfl, rfl⟩)
    go_ret2
    exact ⟨rfl, rfl⟩

theorem mulH_of (a m o : Int) (ha : Word a) (hm : Word m) (ho : 0 < o) : mulH a m < o ↔ a * m / o < 18446744073709551616 := by
  have := (mul_le_word ha hm).1
  unfold mulH
  rw [Int.ediv_lt_iff_lt_mul (by omega), Int.ediv_lt_iff_lt_mul ho, Int.mul_comm o]

theorem divQ_of (a m o : Int) : divQ (mulH a m) (mulL a m) o = a * m / o := by
  unfold divQ mulH mulL
  congr 1
  omega

theorem divR_of (a m o : Int) : divR (mulH a m) (mulL a m) o = a * m % o := by
  unfold divR mulH mulL
  congr 1
  omega

set_option maxHeartbeats 1000000 in
theorem divide_any (a m o : Int) (w : World) (ha : Word a) (hm : Word m) (ho : Word o) :
    Calls Try.prog 65 #[.int .u64 a, .int .u64 m, .int .u64 o] w fun e w' => e = .returned (.tuple #[.int .u64 (partV a m o), .int .u64 (partR a m o), .int .i64 (partE a m o)]) ∧ ∃ n, w' = w.drewN n := by
  by_cases h0 : o = 0
  · subst h0
    have e1 : partE a m 0 = 1 := by simp [partE]
    have e2 : partV a m 0 = 0 := by simp [partV, e1]
    have e3 : partR a m 0 = 0 := by simp [partR, e1]
    rw [e1, e2, e3]
    clear e1 e2 e3
    go_enter Try.func65, Try.ntmps65
    go_wp2
    go_ret3
    exact ⟨rfl, 0, rfl⟩
  · have hz : (o == 0) = false := by simpa using h0
    have hmH := mulH_word ha hm
    have hmL := mulL_word a m
    obtain ⟨o0, o1⟩ := ho
    obtain ⟨x0, x1⟩ := hmH
    obtain ⟨y0, y1⟩ := hmL
    by_cases h1 : mulH a m < o
    · have h2 := (mulH_of a m o ha hm (by omega)).1 h1
      have e1 : partE a m o = 0 := by simp [partE, h0, h2]
      have e2 : partV a m o = divQ (mulH a m) (mulL a m) o := by simp [partV, e1, divQ_of]
      have e3 : partR a m o = divR (mulH a m) (mulL a m) o := by simp [partR, e1, divR_of]
      rw [e1, e2, e3]
      clear e1 e2 e3 h2 h0
      go_enter Try.func65, Try.ntmps65
      go_wp2_with (first | (go_at_call 63; refine (mul64_any a m _ ha hm).mono ?_; rintro e w' ⟨rfl, rfl⟩) | (go_at_call 69; refine (div64_any _ _ _ _ (by omega) (by omega) (by omega) (by omega) (by omega)).mono ?_; rintro e w' ⟨rfl, n, rfl⟩))
      go_ret3
      exact ⟨rfl, _, rfl⟩
    · have h2 := mt (mulH_of a m o ha hm (by omega)).2 h1
      have e1 : partE a m o = 11 := by simp [partE, h0, h2]
      have e2 : partV a m o = 0 := by simp [partV, e1]
      have e3 : partR a m o = 0 := by simp [partR, e1]
      rw [e1, e2, e3]
      clear e1 e2 e3 h2 h0
      go_enter Try.func65, Try.ntmps65
      go_wp2_with (go_at_call 63; refine (mul64_any a m _ ha hm).mono ?_; rintro e w' ⟨rfl, rfl⟩)
      go_ret3
      exact ⟨rfl, 0, rfl⟩

theorem part_any (a m o : Int) (w : World) (ha : Word a) (hm : Word m) (ho : Word o) :
    Calls Try.prog 43 #[.int .u64 a, .int .u64 m, .int .u64 o] w fun e w' => e = .returned (.tuple #[.int .u64 (partV a m o), .int .i64 (partE a m o)]) ∧ ∃ n, w' = w.drewN n := by
  go_enter Try.func43, Try.ntmps43
  go_wp2_with (go_at_call 65; refine (divide_any _ _ _ _ ha hm ho).mono ?_; rintro e w' ⟨rfl, n, rfl⟩)
  go_ret2
  exact ⟨rfl, _, rfl⟩

set_option maxHeartbeats 1000000 in
theorem up_any (a m o : Int) (w : World) (ha : Word a) (hm : Word m) (ho : Word o) :
    Calls Try.prog 45 #[.int .u64 a, .int .u64 m, .int .u64 o] w fun e w' => e = .returned (.tuple #[.int .u64 (upV a m o), .int .i64 (upE a m o)]) ∧ ∃ n, w' = w.drewN n := by
  have hv := partV_word ha hm ho
  by_cases h0 : partE a m o = 0
  · have b0 : (partE a m o != 0) = false := by simp [h0]
    by_cases h1 : partR a m o = 0
    · have b1 : (partR a m o == 0) = true := by simp [h1]
      have H1 : Hid (upV a m o = partV a m o) := by show _ = _; simp [upV, h0, h1]
      have H2 : Hid (upE a m o = partE a m o) := by show _ = _; simp [upE, h0, h1]
      clear h0 h1
      go_enter Try.func45, Try.ntmps45
      go_wp2_with (go_at_call 65; refine (divide_any _ _ _ _ ha hm ho).mono ?_; rintro e w' ⟨rfl, n, rfl⟩)
      go_ret2
      exact ⟨by rw [H1.out, H2.out]; rfl, _, rfl⟩
    · have b1 : (partR a m o == 0) = false := by simpa using h1
      have H1 : Hid (upV a m o = addV (partV a m o) 1) := by show _ = _; simp [upV, h0, h1]
      have H2 : Hid (upE a m o = addE (partV a m o) 1) := by show _ = _; simp [upE, h0, h1]
      clear h0 h1
      go_enter Try.func45, Try.ntmps45
      go_wp2_with (first | (go_at_call 65; refine (divide_any _ _ _ _ ha hm ho).mono ?_; rintro e w' ⟨rfl, n, rfl⟩) | (go_at_call 33; refine (add_any _ _ _ hv ⟨by omega, by omega⟩).mono ?_; rintro e w' ⟨rfl, rfl⟩))
      go_ret2
      exact ⟨by rw [H1.out, H2.out]; rfl, _, rfl⟩
  · have b0 : (partE a m o != 0) = true := by simpa using h0
    have H1 : Hid (upV a m o = partV a m o) := by show _ = _; simp [upV, partV, h0]
    have H2 : Hid (upE a m o = partE a m o) := by show _ = _; simp [upE, h0]
    clear h0
    go_enter Try.func45, Try.ntmps45
    go_wp2_with (go_at_call 65; refine (divide_any _ _ _ _ ha hm ho).mono ?_; rintro e w' ⟨rfl, n, rfl⟩)
    go_ret2
    exact ⟨by rw [H1.out, H2.out]; rfl, _, rfl⟩

end Go.Proofs.Ytneacogenjlhgaa
