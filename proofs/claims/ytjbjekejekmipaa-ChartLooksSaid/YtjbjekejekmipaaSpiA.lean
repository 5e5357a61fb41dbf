/-
  chart's Spiral.
-/
import Derived.Test.YtjbjekejekmipaaChC
import Derived.Test.YtjbjekejekmipaaSpiNum
import Derived.ScopeJumps
import Derived.WalkMore
namespace Go.Proofs.Ytjbjekejekmipaa
open Go.RowKit
set_option linter.unusedVariables false

/-- What holds at the label. -/
def SpiInv (N c left : Nat) (u v du dv : Nat) : Prop := ∃ x y : Int, IsF u x ∧ IsF v y ∧ IsF du (dirX c) ∧ IsF dv (dirY c) ∧ c + left ≤ 9999 ∧
  (-(9999 - (left : Int)) ≤ x ∧ x ≤ 9999 - (left : Int)) ∧ (-(9999 - (left : Int)) ≤ y ∧ y ≤ 9999 - (left : Int)) ∧ spi left c 0 x y = spiP N

theorem SpiInv.step {N c left u v du dv : Nat} (h : SpiInv N c left u v du dv) : ∃ mu mv au av nu nv : Nat,
    cMulBits du dv (floatOfInt .f64 ((min left (c / 2 + 1) : Nat) : Int)) 0 = some (mu, mv) ∧ cSumBits .add .f64 u v mu mv = some (au, av) ∧
    cMulBits du dv 0 4607182418800017408 = some (nu, nv) ∧
    (c / 2 + 1 < left → SpiInv N (c + 1) (left - (c / 2 + 1)) au av nu nv) ∧
    (left ≤ c / 2 + 1 → IsF au (spiP N).1 ∧ IsF av (spiP N).2 ∧ ((spiP N).1.natAbs < 2 ^ 53 ∧ (spiP N).2.natAbs < 2 ^ 53)) := by
  obtain ⟨x, y, hu, hv, hdu, hdv, hcl, ⟨x1, x2⟩, ⟨y1, y2⟩, hs⟩ := h
  have ⟨⟨d1, d2⟩, d3, d4⟩ := dir_bound c
  generalize hS : min left (c / 2 + 1) = s
  have hsl : s ≤ left := by omega
  have m1 := mul_bound (a := dirX c) (b := (s : Int)) (A := 1) (B := s) (by omega) (by omega) (by omega) (by omega)
  have m2 := mul_bound (a := dirY c) (b := (s : Int)) (A := 1) (B := s) (by omega) (by omega) (by omega) (by omega)
  obtain ⟨mu, mv, hm, hmu, hmv⟩ := cprod hdu hdv (IsF.of_int (n := (s : Int)) (by omega)) IsF.zero (by omega) (by omega) (by omega) (by omega) (by omega) (by omega)
  rw [show dirX c * (s : Int) - dirY c * 0 = dirX c * (s : Int) by omega] at hmu
  rw [show dirX c * 0 + dirY c * (s : Int) = dirY c * (s : Int) by omega] at hmv
  obtain ⟨au, av, ha, hau, hav⟩ := csum hu hv hmu hmv (by omega) (by omega)
  obtain ⟨nu, nv, hn, hnu, hnv⟩ := quarter hdu hdv (by omega) (by omega)
  refine ⟨mu, mv, au, av, nu, nv, hm, ha, hn, fun hlt => ?_, fun hle => ?_⟩
  · obtain rfl : s = c / 2 + 1 := by omega
    have ds := dir_succ c
    refine ⟨_, _, hau, hav, by rw [ds.1]; exact hnu, by rw [ds.2]; exact hnv, by omega, by omega, by omega, ?_⟩
    rw [← hs, ← spi_leg, show left - (c / 2 + 1) + (c / 2 + 1) = left by omega]
  · obtain rfl : s = left := by omega
    rw [spi_last s c x y (by omega)] at hs
    rw [← hs]
    exact ⟨hau, hav, by show (x + dirX c * (s : Int)).natAbs < _; omega, by show (y + dirY c * (s : Int)).natAbs < _; omega⟩

theorem tdiv2 (c : Nat) : (c : Int).tdiv 2 = ((c / 2 : Nat) : Int) := by
  rw [Int.tdiv_eq_ediv_of_nonneg (by omega)]
  omega

set_option maxRecDepth 1000000 in
set_option maxHeartbeats 2000000 in
theorem spiral_good (N : Nat) (hN : N < 10000) (w : World) :
    Calls Try.prog 31 #[.int .i64 N] w fun e w' => e = .returned (resV ⟨(spiP N).1, (spiP N).2, 0⟩) ∧ Below w.heap.size w w' := by
  have H0 : Hid (SpiInv N 0 N 0 0 4607182418800017408 0) := Lib.hid ⟨0, 0, IsF.zero, IsF.zero, IsF.one, IsF.zero, by omega, by omega, by omega, rfl⟩
  have H0 : Hid (SpiInv N 0 N 0 0 4607182418800017408 0) := Lib.hid ⟨0, 0, IsF.zero, IsF.zero, IsF.one, IsF.zero, by omega, by omega, by omega, rfl⟩
  have n0 : ¬ ((N : Int) < 0) := by omega
  have n1 : ¬ (9999 < (N : Int)) := by omega
  have H0 : Hid (SpiInv N 0 N 0 0 4607182418800017408 0) := Lib.hid ⟨0, 0, IsF.zero, IsF.zero, IsF.one, IsF.zero, by omega, by omega, by omega, rfl⟩
  have n0 : ¬ ((N : Int) < 0) := by omega
  have n1 : ¬ (9999 < (N : Int)) := by omega
  go_enter Try.func31, Try.ntmps31
  go_wp2
  refine wp_scope_jumps 0 (fun a' w' => w' = w.alloc (.cells #[.int .i64 0, .int .i64 0] 24) ∧ ∃ (c left u v du dv : Nat) (u8 u9 u10 u11 u12 u13 u14 u15 u16 u17 u18 u19 u20 u21 u22 u23 u24 u25 u26 u27 u28 u29 u30 u31 u32 u33 u34 u35 u36 u37 u38 u39 u40 u41 : Value), a' = { tmps := #[.int .i64 N, undef, .pointer (some ⟨w.heap.size, 0, none⟩), .int .i64 0, .complex .f64 u v, .complex .f64 du dv, .int .i64 c, .int .i64 left, u8, u9, u10, u11, u12, u13, u14, u15, u16, u17, u18, u19, u20, u21, u22, u23, u24, u25, u26, u27, u28, u29, u30, u31, u32, u33, u34, u35, u36, u37, u38, u39, u40, u41], defers := [] } ∧ 0 < left ∧ c + left ≤ 9999 ∧ Hid (SpiInv N c left u v du dv)) (fun a' _ => (intOf (a'.tmps.getD 7 undef)).toNat) rfl ?_ ?_
  · by_cases hlt : 1 < N
    · have hA : (1 : Int) < N := by omega
      obtain ⟨mu, mv, au, av, nu, nv, h1, h2, h3, h4, h5⟩ := H0.out.step
      rw [show ((min N (0 / 2 + 1) : Nat) : Int) = 1 by omega] at h1
      have op1 := fun t w => run_complex_mul (P := Try.prog) w t _ _ _ _ mu mv h1
      have op2 := fun t w => run_complex_sum (P := Try.prog) w .add (Or.inl rfl) t .f64 _ _ _ _ au av h2
      have op3 := fun t w => run_complex_mul (P := Try.prog) w t _ _ _ _ nu nv h3
      have H4 := Lib.hid (h4 (by omega))
      clear h1 h2 h3 h4 h5
      clear hlt
      go_wp2
      go_step3
      go_wp2
      go_step3
      rw [show (N : Int) - 1 = ((N - 1 : Nat) : Int) by omega]
      exact ⟨rfl, ⟨rfl, 1, N - 1, au, av, nu, nv, _, _, _, _, _, _, _, _, _, _, _, _, _, _, _, _, _, _, _, _, _, _, _, _, _, _, _, _, _, _, _, _, _, _, rfl, by omega, by omega, H4⟩⟩
    · have hA : (N : Int) ≤ 1 := by omega
      obtain ⟨mu, mv, au, av, nu, nv, h1, h2, h3, h4, h5⟩ := H0.out.step
      rw [show ((min N (0 / 2 + 1) : Nat) : Int) = (N : Int) by omega] at h1
      have op1 := fun t w => run_complex_mul (P := Try.prog) w t _ _ _ _ mu mv h1
      have op2 := fun t w => run_complex_sum (P := Try.prog) w .add (Or.inl rfl) t .f64 _ _ _ _ au av h2
      have HC : Hid (∀ w, Calls Try.prog 53 #[.complex .f64 au av] w fun e w' => e = .returned (.tuple #[.agg #[.int .i64 (spiP N).1, .int .i64 (spiP N).2], .int .i64 0]) ∧ Below w.heap.size w w') := Lib.hid fun w => by
        have ⟨k1, k2, k3, k4⟩ := h5 (by omega)
        refine (spotAt_any au av _ _ w k1 k2 k3 k4).mono ?_
        rintro e w' ⟨rfl, hB⟩
        have h : held (spiP N).1 (spiP N).2 = ⟨(spiP N).1, (spiP N).2, 0⟩ := by unfold held; rw [if_pos (spi_on N hN)]
        exact ⟨by rw [h]; rfl, hB⟩
      clear h1 h2 h3 h4 h5
      clear hlt
      go_wp2
      go_step3
      go_wp2_with fail
      have P0 : Hid (Pt (w.alloc (.cells #[.int .i64 0, .int .i64 0] 24)) w.heap.size 24 0 0) := Lib.hid (Pt.mk_ rfl)
      have HW : Hid (Below w.heap.size w (w.alloc (.cells #[.int .i64 0, .int .i64 0] 24))) := Lib.hid ((Below.refl _ _).alloc (Nat.le_refl _) _)
      refine (HC.out _).mono ?_
      rintro e Z ⟨rfl, hB⟩
      have Q0 := Lib.hid (P0.out.keep hB)
      have HW1 := Lib.hid (HW.out.trans (hB.mono HW.out.size))
      have k1 := Q0.out.c0
      have k2 := Q0.out.c1
      have k3 := Q0.out.f0
      have k4 := Q0.out.f1
      clear hB P0 HW
      go_wp2
      simp only [Exit.jump]
      exact bodyPost_ret (results24 Try.results31 _ _ w.heap.size 24 (spiP N).1 (spiP N).2 _ rfl rfl (Q0.out.set _ _)) rfl ⟨rfl, (HW1.out.setCell (Nat.le_refl _) _).setCell (Nat.le_refl _) _⟩
  · rintro a' w' ⟨rfl, c, left, u, v, du, dv, u8, u9, u10, u11, u12, u13, u14, u15, u16, u17, u18, u19, u20, u21, u22, u23, u24, u25, u26, u27, u28, u29, u30, u31, u32, u33, u34, u35, u36, u37, u38, u39, u40, u41, rfl, hl, hcl, HI⟩
    obtain ⟨q, hq⟩ : ∃ q, c / 2 = q := ⟨_, rfl⟩
    have ht := tdiv2 c
    rw [hq] at ht
    have hq2 : q ≤ c := by omega
    by_cases hlt : q + 1 < left
    · have hA : (q : Int) + 1 < (left : Int) := by omega
      obtain ⟨mu, mv, au, av, nu, nv, h1, h2, h3, h4, h5⟩ := HI.out.step
      rw [show ((min left (c / 2 + 1) : Nat) : Int) = (q : Int) + 1 by omega] at h1
      have op1 := fun t w => run_complex_mul (P := Try.prog) w t _ _ _ _ mu mv h1
      have op2 := fun t w => run_complex_sum (P := Try.prog) w .add (Or.inl rfl) t .f64 _ _ _ _ au av h2
      rw [hq] at h4
      have op3 := fun t w => run_complex_mul (P := Try.prog) w t _ _ _ _ nu nv h3
      have H4 := Lib.hid (h4 (by omega))
      clear h1 h2 h3 h4 h5
      have HQ := Lib.hid hq
      clear hq
      clear hlt
      go_wp2
      go_step3
      rw [show (left : Int) - ((q : Int) + 1) = ((left - (q + 1) : Nat) : Int) by omega, show (c : Int) + 1 = ((c + 1 : Nat) : Int) by omega]
      exact ⟨rfl, ⟨rfl, c + 1, left - (q + 1), au, av, nu, nv, _, _, _, _, _, _, _, _, _, _, _, _, _, _, _, _, _, _, _, _, _, _, _, _, _, _, _, _, _, _, _, _, _, _, rfl, by omega, by omega, H4⟩, by simp [intOf]; omega⟩
    · have hA : (left : Int) ≤ (q : Int) + 1 := by omega
      obtain ⟨mu, mv, au, av, nu, nv, h1, h2, h3, h4, h5⟩ := HI.out.step
      rw [show ((min left (c / 2 + 1) : Nat) : Int) = (left : Int) by omega] at h1
      have op1 := fun t w => run_complex_mul (P := Try.prog) w t _ _ _ _ mu mv h1
      have op2 := fun t w => run_complex_sum (P := Try.prog) w .add (Or.inl rfl) t .f64 _ _ _ _ au av h2
      have HC : Hid (∀ w, Calls Try.prog 53 #[.complex .f64 au av] w fun e w' => e = .returned (.tuple #[.agg #[.int .i64 (spiP N).1, .int .i64 (spiP N).2], .int .i64 0]) ∧ Below w.heap.size w w') := Lib.hid fun w => by
        have ⟨k1, k2, k3, k4⟩ := h5 (by omega)
        refine (spotAt_any au av _ _ w k1 k2 k3 k4).mono ?_
        rintro e w' ⟨rfl, hB⟩
        have h : held (spiP N).1 (spiP N).2 = ⟨(spiP N).1, (spiP N).2, 0⟩ := by unfold held; rw [if_pos (spi_on N hN)]
        exact ⟨by rw [h]; rfl, hB⟩
      clear h1 h2 h3 h4 h5
      have HQ := Lib.hid hq
      clear hq
      clear hlt
      go_wp2_with fail
      have P0 : Hid (Pt (w.alloc (.cells #[.int .i64 0, .int .i64 0] 24)) w.heap.size 24 0 0) := Lib.hid (Pt.mk_ rfl)
      have HW : Hid (Below w.heap.size w (w.alloc (.cells #[.int .i64 0, .int .i64 0] 24))) := Lib.hid ((Below.refl _ _).alloc (Nat.le_refl _) _)
      refine (HC.out _).mono ?_
      rintro e Z ⟨rfl, hB⟩
      have Q0 := Lib.hid (P0.out.keep hB)
      have HW1 := Lib.hid (HW.out.trans (hB.mono HW.out.size))
      have k1 := Q0.out.c0
      have k2 := Q0.out.c1
      have k3 := Q0.out.f0
      have k4 := Q0.out.f1
      clear hB P0 HW
      go_wp2
      simp only [Exit.jump]
      exact bodyPost_ret (results24 Try.results31 _ _ w.heap.size 24 (spiP N).1 (spiP N).2 _ rfl rfl (Q0.out.set _ _)) rfl ⟨rfl, (HW1.out.setCell (Nat.le_refl _) _).setCell (Nat.le_refl _) _⟩

set_option maxRecDepth 1000000 in
set_option maxHeartbeats 2000000 in
theorem spiral_bad (n : Int) (hn : n < 0 ∨ (0 ≤ n ∧ 9999 < n)) (w : World) :
    Calls Try.prog 31 #[.int .i64 n] w fun e w' => e = .returned (resV ⟨0, 0, 1⟩) ∧ Below w.heap.size w w' := by
  rcases hn with h | ⟨h, h2⟩
  all_goals
    go_enter Try.func31, Try.ntmps31
    go_wp2
    go_step3
    go_wp2
    rw [Exit.noGoto_ret]
    exact bodyPost_ret (results24 Try.results31 _ _ w.heap.size 24 0 0 _ rfl rfl (Pt.mk_ rfl)) rfl ⟨rfl, (Below.refl _ _).alloc (Nat.le_refl _) _⟩

/-- A spot of the spiral, or why there is none. -/
def spiralP (n : Int) : Res := if 0 ≤ n ∧ n ≤ 9999 then ⟨(spiP n.toNat).1, (spiP n.toNat).2, 0⟩ else ⟨0, 0, 1⟩

theorem spiral_any (n : Int) (w : World) : Calls Try.prog 31 #[.int .i64 n] w fun e w' => e = .returned (resV (spiralP n)) ∧ Below w.heap.size w w' := by
  by_cases h : 0 ≤ n ∧ n ≤ 9999
  · unfold spiralP
    rw [if_pos h]
    obtain ⟨N, rfl⟩ := Int.eq_ofNat_of_zero_le h.1
    exact spiral_good N (by omega) w
  · unfold spiralP
    rw [if_neg h]
    exact spiral_bad n (by omega) w
end Go.Proofs.Ytjbjekejekmipaa
