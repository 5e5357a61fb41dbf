/-
  chart's Mirror, Far, Side, Turn: what they answer; memory that was there stays as it was.
-/
import Derived.Test.YtjbjekejekmipaaChB
namespace Go.Proofs.Ytjbjekejekmipaa
open Go.RowKit
set_option linter.unusedVariables false


set_option maxRecDepth 100000 in
set_option maxHeartbeats 2000000 in
theorem mirror_any (a b : Int) (w : World) :
    Calls Try.prog 21 #[.agg #[.int .i64 a, .int .i64 b]] w fun e w' => e = .returned (resV (mirrorP a b)) ∧ Below w.heap.size w w' := by
  by_cases hon : On a b
  · have HE : Hid (mirrorP a b = ⟨a, -b, 0⟩) := Lib.hid (by unfold mirrorP; rw [if_pos hon])
    have b0 : decide (On a b) = true := decide_eq_true hon
    obtain ⟨o1, o2, o3, o4⟩ := hon
    have HC : Hid (∀ w, Calls Try.prog 53 #[.complex .f64 (floatOfInt .f64 a) (Op.negFloat .f64 (floatOfInt .f64 b))] w fun e w' => e = .returned (.tuple #[.agg #[.int .i64 a, .int .i64 (-b)], .int .i64 0]) ∧ Below w.heap.size w w') := Lib.hid fun w => by
      refine (spotAt_any _ _ a (-b) w (IsF.of_int (by omega)) (IsF.of_int (n := b) (by omega)).neg (by omega) (by omega)).mono ?_
      rintro e w' ⟨rfl, hB⟩
      have h : held a (-b) = ⟨a, -b, 0⟩ := by unfold held; rw [if_pos ⟨by omega, by omega, by omega, by omega⟩]
      exact ⟨by rw [h]; rfl, hB⟩
    clear o1 o2 o3 o4
    go_enter Try.func21, Try.ntmps21
    go_wp2_with fail
    have P0 : Hid (Pt (((w.alloc (.cells #[.int .i64 a, .int .i64 b] 24)).alloc (.cells #[.int .i64 0, .int .i64 0] 24)).alloc (.cells #[.int .i64 a, .int .i64 b] 24)) (w.heap.size) 24 (a) (b)) := Lib.hid (((Pt.mk_ rfl).alloc _).alloc _)
    have P2 : Hid (Pt (((w.alloc (.cells #[.int .i64 a, .int .i64 b] 24)).alloc (.cells #[.int .i64 0, .int .i64 0] 24)).alloc (.cells #[.int .i64 a, .int .i64 b] 24)) (w.heap.size + 1) 24 (0) (0)) := Lib.hid ((Pt.mk_ (by simp)).alloc _)
    have P3 : Hid (Pt (((w.alloc (.cells #[.int .i64 a, .int .i64 b] 24)).alloc (.cells #[.int .i64 0, .int .i64 0] 24)).alloc (.cells #[.int .i64 a, .int .i64 b] 24)) (w.heap.size + 1 + 1) 24 (a) (b)) := Lib.hid (Pt.mk_ (by simp))
    have HW : Hid (Below w.heap.size w (((w.alloc (.cells #[.int .i64 a, .int .i64 b] 24)).alloc (.cells #[.int .i64 0, .int .i64 0] 24)).alloc (.cells #[.int .i64 a, .int .i64 b] 24))) := Lib.hid ((((Below.refl _ _).alloc (Nat.le_refl _) _).alloc (by simp) _).alloc (by simp; omega) _)
    generalize (((w.alloc (.cells #[.int .i64 a, .int .i64 b] 24)).alloc (.cells #[.int .i64 0, .int .i64 0] 24)).alloc (.cells #[.int .i64 a, .int .i64 b] 24)) = V at P0 P2 P3 HW  ⊢
    refine (on1_any _ a b _ P3.out.c0 P3.out.c1 P3.out.lt).mono ?_
    rintro e W ⟨rfl, hB⟩
    have HW1 := Lib.hid (HW.out.trans (hB.mono HW.out.size))
    have Q0 := Lib.hid (P0.out.keep hB)
    have Q2 := Lib.hid (P2.out.keep hB)
    clear hB HW P0 P2 P3
    have Q0a := Q0.out.c0
    have Q0b := Q0.out.c1
    have Q2a := Q2.out.c0
    have Q2b := Q2.out.c1
    have Q2c := Q2.out.f0
    have Q2d := Q2.out.f1
    go_wp2_with fail
    refine (number_any _ _ _).mono ?_
    rintro e X ⟨rfl, hB⟩
    replace HW1 := Lib.hid (HW1.out.trans (hB.mono HW1.out.size))
    replace Q0 := Lib.hid (Q0.out.keep hB)
    replace Q2 := Lib.hid (Q2.out.keep hB)
    clear hB Q0a Q0b Q2a Q2b Q2c Q2d
    have Q0a := Q0.out.c0
    have Q0b := Q0.out.c1
    have Q2a := Q2.out.c0
    have Q2b := Q2.out.c1
    have Q2c := Q2.out.f0
    have Q2d := Q2.out.f1
    go_wp2_with fail
    refine (conj_any _ _ _).mono ?_
    rintro e X1 ⟨rfl, rfl⟩
    go_wp2_with fail
    refine (HC.out _).mono ?_
    rintro e X2 ⟨rfl, hB⟩
    replace HW1 := Lib.hid (HW1.out.trans (hB.mono HW1.out.size))
    replace Q0 := Lib.hid (Q0.out.keep hB)
    replace Q2 := Lib.hid (Q2.out.keep hB)
    clear hB Q0a Q0b Q2a Q2b Q2c Q2d
    have Q0a := Q0.out.c0
    have Q0b := Q0.out.c1
    have Q2a := Q2.out.c0
    have Q2b := Q2.out.c1
    have Q2c := Q2.out.f0
    have Q2d := Q2.out.f1
    go_wp2
    exact bodyPost_ret (results24 Try.results21 _ _ (w.heap.size + 1) 24 a (-b) _ rfl rfl (Q2.out.set a (-b))) rfl ⟨by rw [HE.out]; rfl, (HW1.out.setCell (by simp) _).setCell (by simp) _⟩
  · have HE : Hid (mirrorP a b = ⟨0, 0, 1⟩) := Lib.hid (by unfold mirrorP; rw [if_neg hon])
    have b0 : decide (On a b) = false := decide_eq_false hon
    clear hon
    go_enter Try.func21, Try.ntmps21
    go_wp2_with fail
    have P2 : Hid (Pt (((w.alloc (.cells #[.int .i64 a, .int .i64 b] 24)).alloc (.cells #[.int .i64 0, .int .i64 0] 24)).alloc (.cells #[.int .i64 a, .int .i64 b] 24)) (w.heap.size + 1) 24 (0) (0)) := Lib.hid ((Pt.mk_ (by simp)).alloc _)
    have P3 : Hid (Pt (((w.alloc (.cells #[.int .i64 a, .int .i64 b] 24)).alloc (.cells #[.int .i64 0, .int .i64 0] 24)).alloc (.cells #[.int .i64 a, .int .i64 b] 24)) (w.heap.size + 1 + 1) 24 (a) (b)) := Lib.hid (Pt.mk_ (by simp))
    have HW : Hid (Below w.heap.size w (((w.alloc (.cells #[.int .i64 a, .int .i64 b] 24)).alloc (.cells #[.int .i64 0, .int .i64 0] 24)).alloc (.cells #[.int .i64 a, .int .i64 b] 24))) := Lib.hid ((((Below.refl _ _).alloc (Nat.le_refl _) _).alloc (by simp) _).alloc (by simp; omega) _)
    generalize (((w.alloc (.cells #[.int .i64 a, .int .i64 b] 24)).alloc (.cells #[.int .i64 0, .int .i64 0] 24)).alloc (.cells #[.int .i64 a, .int .i64 b] 24)) = V at P2 P3 HW  ⊢
    refine (on1_any _ a b _ P3.out.c0 P3.out.c1 P3.out.lt).mono ?_
    rintro e W ⟨rfl, hB⟩
    have HW1 := Lib.hid (HW.out.trans (hB.mono HW.out.size))
    have Q2 := Lib.hid (P2.out.keep hB)
    clear hB HW P2 P3
    have Q2a := Q2.out.c0
    have Q2b := Q2.out.c1
    have Q2c := Q2.out.f0
    have Q2d := Q2.out.f1
    go_wp2
    exact bodyPost_ret (results24 Try.results21 _ _ (w.heap.size + 1) 24 0 0 _ rfl rfl (Q2.out.set 0 0)) rfl ⟨by rw [HE.out]; rfl, (HW1.out.setCell (by simp) _).setCell (by simp) _⟩


set_option maxRecDepth 100000 in
set_option maxHeartbeats 2000000 in
theorem far_any (a b c d : Int) (w : World) :
    Calls Try.prog 25 #[.agg #[.int .i64 a, .int .i64 b], .agg #[.int .i64 c, .int .i64 d]] w fun e w' => e = .returned (.int .i64 (farP a b c d)) ∧ Below w.heap.size w w' := by
  by_cases hon : On a b ∧ On c d
  · have HE : Hid (farP a b c d = (a - c) * (a - c) + (b - d) * (b - d)) := Lib.hid (by unfold farP; rw [if_pos hon])
    have b0 : decide (On a b ∧ On c d) = true := decide_eq_true hon
    obtain ⟨⟨o1, o2, o3, o4⟩, o5, o6, o7, o8⟩ := hon
    obtain ⟨re, im, hc, hre, him⟩ := cdiff (IsF.of_int (n := a) (by omega)) (IsF.of_int (n := b) (by omega)) (IsF.of_int (n := c) (by omega)) (IsF.of_int (n := d) (by omega)) (by omega) (by omega)
    have hop := fun t w => run_complex_sum (P := Try.prog) w .sub (Or.inr rfl) t .f64 _ _ _ _ re im hc
    have m1 := mul_bound (a := a - c) (b := a - c) (A := 2000) (B := 2000) (by omega) (by omega) (by omega) (by omega)
    have m2 := mul_bound (a := -(b - d)) (b := b - d) (A := 2000) (B := 2000) (by omega) (by omega) (by omega) (by omega)
    have m3 := mul_bound (a := a - c) (b := b - d) (A := 2000) (B := 2000) (by omega) (by omega) (by omega) (by omega)
    have m4 := mul_bound (a := -(b - d)) (b := a - c) (A := 2000) (B := 2000) (by omega) (by omega) (by omega) (by omega)
    obtain ⟨fr, fi, hm, hfr, hfi⟩ := cprod hre him.neg hre him (by omega) (by omega) (by omega) (by omega) (by omega) (by omega)
    have hop2 := fun t w => run_complex_mul (P := Try.prog) w t _ _ _ _ fr fi hm
    have hz : (a - c) * (a - c) - -(b - d) * (b - d) = (a - c) * (a - c) + (b - d) * (b - d) := by rw [Int.neg_mul]; omega
    have hcv : ∀ w, (convert 106 3 (.float .f64 fr)).run Try.prog w = .ok (.int .i64 ((a - c) * (a - c) + (b - d) * (b - d))) w := fun w => run_convert_float_int w 106 3 .f64 .i64 fr _ (by kernel_rfl) Try.underlying3 (hz ▸ hfr.toInt (by omega))
    clear hc hre him hm hfr hfi m1 m2 m3 m4 o1 o2 o3 o4 o5 o6 o7 o8 hz
    generalize (a - c) * (a - c) + (b - d) * (b - d) = R at HE hcv
    go_enter Try.func25, Try.ntmps25
    go_wp2_with fail
    have P0 : Hid (Pt (((w.alloc (.cells #[.int .i64 a, .int .i64 b] 24)).alloc (.cells #[.int .i64 c, .int .i64 d] 24)).alloc (.cells #[.int .i64 a, .int .i64 b, .int .i64 c, .int .i64 d] 24)) (w.heap.size) 24 (a) (b)) := Lib.hid (((Pt.mk_ rfl).alloc _).alloc _)
    have P1 : Hid (Pt (((w.alloc (.cells #[.int .i64 a, .int .i64 b] 24)).alloc (.cells #[.int .i64 c, .int .i64 d] 24)).alloc (.cells #[.int .i64 a, .int .i64 b, .int .i64 c, .int .i64 d] 24)) (w.heap.size + 1) 24 (c) (d)) := Lib.hid ((Pt.mk_ (by simp)).alloc _)
    have P3 : Hid (Blk (((w.alloc (.cells #[.int .i64 a, .int .i64 b] 24)).alloc (.cells #[.int .i64 c, .int .i64 d] 24)).alloc (.cells #[.int .i64 a, .int .i64 b, .int .i64 c, .int .i64 d] 24)) (w.heap.size + 1 + 1) 24 [.int .i64 a, .int .i64 b, .int .i64 c, .int .i64 d]) := Lib.hid (Blk.mk_ (by simp))
    have HW : Hid (Below w.heap.size w (((w.alloc (.cells #[.int .i64 a, .int .i64 b] 24)).alloc (.cells #[.int .i64 c, .int .i64 d] 24)).alloc (.cells #[.int .i64 a, .int .i64 b, .int .i64 c, .int .i64 d] 24))) := Lib.hid ((((Below.refl _ _).alloc (Nat.le_refl _) _).alloc (by simp) _).alloc (by simp; omega) _)
    generalize (((w.alloc (.cells #[.int .i64 a, .int .i64 b] 24)).alloc (.cells #[.int .i64 c, .int .i64 d] 24)).alloc (.cells #[.int .i64 a, .int .i64 b, .int .i64 c, .int .i64 d] 24)) = V at P0 P1 P3 HW  ⊢
    refine (on2_any _ a b c d _ (P3.out.cell 0) (P3.out.cell 1) (P3.out.cell 2) (P3.out.cell 3) P3.out.lt).mono ?_
    rintro e W ⟨rfl, hB⟩
    have HW1 := Lib.hid (HW.out.trans (hB.mono HW.out.size))
    have Q0 := Lib.hid (P0.out.keep hB)
    have Q1 := Lib.hid (P1.out.keep hB)
    clear hB HW P0 P1 P3
    go_wp2_with fail
    replace Q0 : Hid (Pt W.drew (w.heap.size) 24 (a) (b)) := Lib.hid Q0.out
    replace Q1 : Hid (Pt W.drew (w.heap.size + 1) 24 (c) (d)) := Lib.hid Q1.out
    replace HW1 : Hid (Below w.heap.size w W.drew) := Lib.hid (below_drewN HW1.out 1)
    have Q0a := Q0.out.c0
    have Q0b := Q0.out.c1
    have Q1a := Q1.out.c0
    have Q1b := Q1.out.c1
    go_region_held3 (fun w' => w'.cell? ⟨w.heap.size, 0, none⟩ = some (.int .i64 a) ∧ w'.cell? ⟨w.heap.size, 1, none⟩ = some (.int .i64 b) ∧ w'.cell? ⟨w.heap.size + 1, 0, none⟩ = some (.int .i64 c) ∧ w'.cell? ⟨w.heap.size + 1, 1, none⟩ = some (.int .i64 d)) (exact ⟨Q0.out.c0, Q0.out.c1, Q1.out.c0, Q1.out.c1⟩)
      (first
        | (go_at_call 54
           refine (number_any _ _ _).mono ?_
           rintro e X ⟨rfl, hB⟩
           replace HW1 := Lib.hid (HW1.out.trans (hB.mono HW1.out.size))
           replace Q0 := Lib.hid (Q0.out.keep hB)
           replace Q1 := Lib.hid (Q1.out.keep hB)
           clear hB Q0a Q0b Q1a Q1b
           have Q0a := Q0.out.c0
           have Q0b := Q0.out.c1
           have Q1a := Q1.out.c0
           have Q1b := Q1.out.c1))
    go_wp2_with fail
    refine (conj_any _ _ _).mono ?_
    rintro e X2 ⟨rfl, rfl⟩
    go_wp2
    go_ret
    exact ⟨by rw [HE.out]; rfl, HW1.out⟩
  · have HE : Hid (farP a b c d = -1) := Lib.hid (by unfold farP; rw [if_neg hon])
    have b0 : decide (On a b ∧ On c d) = false := decide_eq_false hon
    clear hon
    go_enter Try.func25, Try.ntmps25
    go_wp2_with fail
    have P3 : Hid (Blk (((w.alloc (.cells #[.int .i64 a, .int .i64 b] 24)).alloc (.cells #[.int .i64 c, .int .i64 d] 24)).alloc (.cells #[.int .i64 a, .int .i64 b, .int .i64 c, .int .i64 d] 24)) (w.heap.size + 1 + 1) 24 [.int .i64 a, .int .i64 b, .int .i64 c, .int .i64 d]) := Lib.hid (Blk.mk_ (by simp))
    have HW : Hid (Below w.heap.size w (((w.alloc (.cells #[.int .i64 a, .int .i64 b] 24)).alloc (.cells #[.int .i64 c, .int .i64 d] 24)).alloc (.cells #[.int .i64 a, .int .i64 b, .int .i64 c, .int .i64 d] 24))) := Lib.hid ((((Below.refl _ _).alloc (Nat.le_refl _) _).alloc (by simp) _).alloc (by simp; omega) _)
    generalize (((w.alloc (.cells #[.int .i64 a, .int .i64 b] 24)).alloc (.cells #[.int .i64 c, .int .i64 d] 24)).alloc (.cells #[.int .i64 a, .int .i64 b, .int .i64 c, .int .i64 d] 24)) = V at P3 HW  ⊢
    refine (on2_any _ a b c d _ (P3.out.cell 0) (P3.out.cell 1) (P3.out.cell 2) (P3.out.cell 3) P3.out.lt).mono ?_
    rintro e W ⟨rfl, hB⟩
    have HW1 := Lib.hid (HW.out.trans (hB.mono HW.out.size))
    clear hB HW P3
    go_wp2
    go_ret
    exact ⟨by rw [HE.out]; rfl, HW1.out⟩


theorem compare_pos {n : Int} (h : 0 < n) : compare n 0 = .gt := by
  show compareOfLessAndEq _ _ = _
  unfold compareOfLessAndEq
  rw [if_neg (by omega), if_neg (by omega)]
theorem compare_neg {n : Int} (h : n < 0) : compare n 0 = .lt := by
  show compareOfLessAndEq _ _ = _
  unfold compareOfLessAndEq
  rw [if_pos h]


set_option maxRecDepth 100000 in
set_option maxHeartbeats 2000000 in
theorem side_pos (a b c d x y : Int) (w : World) (hon : On a b ∧ On c d ∧ On x y) (hcr : 0 < crossP a b c d x y) :
    Calls Try.prog 29 #[.agg #[.int .i64 a, .int .i64 b], .agg #[.int .i64 c, .int .i64 d], .agg #[.int .i64 x, .int .i64 y]] w fun e w' => e = .returned (.int .i64 (sideP a b c d x y)) ∧ Below w.heap.size w w' := by
    have HE : Hid (sideP a b c d x y = 1) := Lib.hid (by unfold sideP; rw [if_pos hon, if_pos hcr])
    have b0 : decide (On a b ∧ On c d ∧ On x y) = true := decide_eq_true hon
    obtain ⟨⟨o1, o2, o3, o4⟩, ⟨o5, o6, o7, o8⟩, o9, p1, p2, p3⟩ := hon
    obtain ⟨re, im, hc, hre, him⟩ := cdiff (IsF.of_int (n := c) (by omega)) (IsF.of_int (n := d) (by omega)) (IsF.of_int (n := a) (by omega)) (IsF.of_int (n := b) (by omega)) (by omega) (by omega)
    have hop := fun t w => run_complex_sum (P := Try.prog) w .sub (Or.inr rfl) t .f64 _ _ _ _ re im hc
    obtain ⟨se, sm, hc2, hse, hsm⟩ := cdiff (IsF.of_int (n := x) (by omega)) (IsF.of_int (n := y) (by omega)) (IsF.of_int (n := a) (by omega)) (IsF.of_int (n := b) (by omega)) (by omega) (by omega)
    have hop2 := fun t w => run_complex_sum (P := Try.prog) w .sub (Or.inr rfl) t .f64 _ _ _ _ se sm hc2
    have m1 := mul_bound (a := c - a) (b := x - a) (A := 2000) (B := 2000) (by omega) (by omega) (by omega) (by omega)
    have m2 := mul_bound (a := -(d - b)) (b := y - b) (A := 2000) (B := 2000) (by omega) (by omega) (by omega) (by omega)
    have m3 := mul_bound (a := c - a) (b := y - b) (A := 2000) (B := 2000) (by omega) (by omega) (by omega) (by omega)
    have m4 := mul_bound (a := -(d - b)) (b := x - a) (A := 2000) (B := 2000) (by omega) (by omega) (by omega) (by omega)
    obtain ⟨tr, ti, hm, htr, hti⟩ := cprod hre him.neg hse hsm (by omega) (by omega) (by omega) (by omega) (by omega) (by omega)
    have hop3 := fun t w => run_complex_mul (P := Try.prog) w t _ _ _ _ tr ti hm
    have hz : (c - a) * (y - b) + -(d - b) * (x - a) = crossP a b c d x y := by unfold crossP; rw [Int.neg_mul]; omega
    rw [hz] at hti
    have b1 : (FloatKind.f64.format.order ti 0 == some .gt) = true := by rw [hti.order IsF.zero, compare_pos hcr]; rfl
    clear hc hc2 hre him hse hsm hm htr hti m1 m2 m3 m4 o1 o2 o3 o4 o5 o6 o7 o8 o9 p1 p2 p3 hz hcr
    go_enter Try.func29, Try.ntmps29
    go_wp2_with fail
    have P0 : Hid (Pt ((((w.alloc (.cells #[.int .i64 a, .int .i64 b] 24)).alloc (.cells #[.int .i64 c, .int .i64 d] 24)).alloc (.cells #[.int .i64 x, .int .i64 y] 24)).alloc (.cells #[.int .i64 a, .int .i64 b, .int .i64 c, .int .i64 d, .int .i64 x, .int .i64 y] 24)) (w.heap.size) 24 (a) (b)) := Lib.hid ((((Pt.mk_ rfl).alloc _).alloc _).alloc _)
    have P1 : Hid (Pt ((((w.alloc (.cells #[.int .i64 a, .int .i64 b] 24)).alloc (.cells #[.int .i64 c, .int .i64 d] 24)).alloc (.cells #[.int .i64 x, .int .i64 y] 24)).alloc (.cells #[.int .i64 a, .int .i64 b, .int .i64 c, .int .i64 d, .int .i64 x, .int .i64 y] 24)) (w.heap.size + 1) 24 (c) (d)) := Lib.hid (((Pt.mk_ (by simp)).alloc _).alloc _)
    have P2 : Hid (Pt ((((w.alloc (.cells #[.int .i64 a, .int .i64 b] 24)).alloc (.cells #[.int .i64 c, .int .i64 d] 24)).alloc (.cells #[.int .i64 x, .int .i64 y] 24)).alloc (.cells #[.int .i64 a, .int .i64 b, .int .i64 c, .int .i64 d, .int .i64 x, .int .i64 y] 24)) (w.heap.size + 1 + 1) 24 (x) (y)) := Lib.hid ((Pt.mk_ (by simp)).alloc _)
    have P3 : Hid (Blk ((((w.alloc (.cells #[.int .i64 a, .int .i64 b] 24)).alloc (.cells #[.int .i64 c, .int .i64 d] 24)).alloc (.cells #[.int .i64 x, .int .i64 y] 24)).alloc (.cells #[.int .i64 a, .int .i64 b, .int .i64 c, .int .i64 d, .int .i64 x, .int .i64 y] 24)) (w.heap.size + 1 + 1 + 1) 24 [.int .i64 a, .int .i64 b, .int .i64 c, .int .i64 d, .int .i64 x, .int .i64 y]) := Lib.hid (Blk.mk_ (by simp))
    have HW : Hid (Below w.heap.size w ((((w.alloc (.cells #[.int .i64 a, .int .i64 b] 24)).alloc (.cells #[.int .i64 c, .int .i64 d] 24)).alloc (.cells #[.int .i64 x, .int .i64 y] 24)).alloc (.cells #[.int .i64 a, .int .i64 b, .int .i64 c, .int .i64 d, .int .i64 x, .int .i64 y] 24))) := Lib.hid (((((Below.refl _ _).alloc (Nat.le_refl _) _).alloc (by simp) _).alloc (by simp; omega) _).alloc (by simp; omega) _)
    generalize ((((w.alloc (.cells #[.int .i64 a, .int .i64 b] 24)).alloc (.cells #[.int .i64 c, .int .i64 d] 24)).alloc (.cells #[.int .i64 x, .int .i64 y] 24)).alloc (.cells #[.int .i64 a, .int .i64 b, .int .i64 c, .int .i64 d, .int .i64 x, .int .i64 y] 24)) = V at P0 P1 P2 P3 HW  ⊢
    refine (on3_any _ a b c d x y _ (P3.out.cell 0) (P3.out.cell 1) (P3.out.cell 2) (P3.out.cell 3) (P3.out.cell 4) (P3.out.cell 5) P3.out.lt).mono ?_
    rintro e W ⟨rfl, hB⟩
    have HW1 := Lib.hid (HW.out.trans (hB.mono HW.out.size))
    have Q0 := Lib.hid (P0.out.keep hB)
    have Q1 := Lib.hid (P1.out.keep hB)
    have Q2 := Lib.hid (P2.out.keep hB)
    clear hB HW P0 P1 P2 P3
    go_wp2_with fail
    replace Q0 : Hid (Pt W.drew (w.heap.size) 24 (a) (b)) := Lib.hid Q0.out
    replace Q1 : Hid (Pt W.drew (w.heap.size + 1) 24 (c) (d)) := Lib.hid Q1.out
    replace Q2 : Hid (Pt W.drew (w.heap.size + 1 + 1) 24 (x) (y)) := Lib.hid Q2.out
    replace HW1 : Hid (Below w.heap.size w W.drew) := Lib.hid (below_drewN HW1.out 1)
    have Q0a := Q0.out.c0
    have Q0b := Q0.out.c1
    have Q1a := Q1.out.c0
    have Q1b := Q1.out.c1
    have Q2a := Q2.out.c0
    have Q2b := Q2.out.c1
    go_region_held3 (fun w' => w'.cell? ⟨w.heap.size, 0, none⟩ = some (.int .i64 a) ∧ w'.cell? ⟨w.heap.size, 1, none⟩ = some (.int .i64 b) ∧ w'.cell? ⟨w.heap.size + 1, 0, none⟩ = some (.int .i64 c) ∧ w'.cell? ⟨w.heap.size + 1, 1, none⟩ = some (.int .i64 d) ∧ w'.cell? ⟨w.heap.size + 1 + 1, 0, none⟩ = some (.int .i64 x) ∧ w'.cell? ⟨w.heap.size + 1 + 1, 1, none⟩ = some (.int .i64 y)) (exact ⟨Q0.out.c0, Q0.out.c1, Q1.out.c0, Q1.out.c1, Q2.out.c0, Q2.out.c1⟩)
      (first
        | (go_at_call 54
           refine (number_any _ _ _).mono ?_
           rintro e X ⟨rfl, hB⟩
           replace HW1 := Lib.hid (HW1.out.trans (hB.mono HW1.out.size))
           replace Q0 := Lib.hid (Q0.out.keep hB)
           replace Q1 := Lib.hid (Q1.out.keep hB)
           replace Q2 := Lib.hid (Q2.out.keep hB)
           clear hB Q0a Q0b Q1a Q1b Q2a Q2b
           have Q0a := Q0.out.c0
           have Q0b := Q0.out.c1
           have Q1a := Q1.out.c0
           have Q1b := Q1.out.c1
           have Q2a := Q2.out.c0
           have Q2b := Q2.out.c1))
    go_wp2_with fail
    refine (conj_any _ _ _).mono ?_
    rintro e X2 ⟨rfl, rfl⟩
    go_wp2
    go_ret
    exact ⟨by rw [HE.out]; rfl, HW1.out⟩


set_option maxRecDepth 100000 in
set_option maxHeartbeats 2000000 in
theorem side_neg (a b c d x y : Int) (w : World) (hon : On a b ∧ On c d ∧ On x y) (hcr : crossP a b c d x y < 0) :
    Calls Try.prog 29 #[.agg #[.int .i64 a, .int .i64 b], .agg #[.int .i64 c, .int .i64 d], .agg #[.int .i64 x, .int .i64 y]] w fun e w' => e = .returned (.int .i64 (sideP a b c d x y)) ∧ Below w.heap.size w w' := by
    have HE : Hid (sideP a b c d x y = -1) := Lib.hid (by unfold sideP; rw [if_pos hon, if_neg (by omega), if_pos hcr])
    have b0 : decide (On a b ∧ On c d ∧ On x y) = true := decide_eq_true hon
    obtain ⟨⟨o1, o2, o3, o4⟩, ⟨o5, o6, o7, o8⟩, o9, p1, p2, p3⟩ := hon
    obtain ⟨re, im, hc, hre, him⟩ := cdiff (IsF.of_int (n := c) (by omega)) (IsF.of_int (n := d) (by omega)) (IsF.of_int (n := a) (by omega)) (IsF.of_int (n := b) (by omega)) (by omega) (by omega)
    have hop := fun t w => run_complex_sum (P := Try.prog) w .sub (Or.inr rfl) t .f64 _ _ _ _ re im hc
    obtain ⟨se, sm, hc2, hse, hsm⟩ := cdiff (IsF.of_int (n := x) (by omega)) (IsF.of_int (n := y) (by omega)) (IsF.of_int (n := a) (by omega)) (IsF.of_int (n := b) (by omega)) (by omega) (by omega)
    have hop2 := fun t w => run_complex_sum (P := Try.prog) w .sub (Or.inr rfl) t .f64 _ _ _ _ se sm hc2
    have m1 := mul_bound (a := c - a) (b := x - a) (A := 2000) (B := 2000) (by omega) (by omega) (by omega) (by omega)
    have m2 := mul_bound (a := -(d - b)) (b := y - b) (A := 2000) (B := 2000) (by omega) (by omega) (by omega) (by omega)
    have m3 := mul_bound (a := c - a) (b := y - b) (A := 2000) (B := 2000) (by omega) (by omega) (by omega) (by omega)
    have m4 := mul_bound (a := -(d - b)) (b := x - a) (A := 2000) (B := 2000) (by omega) (by omega) (by omega) (by omega)
    obtain ⟨tr, ti, hm, htr, hti⟩ := cprod hre him.neg hse hsm (by omega) (by omega) (by omega) (by omega) (by omega) (by omega)
    have hop3 := fun t w => run_complex_mul (P := Try.prog) w t _ _ _ _ tr ti hm
    have hz : (c - a) * (y - b) + -(d - b) * (x - a) = crossP a b c d x y := by unfold crossP; rw [Int.neg_mul]; omega
    rw [hz] at hti
    have b1 : (FloatKind.f64.format.order ti 0 == some .gt) = false := by rw [hti.order IsF.zero, compare_neg hcr]; rfl
    have b2 : (FloatKind.f64.format.order ti 0 == some .lt) = true := by rw [hti.order IsF.zero, compare_neg hcr]; rfl
    clear hc hc2 hre him hse hsm hm htr hti m1 m2 m3 m4 o1 o2 o3 o4 o5 o6 o7 o8 o9 p1 p2 p3 hz hcr
    go_enter Try.func29, Try.ntmps29
    go_wp2_with fail
    have P0 : Hid (Pt ((((w.alloc (.cells #[.int .i64 a, .int .i64 b] 24)).alloc (.cells #[.int .i64 c, .int .i64 d] 24)).alloc (.cells #[.int .i64 x, .int .i64 y] 24)).alloc (.cells #[.int .i64 a, .int .i64 b, .int .i64 c, .int .i64 d, .int .i64 x, .int .i64 y] 24)) (w.heap.size) 24 (a) (b)) := Lib.hid ((((Pt.mk_ rfl).alloc _).alloc _).alloc _)
    have P1 : Hid (Pt ((((w.alloc (.cells #[.int .i64 a, .int .i64 b] 24)).alloc (.cells #[.int .i64 c, .int .i64 d] 24)).alloc (.cells #[.int .i64 x, .int .i64 y] 24)).alloc (.cells #[.int .i64 a, .int .i64 b, .int .i64 c, .int .i64 d, .int .i64 x, .int .i64 y] 24)) (w.heap.size + 1) 24 (c) (d)) := Lib.hid (((Pt.mk_ (by simp)).alloc _).alloc _)
    have P2 : Hid (Pt ((((w.alloc (.cells #[.int .i64 a, .int .i64 b] 24)).alloc (.cells #[.int .i64 c, .int .i64 d] 24)).alloc (.cells #[.int .i64 x, .int .i64 y] 24)).alloc (.cells #[.int .i64 a, .int .i64 b, .int .i64 c, .int .i64 d, .int .i64 x, .int .i64 y] 24)) (w.heap.size + 1 + 1) 24 (x) (y)) := Lib.hid ((Pt.mk_ (by simp)).alloc _)
    have P3 : Hid (Blk ((((w.alloc (.cells #[.int .i64 a, .int .i64 b] 24)).alloc (.cells #[.int .i64 c, .int .i64 d] 24)).alloc (.cells #[.int .i64 x, .int .i64 y] 24)).alloc (.cells #[.int .i64 a, .int .i64 b, .int .i64 c, .int .i64 d, .int .i64 x, .int .i64 y] 24)) (w.heap.size + 1 + 1 + 1) 24 [.int .i64 a, .int .i64 b, .int .i64 c, .int .i64 d, .int .i64 x, .int .i64 y]) := Lib.hid (Blk.mk_ (by simp))
    have HW : Hid (Below w.heap.size w ((((w.alloc (.cells #[.int .i64 a, .int .i64 b] 24)).alloc (.cells #[.int .i64 c, .int .i64 d] 24)).alloc (.cells #[.int .i64 x, .int .i64 y] 24)).alloc (.cells #[.int .i64 a, .int .i64 b, .int .i64 c, .int .i64 d, .int .i64 x, .int .i64 y] 24))) := Lib.hid (((((Below.refl _ _).alloc (Nat.le_refl _) _).alloc (by simp) _).alloc (by simp; omega) _).alloc (by simp; omega) _)
    generalize ((((w.alloc (.cells #[.int .i64 a, .int .i64 b] 24)).alloc (.cells #[.int .i64 c, .int .i64 d] 24)).alloc (.cells #[.int .i64 x, .int .i64 y] 24)).alloc (.cells #[.int .i64 a, .int .i64 b, .int .i64 c, .int .i64 d, .int .i64 x, .int .i64 y] 24)) = V at P0 P1 P2 P3 HW  ⊢
    refine (on3_any _ a b c d x y _ (P3.out.cell 0) (P3.out.cell 1) (P3.out.cell 2) (P3.out.cell 3) (P3.out.cell 4) (P3.out.cell 5) P3.out.lt).mono ?_
    rintro e W ⟨rfl, hB⟩
    have HW1 := Lib.hid (HW.out.trans (hB.mono HW.out.size))
    have Q0 := Lib.hid (P0.out.keep hB)
    have Q1 := Lib.hid (P1.out.keep hB)
    have Q2 := Lib.hid (P2.out.keep hB)
    clear hB HW P0 P1 P2 P3
    go_wp2_with fail
    replace Q0 : Hid (Pt W.drew (w.heap.size) 24 (a) (b)) := Lib.hid Q0.out
    replace Q1 : Hid (Pt W.drew (w.heap.size + 1) 24 (c) (d)) := Lib.hid Q1.out
    replace Q2 : Hid (Pt W.drew (w.heap.size + 1 + 1) 24 (x) (y)) := Lib.hid Q2.out
    replace HW1 : Hid (Below w.heap.size w W.drew) := Lib.hid (below_drewN HW1.out 1)
    have Q0a := Q0.out.c0
    have Q0b := Q0.out.c1
    have Q1a := Q1.out.c0
    have Q1b := Q1.out.c1
    have Q2a := Q2.out.c0
    have Q2b := Q2.out.c1
    go_region_held3 (fun w' => w'.cell? ⟨w.heap.size, 0, none⟩ = some (.int .i64 a) ∧ w'.cell? ⟨w.heap.size, 1, none⟩ = some (.int .i64 b) ∧ w'.cell? ⟨w.heap.size + 1, 0, none⟩ = some (.int .i64 c) ∧ w'.cell? ⟨w.heap.size + 1, 1, none⟩ = some (.int .i64 d) ∧ w'.cell? ⟨w.heap.size + 1 + 1, 0, none⟩ = some (.int .i64 x) ∧ w'.cell? ⟨w.heap.size + 1 + 1, 1, none⟩ = some (.int .i64 y)) (exact ⟨Q0.out.c0, Q0.out.c1, Q1.out.c0, Q1.out.c1, Q2.out.c0, Q2.out.c1⟩)
      (first
        | (go_at_call 54
           refine (number_any _ _ _).mono ?_
           rintro e X ⟨rfl, hB⟩
           replace HW1 := Lib.hid (HW1.out.trans (hB.mono HW1.out.size))
           replace Q0 := Lib.hid (Q0.out.keep hB)
           replace Q1 := Lib.hid (Q1.out.keep hB)
           replace Q2 := Lib.hid (Q2.out.keep hB)
           clear hB Q0a Q0b Q1a Q1b Q2a Q2b
           have Q0a := Q0.out.c0
           have Q0b := Q0.out.c1
           have Q1a := Q1.out.c0
           have Q1b := Q1.out.c1
           have Q2a := Q2.out.c0
           have Q2b := Q2.out.c1))
    go_wp2_with fail
    refine (conj_any _ _ _).mono ?_
    rintro e X2 ⟨rfl, rfl⟩
    go_wp2
    go_ret
    exact ⟨by rw [HE.out]; rfl, HW1.out⟩


set_option maxRecDepth 100000 in
set_option maxHeartbeats 2000000 in
theorem side_zero (a b c d x y : Int) (w : World) (hon : On a b ∧ On c d ∧ On x y) (hcr : crossP a b c d x y = 0) :
    Calls Try.prog 29 #[.agg #[.int .i64 a, .int .i64 b], .agg #[.int .i64 c, .int .i64 d], .agg #[.int .i64 x, .int .i64 y]] w fun e w' => e = .returned (.int .i64 (sideP a b c d x y)) ∧ Below w.heap.size w w' := by
    have HE : Hid (sideP a b c d x y = 0) := Lib.hid (by unfold sideP; rw [if_pos hon, if_neg (by omega), if_neg (by omega)])
    have b0 : decide (On a b ∧ On c d ∧ On x y) = true := decide_eq_true hon
    obtain ⟨⟨o1, o2, o3, o4⟩, ⟨o5, o6, o7, o8⟩, o9, p1, p2, p3⟩ := hon
    obtain ⟨re, im, hc, hre, him⟩ := cdiff (IsF.of_int (n := c) (by omega)) (IsF.of_int (n := d) (by omega)) (IsF.of_int (n := a) (by omega)) (IsF.of_int (n := b) (by omega)) (by omega) (by omega)
    have hop := fun t w => run_complex_sum (P := Try.prog) w .sub (Or.inr rfl) t .f64 _ _ _ _ re im hc
    obtain ⟨se, sm, hc2, hse, hsm⟩ := cdiff (IsF.of_int (n := x) (by omega)) (IsF.of_int (n := y) (by omega)) (IsF.of_int (n := a) (by omega)) (IsF.of_int (n := b) (by omega)) (by omega) (by omega)
    have hop2 := fun t w => run_complex_sum (P := Try.prog) w .sub (Or.inr rfl) t .f64 _ _ _ _ se sm hc2
    have m1 := mul_bound (a := c - a) (b := x - a) (A := 2000) (B := 2000) (by omega) (by omega) (by omega) (by omega)
    have m2 := mul_bound (a := -(d - b)) (b := y - b) (A := 2000) (B := 2000) (by omega) (by omega) (by omega) (by omega)
    have m3 := mul_bound (a := c - a) (b := y - b) (A := 2000) (B := 2000) (by omega) (by omega) (by omega) (by omega)
    have m4 := mul_bound (a := -(d - b)) (b := x - a) (A := 2000) (B := 2000) (by omega) (by omega) (by omega) (by omega)
    obtain ⟨tr, ti, hm, htr, hti⟩ := cprod hre him.neg hse hsm (by omega) (by omega) (by omega) (by omega) (by omega) (by omega)
    have hop3 := fun t w => run_complex_mul (P := Try.prog) w t _ _ _ _ tr ti hm
    have hz : (c - a) * (y - b) + -(d - b) * (x - a) = crossP a b c d x y := by unfold crossP; rw [Int.neg_mul]; omega
    rw [hz] at hti
    have b1 : (FloatKind.f64.format.order ti 0 == some .gt) = false := by rw [hti.order IsF.zero, hcr]; rfl
    have b2 : (FloatKind.f64.format.order ti 0 == some .lt) = false := by rw [hti.order IsF.zero, hcr]; rfl
    clear hc hc2 hre him hse hsm hm htr hti m1 m2 m3 m4 o1 o2 o3 o4 o5 o6 o7 o8 o9 p1 p2 p3 hz hcr
    go_enter Try.func29, Try.ntmps29
    go_wp2_with fail
    have P0 : Hid (Pt ((((w.alloc (.cells #[.int .i64 a, .int .i64 b] 24)).alloc (.cells #[.int .i64 c, .int .i64 d] 24)).alloc (.cells #[.int .i64 x, .int .i64 y] 24)).alloc (.cells #[.int .i64 a, .int .i64 b, .int .i64 c, .int .i64 d, .int .i64 x, .int .i64 y] 24)) (w.heap.size) 24 (a) (b)) := Lib.hid ((((Pt.mk_ rfl).alloc _).alloc _).alloc _)
    have P1 : Hid (Pt ((((w.alloc (.cells #[.int .i64 a, .int .i64 b] 24)).alloc (.cells #[.int .i64 c, .int .i64 d] 24)).alloc (.cells #[.int .i64 x, .int .i64 y] 24)).alloc (.cells #[.int .i64 a, .int .i64 b, .int .i64 c, .int .i64 d, .int .i64 x, .int .i64 y] 24)) (w.heap.size + 1) 24 (c) (d)) := Lib.hid (((Pt.mk_ (by simp)).alloc _).alloc _)
    have P2 : Hid (Pt ((((w.alloc (.cells #[.int .i64 a, .int .i64 b] 24)).alloc (.cells #[.int .i64 c, .int .i64 d] 24)).alloc (.cells #[.int .i64 x, .int .i64 y] 24)).alloc (.cells #[.int .i64 a, .int .i64 b, .int .i64 c, .int .i64 d, .int .i64 x, .int .i64 y] 24)) (w.heap.size + 1 + 1) 24 (x) (y)) := Lib.hid ((Pt.mk_ (by simp)).alloc _)
    have P3 : Hid (Blk ((((w.alloc (.cells #[.int .i64 a, .int .i64 b] 24)).alloc (.cells #[.int .i64 c, .int .i64 d] 24)).alloc (.cells #[.int .i64 x, .int .i64 y] 24)).alloc (.cells #[.int .i64 a, .int .i64 b, .int .i64 c, .int .i64 d, .int .i64 x, .int .i64 y] 24)) (w.heap.size + 1 + 1 + 1) 24 [.int .i64 a, .int .i64 b, .int .i64 c, .int .i64 d, .int .i64 x, .int .i64 y]) := Lib.hid (Blk.mk_ (by simp))
    have HW : Hid (Below w.heap.size w ((((w.alloc (.cells #[.int .i64 a, .int .i64 b] 24)).alloc (.cells #[.int .i64 c, .int .i64 d] 24)).alloc (.cells #[.int .i64 x, .int .i64 y] 24)).alloc (.cells #[.int .i64 a, .int .i64 b, .int .i64 c, .int .i64 d, .int .i64 x, .int .i64 y] 24))) := Lib.hid (((((Below.refl _ _).alloc (Nat.le_refl _) _).alloc (by simp) _).alloc (by simp; omega) _).alloc (by simp; omega) _)
    generalize ((((w.alloc (.cells #[.int .i64 a, .int .i64 b] 24)).alloc (.cells #[.int .i64 c, .int .i64 d] 24)).alloc (.cells #[.int .i64 x, .int .i64 y] 24)).alloc (.cells #[.int .i64 a, .int .i64 b, .int .i64 c, .int .i64 d, .int .i64 x, .int .i64 y] 24)) = V at P0 P1 P2 P3 HW  ⊢
    refine (on3_any _ a b c d x y _ (P3.out.cell 0) (P3.out.cell 1) (P3.out.cell 2) (P3.out.cell 3) (P3.out.cell 4) (P3.out.cell 5) P3.out.lt).mono ?_
    rintro e W ⟨rfl, hB⟩
    have HW1 := Lib.hid (HW.out.trans (hB.mono HW.out.size))
    have Q0 := Lib.hid (P0.out.keep hB)
    have Q1 := Lib.hid (P1.out.keep hB)
    have Q2 := Lib.hid (P2.out.keep hB)
    clear hB HW P0 P1 P2 P3
    go_wp2_with fail
    replace Q0 : Hid (Pt W.drew (w.heap.size) 24 (a) (b)) := Lib.hid Q0.out
    replace Q1 : Hid (Pt W.drew (w.heap.size + 1) 24 (c) (d)) := Lib.hid Q1.out
    replace Q2 : Hid (Pt W.drew (w.heap.size + 1 + 1) 24 (x) (y)) := Lib.hid Q2.out
    replace HW1 : Hid (Below w.heap.size w W.drew) := Lib.hid (below_drewN HW1.out 1)
    have Q0a := Q0.out.c0
    have Q0b := Q0.out.c1
    have Q1a := Q1.out.c0
    have Q1b := Q1.out.c1
    have Q2a := Q2.out.c0
    have Q2b := Q2.out.c1
    go_region_held3 (fun w' => w'.cell? ⟨w.heap.size, 0, none⟩ = some (.int .i64 a) ∧ w'.cell? ⟨w.heap.size, 1, none⟩ = some (.int .i64 b) ∧ w'.cell? ⟨w.heap.size + 1, 0, none⟩ = some (.int .i64 c) ∧ w'.cell? ⟨w.heap.size + 1, 1, none⟩ = some (.int .i64 d) ∧ w'.cell? ⟨w.heap.size + 1 + 1, 0, none⟩ = some (.int .i64 x) ∧ w'.cell? ⟨w.heap.size + 1 + 1, 1, none⟩ = some (.int .i64 y)) (exact ⟨Q0.out.c0, Q0.out.c1, Q1.out.c0, Q1.out.c1, Q2.out.c0, Q2.out.c1⟩)
      (first
        | (go_at_call 54
           refine (number_any _ _ _).mono ?_
           rintro e X ⟨rfl, hB⟩
           replace HW1 := Lib.hid (HW1.out.trans (hB.mono HW1.out.size))
           replace Q0 := Lib.hid (Q0.out.keep hB)
           replace Q1 := Lib.hid (Q1.out.keep hB)
           replace Q2 := Lib.hid (Q2.out.keep hB)
           clear hB Q0a Q0b Q1a Q1b Q2a Q2b
           have Q0a := Q0.out.c0
           have Q0b := Q0.out.c1
           have Q1a := Q1.out.c0
           have Q1b := Q1.out.c1
           have Q2a := Q2.out.c0
           have Q2b := Q2.out.c1))
    go_wp2_with fail
    refine (conj_any _ _ _).mono ?_
    rintro e X2 ⟨rfl, rfl⟩
    go_wp2
    go_ret
    exact ⟨by rw [HE.out]; rfl, HW1.out⟩


set_option maxRecDepth 100000 in
set_option maxHeartbeats 2000000 in
theorem side_off (a b c d x y : Int) (w : World) (hon : ¬ (On a b ∧ On c d ∧ On x y)) :
    Calls Try.prog 29 #[.agg #[.int .i64 a, .int .i64 b], .agg #[.int .i64 c, .int .i64 d], .agg #[.int .i64 x, .int .i64 y]] w fun e w' => e = .returned (.int .i64 (sideP a b c d x y)) ∧ Below w.heap.size w w' := by
    have HE : Hid (sideP a b c d x y = 0) := Lib.hid (by unfold sideP; rw [if_neg hon])
    have b0 : decide (On a b ∧ On c d ∧ On x y) = false := decide_eq_false hon
    clear hon
    go_enter Try.func29, Try.ntmps29
    go_wp2_with fail
    have P3 : Hid (Blk ((((w.alloc (.cells #[.int .i64 a, .int .i64 b] 24)).alloc (.cells #[.int .i64 c, .int .i64 d] 24)).alloc (.cells #[.int .i64 x, .int .i64 y] 24)).alloc (.cells #[.int .i64 a, .int .i64 b, .int .i64 c, .int .i64 d, .int .i64 x, .int .i64 y] 24)) (w.heap.size + 1 + 1 + 1) 24 [.int .i64 a, .int .i64 b, .int .i64 c, .int .i64 d, .int .i64 x, .int .i64 y]) := Lib.hid (Blk.mk_ (by simp))
    have HW : Hid (Below w.heap.size w ((((w.alloc (.cells #[.int .i64 a, .int .i64 b] 24)).alloc (.cells #[.int .i64 c, .int .i64 d] 24)).alloc (.cells #[.int .i64 x, .int .i64 y] 24)).alloc (.cells #[.int .i64 a, .int .i64 b, .int .i64 c, .int .i64 d, .int .i64 x, .int .i64 y] 24))) := Lib.hid (((((Below.refl _ _).alloc (Nat.le_refl _) _).alloc (by simp) _).alloc (by simp; omega) _).alloc (by simp; omega) _)
    generalize ((((w.alloc (.cells #[.int .i64 a, .int .i64 b] 24)).alloc (.cells #[.int .i64 c, .int .i64 d] 24)).alloc (.cells #[.int .i64 x, .int .i64 y] 24)).alloc (.cells #[.int .i64 a, .int .i64 b, .int .i64 c, .int .i64 d, .int .i64 x, .int .i64 y] 24)) = V at P3 HW  ⊢
    refine (on3_any _ a b c d x y _ (P3.out.cell 0) (P3.out.cell 1) (P3.out.cell 2) (P3.out.cell 3) (P3.out.cell 4) (P3.out.cell 5) P3.out.lt).mono ?_
    rintro e W ⟨rfl, hB⟩
    have HW1 := Lib.hid (HW.out.trans (hB.mono HW.out.size))
    clear hB HW P3
    go_wp2
    go_ret
    exact ⟨by rw [HE.out]; rfl, HW1.out⟩

theorem side_any (a b c d x y : Int) (w : World) :
    Calls Try.prog 29 #[.agg #[.int .i64 a, .int .i64 b], .agg #[.int .i64 c, .int .i64 d], .agg #[.int .i64 x, .int .i64 y]] w fun e w' => e = .returned (.int .i64 (sideP a b c d x y)) ∧ Below w.heap.size w w' := by
  by_cases hon : On a b ∧ On c d ∧ On x y
  · rcases Int.lt_trichotomy (crossP a b c d x y) 0 with h | h | h
    · exact side_neg a b c d x y w hon h
    · exact side_zero a b c d x y w hon h
    · exact side_pos a b c d x y w hon h
  · exact side_off a b c d x y w hon

theorem rotX_succ (k : Nat) : ∀ x y, rotX (k + 1) x y = -(rotY k x y) := by
  induction k with
  | zero => intro x y; rfl
  | succ k ih => intro x y; rw [rotX, ih]; rfl
theorem rotY_succ (k : Nat) : ∀ x y, rotY (k + 1) x y = rotX k x y := by
  induction k with
  | zero => intro x y; rfl
  | succ k ih => intro x y; rw [rotY, ih]; rfl
theorem rot_bound (k : Nat) : ∀ x y, -2000 ≤ x → x ≤ 2000 → -2000 ≤ y → y ≤ 2000 → (-2000 ≤ rotX k x y ∧ rotX k x y ≤ 2000) ∧ (-2000 ≤ rotY k x y ∧ rotY k x y ≤ 2000) := by
  induction k with
  | zero => intro x y h1 h2 h3 h4; exact ⟨⟨h1, h2⟩, h3, h4⟩
  | succ k ih => intro x y h1 h2 h3 h4; exact ih (-y) x (by omega) (by omega) h1 h2

/-- A quarter more. -/
theorem quarter {u v : Nat} {x y : Int} (hu : IsF u x) (hv : IsF v y) (h1 : -2000 ≤ x ∧ x ≤ 2000) (h2 : -2000 ≤ y ∧ y ≤ 2000) :
    ∃ re im, cMulBits u v 0 4607182418800017408 = some (re, im) ∧ IsF re (-y) ∧ IsF im x := by
  obtain ⟨re, im, h, hr, hi⟩ := cprod hu hv IsF.zero IsF.one (by omega) (by omega) (by omega) (by omega) (by omega) (by omega)
  rw [show x * 0 - y * 1 = -y by omega] at hr
  rw [show x * 1 + y * 0 = x by omega] at hi
  exact ⟨re, im, h, hr, hi⟩


set_option maxRecDepth 100000 in
set_option maxHeartbeats 2000000 in
theorem turn_any (a b c d n : Int) (w : World) :
    Calls Try.prog 19 #[.agg #[.int .i64 a, .int .i64 b], .agg #[.int .i64 c, .int .i64 d], .int .i64 n] w fun e w' => e = .returned (resV (turnP a b c d n)) ∧ Below w.heap.size w w' := by
  by_cases hon : On a b ∧ On c d
  · obtain ⟨q, hq, q4⟩ : ∃ q : Nat, n % 4 = (q : Int) ∧ q < 4 := ⟨(n % 4).toNat, by omega, by omega⟩
    have HE : Hid (turnP a b c d n = held (c + rotX q (a - c) (b - d)) (d + rotY q (a - c) (b - d))) := Lib.hid (by unfold turnP; rw [if_pos hon, hq]; rfl)
    have b0 : decide (On a b ∧ On c d) = true := decide_eq_true hon
    have hq2 : bits .and .i64 n 3 = (q : Int) := by rw [i64_and3]; exact hq
    clear hq
    obtain ⟨⟨o1, o2, o3, o4⟩, o5, o6, o7, o8⟩ := hon
    obtain ⟨re, im, hc, hre, him⟩ := cdiff (IsF.of_int (n := a) (by omega)) (IsF.of_int (n := b) (by omega)) (IsF.of_int (n := c) (by omega)) (IsF.of_int (n := d) (by omega)) (by omega) (by omega)
    have hop := fun t w => run_complex_sum (P := Try.prog) w .sub (Or.inr rfl) t .f64 _ _ _ _ re im hc
    have HR : Hid (∀ k, (-2000 ≤ rotX k (a - c) (b - d) ∧ rotX k (a - c) (b - d) ≤ 2000) ∧ (-2000 ≤ rotY k (a - c) (b - d) ∧ rotY k (a - c) (b - d) ≤ 2000)) := Lib.hid fun k => rot_bound k _ _ (by omega) (by omega) (by omega) (by omega)
    have H0 : Hid (IsF re (a - c) ∧ IsF im (b - d)) := Lib.hid ⟨hre, him⟩
    have HF : Hid (IsF (floatOfInt .f64 c) c ∧ IsF (floatOfInt .f64 d) d ∧ (-1000 ≤ c ∧ c ≤ 1000 ∧ -1000 ≤ d ∧ d ≤ 1000)) := Lib.hid ⟨(IsF.of_int (n := c) (by omega)), (IsF.of_int (n := d) (by omega)), o5, o6, o7, o8⟩
    clear hc hre him o1 o2 o3 o4 o5 o6 o7 o8
    go_enter Try.func19, Try.ntmps19
    go_wp2_with fail
    have P0 : Hid (Pt ((((w.alloc (.cells #[.int .i64 a, .int .i64 b] 24)).alloc (.cells #[.int .i64 c, .int .i64 d] 24)).alloc (.cells #[.int .i64 0, .int .i64 0] 24)).alloc (.cells #[.int .i64 a, .int .i64 b, .int .i64 c, .int .i64 d] 24)) (w.heap.size) 24 (a) (b)) := Lib.hid ((((Pt.mk_ rfl).alloc _).alloc _).alloc _)
    have P1 : Hid (Pt ((((w.alloc (.cells #[.int .i64 a, .int .i64 b] 24)).alloc (.cells #[.int .i64 c, .int .i64 d] 24)).alloc (.cells #[.int .i64 0, .int .i64 0] 24)).alloc (.cells #[.int .i64 a, .int .i64 b, .int .i64 c, .int .i64 d] 24)) (w.heap.size + 1) 24 (c) (d)) := Lib.hid (((Pt.mk_ (by simp)).alloc _).alloc _)
    have P2 : Hid (Pt ((((w.alloc (.cells #[.int .i64 a, .int .i64 b] 24)).alloc (.cells #[.int .i64 c, .int .i64 d] 24)).alloc (.cells #[.int .i64 0, .int .i64 0] 24)).alloc (.cells #[.int .i64 a, .int .i64 b, .int .i64 c, .int .i64 d] 24)) (w.heap.size + 1 + 1) 24 (0) (0)) := Lib.hid ((Pt.mk_ (by simp)).alloc _)
    have P3 : Hid (Blk ((((w.alloc (.cells #[.int .i64 a, .int .i64 b] 24)).alloc (.cells #[.int .i64 c, .int .i64 d] 24)).alloc (.cells #[.int .i64 0, .int .i64 0] 24)).alloc (.cells #[.int .i64 a, .int .i64 b, .int .i64 c, .int .i64 d] 24)) (w.heap.size + 1 + 1 + 1) 24 [.int .i64 a, .int .i64 b, .int .i64 c, .int .i64 d]) := Lib.hid (Blk.mk_ (by simp))
    have HW : Hid (Below w.heap.size w ((((w.alloc (.cells #[.int .i64 a, .int .i64 b] 24)).alloc (.cells #[.int .i64 c, .int .i64 d] 24)).alloc (.cells #[.int .i64 0, .int .i64 0] 24)).alloc (.cells #[.int .i64 a, .int .i64 b, .int .i64 c, .int .i64 d] 24))) := Lib.hid (((((Below.refl _ _).alloc (Nat.le_refl _) _).alloc (by simp) _).alloc (by simp; omega) _).alloc (by simp; omega) _)
    generalize ((((w.alloc (.cells #[.int .i64 a, .int .i64 b] 24)).alloc (.cells #[.int .i64 c, .int .i64 d] 24)).alloc (.cells #[.int .i64 0, .int .i64 0] 24)).alloc (.cells #[.int .i64 a, .int .i64 b, .int .i64 c, .int .i64 d] 24)) = V at P0 P1 P2 P3 HW  ⊢
    refine (on2_any _ a b c d _ (P3.out.cell 0) (P3.out.cell 1) (P3.out.cell 2) (P3.out.cell 3) P3.out.lt).mono ?_
    rintro e W ⟨rfl, hB⟩
    have HW1 := Lib.hid (HW.out.trans (hB.mono HW.out.size))
    have Q0 := Lib.hid (P0.out.keep hB)
    have Q1 := Lib.hid (P1.out.keep hB)
    have Q2 := Lib.hid (P2.out.keep hB)
    clear hB HW P0 P1 P2 P3
    go_wp2_with fail
    replace Q0 : Hid (Pt W.drew (w.heap.size) 24 (a) (b)) := Lib.hid Q0.out
    replace Q1 : Hid (Pt W.drew (w.heap.size + 1) 24 (c) (d)) := Lib.hid Q1.out
    replace Q2 : Hid (Pt W.drew (w.heap.size + 1 + 1) 24 (0) (0)) := Lib.hid Q2.out
    replace HW1 : Hid (Below w.heap.size w W.drew) := Lib.hid (below_drewN HW1.out 1)
    have Q0a := Q0.out.c0
    have Q0b := Q0.out.c1
    have Q1a := Q1.out.c0
    have Q1b := Q1.out.c1
    have Q2a := Q2.out.c0
    have Q2b := Q2.out.c1
    go_region_held3 (fun w' => w'.cell? ⟨w.heap.size, 0, none⟩ = some (.int .i64 a) ∧ w'.cell? ⟨w.heap.size, 1, none⟩ = some (.int .i64 b) ∧ w'.cell? ⟨w.heap.size + 1, 0, none⟩ = some (.int .i64 c) ∧ w'.cell? ⟨w.heap.size + 1, 1, none⟩ = some (.int .i64 d)) (exact ⟨Q0.out.c0, Q0.out.c1, Q1.out.c0, Q1.out.c1⟩)
      (first
        | (go_at_call 54
           refine (number_any _ _ _).mono ?_
           rintro e X ⟨rfl, hB⟩
           replace HW1 := Lib.hid (HW1.out.trans (hB.mono HW1.out.size))
           replace Q0 := Lib.hid (Q0.out.keep hB)
           replace Q1 := Lib.hid (Q1.out.keep hB)
           replace Q2 := Lib.hid (Q2.out.keep hB)
           clear hB Q0a Q0b Q1a Q1b Q2a Q2b
           have Q0a := Q0.out.c0
           have Q0b := Q0.out.c1
           have Q1a := Q1.out.c0
           have Q1b := Q1.out.c1
           have Q2a := Q2.out.c0
           have Q2b := Q2.out.c1))
    clear hop
    go_wp2_with fail
    go_loop [8, 22] (fun z i => ∃ (k u v : Nat), k ≤ q ∧ i = .int .i64 k ∧ z = .complex .f64 u v ∧ Hid (IsF u (rotX k (a - c) (b - d)) ∧ IsF v (rotY k (a - c) (b - d)))) (fun _ i => q - (intOf i).toNat)
    case atStart => exact ⟨0, re, im, Nat.zero_le _, rfl, rfl, H0⟩
    case round =>
      obtain ⟨k, u, v, hk, rfl, rfl, HU⟩ := hrel
      by_cases hlt : k < q
      · obtain ⟨ne, ni, hm, hne, hni⟩ := quarter HU.out.1 HU.out.2 (HR.out k).1 (HR.out k).2
        have hop := fun t w => run_complex_mul (P := Try.prog) w t _ _ _ _ ne ni hm
        have HN : Hid (IsF ne (rotX (k + 1) (a - c) (b - d)) ∧ IsF ni (rotY (k + 1) (a - c) (b - d))) := Lib.hid ⟨by rw [rotX_succ]; exact hne, by rw [rotY_succ]; exact hni⟩
        clear hm hne hni
        go_wp2
        go_round
        case rel => exact ⟨k + 1, ne, ni, by omega, by go_num, rfl, HN⟩
        case measure => simp [intOf]; omega
      · obtain rfl : k = q := by omega
        have r1 := HR.out k
        have r2 := HF.out.2.2
        obtain ⟨se, si, hs, hse, hsi⟩ := csum HF.out.1 HF.out.2.1 HU.out.1 HU.out.2 (by omega) (by omega)
        have hop := fun t w => run_complex_sum (P := Try.prog) w .add (Or.inl rfl) t .f64 _ _ _ _ se si hs
        have HC : Hid (∀ w, Calls Try.prog 53 #[.complex .f64 se si] w fun e w' => e = .returned (.tuple #[.agg #[.int .i64 (held (c + rotX k (a - c) (b - d)) (d + rotY k (a - c) (b - d))).x, .int .i64 (held (c + rotX k (a - c) (b - d)) (d + rotY k (a - c) (b - d))).y], .int .i64 (held (c + rotX k (a - c) (b - d)) (d + rotY k (a - c) (b - d))).e]) ∧ Below w.heap.size w w') := Lib.hid fun w => spotAt_any se si _ _ w hse hsi (by omega) (by omega)
        clear hs hse hsi r1 r2 HU HR H0 HF
        generalize held (c + rotX k (a - c) (b - d)) (d + rotY k (a - c) (b - d)) = R at HE HC
        obtain ⟨rx, ry, re'⟩ := R
        simp only at HC
        have Q2c := Q2.out.f0
        have Q2d := Q2.out.f1
        go_wp2_with fail
        refine (number_any _ _ _).mono ?_
        rintro e Y ⟨rfl, hB⟩
        replace HW1 := Lib.hid (HW1.out.trans (hB.mono HW1.out.size))
        replace Q0 := Lib.hid (Q0.out.keep hB)
        replace Q1 := Lib.hid (Q1.out.keep hB)
        replace Q2 := Lib.hid (Q2.out.keep hB)
        clear hB Q0a Q0b Q1a Q1b Q2a Q2b Q2c Q2d
        have Q0a := Q0.out.c0
        have Q0b := Q0.out.c1
        have Q1a := Q1.out.c0
        have Q1b := Q1.out.c1
        have Q2a := Q2.out.c0
        have Q2b := Q2.out.c1
        have Q2c := Q2.out.f0
        have Q2d := Q2.out.f1
        go_wp2_with fail
        refine (HC.out _).mono ?_
        rintro e Z ⟨rfl, hB⟩
        replace HW1 := Lib.hid (HW1.out.trans (hB.mono HW1.out.size))
        replace Q0 := Lib.hid (Q0.out.keep hB)
        replace Q1 := Lib.hid (Q1.out.keep hB)
        replace Q2 := Lib.hid (Q2.out.keep hB)
        clear hB Q0a Q0b Q1a Q1b Q2a Q2b Q2c Q2d
        have Q0a := Q0.out.c0
        have Q0b := Q0.out.c1
        have Q1a := Q1.out.c0
        have Q1b := Q1.out.c1
        have Q2a := Q2.out.c0
        have Q2b := Q2.out.c1
        have Q2c := Q2.out.f0
        have Q2d := Q2.out.f1
        go_wp2
        exact bodyPost_ret (results24 Try.results19 _ _ (w.heap.size + 1 + 1) 24 rx ry _ rfl rfl (Q2.out.set rx ry)) rfl ⟨by rw [HE.out]; rfl, (HW1.out.setCell (by simp; omega) _).setCell (by simp; omega) _⟩
  · have HE : Hid (turnP a b c d n = ⟨0, 0, 1⟩) := Lib.hid (by unfold turnP; rw [if_neg hon])
    have b0 : decide (On a b ∧ On c d) = false := decide_eq_false hon
    clear hon
    go_enter Try.func19, Try.ntmps19
    go_wp2_with fail
    have P2 : Hid (Pt ((((w.alloc (.cells #[.int .i64 a, .int .i64 b] 24)).alloc (.cells #[.int .i64 c, .int .i64 d] 24)).alloc (.cells #[.int .i64 0, .int .i64 0] 24)).alloc (.cells #[.int .i64 a, .int .i64 b, .int .i64 c, .int .i64 d] 24)) (w.heap.size + 1 + 1) 24 (0) (0)) := Lib.hid ((Pt.mk_ (by simp)).alloc _)
    have P3 : Hid (Blk ((((w.alloc (.cells #[.int .i64 a, .int .i64 b] 24)).alloc (.cells #[.int .i64 c, .int .i64 d] 24)).alloc (.cells #[.int .i64 0, .int .i64 0] 24)).alloc (.cells #[.int .i64 a, .int .i64 b, .int .i64 c, .int .i64 d] 24)) (w.heap.size + 1 + 1 + 1) 24 [.int .i64 a, .int .i64 b, .int .i64 c, .int .i64 d]) := Lib.hid (Blk.mk_ (by simp))
    have HW : Hid (Below w.heap.size w ((((w.alloc (.cells #[.int .i64 a, .int .i64 b] 24)).alloc (.cells #[.int .i64 c, .int .i64 d] 24)).alloc (.cells #[.int .i64 0, .int .i64 0] 24)).alloc (.cells #[.int .i64 a, .int .i64 b, .int .i64 c, .int .i64 d] 24))) := Lib.hid (((((Below.refl _ _).alloc (Nat.le_refl _) _).alloc (by simp) _).alloc (by simp; omega) _).alloc (by simp; omega) _)
    generalize ((((w.alloc (.cells #[.int .i64 a, .int .i64 b] 24)).alloc (.cells #[.int .i64 c, .int .i64 d] 24)).alloc (.cells #[.int .i64 0, .int .i64 0] 24)).alloc (.cells #[.int .i64 a, .int .i64 b, .int .i64 c, .int .i64 d] 24)) = V at P2 P3 HW  ⊢
    refine (on2_any _ a b c d _ (P3.out.cell 0) (P3.out.cell 1) (P3.out.cell 2) (P3.out.cell 3) P3.out.lt).mono ?_
    rintro e W ⟨rfl, hB⟩
    have HW1 := Lib.hid (HW.out.trans (hB.mono HW.out.size))
    have Q2 := Lib.hid (P2.out.keep hB)
    clear hB HW P2 P3
    have Q2a := Q2.out.c0
    have Q2b := Q2.out.c1
    have Q2c := Q2.out.f0
    have Q2d := Q2.out.f1
    go_wp2
    exact bodyPost_ret (results24 Try.results19 _ _ (w.heap.size + 1 + 1) 24 0 0 _ rfl rfl (Q2.out.set 0 0)) rfl ⟨by rw [HE.out]; rfl, (HW1.out.setCell (by simp; omega) _).setCell (by simp; omega) _⟩

end Go.Proofs.Ytjbjekejekmipaa
