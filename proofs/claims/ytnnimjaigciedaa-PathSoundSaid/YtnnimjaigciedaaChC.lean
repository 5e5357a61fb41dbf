/-
  chart's Mirror, Far, Side, Turn: what they answer; memory that was there stays as it was.
-/
import Derived.Test.YtnnimjaigciedaaM01
namespace Go.Proofs.Ytnnimjaigciedaa
open Go.RowKit
set_option linter.unusedVariables false


set_option maxRecDepth 100000 in
set_option maxHeartbeats 2000000 in
theorem far_any (a b c d : Int) (w : World) :
    Calls Try.prog 78 #[.agg #[.int .i64 a, .int .i64 b], .agg #[.int .i64 c, .int .i64 d]] w fun e w' => e = .returned (.int .i64 (farP a b c d)) ∧ Below w.heap.size w w' := by
  by_cases hon : On a b ∧ On c d
  · have HE : Hid (farP a b c d = (a - c) * (a - c) + (b - d) * (b - d)) := Lib.hid (by unfold farP; rw [if_pos hon])
    have b0 : decide (On a b ∧ On c d) = true := decide_eq_true hon
    obtain ⟨⟨o1, o2, o3, o4⟩, o5, o6, o7, o8⟩ := hon
    obtain ⟨re, im, hc, hre, him⟩ := cdiff (IsF.of_int (n := a) (by omega)) (IsF.of_int (n := b) (by omega)) (IsF.of_int (n := c) (by omega)) (IsF.of_int (n := d) (by omega)) (by omega) (by omega)
    have hop := fun t w => run_complex_sum (P := Try.prog) w .sub (Or.inr rfl) t .f64 _ _ _ _ re im hc
    have m1 := mul_bound (a := a - c) (b := a - c) (A := 2000) (B := 2000) (by omega) (by omega) (by omega) (by omega)
    have m2 := mul_bound (a := -(b - d)) (b := b - d) (A := 2000) (B := 2000) (by omega) (by omega) (by omega) (by omega)
    have m3 := mul_bound (a := a - c) (b := b - d) (A := 2000) (B := 2000) (by omega) (by omega) (by omega) (by omega)
    have m4 := mul_bound (a := -(b - d)) (b := a - c) (A := 2000) (B := 2000) (by omega) (by omega) (by omega) (by omega)
    obtain ⟨fr, fi, hm, hfr, hfi⟩ := cprod hre him.neg hre him (by omega) (by omega) (by omega) (by omega) (by omega) (by omega)
    have hop2 := fun t w => run_complex_mul (P := Try.prog) w t _ _ _ _ fr fi hm
    have hz : (a - c) * (a - c) - -(b - d) * (b - d) = (a - c) * (a - c) + (b - d) * (b - d) := by rw [Int.neg_mul]; omega
    have hcv : ∀ w, (convert 171 3 (.float .f64 fr)).run Try.prog w = .ok (.int .i64 ((a - c) * (a - c) + (b - d) * (b - d))) w := fun w => run_convert_float_int w 171 3 .f64 .i64 fr _ (by kernel_rfl) Try.underlying3 (hz ▸ hfr.toInt (by omega))
    clear hc hre him hm hfr hfi m1 m2 m3 m4 o1 o2 o3 o4 o5 o6 o7 o8 hz
    generalize (a - c) * (a - c) + (b - d) * (b - d) = R at HE hcv
    go_enter Try.func78, Try.ntmps78
    go_wp2_with fail
    have P0 : Hid (Pt (((w.alloc (.cells #[.int .i64 a, .int .i64 b] 62)).alloc (.cells #[.int .i64 c, .int .i64 d] 62)).alloc (.cells #[.int .i64 a, .int .i64 b, .int .i64 c, .int .i64 d] 62)) (w.heap.size) 62 (a) (b)) := Lib.hid (((Pt.mk_ rfl).alloc _).alloc _)
    have P1 : Hid (Pt (((w.alloc (.cells #[.int .i64 a, .int .i64 b] 62)).alloc (.cells #[.int .i64 c, .int .i64 d] 62)).alloc (.cells #[.int .i64 a, .int .i64 b, .int .i64 c, .int .i64 d] 62)) (w.heap.size + 1) 62 (c) (d)) := Lib.hid ((Pt.mk_ (by simp)).alloc _)
    have P3 : Hid (Blk (((w.alloc (.cells #[.int .i64 a, .int .i64 b] 62)).alloc (.cells #[.int .i64 c, .int .i64 d] 62)).alloc (.cells #[.int .i64 a, .int .i64 b, .int .i64 c, .int .i64 d] 62)) (w.heap.size + 1 + 1) 62 [.int .i64 a, .int .i64 b, .int .i64 c, .int .i64 d]) := Lib.hid (Blk.mk_ (by simp))
    have HW : Hid (Below w.heap.size w (((w.alloc (.cells #[.int .i64 a, .int .i64 b] 62)).alloc (.cells #[.int .i64 c, .int .i64 d] 62)).alloc (.cells #[.int .i64 a, .int .i64 b, .int .i64 c, .int .i64 d] 62))) := Lib.hid ((((Below.refl _ _).alloc (Nat.le_refl _) _).alloc (by simp) _).alloc (by simp; omega) _)
    generalize (((w.alloc (.cells #[.int .i64 a, .int .i64 b] 62)).alloc (.cells #[.int .i64 c, .int .i64 d] 62)).alloc (.cells #[.int .i64 a, .int .i64 b, .int .i64 c, .int .i64 d] 62)) = V at P0 P1 P3 HW  ⊢
    refine (on2_any _ a b c d _ (P3.out.cell 0) (P3.out.cell 1) (P3.out.cell 2) (P3.out.cell 3) P3.out.lt).mono ?_
    rintro e W ⟨rfl, hB⟩
    have HW1 := Lib.hid (HW.out.trans (hB.mono HW.out.size))
    have Q0 := Lib.hid (P0.out.keep hB)
    have Q1 := Lib.hid (P1.out.keep hB)
    clear hB HW P0 P1 P3
    go_wp2_with fail
    replace Q0 : Hid (Pt W.drew (w.heap.size) 62 (a) (b)) := Lib.hid Q0.out
    replace Q1 : Hid (Pt W.drew (w.heap.size + 1) 62 (c) (d)) := Lib.hid Q1.out
    replace HW1 : Hid (Below w.heap.size w W.drew) := Lib.hid (below_drewN HW1.out 1)
    have Q0a := Q0.out.c0
    have Q0b := Q0.out.c1
    have Q1a := Q1.out.c0
    have Q1b := Q1.out.c1
    go_region_held3 (fun w' => w'.cell? ⟨w.heap.size, 0, none⟩ = some (.int .i64 a) ∧ w'.cell? ⟨w.heap.size, 1, none⟩ = some (.int .i64 b) ∧ w'.cell? ⟨w.heap.size + 1, 0, none⟩ = some (.int .i64 c) ∧ w'.cell? ⟨w.heap.size + 1, 1, none⟩ = some (.int .i64 d)) (exact ⟨Q0.out.c0, Q0.out.c1, Q1.out.c0, Q1.out.c1⟩)
      (first
        | (go_at_call 103
           refine (number_any _ _ _).mono ?_
           rintro e X ⟨rfl, hB⟩
           replace HW1 := Lib.hid (HW1.out.trans (hB.mono HW1.out.size))
           replace Q0 := Lib.hid (Q0.out.keep hB)
           replace Q1 := Lib.hid (Q1.out.keep hB)
           clear hB Q0a Q0b Q1a Q1b
           have Q0a := Q0.out.c0
           have Q0b := Q0.out.c1
           have Q1a := Q1.out.c0
           have Q1b := Q1.out.c1))
    go_wp2_with fail
    refine (conj_any _ _ _).mono ?_
    rintro e X2 ⟨rfl, rfl⟩
    go_wp2
    go_ret
    exact ⟨by rw [HE.out]; rfl, HW1.out⟩
  · have HE : Hid (farP a b c d = -1) := Lib.hid (by unfold farP; rw [if_neg hon])
    have b0 : decide (On a b ∧ On c d) = false := decide_eq_false hon
    clear hon
    go_enter Try.func78, Try.ntmps78
    go_wp2_with fail
    have P3 : Hid (Blk (((w.alloc (.cells #[.int .i64 a, .int .i64 b] 62)).alloc (.cells #[.int .i64 c, .int .i64 d] 62)).alloc (.cells #[.int .i64 a, .int .i64 b, .int .i64 c, .int .i64 d] 62)) (w.heap.size + 1 + 1) 62 [.int .i64 a, .int .i64 b, .int .i64 c, .int .i64 d]) := Lib.hid (Blk.mk_ (by simp))
    have HW : Hid (Below w.heap.size w (((w.alloc (.cells #[.int .i64 a, .int .i64 b] 62)).alloc (.cells #[.int .i64 c, .int .i64 d] 62)).alloc (.cells #[.int .i64 a, .int .i64 b, .int .i64 c, .int .i64 d] 62))) := Lib.hid ((((Below.refl _ _).alloc (Nat.le_refl _) _).alloc (by simp) _).alloc (by simp; omega) _)
    generalize (((w.alloc (.cells #[.int .i64 a, .int .i64 b] 62)).alloc (.cells #[.int .i64 c, .int .i64 d] 62)).alloc (.cells #[.int .i64 a, .int .i64 b, .int .i64 c, .int .i64 d] 62)) = V at P3 HW  ⊢
    refine (on2_any _ a b c d _ (P3.out.cell 0) (P3.out.cell 1) (P3.out.cell 2) (P3.out.cell 3) P3.out.lt).mono ?_
    rintro e W ⟨rfl, hB⟩
    have HW1 := Lib.hid (HW.out.trans (hB.mono HW.out.size))
    clear hB HW P3
    go_wp2
    go_ret
    exact ⟨by rw [HE.out]; rfl, HW1.out⟩


theorem compare_pos {n : Int} (h : 0 < n) : compare n 0 = .gt := by
  show compareOfLessAndEq _ _ = _
  unfold compareOfLessAndEq
  rw [if_neg (by omega), if_neg (by omega)]
theorem compare_neg {n : Int} (h : n < 0) : compare n 0 = .lt := by
  show compareOfLessAndEq _ _ = _
  unfold compareOfLessAndEq
  rw [if_pos h]


theorem rotX_succ (k : Nat) : ∀ x y, rotX (k + 1) x y = -(rotY k x y) := by
  induction k with
  | zero => intro x y; rfl
  | succ k ih => intro x y; rw [rotX, ih]; rfl
theorem rotY_succ (k : Nat) : ∀ x y, rotY (k + 1) x y = rotX k x y := by
  induction k with
  | zero => intro x y; rfl
  | succ k ih => intro x y; rw [rotY, ih]; rfl
theorem rot_bound (k : Nat) : ∀ x y, -2000 ≤ x → x ≤ 2000 → -2000 ≤ y → y ≤ 2000 → (-2000 ≤ rotX k x y ∧ rotX k x y ≤ 2000) ∧ (-2000 ≤ rotY k x y ∧ rotY k x y ≤ 2000) := by
  induction k with
  | zero => intro x y h1 h2 h3 h4; exact ⟨⟨h1, h2⟩, h3, h4⟩
  | succ k ih => intro x y h1 h2 h3 h4; exact ih (-y) x (by omega) (by omega) h1 h2

/-- A quarter more. -/
theorem quarter {u v : Nat} {x y : Int} (hu : IsF u x) (hv : IsF v y) (h1 : -2000 ≤ x ∧ x ≤ 2000) (h2 : -2000 ≤ y ∧ y ≤ 2000) :
    ∃ re im, cMulBits u v 0 4607182418800017408 = some (re, im) ∧ IsF re (-y) ∧ IsF im x := by
  obtain ⟨re, im, h, hr, hi⟩ := cprod hu hv IsF.zero IsF.one (by omega) (by omega) (by omega) (by omega) (by omega) (by omega)
  rw [show x * 0 - y * 1 = -y by omega] at hr
  rw [show x * 1 + y * 0 = x by omega] at hi
  exact ⟨re, im, h, hr, hi⟩


end Go.Proofs.Ytnnimjaigciedaa
