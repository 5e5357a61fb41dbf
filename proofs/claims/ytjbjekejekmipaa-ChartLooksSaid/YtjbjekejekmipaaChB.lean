/-
  chart's spotAt, Move, Times, Turn, Mirror, Far, Side: what they answer; memory that was there stays as it was.
-/
import Derived.Test.YtjbjekejekmipaaChA
import Derived.Laws.ResultCell
namespace Go.Proofs.Ytjbjekejekmipaa
open Go.RowKit
set_option linter.unusedVariables false

theorem load24 (w : World) (g t : Nat) (x y : Int) (h : Pt w g t x y) : (loadVar 24 ⟨g, 0, none⟩).run Try.prog w = .ok (.agg #[.int .i64 x, .int .i64 y]) w := by
  have k1 := h.c0
  have k2 := h.c1
  go_simp
theorem load23 (w : World) (g t : Nat) (x y : Int) (h : Pt w g t x y) : (loadVar 23 ⟨g, 0, none⟩).run Try.prog w = .ok (.agg #[.int .i64 x, .int .i64 y]) w := by
  have k1 := h.c0
  have k2 := h.c1
  go_simp

theorem results24 {fn : Func} {p u : Tmp} (h : fn.results = #[.cell p 24, .tmp u]) (tmps : Array Value) (w : World) (g t : Nat) (x y : Int) (v : Value) (hp : tmps.getD p undef = .pointer (some ⟨g, 0, none⟩)) (hu : tmps.getD u undef = v) (hP : Pt w g t x y) :
    (results fn tmps).run Try.prog w = .ok (.tuple #[.agg #[.int .i64 x, .int .i64 y], v]) w := by
  rw [results_cell_tmp h, hp, hu]
  simp [asAddr, Result.andThen, load24 w g t x y hP]
theorem results23 {fn : Func} {p u : Tmp} (h : fn.results = #[.cell p 23, .tmp u]) (tmps : Array Value) (w : World) (g t : Nat) (x y : Int) (v : Value) (hp : tmps.getD p undef = .pointer (some ⟨g, 0, none⟩)) (hu : tmps.getD u undef = v) (hP : Pt w g t x y) :
    (results fn tmps).run Try.prog w = .ok (.tuple #[.agg #[.int .i64 x, .int .i64 y], v]) w := by
  rw [results_cell_tmp h, hp, hu]
  simp [asAddr, Result.andThen, load23 w g t x y hP]



set_option maxRecDepth 100000 in
set_option maxHeartbeats 1000000 in
theorem spotAt_any (u v : Nat) (x y : Int) (w : World) (hx : IsF u x) (hy : IsF v y) (bx : x.natAbs < 2 ^ 53) (yb : y.natAbs < 2 ^ 53) :
    Calls Try.prog 53 #[.complex .f64 u v] w fun e w' => e = .returned (resV (held x y)) ∧ Below w.heap.size w w' := by
  have c1 : ∀ w, (convert 106 3 (.float .f64 u)).run Try.prog w = .ok (.int .i64 x) w := fun w => run_convert_float_int w 106 3 .f64 .i64 u x (by kernel_rfl) Try.underlying3 (hx.toInt bx)
  have c2 : ∀ w, (convert 106 3 (.float .f64 v)).run Try.prog w = .ok (.int .i64 y) w := fun w => run_convert_float_int w 106 3 .f64 .i64 v y (by kernel_rfl) Try.underlying3 (hy.toInt yb)
  clear hx hy bx yb
  by_cases hon : On x y
  · have HE : Hid (held x y = ⟨x, y, 0⟩) := Lib.hid (by unfold held; rw [if_pos hon])
    have b0 : decide (On x y) = true := decide_eq_true hon
    clear hon
    go_enter Try.func53, Try.ntmps53
    go_wp2_with fail
    have P0 : Hid (Pt (((w.alloc (.cells #[.int .i64 0, .int .i64 0] 24)).alloc (.cells #[.int .i64 x, .int .i64 y] 24)).alloc (.cells #[.int .i64 x, .int .i64 y] 24)) (w.heap.size) 24 (0) (0)) := Lib.hid (((Pt.mk_ rfl).alloc _).alloc _)
    have P1 : Hid (Pt (((w.alloc (.cells #[.int .i64 0, .int .i64 0] 24)).alloc (.cells #[.int .i64 x, .int .i64 y] 24)).alloc (.cells #[.int .i64 x, .int .i64 y] 24)) (w.heap.size + 1) 24 (x) (y)) := Lib.hid ((Pt.mk_ (by simp)).alloc _)
    have P2 : Hid (Pt (((w.alloc (.cells #[.int .i64 0, .int .i64 0] 24)).alloc (.cells #[.int .i64 x, .int .i64 y] 24)).alloc (.cells #[.int .i64 x, .int .i64 y] 24)) (w.heap.size + 1 + 1) 24 (x) (y)) := Lib.hid (Pt.mk_ (by simp))
    have HW : Hid (Below w.heap.size w (((w.alloc (.cells #[.int .i64 0, .int .i64 0] 24)).alloc (.cells #[.int .i64 x, .int .i64 y] 24)).alloc (.cells #[.int .i64 x, .int .i64 y] 24))) := Lib.hid ((((Below.refl _ _).alloc (Nat.le_refl _) _).alloc (by simp) _).alloc (by simp; omega) _)
    generalize (((w.alloc (.cells #[.int .i64 0, .int .i64 0] 24)).alloc (.cells #[.int .i64 x, .int .i64 y] 24)).alloc (.cells #[.int .i64 x, .int .i64 y] 24)) = V at P0 P1 P2 HW  ⊢
    refine (on1_any _ x y _ P2.out.c0 P2.out.c1 P2.out.lt).mono ?_
    rintro e W ⟨rfl, hB⟩
    have HW1 := Lib.hid (HW.out.trans (hB.mono HW.out.size))
    have Q0 := Lib.hid (P0.out.keep hB)
    have k1 := Q0.out.c0
    have k2 := Q0.out.c1
    have k3 := (P1.out.keep hB).c0
    have k4 := (P1.out.keep hB).c1
    have k5 := Q0.out.f0
    have k6 := Q0.out.f1
    clear hB HW P0 P1 P2
    go_wp2
    exact bodyPost_ret (results24 Try.results53 _ _ w.heap.size 24 x y _ rfl rfl (Q0.out.set x y)) rfl ⟨by rw [HE.out]; rfl, (HW1.out.setCell (Nat.le_refl _) _).setCell (Nat.le_refl _) _⟩
  · have HE : Hid (held x y = ⟨0, 0, 11⟩) := Lib.hid (by unfold held; rw [if_neg hon])
    have b0 : decide (On x y) = false := decide_eq_false hon
    clear hon
    go_enter Try.func53, Try.ntmps53
    go_wp2_with fail
    have P0 : Hid (Pt (((w.alloc (.cells #[.int .i64 0, .int .i64 0] 24)).alloc (.cells #[.int .i64 x, .int .i64 y] 24)).alloc (.cells #[.int .i64 x, .int .i64 y] 24)) (w.heap.size) 24 (0) (0)) := Lib.hid (((Pt.mk_ rfl).alloc _).alloc _)
    have P1 : Hid (Pt (((w.alloc (.cells #[.int .i64 0, .int .i64 0] 24)).alloc (.cells #[.int .i64 x, .int .i64 y] 24)).alloc (.cells #[.int .i64 x, .int .i64 y] 24)) (w.heap.size + 1) 24 (x) (y)) := Lib.hid ((Pt.mk_ (by simp)).alloc _)
    have P2 : Hid (Pt (((w.alloc (.cells #[.int .i64 0, .int .i64 0] 24)).alloc (.cells #[.int .i64 x, .int .i64 y] 24)).alloc (.cells #[.int .i64 x, .int .i64 y] 24)) (w.heap.size + 1 + 1) 24 (x) (y)) := Lib.hid (Pt.mk_ (by simp))
    have HW : Hid (Below w.heap.size w (((w.alloc (.cells #[.int .i64 0, .int .i64 0] 24)).alloc (.cells #[.int .i64 x, .int .i64 y] 24)).alloc (.cells #[.int .i64 x, .int .i64 y] 24))) := Lib.hid ((((Below.refl _ _).alloc (Nat.le_refl _) _).alloc (by simp) _).alloc (by simp; omega) _)
    generalize (((w.alloc (.cells #[.int .i64 0, .int .i64 0] 24)).alloc (.cells #[.int .i64 x, .int .i64 y] 24)).alloc (.cells #[.int .i64 x, .int .i64 y] 24)) = V at P0 P1 P2 HW  ⊢
    refine (on1_any _ x y _ P2.out.c0 P2.out.c1 P2.out.lt).mono ?_
    rintro e W ⟨rfl, hB⟩
    have HW1 := Lib.hid (HW.out.trans (hB.mono HW.out.size))
    have Q0 := Lib.hid (P0.out.keep hB)
    have k1 := Q0.out.c0
    have k2 := Q0.out.c1
    have k3 := (P1.out.keep hB).c0
    have k4 := (P1.out.keep hB).c1
    have k5 := Q0.out.f0
    have k6 := Q0.out.f1
    clear hB HW P0 P1 P2
    go_wp2
    exact bodyPost_ret (results24 Try.results53 _ _ w.heap.size 24 0 0 _ rfl rfl (Q0.out.set 0 0)) rfl ⟨by rw [HE.out]; rfl, (HW1.out.setCell (Nat.le_refl _) _).setCell (Nat.le_refl _) _⟩


set_option maxRecDepth 100000 in
set_option maxHeartbeats 2000000 in
theorem move_any (a b c d : Int) (w : World) :
    Calls Try.prog 15 #[.agg #[.int .i64 a, .int .i64 b], .agg #[.int .i64 c, .int .i64 d]] w fun e w' => e = .returned (resV (moveP a b c d)) ∧ Below w.heap.size w w' := by
  by_cases hon : On a b ∧ On c d
  · have HE : Hid (moveP a b c d = held (a + c) (b + d)) := Lib.hid (by unfold moveP; rw [if_pos hon])
    have b0 : decide (On a b ∧ On c d) = true := decide_eq_true hon
    obtain ⟨⟨o1, o2, o3, o4⟩, o5, o6, o7, o8⟩ := hon
    obtain ⟨re, im, hc, hre, him⟩ := csum (IsF.of_int (n := a) (by omega)) (IsF.of_int (n := b) (by omega)) (IsF.of_int (n := c) (by omega)) (IsF.of_int (n := d) (by omega)) (by omega) (by omega)
    have hop := fun t w => run_complex_sum (P := Try.prog) w .add (Or.inl rfl) t .f64 _ _ _ _ re im hc
    have HC : Hid (∀ w, Calls Try.prog 53 #[.complex .f64 re im] w fun e w' => e = .returned (.tuple #[.agg #[.int .i64 (held (a + c) (b + d)).x, .int .i64 (held (a + c) (b + d)).y], .int .i64 (held (a + c) (b + d)).e]) ∧ Below w.heap.size w w') := Lib.hid fun w => spotAt_any re im _ _ w hre him (by omega) (by omega)
    clear hc hre him o1 o2 o3 o4 o5 o6 o7 o8
    generalize held (a + c) (b + d) = R at HE HC
    obtain ⟨rx, ry, re'⟩ := R
    simp only at HC
    go_enter Try.func15, Try.ntmps15
    go_wp2_with fail
    have P0 : Hid (Pt ((((w.alloc (.cells #[.int .i64 a, .int .i64 b] 24)).alloc (.cells #[.int .i64 c, .int .i64 d] 24)).alloc (.cells #[.int .i64 0, .int .i64 0] 24)).alloc (.cells #[.int .i64 a, .int .i64 b, .int .i64 c, .int .i64 d] 24)) (w.heap.size) 24 (a) (b)) := Lib.hid ((((Pt.mk_ rfl).alloc _).alloc _).alloc _)
    have P1 : Hid (Pt ((((w.alloc (.cells #[.int .i64 a, .int .i64 b] 24)).alloc (.cells #[.int .i64 c, .int .i64 d] 24)).alloc (.cells #[.int .i64 0, .int .i64 0] 24)).alloc (.cells #[.int .i64 a, .int .i64 b, .int .i64 c, .int .i64 d] 24)) (w.heap.size + 1) 24 (c) (d)) := Lib.hid (((Pt.mk_ (by simp)).alloc _).alloc _)
    have P2 : Hid (Pt ((((w.alloc (.cells #[.int .i64 a, .int .i64 b] 24)).alloc (.cells #[.int .i64 c, .int .i64 d] 24)).alloc (.cells #[.int .i64 0, .int .i64 0] 24)).alloc (.cells #[.int .i64 a, .int .i64 b, .int .i64 c, .int .i64 d] 24)) (w.heap.size + 1 + 1) 24 (0) (0)) := Lib.hid ((Pt.mk_ (by simp)).alloc _)
    have P3 : Hid (Blk ((((w.alloc (.cells #[.int .i64 a, .int .i64 b] 24)).alloc (.cells #[.int .i64 c, .int .i64 d] 24)).alloc (.cells #[.int .i64 0, .int .i64 0] 24)).alloc (.cells #[.int .i64 a, .int .i64 b, .int .i64 c, .int .i64 d] 24)) (w.heap.size + 1 + 1 + 1) 24 [.int .i64 a, .int .i64 b, .int .i64 c, .int .i64 d]) := Lib.hid (Blk.mk_ (by simp))
    have HW : Hid (Below w.heap.size w ((((w.alloc (.cells #[.int .i64 a, .int .i64 b] 24)).alloc (.cells #[.int .i64 c, .int .i64 d] 24)).alloc (.cells #[.int .i64 0, .int .i64 0] 24)).alloc (.cells #[.int .i64 a, .int .i64 b, .int .i64 c, .int .i64 d] 24))) := Lib.hid (((((Below.refl _ _).alloc (Nat.le_refl _) _).alloc (by simp) _).alloc (by simp; omega) _).alloc (by simp; omega) _)
    generalize ((((w.alloc (.cells #[.int .i64 a, .int .i64 b] 24)).alloc (.cells #[.int .i64 c, .int .i64 d] 24)).alloc (.cells #[.int .i64 0, .int .i64 0] 24)).alloc (.cells #[.int .i64 a, .int .i64 b, .int .i64 c, .int .i64 d] 24)) = V at P0 P1 P2 P3 HW  ⊢
    refine (on2_any _ a b c d _ (P3.out.cell 0) (P3.out.cell 1) (P3.out.cell 2) (P3.out.cell 3) P3.out.lt).mono ?_
    rintro e W ⟨rfl, hB⟩
    have HW1 := Lib.hid (HW.out.trans (hB.mono HW.out.size))
    have Q0 := Lib.hid (P0.out.keep hB)
    have Q1 := Lib.hid (P1.out.keep hB)
    have Q2 := Lib.hid (P2.out.keep hB)
    clear hB HW P0 P1 P2 P3
    go_wp2_with fail
    replace Q0 : Hid (Pt W.drew (w.heap.size) 24 (a) (b)) := Lib.hid Q0.out
    replace Q1 : Hid (Pt W.drew (w.heap.size + 1) 24 (c) (d)) := Lib.hid Q1.out
    replace Q2 : Hid (Pt W.drew (w.heap.size + 1 + 1) 24 (0) (0)) := Lib.hid Q2.out
    replace HW1 : Hid (Below w.heap.size w W.drew) := Lib.hid (below_drewN HW1.out 1)
    have Q0a := Q0.out.c0
    have Q0b := Q0.out.c1
    have Q1a := Q1.out.c0
    have Q1b := Q1.out.c1
    have Q2a := Q2.out.c0
    have Q2b := Q2.out.c1
    have Q2c := Q2.out.f0
    have Q2d := Q2.out.f1
    go_region_held3 (fun w' => w'.cell? ⟨w.heap.size, 0, none⟩ = some (.int .i64 a) ∧ w'.cell? ⟨w.heap.size, 1, none⟩ = some (.int .i64 b) ∧ w'.cell? ⟨w.heap.size + 1, 0, none⟩ = some (.int .i64 c) ∧ w'.cell? ⟨w.heap.size + 1, 1, none⟩ = some (.int .i64 d)) (first | exact ⟨Q0.out.c0, Q0.out.c1, Q1.out.c0, Q1.out.c1⟩ | exact ⟨(Q0.out.far (by omega) _ _).c0, (Q0.out.far (by omega) _ _).c1, (Q1.out.far (by omega) _ _).c0, (Q1.out.far (by omega) _ _).c1⟩)
      (first
        | (go_at_call 54
           refine (number_any _ _ _).mono ?_
           rintro e X ⟨rfl, hB⟩
           replace HW1 := Lib.hid (HW1.out.trans (hB.mono HW1.out.size))
           replace Q0 := Lib.hid (Q0.out.keep hB)
           replace Q1 := Lib.hid (Q1.out.keep hB)
           replace Q2 := Lib.hid (Q2.out.keep hB)
           clear hB Q0a Q0b Q1a Q1b Q2a Q2b Q2c Q2d
           have Q0a := Q0.out.c0
           have Q0b := Q0.out.c1
           have Q1a := Q1.out.c0
           have Q1b := Q1.out.c1
           have Q2a := Q2.out.c0
           have Q2b := Q2.out.c1
           have Q2c := Q2.out.f0
           have Q2d := Q2.out.f1)
        | (go_at_call 53
           refine (HC.out _).mono ?_
           rintro e X ⟨rfl, hB⟩
           replace HW1 := Lib.hid (HW1.out.trans (hB.mono HW1.out.size))
           replace Q0 := Lib.hid (Q0.out.keep hB)
           replace Q1 := Lib.hid (Q1.out.keep hB)
           replace Q2 := Lib.hid (Q2.out.keep hB)
           clear hB Q0a Q0b Q1a Q1b Q2a Q2b Q2c Q2d
           have Q0a := Q0.out.c0
           have Q0b := Q0.out.c1
           have Q1a := Q1.out.c0
           have Q1b := Q1.out.c1
           have Q2a := Q2.out.c0
           have Q2b := Q2.out.c1
           have Q2c := Q2.out.f0
           have Q2d := Q2.out.f1))
    go_wp2
    exact bodyPost_ret (results24 Try.results15 _ _ (w.heap.size + 1 + 1) 24 rx ry _ rfl rfl (Q2.out.set rx ry)) rfl ⟨by rw [HE.out]; rfl, (HW1.out.setCell (by simp; omega) _).setCell (by simp; omega) _⟩
  · have HE : Hid (moveP a b c d = ⟨0, 0, 1⟩) := Lib.hid (by unfold moveP; rw [if_neg hon])
    have b0 : decide (On a b ∧ On c d) = false := decide_eq_false hon
    clear hon
    go_enter Try.func15, Try.ntmps15
    go_wp2_with fail
    have P2 : Hid (Pt ((((w.alloc (.cells #[.int .i64 a, .int .i64 b] 24)).alloc (.cells #[.int .i64 c, .int .i64 d] 24)).alloc (.cells #[.int .i64 0, .int .i64 0] 24)).alloc (.cells #[.int .i64 a, .int .i64 b, .int .i64 c, .int .i64 d] 24)) (w.heap.size + 1 + 1) 24 (0) (0)) := Lib.hid ((Pt.mk_ (by simp)).alloc _)
    have P3 : Hid (Blk ((((w.alloc (.cells #[.int .i64 a, .int .i64 b] 24)).alloc (.cells #[.int .i64 c, .int .i64 d] 24)).alloc (.cells #[.int .i64 0, .int .i64 0] 24)).alloc (.cells #[.int .i64 a, .int .i64 b, .int .i64 c, .int .i64 d] 24)) (w.heap.size + 1 + 1 + 1) 24 [.int .i64 a, .int .i64 b, .int .i64 c, .int .i64 d]) := Lib.hid (Blk.mk_ (by simp))
    have HW : Hid (Below w.heap.size w ((((w.alloc (.cells #[.int .i64 a, .int .i64 b] 24)).alloc (.cells #[.int .i64 c, .int .i64 d] 24)).alloc (.cells #[.int .i64 0, .int .i64 0] 24)).alloc (.cells #[.int .i64 a, .int .i64 b, .int .i64 c, .int .i64 d] 24))) := Lib.hid (((((Below.refl _ _).alloc (Nat.le_refl _) _).alloc (by simp) _).alloc (by simp; omega) _).alloc (by simp; omega) _)
    generalize ((((w.alloc (.cells #[.int .i64 a, .int .i64 b] 24)).alloc (.cells #[.int .i64 c, .int .i64 d] 24)).alloc (.cells #[.int .i64 0, .int .i64 0] 24)).alloc (.cells #[.int .i64 a, .int .i64 b, .int .i64 c, .int .i64 d] 24)) = V at P2 P3 HW  ⊢
    refine (on2_any _ a b c d _ (P3.out.cell 0) (P3.out.cell 1) (P3.out.cell 2) (P3.out.cell 3) P3.out.lt).mono ?_
    rintro e W ⟨rfl, hB⟩
    have HW1 := Lib.hid (HW.out.trans (hB.mono HW.out.size))
    have Q2 := Lib.hid (P2.out.keep hB)
    clear hB HW P2 P3
    have q5 := Q2.out.c0
    have q6 := Q2.out.c1
    have q7 := Q2.out.f0
    have q8 := Q2.out.f1
    go_wp2
    exact bodyPost_ret (results24 Try.results15 _ _ (w.heap.size + 1 + 1) 24 0 0 _ rfl rfl (Q2.out.set 0 0)) rfl ⟨by rw [HE.out]; rfl, (HW1.out.setCell (by simp; omega) _).setCell (by simp; omega) _⟩


set_option maxRecDepth 100000 in
set_option maxHeartbeats 2000000 in
theorem times_any (a b c d : Int) (w : World) :
    Calls Try.prog 17 #[.agg #[.int .i64 a, .int .i64 b], .agg #[.int .i64 c, .int .i64 d]] w fun e w' => e = .returned (resV (timesP a b c d)) ∧ Below w.heap.size w w' := by
  by_cases hon : On a b ∧ On c d
  · have HE : Hid (timesP a b c d = held (a * c - b * d) (a * d + b * c)) := Lib.hid (by unfold timesP; rw [if_pos hon])
    have b0 : decide (On a b ∧ On c d) = true := decide_eq_true hon
    obtain ⟨⟨o1, o2, o3, o4⟩, o5, o6, o7, o8⟩ := hon
    have m1 := mul_bound o1 o2 o5 o6
    have m2 := mul_bound o3 o4 o7 o8
    have m3 := mul_bound o1 o2 o7 o8
    have m4 := mul_bound o3 o4 o5 o6
    obtain ⟨re, im, hc, hre, him⟩ := cprod (IsF.of_int (n := a) (by omega)) (IsF.of_int (n := b) (by omega)) (IsF.of_int (n := c) (by omega)) (IsF.of_int (n := d) (by omega)) (by omega) (by omega) (by omega) (by omega) (by omega) (by omega)
    have hop := fun t w => run_complex_mul (P := Try.prog) w t _ _ _ _ re im hc
    have HC : Hid (∀ w, Calls Try.prog 53 #[.complex .f64 re im] w fun e w' => e = .returned (.tuple #[.agg #[.int .i64 (held (a * c - b * d) (a * d + b * c)).x, .int .i64 (held (a * c - b * d) (a * d + b * c)).y], .int .i64 (held (a * c - b * d) (a * d + b * c)).e]) ∧ Below w.heap.size w w') := Lib.hid fun w => spotAt_any re im _ _ w hre him (by omega) (by omega)
    clear hc hre him m1 m2 m3 m4 o1 o2 o3 o4 o5 o6 o7 o8
    generalize held (a * c - b * d) (a * d + b * c) = R at HE HC
    obtain ⟨rx, ry, re'⟩ := R
    simp only at HC
    go_enter Try.func17, Try.ntmps17
    go_wp2_with fail
    have P0 : Hid (Pt ((((w.alloc (.cells #[.int .i64 a, .int .i64 b] 24)).alloc (.cells #[.int .i64 c, .int .i64 d] 24)).alloc (.cells #[.int .i64 0, .int .i64 0] 24)).alloc (.cells #[.int .i64 a, .int .i64 b, .int .i64 c, .int .i64 d] 24)) (w.heap.size) 24 (a) (b)) := Lib.hid ((((Pt.mk_ rfl).alloc _).alloc _).alloc _)
    have P1 : Hid (Pt ((((w.alloc (.cells #[.int .i64 a, .int .i64 b] 24)).alloc (.cells #[.int .i64 c, .int .i64 d] 24)).alloc (.cells #[.int .i64 0, .int .i64 0] 24)).alloc (.cells #[.int .i64 a, .int .i64 b, .int .i64 c, .int .i64 d] 24)) (w.heap.size + 1) 24 (c) (d)) := Lib.hid (((Pt.mk_ (by simp)).alloc _).alloc _)
    have P2 : Hid (Pt ((((w.alloc (.cells #[.int .i64 a, .int .i64 b] 24)).alloc (.cells #[.int .i64 c, .int .i64 d] 24)).alloc (.cells #[.int .i64 0, .int .i64 0] 24)).alloc (.cells #[.int .i64 a, .int .i64 b, .int .i64 c, .int .i64 d] 24)) (w.heap.size + 1 + 1) 24 (0) (0)) := Lib.hid ((Pt.mk_ (by simp)).alloc _)
    have P3 : Hid (Blk ((((w.alloc (.cells #[.int .i64 a, .int .i64 b] 24)).alloc (.cells #[.int .i64 c, .int .i64 d] 24)).alloc (.cells #[.int .i64 0, .int .i64 0] 24)).alloc (.cells #[.int .i64 a, .int .i64 b, .int .i64 c, .int .i64 d] 24)) (w.heap.size + 1 + 1 + 1) 24 [.int .i64 a, .int .i64 b, .int .i64 c, .int .i64 d]) := Lib.hid (Blk.mk_ (by simp))
    have HW : Hid (Below w.heap.size w ((((w.alloc (.cells #[.int .i64 a, .int .i64 b] 24)).alloc (.cells #[.int .i64 c, .int .i64 d] 24)).alloc (.cells #[.int .i64 0, .int .i64 0] 24)).alloc (.cells #[.int .i64 a, .int .i64 b, .int .i64 c, .int .i64 d] 24))) := Lib.hid (((((Below.refl _ _).alloc (Nat.le_refl _) _).alloc (by simp) _).alloc (by simp; omega) _).alloc (by simp; omega) _)
    generalize ((((w.alloc (.cells #[.int .i64 a, .int .i64 b] 24)).alloc (.cells #[.int .i64 c, .int .i64 d] 24)).alloc (.cells #[.int .i64 0, .int .i64 0] 24)).alloc (.cells #[.int .i64 a, .int .i64 b, .int .i64 c, .int .i64 d] 24)) = V at P0 P1 P2 P3 HW  ⊢
    refine (on2_any _ a b c d _ (P3.out.cell 0) (P3.out.cell 1) (P3.out.cell 2) (P3.out.cell 3) P3.out.lt).mono ?_
    rintro e W ⟨rfl, hB⟩
    have HW1 := Lib.hid (HW.out.trans (hB.mono HW.out.size))
    have Q0 := Lib.hid (P0.out.keep hB)
    have Q1 := Lib.hid (P1.out.keep hB)
    have Q2 := Lib.hid (P2.out.keep hB)
    clear hB HW P0 P1 P2 P3
    go_wp2_with fail
    replace Q0 : Hid (Pt W.drew (w.heap.size) 24 (a) (b)) := Lib.hid Q0.out
    replace Q1 : Hid (Pt W.drew (w.heap.size + 1) 24 (c) (d)) := Lib.hid Q1.out
    replace Q2 : Hid (Pt W.drew (w.heap.size + 1 + 1) 24 (0) (0)) := Lib.hid Q2.out
    replace HW1 : Hid (Below w.heap.size w W.drew) := Lib.hid (below_drewN HW1.out 1)
    have Q0a := Q0.out.c0
    have Q0b := Q0.out.c1
    have Q1a := Q1.out.c0
    have Q1b := Q1.out.c1
    have Q2a := Q2.out.c0
    have Q2b := Q2.out.c1
    have Q2c := Q2.out.f0
    have Q2d := Q2.out.f1
    go_region_held3 (fun w' => w'.cell? ⟨w.heap.size, 0, none⟩ = some (.int .i64 a) ∧ w'.cell? ⟨w.heap.size, 1, none⟩ = some (.int .i64 b) ∧ w'.cell? ⟨w.heap.size + 1, 0, none⟩ = some (.int .i64 c) ∧ w'.cell? ⟨w.heap.size + 1, 1, none⟩ = some (.int .i64 d)) (first | exact ⟨Q0.out.c0, Q0.out.c1, Q1.out.c0, Q1.out.c1⟩ | exact ⟨(Q0.out.far (by omega) _ _).c0, (Q0.out.far (by omega) _ _).c1, (Q1.out.far (by omega) _ _).c0, (Q1.out.far (by omega) _ _).c1⟩)
      (first
        | (go_at_call 54
           refine (number_any _ _ _).mono ?_
           rintro e X ⟨rfl, hB⟩
           replace HW1 := Lib.hid (HW1.out.trans (hB.mono HW1.out.size))
           replace Q0 := Lib.hid (Q0.out.keep hB)
           replace Q1 := Lib.hid (Q1.out.keep hB)
           replace Q2 := Lib.hid (Q2.out.keep hB)
           clear hB Q0a Q0b Q1a Q1b Q2a Q2b Q2c Q2d
           have Q0a := Q0.out.c0
           have Q0b := Q0.out.c1
           have Q1a := Q1.out.c0
           have Q1b := Q1.out.c1
           have Q2a := Q2.out.c0
           have Q2b := Q2.out.c1
           have Q2c := Q2.out.f0
           have Q2d := Q2.out.f1)
        | (go_at_call 53
           refine (HC.out _).mono ?_
           rintro e X ⟨rfl, hB⟩
           replace HW1 := Lib.hid (HW1.out.trans (hB.mono HW1.out.size))
           replace Q0 := Lib.hid (Q0.out.keep hB)
           replace Q1 := Lib.hid (Q1.out.keep hB)
           replace Q2 := Lib.hid (Q2.out.keep hB)
           clear hB Q0a Q0b Q1a Q1b Q2a Q2b Q2c Q2d
           have Q0a := Q0.out.c0
           have Q0b := Q0.out.c1
           have Q1a := Q1.out.c0
           have Q1b := Q1.out.c1
           have Q2a := Q2.out.c0
           have Q2b := Q2.out.c1
           have Q2c := Q2.out.f0
           have Q2d := Q2.out.f1))
    go_wp2
    exact bodyPost_ret (results24 Try.results17 _ _ (w.heap.size + 1 + 1) 24 rx ry _ rfl rfl (Q2.out.set rx ry)) rfl ⟨by rw [HE.out]; rfl, (HW1.out.setCell (by simp; omega) _).setCell (by simp; omega) _⟩
  · have HE : Hid (timesP a b c d = ⟨0, 0, 1⟩) := Lib.hid (by unfold timesP; rw [if_neg hon])
    have b0 : decide (On a b ∧ On c d) = false := decide_eq_false hon
    clear hon
    go_enter Try.func17, Try.ntmps17
    go_wp2_with fail
    have P2 : Hid (Pt ((((w.alloc (.cells #[.int .i64 a, .int .i64 b] 24)).alloc (.cells #[.int .i64 c, .int .i64 d] 24)).alloc (.cells #[.int .i64 0, .int .i64 0] 24)).alloc (.cells #[.int .i64 a, .int .i64 b, .int .i64 c, .int .i64 d] 24)) (w.heap.size + 1 + 1) 24 (0) (0)) := Lib.hid ((Pt.mk_ (by simp)).alloc _)
    have P3 : Hid (Blk ((((w.alloc (.cells #[.int .i64 a, .int .i64 b] 24)).alloc (.cells #[.int .i64 c, .int .i64 d] 24)).alloc (.cells #[.int .i64 0, .int .i64 0] 24)).alloc (.cells #[.int .i64 a, .int .i64 b, .int .i64 c, .int .i64 d] 24)) (w.heap.size + 1 + 1 + 1) 24 [.int .i64 a, .int .i64 b, .int .i64 c, .int .i64 d]) := Lib.hid (Blk.mk_ (by simp))
    have HW : Hid (Below w.heap.size w ((((w.alloc (.cells #[.int .i64 a, .int .i64 b] 24)).alloc (.cells #[.int .i64 c, .int .i64 d] 24)).alloc (.cells #[.int .i64 0, .int .i64 0] 24)).alloc (.cells #[.int .i64 a, .int .i64 b, .int .i64 c, .int .i64 d] 24))) := Lib.hid (((((Below.refl _ _).alloc (Nat.le_refl _) _).alloc (by simp) _).alloc (by simp; omega) _).alloc (by simp; omega) _)
    generalize ((((w.alloc (.cells #[.int .i64 a, .int .i64 b] 24)).alloc (.cells #[.int .i64 c, .int .i64 d] 24)).alloc (.cells #[.int .i64 0, .int .i64 0] 24)).alloc (.cells #[.int .i64 a, .int .i64 b, .int .i64 c, .int .i64 d] 24)) = V at P2 P3 HW  ⊢
    refine (on2_any _ a b c d _ (P3.out.cell 0) (P3.out.cell 1) (P3.out.cell 2) (P3.out.cell 3) P3.out.lt).mono ?_
    rintro e W ⟨rfl, hB⟩
    have HW1 := Lib.hid (HW.out.trans (hB.mono HW.out.size))
    have Q2 := Lib.hid (P2.out.keep hB)
    clear hB HW P2 P3
    have q5 := Q2.out.c0
    have q6 := Q2.out.c1
    have q7 := Q2.out.f0
    have q8 := Q2.out.f1
    go_wp2
    exact bodyPost_ret (results24 Try.results17 _ _ (w.heap.size + 1 + 1) 24 0 0 _ rfl rfl (Q2.out.set 0 0)) rfl ⟨by rw [HE.out]; rfl, (HW1.out.setCell (by simp; omega) _).setCell (by simp; omega) _⟩

end Go.Proofs.Ytjbjekejekmipaa
