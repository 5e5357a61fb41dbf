/-
  The document's chart: On, held, Move, Times, Turn, Far, Side: what they answer; memory that was there stays as it was. A spot as the program's.
-/
import Derived.Test.YtjbjekejekmipaaChC
namespace Go.Proofs.Ytjbjekejekmipaa
open Go.RowKit
set_option linter.unusedVariables false

theorem result24 {fn : Func} {p : Tmp} (h : fn.results = #[.cell p 24]) (tmps : Array Value) (w : World) (g t : Nat) (x y : Int) (hp : tmps.getD p undef = .pointer (some ⟨g, 0, none⟩)) (hP : Pt w g t x y) :
    (results fn tmps).run Try.prog w = .ok (.agg #[.int .i64 x, .int .i64 y]) w := by
  have hp2 : tmps[p]?.getD undef = .pointer (some ⟨g, 0, none⟩) := by simpa using hp
  simp only [results, h]
  simp [hp2, asAddr, load24 w g t x y hP]


set_option maxRecDepth 100000 in
set_option maxHeartbeats 2000000 in
theorem to_any (x y : Int) (w : World) :
    Calls Try.prog 14 #[.agg #[.int .i64 x, .int .i64 y]] w fun e w' => e = .returned (.agg #[.int .i64 x, .int .i64 y]) ∧ Below w.heap.size w w' := by
  go_enter Try.func14, Try.ntmps14
  go_wp2
  exact bodyPost_ret (result24 Try.results14 _ _ (w.heap.size + 1) 24 x y rfl (Pt.mk_ (by simp))) rfl ⟨rfl, ((Below.refl _ _).alloc (Nat.le_refl _) _).alloc (by simp) _⟩


set_option maxRecDepth 100000 in
set_option maxHeartbeats 2000000 in
theorem ron_any (x y : Int) (w : World) :
    Calls Try.prog 22 #[.agg #[.int .i64 x, .int .i64 y]] w fun e w' => e = .returned (.bool (decide (On x y))) ∧ Below w.heap.size w w' := by
  by_cases hon : On x y
  · have HE := Lib.hid (decide_eq_true hon)
    obtain ⟨o1, o2, o3, o4⟩ := hon
    go_enter Try.func22, Try.ntmps22
    go_wp2
    go_ret
    exact ⟨by rw [HE.out]; rfl, (Below.refl _ _).alloc (Nat.le_refl _) _⟩
  · have HE := Lib.hid (decide_eq_false hon)
    have h4 : x < -1000 ∨ (-1000 ≤ x ∧ 1000 < x) ∨ (-1000 ≤ x ∧ x ≤ 1000 ∧ y < -1000) ∨ (-1000 ≤ x ∧ x ≤ 1000 ∧ -1000 ≤ y ∧ 1000 < y) := by
      unfold On at hon
      omega
    clear hon
    rcases h4 with o1 | ⟨o1, o2⟩ | ⟨o1, o2, o3⟩ | ⟨o1, o2, o3, o4⟩
    all_goals
      first | have b9 : decide (y ≤ 1000) = false := decide_eq_false (by omega) | skip
      go_enter Try.func22, Try.ntmps22
      go_wp2
      go_ret
      exact ⟨by rw [HE.out]; rfl, (Below.refl _ _).alloc (Nat.le_refl _) _⟩


set_option maxRecDepth 100000 in
set_option maxHeartbeats 2000000 in
theorem rheld_any (x y : Int) (w : World) :
    Calls Try.prog 55 #[.agg #[.int .i64 x, .int .i64 y]] w fun e w' => e = .returned (.tuple #[.agg #[.int .i64 (held x y).x, .int .i64 (held x y).y], .int .i64 (held x y).e]) ∧ Below w.heap.size w w' := by
  by_cases hon : On x y
  · have HE : Hid (held x y = ⟨x, y, 0⟩) := Lib.hid (by unfold held; rw [if_pos hon])
    have b0 : decide (On x y) = true := decide_eq_true hon
    clear hon
    go_enter Try.func55, Try.ntmps55
    go_wp2_with fail
    have P0 : Hid (Pt ((w.alloc (.cells #[.int .i64 x, .int .i64 y] 23)).alloc (.cells #[.int .i64 0, .int .i64 0] 23)) (w.heap.size) 23 (x) (y)) := Lib.hid ((Pt.mk_ rfl).alloc _)
    have P1 : Hid (Pt ((w.alloc (.cells #[.int .i64 x, .int .i64 y] 23)).alloc (.cells #[.int .i64 0, .int .i64 0] 23)) (w.heap.size + 1) 23 (0) (0)) := Lib.hid (Pt.mk_ (by simp))
    have HW : Hid (Below w.heap.size w ((w.alloc (.cells #[.int .i64 x, .int .i64 y] 23)).alloc (.cells #[.int .i64 0, .int .i64 0] 23))) := Lib.hid (((Below.refl _ _).alloc (Nat.le_refl _) _).alloc (by simp) _)
    generalize ((w.alloc (.cells #[.int .i64 x, .int .i64 y] 23)).alloc (.cells #[.int .i64 0, .int .i64 0] 23)) = V at P0 P1 HW  ⊢
    refine (ron_any _ _ _).mono ?_
    rintro e W ⟨rfl, hB⟩
    have HW1 := Lib.hid (HW.out.trans (hB.mono HW.out.size))
    have Q0 := Lib.hid (P0.out.keep hB)
    have Q1 := Lib.hid (P1.out.keep hB)
    clear hB HW P0 P1
    have Q0a := Q0.out.c0
    have Q0b := Q0.out.c1
    have Q1a := Q1.out.c0
    have Q1b := Q1.out.c1
    have Q1c := Q1.out.f0
    have Q1d := Q1.out.f1
    go_wp2
    exact bodyPost_ret (results23 Try.results55 _ _ (w.heap.size + 1) 23 x y _ rfl rfl (Q1.out.set x y)) rfl ⟨by rw [HE.out]; rfl, (HW1.out.setCell (by simp) _).setCell (by simp) _⟩
  · have HE : Hid (held x y = ⟨0, 0, 11⟩) := Lib.hid (by unfold held; rw [if_neg hon])
    have b0 : decide (On x y) = false := decide_eq_false hon
    clear hon
    go_enter Try.func55, Try.ntmps55
    go_wp2_with fail
    have P0 : Hid (Pt ((w.alloc (.cells #[.int .i64 x, .int .i64 y] 23)).alloc (.cells #[.int .i64 0, .int .i64 0] 23)) (w.heap.size) 23 (x) (y)) := Lib.hid ((Pt.mk_ rfl).alloc _)
    have P1 : Hid (Pt ((w.alloc (.cells #[.int .i64 x, .int .i64 y] 23)).alloc (.cells #[.int .i64 0, .int .i64 0] 23)) (w.heap.size + 1) 23 (0) (0)) := Lib.hid (Pt.mk_ (by simp))
    have HW : Hid (Below w.heap.size w ((w.alloc (.cells #[.int .i64 x, .int .i64 y] 23)).alloc (.cells #[.int .i64 0, .int .i64 0] 23))) := Lib.hid (((Below.refl _ _).alloc (Nat.le_refl _) _).alloc (by simp) _)
    generalize ((w.alloc (.cells #[.int .i64 x, .int .i64 y] 23)).alloc (.cells #[.int .i64 0, .int .i64 0] 23)) = V at P0 P1 HW  ⊢
    refine (ron_any _ _ _).mono ?_
    rintro e W ⟨rfl, hB⟩
    have HW1 := Lib.hid (HW.out.trans (hB.mono HW.out.size))
    have Q0 := Lib.hid (P0.out.keep hB)
    have Q1 := Lib.hid (P1.out.keep hB)
    clear hB HW P0 P1
    have Q0a := Q0.out.c0
    have Q0b := Q0.out.c1
    have Q1a := Q1.out.c0
    have Q1b := Q1.out.c1
    have Q1c := Q1.out.f0
    have Q1d := Q1.out.f1
    go_wp2
    exact bodyPost_ret (results23 Try.results55 _ _ (w.heap.size + 1) 23 0 0 _ rfl rfl (Q1.out.set 0 0)) rfl ⟨by rw [HE.out]; rfl, (HW1.out.setCell (by simp) _).setCell (by simp) _⟩


set_option maxRecDepth 100000 in
set_option maxHeartbeats 2000000 in
theorem rmove_any (a b c d : Int) (w : World) :
    Calls Try.prog 16 #[.agg #[.int .i64 a, .int .i64 b], .agg #[.int .i64 c, .int .i64 d]] w fun e w' => e = .returned (resV (moveP a b c d)) ∧ Below w.heap.size w w' := by
  by_cases h0 : On a b
  · skip
    by_cases h1 : On c d
    · skip
      have b0 : decide (On a b) = true := decide_eq_true h0
      have b1 : decide (On c d) = true := decide_eq_true h1
      have HE : Hid (moveP a b c d = held (a + c) (b + d)) := Lib.hid (by unfold moveP; rw [if_pos ⟨h0, h1⟩])
      have HC : Hid (∀ w, Calls Try.prog 55 #[.agg #[.int .i64 (a + c), .int .i64 (b + d)]] w fun e w' => e = .returned (.tuple #[.agg #[.int .i64 (held (a + c) (b + d)).x, .int .i64 (held (a + c) (b + d)).y], .int .i64 (held (a + c) (b + d)).e]) ∧ Below w.heap.size w w') := Lib.hid fun w => rheld_any _ _ w
      generalize held (a + c) (b + d) = R at HE HC
      obtain ⟨rx, ry, re'⟩ := R
      simp only at HC
      obtain ⟨o1, o2, o3, o4⟩ := h0
      obtain ⟨o5, o6, o7, o8⟩ := h1
      go_enter Try.func16, Try.ntmps16
      go_wp2_with fail
      have P0 : Hid (Pt (((w.alloc (.cells #[.int .i64 a, .int .i64 b] 23)).alloc (.cells #[.int .i64 c, .int .i64 d] 23)).alloc (.cells #[.int .i64 0, .int .i64 0] 23)) (w.heap.size) 23 (a) (b)) := Lib.hid (((Pt.mk_ rfl).alloc _).alloc _)
      have P1 : Hid (Pt (((w.alloc (.cells #[.int .i64 a, .int .i64 b] 23)).alloc (.cells #[.int .i64 c, .int .i64 d] 23)).alloc (.cells #[.int .i64 0, .int .i64 0] 23)) (w.heap.size + 1) 23 (c) (d)) := Lib.hid ((Pt.mk_ (by simp)).alloc _)
      have PR : Hid (Pt (((w.alloc (.cells #[.int .i64 a, .int .i64 b] 23)).alloc (.cells #[.int .i64 c, .int .i64 d] 23)).alloc (.cells #[.int .i64 0, .int .i64 0] 23)) (w.heap.size + 1 + 1) 23 (0) (0)) := Lib.hid (Pt.mk_ (by simp))
      have HW : Hid (Below w.heap.size w (((w.alloc (.cells #[.int .i64 a, .int .i64 b] 23)).alloc (.cells #[.int .i64 c, .int .i64 d] 23)).alloc (.cells #[.int .i64 0, .int .i64 0] 23))) := Lib.hid ((((Below.refl _ _).alloc (Nat.le_refl _) _).alloc (by simp) _).alloc (by simp; omega) _)
      generalize (((w.alloc (.cells #[.int .i64 a, .int .i64 b] 23)).alloc (.cells #[.int .i64 c, .int .i64 d] 23)).alloc (.cells #[.int .i64 0, .int .i64 0] 23)) = V at P0 P1 PR HW  ⊢
      refine (ron_any _ _ _).mono ?_
      rintro e W0 ⟨rfl, hB⟩
      have HW1 := Lib.hid (HW.out.trans (hB.mono HW.out.size))
      have Q0 := Lib.hid (P0.out.keep hB)
      have Q1 := Lib.hid (P1.out.keep hB)
      have QR := Lib.hid (PR.out.keep hB)
      clear hB HW P0 P1 PR
      have Q0a := Q0.out.c0
      have Q0b := Q0.out.c1
      have Q1a := Q1.out.c0
      have Q1b := Q1.out.c1
      have QRa := QR.out.c0
      have QRb := QR.out.c1
      have QRc := QR.out.f0
      have QRd := QR.out.f1
      go_wp2_with fail
      refine (ron_any _ _ _).mono ?_
      rintro e W1 ⟨rfl, hB⟩
      replace HW1 := Lib.hid (HW1.out.trans (hB.mono HW1.out.size))
      replace Q0 := Lib.hid (Q0.out.keep hB)
      replace Q1 := Lib.hid (Q1.out.keep hB)
      replace QR := Lib.hid (QR.out.keep hB)
      clear hB Q0a Q0b Q1a Q1b QRa QRb QRc QRd
      have Q0a := Q0.out.c0
      have Q0b := Q0.out.c1
      have Q1a := Q1.out.c0
      have Q1b := Q1.out.c1
      have QRa := QR.out.c0
      have QRb := QR.out.c1
      have QRc := QR.out.f0
      have QRd := QR.out.f1
      go_wp2_with fail
      refine (HC.out _).mono ?_
      rintro e Z ⟨rfl, hB⟩
      replace HW1 := Lib.hid (HW1.out.trans (hB.mono HW1.out.size))
      replace Q0 := Lib.hid (Q0.out.keep hB)
      replace Q1 := Lib.hid (Q1.out.keep hB)
      replace QR := Lib.hid (QR.out.keep hB)
      clear hB Q0a Q0b Q1a Q1b QRa QRb QRc QRd
      have Q0a := Q0.out.c0
      have Q0b := Q0.out.c1
      have Q1a := Q1.out.c0
      have Q1b := Q1.out.c1
      have QRa := QR.out.c0
      have QRb := QR.out.c1
      have QRc := QR.out.f0
      have QRd := QR.out.f1
      go_wp2
      exact bodyPost_ret (results23 Try.results16 _ _ (w.heap.size + 1 + 1) 23 rx ry _ rfl rfl (QR.out.set rx ry)) rfl ⟨by rw [HE.out]; rfl, (HW1.out.setCell (by simp; omega) _).setCell (by simp; omega) _⟩
    · have HE : Hid (moveP a b c d = ⟨0, 0, 1⟩) := Lib.hid (by unfold moveP; rw [if_neg (by rintro ⟨k0, k1⟩; exact h1 k1)])
      have b0 : decide (On a b) = true := decide_eq_true h0
      have b1 : decide (On c d) = false := decide_eq_false h1
      clear h0 h1
      go_enter Try.func16, Try.ntmps16
      go_wp2_with fail
      have P0 : Hid (Pt (((w.alloc (.cells #[.int .i64 a, .int .i64 b] 23)).alloc (.cells #[.int .i64 c, .int .i64 d] 23)).alloc (.cells #[.int .i64 0, .int .i64 0] 23)) (w.heap.size) 23 (a) (b)) := Lib.hid (((Pt.mk_ rfl).alloc _).alloc _)
      have P1 : Hid (Pt (((w.alloc (.cells #[.int .i64 a, .int .i64 b] 23)).alloc (.cells #[.int .i64 c, .int .i64 d] 23)).alloc (.cells #[.int .i64 0, .int .i64 0] 23)) (w.heap.size + 1) 23 (c) (d)) := Lib.hid ((Pt.mk_ (by simp)).alloc _)
      have PR : Hid (Pt (((w.alloc (.cells #[.int .i64 a, .int .i64 b] 23)).alloc (.cells #[.int .i64 c, .int .i64 d] 23)).alloc (.cells #[.int .i64 0, .int .i64 0] 23)) (w.heap.size + 1 + 1) 23 (0) (0)) := Lib.hid (Pt.mk_ (by simp))
      have HW : Hid (Below w.heap.size w (((w.alloc (.cells #[.int .i64 a, .int .i64 b] 23)).alloc (.cells #[.int .i64 c, .int .i64 d] 23)).alloc (.cells #[.int .i64 0, .int .i64 0] 23))) := Lib.hid ((((Below.refl _ _).alloc (Nat.le_refl _) _).alloc (by simp) _).alloc (by simp; omega) _)
      generalize (((w.alloc (.cells #[.int .i64 a, .int .i64 b] 23)).alloc (.cells #[.int .i64 c, .int .i64 d] 23)).alloc (.cells #[.int .i64 0, .int .i64 0] 23)) = V at P0 P1 PR HW  ⊢
      refine (ron_any _ _ _).mono ?_
      rintro e W0 ⟨rfl, hB⟩
      have HW1 := Lib.hid (HW.out.trans (hB.mono HW.out.size))
      have Q0 := Lib.hid (P0.out.keep hB)
      have Q1 := Lib.hid (P1.out.keep hB)
      have QR := Lib.hid (PR.out.keep hB)
      clear hB HW P0 P1 PR
      have Q0a := Q0.out.c0
      have Q0b := Q0.out.c1
      have Q1a := Q1.out.c0
      have Q1b := Q1.out.c1
      have QRa := QR.out.c0
      have QRb := QR.out.c1
      have QRc := QR.out.f0
      have QRd := QR.out.f1
      go_wp2_with fail
      refine (ron_any _ _ _).mono ?_
      rintro e W1 ⟨rfl, hB⟩
      replace HW1 := Lib.hid (HW1.out.trans (hB.mono HW1.out.size))
      replace Q0 := Lib.hid (Q0.out.keep hB)
      replace Q1 := Lib.hid (Q1.out.keep hB)
      replace QR := Lib.hid (QR.out.keep hB)
      clear hB Q0a Q0b Q1a Q1b QRa QRb QRc QRd
      have Q0a := Q0.out.c0
      have Q0b := Q0.out.c1
      have Q1a := Q1.out.c0
      have Q1b := Q1.out.c1
      have QRa := QR.out.c0
      have QRb := QR.out.c1
      have QRc := QR.out.f0
      have QRd := QR.out.f1
      go_wp2
      exact bodyPost_ret (results23 Try.results16 _ _ (w.heap.size + 1 + 1) 23 0 0 _ rfl rfl (QR.out.set 0 0)) rfl ⟨by rw [HE.out]; rfl, (HW1.out.setCell (by simp; omega) _).setCell (by simp; omega) _⟩
  · have HE : Hid (moveP a b c d = ⟨0, 0, 1⟩) := Lib.hid (by unfold moveP; rw [if_neg (by rintro ⟨k0, k1⟩; exact h0 k0)])
    have b0 : decide (On a b) = false := decide_eq_false h0
    clear h0
    go_enter Try.func16, Try.ntmps16
    go_wp2_with fail
    have P0 : Hid (Pt (((w.alloc (.cells #[.int .i64 a, .int .i64 b] 23)).alloc (.cells #[.int .i64 c, .int .i64 d] 23)).alloc (.cells #[.int .i64 0, .int .i64 0] 23)) (w.heap.size) 23 (a) (b)) := Lib.hid (((Pt.mk_ rfl).alloc _).alloc _)
    have P1 : Hid (Pt (((w.alloc (.cells #[.int .i64 a, .int .i64 b] 23)).alloc (.cells #[.int .i64 c, .int .i64 d] 23)).alloc (.cells #[.int .i64 0, .int .i64 0] 23)) (w.heap.size + 1) 23 (c) (d)) := Lib.hid ((Pt.mk_ (by simp)).alloc _)
    have PR : Hid (Pt (((w.alloc (.cells #[.int .i64 a, .int .i64 b] 23)).alloc (.cells #[.int .i64 c, .int .i64 d] 23)).alloc (.cells #[.int .i64 0, .int .i64 0] 23)) (w.heap.size + 1 + 1) 23 (0) (0)) := Lib.hid (Pt.mk_ (by simp))
    have HW : Hid (Below w.heap.size w (((w.alloc (.cells #[.int .i64 a, .int .i64 b] 23)).alloc (.cells #[.int .i64 c, .int .i64 d] 23)).alloc (.cells #[.int .i64 0, .int .i64 0] 23))) := Lib.hid ((((Below.refl _ _).alloc (Nat.le_refl _) _).alloc (by simp) _).alloc (by simp; omega) _)
    generalize (((w.alloc (.cells #[.int .i64 a, .int .i64 b] 23)).alloc (.cells #[.int .i64 c, .int .i64 d] 23)).alloc (.cells #[.int .i64 0, .int .i64 0] 23)) = V at P0 P1 PR HW  ⊢
    refine (ron_any _ _ _).mono ?_
    rintro e W0 ⟨rfl, hB⟩
    have HW1 := Lib.hid (HW.out.trans (hB.mono HW.out.size))
    have Q0 := Lib.hid (P0.out.keep hB)
    have Q1 := Lib.hid (P1.out.keep hB)
    have QR := Lib.hid (PR.out.keep hB)
    clear hB HW P0 P1 PR
    have Q0a := Q0.out.c0
    have Q0b := Q0.out.c1
    have Q1a := Q1.out.c0
    have Q1b := Q1.out.c1
    have QRa := QR.out.c0
    have QRb := QR.out.c1
    have QRc := QR.out.f0
    have QRd := QR.out.f1
    go_wp2
    exact bodyPost_ret (results23 Try.results16 _ _ (w.heap.size + 1 + 1) 23 0 0 _ rfl rfl (QR.out.set 0 0)) rfl ⟨by rw [HE.out]; rfl, (HW1.out.setCell (by simp; omega) _).setCell (by simp; omega) _⟩


set_option maxRecDepth 100000 in
set_option maxHeartbeats 2000000 in
theorem rtimes_any (a b c d : Int) (w : World) :
    Calls Try.prog 18 #[.agg #[.int .i64 a, .int .i64 b], .agg #[.int .i64 c, .int .i64 d]] w fun e w' => e = .returned (resV (timesP a b c d)) ∧ Below w.heap.size w w' := by
  by_cases h0 : On a b
  · skip
    by_cases h1 : On c d
    · skip
      have b0 : decide (On a b) = true := decide_eq_true h0
      have b1 : decide (On c d) = true := decide_eq_true h1
      have HE : Hid (timesP a b c d = held (a * c - b * d) (a * d + b * c)) := Lib.hid (by unfold timesP; rw [if_pos ⟨h0, h1⟩])
      have HC : Hid (∀ w, Calls Try.prog 55 #[.agg #[.int .i64 (a * c - b * d), .int .i64 (a * d + b * c)]] w fun e w' => e = .returned (.tuple #[.agg #[.int .i64 (held (a * c - b * d) (a * d + b * c)).x, .int .i64 (held (a * c - b * d) (a * d + b * c)).y], .int .i64 (held (a * c - b * d) (a * d + b * c)).e]) ∧ Below w.heap.size w w') := Lib.hid fun w => rheld_any _ _ w
      generalize held (a * c - b * d) (a * d + b * c) = R at HE HC
      obtain ⟨rx, ry, re'⟩ := R
      simp only at HC
      obtain ⟨o1, o2, o3, o4⟩ := h0
      obtain ⟨o5, o6, o7, o8⟩ := h1
      have m1 := mul_bound (a := a) (b := c) (A := 1000) (B := 1000) (by omega) (by omega) (by omega) (by omega)
      have m2 := mul_bound (a := b) (b := d) (A := 1000) (B := 1000) (by omega) (by omega) (by omega) (by omega)
      have m3 := mul_bound (a := a) (b := d) (A := 1000) (B := 1000) (by omega) (by omega) (by omega) (by omega)
      have m4 := mul_bound (a := b) (b := c) (A := 1000) (B := 1000) (by omega) (by omega) (by omega) (by omega)
      go_enter Try.func18, Try.ntmps18
      go_wp2_with fail
      have P0 : Hid (Pt (((w.alloc (.cells #[.int .i64 a, .int .i64 b] 23)).alloc (.cells #[.int .i64 c, .int .i64 d] 23)).alloc (.cells #[.int .i64 0, .int .i64 0] 23)) (w.heap.size) 23 (a) (b)) := Lib.hid (((Pt.mk_ rfl).alloc _).alloc _)
      have P1 : Hid (Pt (((w.alloc (.cells #[.int .i64 a, .int .i64 b] 23)).alloc (.cells #[.int .i64 c, .int .i64 d] 23)).alloc (.cells #[.int .i64 0, .int .i64 0] 23)) (w.heap.size + 1) 23 (c) (d)) := Lib.hid ((Pt.mk_ (by simp)).alloc _)
      have PR : Hid (Pt (((w.alloc (.cells #[.int .i64 a, .int .i64 b] 23)).alloc (.cells #[.int .i64 c, .int .i64 d] 23)).alloc (.cells #[.int .i64 0, .int .i64 0] 23)) (w.heap.size + 1 + 1) 23 (0) (0)) := Lib.hid (Pt.mk_ (by simp))
      have HW : Hid (Below w.heap.size w (((w.alloc (.cells #[.int .i64 a, .int .i64 b] 23)).alloc (.cells #[.int .i64 c, .int .i64 d] 23)).alloc (.cells #[.int .i64 0, .int .i64 0] 23))) := Lib.hid ((((Below.refl _ _).alloc (Nat.le_refl _) _).alloc (by simp) _).alloc (by simp; omega) _)
      generalize (((w.alloc (.cells #[.int .i64 a, .int .i64 b] 23)).alloc (.cells #[.int .i64 c, .int .i64 d] 23)).alloc (.cells #[.int .i64 0, .int .i64 0] 23)) = V at P0 P1 PR HW  ⊢
      refine (ron_any _ _ _).mono ?_
      rintro e W0 ⟨rfl, hB⟩
      have HW1 := Lib.hid (HW.out.trans (hB.mono HW.out.size))
      have Q0 := Lib.hid (P0.out.keep hB)
      have Q1 := Lib.hid (P1.out.keep hB)
      have QR := Lib.hid (PR.out.keep hB)
      clear hB HW P0 P1 PR
      have Q0a := Q0.out.c0
      have Q0b := Q0.out.c1
      have Q1a := Q1.out.c0
      have Q1b := Q1.out.c1
      have QRa := QR.out.c0
      have QRb := QR.out.c1
      have QRc := QR.out.f0
      have QRd := QR.out.f1
      go_wp2_with fail
      refine (ron_any _ _ _).mono ?_
      rintro e W1 ⟨rfl, hB⟩
      replace HW1 := Lib.hid (HW1.out.trans (hB.mono HW1.out.size))
      replace Q0 := Lib.hid (Q0.out.keep hB)
      replace Q1 := Lib.hid (Q1.out.keep hB)
      replace QR := Lib.hid (QR.out.keep hB)
      clear hB Q0a Q0b Q1a Q1b QRa QRb QRc QRd
      have Q0a := Q0.out.c0
      have Q0b := Q0.out.c1
      have Q1a := Q1.out.c0
      have Q1b := Q1.out.c1
      have QRa := QR.out.c0
      have QRb := QR.out.c1
      have QRc := QR.out.f0
      have QRd := QR.out.f1
      go_wp2_with fail
      refine (HC.out _).mono ?_
      rintro e Z ⟨rfl, hB⟩
      replace HW1 := Lib.hid (HW1.out.trans (hB.mono HW1.out.size))
      replace Q0 := Lib.hid (Q0.out.keep hB)
      replace Q1 := Lib.hid (Q1.out.keep hB)
      replace QR := Lib.hid (QR.out.keep hB)
      clear hB Q0a Q0b Q1a Q1b QRa QRb QRc QRd
      have Q0a := Q0.out.c0
      have Q0b := Q0.out.c1
      have Q1a := Q1.out.c0
      have Q1b := Q1.out.c1
      have QRa := QR.out.c0
      have QRb := QR.out.c1
      have QRc := QR.out.f0
      have QRd := QR.out.f1
      go_wp2
      exact bodyPost_ret (results23 Try.results18 _ _ (w.heap.size + 1 + 1) 23 rx ry _ rfl rfl (QR.out.set rx ry)) rfl ⟨by rw [HE.out]; rfl, (HW1.out.setCell (by simp; omega) _).setCell (by simp; omega) _⟩
    · have HE : Hid (timesP a b c d = ⟨0, 0, 1⟩) := Lib.hid (by unfold timesP; rw [if_neg (by rintro ⟨k0, k1⟩; exact h1 k1)])
      have b0 : decide (On a b) = true := decide_eq_true h0
      have b1 : decide (On c d) = false := decide_eq_false h1
      clear h0 h1
      go_enter Try.func18, Try.ntmps18
      go_wp2_with fail
      have P0 : Hid (Pt (((w.alloc (.cells #[.int .i64 a, .int .i64 b] 23)).alloc (.cells #[.int .i64 c, .int .i64 d] 23)).alloc (.cells #[.int .i64 0, .int .i64 0] 23)) (w.heap.size) 23 (a) (b)) := Lib.hid (((Pt.mk_ rfl).alloc _).alloc _)
      have P1 : Hid (Pt (((w.alloc (.cells #[.int .i64 a, .int .i64 b] 23)).alloc (.cells #[.int .i64 c, .int .i64 d] 23)).alloc (.cells #[.int .i64 0, .int .i64 0] 23)) (w.heap.size + 1) 23 (c) (d)) := Lib.hid ((Pt.mk_ (by simp)).alloc _)
      have PR : Hid (Pt (((w.alloc (.cells #[.int .i64 a, .int .i64 b] 23)).alloc (.cells #[.int .i64 c, .int .i64 d] 23)).alloc (.cells #[.int .i64 0, .int .i64 0] 23)) (w.heap.size + 1 + 1) 23 (0) (0)) := Lib.hid (Pt.mk_ (by simp))
      have HW : Hid (Below w.heap.size w (((w.alloc (.cells #[.int .i64 a, .int .i64 b] 23)).alloc (.cells #[.int .i64 c, .int .i64 d] 23)).alloc (.cells #[.int .i64 0, .int .i64 0] 23))) := Lib.hid ((((Below.refl _ _).alloc (Nat.le_refl _) _).alloc (by simp) _).alloc (by simp; omega) _)
      generalize (((w.alloc (.cells #[.int .i64 a, .int .i64 b] 23)).alloc (.cells #[.int .i64 c, .int .i64 d] 23)).alloc (.cells #[.int .i64 0, .int .i64 0] 23)) = V at P0 P1 PR HW  ⊢
      refine (ron_any _ _ _).mono ?_
      rintro e W0 ⟨rfl, hB⟩
      have HW1 := Lib.hid (HW.out.trans (hB.mono HW.out.size))
      have Q0 := Lib.hid (P0.out.keep hB)
      have Q1 := Lib.hid (P1.out.keep hB)
      have QR := Lib.hid (PR.out.keep hB)
      clear hB HW P0 P1 PR
      have Q0a := Q0.out.c0
      have Q0b := Q0.out.c1
      have Q1a := Q1.out.c0
      have Q1b := Q1.out.c1
      have QRa := QR.out.c0
      have QRb := QR.out.c1
      have QRc := QR.out.f0
      have QRd := QR.out.f1
      go_wp2_with fail
      refine (ron_any _ _ _).mono ?_
      rintro e W1 ⟨rfl, hB⟩
      replace HW1 := Lib.hid (HW1.out.trans (hB.mono HW1.out.size))
      replace Q0 := Lib.hid (Q0.out.keep hB)
      replace Q1 := Lib.hid (Q1.out.keep hB)
      replace QR := Lib.hid (QR.out.keep hB)
      clear hB Q0a Q0b Q1a Q1b QRa QRb QRc QRd
      have Q0a := Q0.out.c0
      have Q0b := Q0.out.c1
      have Q1a := Q1.out.c0
      have Q1b := Q1.out.c1
      have QRa := QR.out.c0
      have QRb := QR.out.c1
      have QRc := QR.out.f0
      have QRd := QR.out.f1
      go_wp2
      exact bodyPost_ret (results23 Try.results18 _ _ (w.heap.size + 1 + 1) 23 0 0 _ rfl rfl (QR.out.set 0 0)) rfl ⟨by rw [HE.out]; rfl, (HW1.out.setCell (by simp; omega) _).setCell (by simp; omega) _⟩
  · have HE : Hid (timesP a b c d = ⟨0, 0, 1⟩) := Lib.hid (by unfold timesP; rw [if_neg (by rintro ⟨k0, k1⟩; exact h0 k0)])
    have b0 : decide (On a b) = false := decide_eq_false h0
    clear h0
    go_enter Try.func18, Try.ntmps18
    go_wp2_with fail
    have P0 : Hid (Pt (((w.alloc (.cells #[.int .i64 a, .int .i64 b] 23)).alloc (.cells #[.int .i64 c, .int .i64 d] 23)).alloc (.cells #[.int .i64 0, .int .i64 0] 23)) (w.heap.size) 23 (a) (b)) := Lib.hid (((Pt.mk_ rfl).alloc _).alloc _)
    have P1 : Hid (Pt (((w.alloc (.cells #[.int .i64 a, .int .i64 b] 23)).alloc (.cells #[.int .i64 c, .int .i64 d] 23)).alloc (.cells #[.int .i64 0, .int .i64 0] 23)) (w.heap.size + 1) 23 (c) (d)) := Lib.hid ((Pt.mk_ (by simp)).alloc _)
    have PR : Hid (Pt (((w.alloc (.cells #[.int .i64 a, .int .i64 b] 23)).alloc (.cells #[.int .i64 c, .int .i64 d] 23)).alloc (.cells #[.int .i64 0, .int .i64 0] 23)) (w.heap.size + 1 + 1) 23 (0) (0)) := Lib.hid (Pt.mk_ (by simp))
    have HW : Hid (Below w.heap.size w (((w.alloc (.cells #[.int .i64 a, .int .i64 b] 23)).alloc (.cells #[.int .i64 c, .int .i64 d] 23)).alloc (.cells #[.int .i64 0, .int .i64 0] 23))) := Lib.hid ((((Below.refl _ _).alloc (Nat.le_refl _) _).alloc (by simp) _).alloc (by simp; omega) _)
    generalize (((w.alloc (.cells #[.int .i64 a, .int .i64 b] 23)).alloc (.cells #[.int .i64 c, .int .i64 d] 23)).alloc (.cells #[.int .i64 0, .int .i64 0] 23)) = V at P0 P1 PR HW  ⊢
    refine (ron_any _ _ _).mono ?_
    rintro e W0 ⟨rfl, hB⟩
    have HW1 := Lib.hid (HW.out.trans (hB.mono HW.out.size))
    have Q0 := Lib.hid (P0.out.keep hB)
    have Q1 := Lib.hid (P1.out.keep hB)
    have QR := Lib.hid (PR.out.keep hB)
    clear hB HW P0 P1 PR
    have Q0a := Q0.out.c0
    have Q0b := Q0.out.c1
    have Q1a := Q1.out.c0
    have Q1b := Q1.out.c1
    have QRa := QR.out.c0
    have QRb := QR.out.c1
    have QRc := QR.out.f0
    have QRd := QR.out.f1
    go_wp2
    exact bodyPost_ret (results23 Try.results18 _ _ (w.heap.size + 1 + 1) 23 0 0 _ rfl rfl (QR.out.set 0 0)) rfl ⟨by rw [HE.out]; rfl, (HW1.out.setCell (by simp; omega) _).setCell (by simp; omega) _⟩


set_option maxRecDepth 100000 in
set_option maxHeartbeats 2000000 in
theorem rfar_any (a b c d : Int) (w : World) :
    Calls Try.prog 26 #[.agg #[.int .i64 a, .int .i64 b], .agg #[.int .i64 c, .int .i64 d]] w fun e w' => e = .returned (.int .i64 (farP a b c d)) ∧ Below w.heap.size w w' := by
  by_cases h0 : On a b
  · skip
    by_cases h1 : On c d
    · skip
      have b0 : decide (On a b) = true := decide_eq_true h0
      have b1 : decide (On c d) = true := decide_eq_true h1
      have HE : Hid (farP a b c d = (a - c) * (a - c) + (b - d) * (b - d)) := Lib.hid (by unfold farP; rw [if_pos ⟨h0, h1⟩])
      obtain ⟨o1, o2, o3, o4⟩ := h0
      obtain ⟨o5, o6, o7, o8⟩ := h1
      have m1 := mul_bound (a := a - c) (b := a - c) (A := 2000) (B := 2000) (by omega) (by omega) (by omega) (by omega)
      have m2 := mul_bound (a := b - d) (b := b - d) (A := 2000) (B := 2000) (by omega) (by omega) (by omega) (by omega)
      go_enter Try.func26, Try.ntmps26
      go_wp2_with fail
      have P0 : Hid (Pt ((w.alloc (.cells #[.int .i64 a, .int .i64 b] 23)).alloc (.cells #[.int .i64 c, .int .i64 d] 23)) (w.heap.size) 23 (a) (b)) := Lib.hid ((Pt.mk_ rfl).alloc _)
      have P1 : Hid (Pt ((w.alloc (.cells #[.int .i64 a, .int .i64 b] 23)).alloc (.cells #[.int .i64 c, .int .i64 d] 23)) (w.heap.size + 1) 23 (c) (d)) := Lib.hid (Pt.mk_ (by simp))
      have HW : Hid (Below w.heap.size w ((w.alloc (.cells #[.int .i64 a, .int .i64 b] 23)).alloc (.cells #[.int .i64 c, .int .i64 d] 23))) := Lib.hid (((Below.refl _ _).alloc (Nat.le_refl _) _).alloc (by simp) _)
      generalize ((w.alloc (.cells #[.int .i64 a, .int .i64 b] 23)).alloc (.cells #[.int .i64 c, .int .i64 d] 23)) = V at P0 P1 HW  ⊢
      refine (ron_any _ _ _).mono ?_
      rintro e W0 ⟨rfl, hB⟩
      have HW1 := Lib.hid (HW.out.trans (hB.mono HW.out.size))
      have Q0 := Lib.hid (P0.out.keep hB)
      have Q1 := Lib.hid (P1.out.keep hB)
      clear hB HW P0 P1
      have Q0a := Q0.out.c0
      have Q0b := Q0.out.c1
      have Q1a := Q1.out.c0
      have Q1b := Q1.out.c1
      go_wp2_with fail
      refine (ron_any _ _ _).mono ?_
      rintro e W1 ⟨rfl, hB⟩
      replace HW1 := Lib.hid (HW1.out.trans (hB.mono HW1.out.size))
      replace Q0 := Lib.hid (Q0.out.keep hB)
      replace Q1 := Lib.hid (Q1.out.keep hB)
      clear hB Q0a Q0b Q1a Q1b
      have Q0a := Q0.out.c0
      have Q0b := Q0.out.c1
      have Q1a := Q1.out.c0
      have Q1b := Q1.out.c1
      go_wp2
      go_ret
      exact ⟨by rw [HE.out]; rfl, HW1.out⟩
    · have HE : Hid (farP a b c d = -1) := Lib.hid (by unfold farP; rw [if_neg (by rintro ⟨k0, k1⟩; exact h1 k1)])
      have b0 : decide (On a b) = true := decide_eq_true h0
      have b1 : decide (On c d) = false := decide_eq_false h1
      clear h0 h1
      go_enter Try.func26, Try.ntmps26
      go_wp2_with fail
      have P0 : Hid (Pt ((w.alloc (.cells #[.int .i64 a, .int .i64 b] 23)).alloc (.cells #[.int .i64 c, .int .i64 d] 23)) (w.heap.size) 23 (a) (b)) := Lib.hid ((Pt.mk_ rfl).alloc _)
      have P1 : Hid (Pt ((w.alloc (.cells #[.int .i64 a, .int .i64 b] 23)).alloc (.cells #[.int .i64 c, .int .i64 d] 23)) (w.heap.size + 1) 23 (c) (d)) := Lib.hid (Pt.mk_ (by simp))
      have HW : Hid (Below w.heap.size w ((w.alloc (.cells #[.int .i64 a, .int .i64 b] 23)).alloc (.cells #[.int .i64 c, .int .i64 d] 23))) := Lib.hid (((Below.refl _ _).alloc (Nat.le_refl _) _).alloc (by simp) _)
      generalize ((w.alloc (.cells #[.int .i64 a, .int .i64 b] 23)).alloc (.cells #[.int .i64 c, .int .i64 d] 23)) = V at P0 P1 HW  ⊢
      refine (ron_any _ _ _).mono ?_
      rintro e W0 ⟨rfl, hB⟩
      have HW1 := Lib.hid (HW.out.trans (hB.mono HW.out.size))
      have Q0 := Lib.hid (P0.out.keep hB)
      have Q1 := Lib.hid (P1.out.keep hB)
      clear hB HW P0 P1
      have Q0a := Q0.out.c0
      have Q0b := Q0.out.c1
      have Q1a := Q1.out.c0
      have Q1b := Q1.out.c1
      go_wp2_with fail
      refine (ron_any _ _ _).mono ?_
      rintro e W1 ⟨rfl, hB⟩
      replace HW1 := Lib.hid (HW1.out.trans (hB.mono HW1.out.size))
      replace Q0 := Lib.hid (Q0.out.keep hB)
      replace Q1 := Lib.hid (Q1.out.keep hB)
      clear hB Q0a Q0b Q1a Q1b
      have Q0a := Q0.out.c0
      have Q0b := Q0.out.c1
      have Q1a := Q1.out.c0
      have Q1b := Q1.out.c1
      go_wp2
      go_ret
      exact ⟨by rw [HE.out]; rfl, HW1.out⟩
  · have HE : Hid (farP a b c d = -1) := Lib.hid (by unfold farP; rw [if_neg (by rintro ⟨k0, k1⟩; exact h0 k0)])
    have b0 : decide (On a b) = false := decide_eq_false h0
    clear h0
    go_enter Try.func26, Try.ntmps26
    go_wp2_with fail
    have P0 : Hid (Pt ((w.alloc (.cells #[.int .i64 a, .int .i64 b] 23)).alloc (.cells #[.int .i64 c, .int .i64 d] 23)) (w.heap.size) 23 (a) (b)) := Lib.hid ((Pt.mk_ rfl).alloc _)
    have P1 : Hid (Pt ((w.alloc (.cells #[.int .i64 a, .int .i64 b] 23)).alloc (.cells #[.int .i64 c, .int .i64 d] 23)) (w.heap.size + 1) 23 (c) (d)) := Lib.hid (Pt.mk_ (by simp))
    have HW : Hid (Below w.heap.size w ((w.alloc (.cells #[.int .i64 a, .int .i64 b] 23)).alloc (.cells #[.int .i64 c, .int .i64 d] 23))) := Lib.hid (((Below.refl _ _).alloc (Nat.le_refl _) _).alloc (by simp) _)
    generalize ((w.alloc (.cells #[.int .i64 a, .int .i64 b] 23)).alloc (.cells #[.int .i64 c, .int .i64 d] 23)) = V at P0 P1 HW  ⊢
    refine (ron_any _ _ _).mono ?_
    rintro e W0 ⟨rfl, hB⟩
    have HW1 := Lib.hid (HW.out.trans (hB.mono HW.out.size))
    have Q0 := Lib.hid (P0.out.keep hB)
    have Q1 := Lib.hid (P1.out.keep hB)
    clear hB HW P0 P1
    have Q0a := Q0.out.c0
    have Q0b := Q0.out.c1
    have Q1a := Q1.out.c0
    have Q1b := Q1.out.c1
    go_wp2
    go_ret
    exact ⟨by rw [HE.out]; rfl, HW1.out⟩


set_option maxRecDepth 100000 in
set_option maxHeartbeats 2000000 in
theorem rside_pos (a b c d x y : Int) (w : World) (h0 : On a b) (h1 : On c d) (h2 : On x y) (hcr : 0 < crossP a b c d x y) :
    Calls Try.prog 30 #[.agg #[.int .i64 a, .int .i64 b], .agg #[.int .i64 c, .int .i64 d], .agg #[.int .i64 x, .int .i64 y]] w fun e w' => e = .returned (.int .i64 (sideP a b c d x y)) ∧ Below w.heap.size w w' := by
  have HE : Hid (sideP a b c d x y = 1) := Lib.hid (by unfold sideP; rw [if_pos ⟨h0, h1, h2⟩, if_pos hcr])
  unfold crossP at hcr
  have b0 : decide (On a b) = true := decide_eq_true h0
  have b1 : decide (On c d) = true := decide_eq_true h1
  have b2 : decide (On x y) = true := decide_eq_true h2
  obtain ⟨o1, o2, o3, o4⟩ := h0
  obtain ⟨o5, o6, o7, o8⟩ := h1
  obtain ⟨o9, p1, p2, p3⟩ := h2
  have m1 := mul_bound (a := c - a) (b := y - b) (A := 2000) (B := 2000) (by omega) (by omega) (by omega) (by omega)
  have m2 := mul_bound (a := d - b) (b := x - a) (A := 2000) (B := 2000) (by omega) (by omega) (by omega) (by omega)
  go_enter Try.func30, Try.ntmps30
  go_wp2_with fail
  have P0 : Hid (Pt (((w.alloc (.cells #[.int .i64 a, .int .i64 b] 23)).alloc (.cells #[.int .i64 c, .int .i64 d] 23)).alloc (.cells #[.int .i64 x, .int .i64 y] 23)) (w.heap.size) 23 (a) (b)) := Lib.hid (((Pt.mk_ rfl).alloc _).alloc _)
  have P1 : Hid (Pt (((w.alloc (.cells #[.int .i64 a, .int .i64 b] 23)).alloc (.cells #[.int .i64 c, .int .i64 d] 23)).alloc (.cells #[.int .i64 x, .int .i64 y] 23)) (w.heap.size + 1) 23 (c) (d)) := Lib.hid ((Pt.mk_ (by simp)).alloc _)
  have P2 : Hid (Pt (((w.alloc (.cells #[.int .i64 a, .int .i64 b] 23)).alloc (.cells #[.int .i64 c, .int .i64 d] 23)).alloc (.cells #[.int .i64 x, .int .i64 y] 23)) (w.heap.size + 1 + 1) 23 (x) (y)) := Lib.hid (Pt.mk_ (by simp))
  have HW : Hid (Below w.heap.size w (((w.alloc (.cells #[.int .i64 a, .int .i64 b] 23)).alloc (.cells #[.int .i64 c, .int .i64 d] 23)).alloc (.cells #[.int .i64 x, .int .i64 y] 23))) := Lib.hid ((((Below.refl _ _).alloc (Nat.le_refl _) _).alloc (by simp) _).alloc (by simp; omega) _)
  generalize (((w.alloc (.cells #[.int .i64 a, .int .i64 b] 23)).alloc (.cells #[.int .i64 c, .int .i64 d] 23)).alloc (.cells #[.int .i64 x, .int .i64 y] 23)) = V at P0 P1 P2 HW  ⊢
  refine (ron_any _ _ _).mono ?_
  rintro e W0 ⟨rfl, hB⟩
  have HW1 := Lib.hid (HW.out.trans (hB.mono HW.out.size))
  have Q0 := Lib.hid (P0.out.keep hB)
  have Q1 := Lib.hid (P1.out.keep hB)
  have Q2 := Lib.hid (P2.out.keep hB)
  clear hB HW P0 P1 P2
  have Q0a := Q0.out.c0
  have Q0b := Q0.out.c1
  have Q1a := Q1.out.c0
  have Q1b := Q1.out.c1
  have Q2a := Q2.out.c0
  have Q2b := Q2.out.c1
  go_wp2_with fail
  refine (ron_any _ _ _).mono ?_
  rintro e W1 ⟨rfl, hB⟩
  replace HW1 := Lib.hid (HW1.out.trans (hB.mono HW1.out.size))
  replace Q0 := Lib.hid (Q0.out.keep hB)
  replace Q1 := Lib.hid (Q1.out.keep hB)
  replace Q2 := Lib.hid (Q2.out.keep hB)
  clear hB Q0a Q0b Q1a Q1b Q2a Q2b
  have Q0a := Q0.out.c0
  have Q0b := Q0.out.c1
  have Q1a := Q1.out.c0
  have Q1b := Q1.out.c1
  have Q2a := Q2.out.c0
  have Q2b := Q2.out.c1
  go_wp2_with fail
  refine (ron_any _ _ _).mono ?_
  rintro e W2 ⟨rfl, hB⟩
  replace HW1 := Lib.hid (HW1.out.trans (hB.mono HW1.out.size))
  replace Q0 := Lib.hid (Q0.out.keep hB)
  replace Q1 := Lib.hid (Q1.out.keep hB)
  replace Q2 := Lib.hid (Q2.out.keep hB)
  clear hB Q0a Q0b Q1a Q1b Q2a Q2b
  have Q0a := Q0.out.c0
  have Q0b := Q0.out.c1
  have Q1a := Q1.out.c0
  have Q1b := Q1.out.c1
  have Q2a := Q2.out.c0
  have Q2b := Q2.out.c1
  go_wp2
  go_ret
  exact ⟨by rw [HE.out]; rfl, HW1.out⟩


set_option maxRecDepth 100000 in
set_option maxHeartbeats 2000000 in
theorem rside_neg (a b c d x y : Int) (w : World) (h0 : On a b) (h1 : On c d) (h2 : On x y) (hcr : crossP a b c d x y < 0) :
    Calls Try.prog 30 #[.agg #[.int .i64 a, .int .i64 b], .agg #[.int .i64 c, .int .i64 d], .agg #[.int .i64 x, .int .i64 y]] w fun e w' => e = .returned (.int .i64 (sideP a b c d x y)) ∧ Below w.heap.size w w' := by
  have HE : Hid (sideP a b c d x y = -1) := Lib.hid (by unfold sideP; rw [if_pos ⟨h0, h1, h2⟩, if_neg (by omega), if_pos hcr])
  unfold crossP at hcr
  have b0 : decide (On a b) = true := decide_eq_true h0
  have b1 : decide (On c d) = true := decide_eq_true h1
  have b2 : decide (On x y) = true := decide_eq_true h2
  obtain ⟨o1, o2, o3, o4⟩ := h0
  obtain ⟨o5, o6, o7, o8⟩ := h1
  obtain ⟨o9, p1, p2, p3⟩ := h2
  have m1 := mul_bound (a := c - a) (b := y - b) (A := 2000) (B := 2000) (by omega) (by omega) (by omega) (by omega)
  have m2 := mul_bound (a := d - b) (b := x - a) (A := 2000) (B := 2000) (by omega) (by omega) (by omega) (by omega)
  go_enter Try.func30, Try.ntmps30
  go_wp2_with fail
  have P0 : Hid (Pt (((w.alloc (.cells #[.int .i64 a, .int .i64 b] 23)).alloc (.cells #[.int .i64 c, .int .i64 d] 23)).alloc (.cells #[.int .i64 x, .int .i64 y] 23)) (w.heap.size) 23 (a) (b)) := Lib.hid (((Pt.mk_ rfl).alloc _).alloc _)
  have P1 : Hid (Pt (((w.alloc (.cells #[.int .i64 a, .int .i64 b] 23)).alloc (.cells #[.int .i64 c, .int .i64 d] 23)).alloc (.cells #[.int .i64 x, .int .i64 y] 23)) (w.heap.size + 1) 23 (c) (d)) := Lib.hid ((Pt.mk_ (by simp)).alloc _)
  have P2 : Hid (Pt (((w.alloc (.cells #[.int .i64 a, .int .i64 b] 23)).alloc (.cells #[.int .i64 c, .int .i64 d] 23)).alloc (.cells #[.int .i64 x, .int .i64 y] 23)) (w.heap.size + 1 + 1) 23 (x) (y)) := Lib.hid (Pt.mk_ (by simp))
  have HW : Hid (Below w.heap.size w (((w.alloc (.cells #[.int .i64 a, .int .i64 b] 23)).alloc (.cells #[.int .i64 c, .int .i64 d] 23)).alloc (.cells #[.int .i64 x, .int .i64 y] 23))) := Lib.hid ((((Below.refl _ _).alloc (Nat.le_refl _) _).alloc (by simp) _).alloc (by simp; omega) _)
  generalize (((w.alloc (.cells #[.int .i64 a, .int .i64 b] 23)).alloc (.cells #[.int .i64 c, .int .i64 d] 23)).alloc (.cells #[.int .i64 x, .int .i64 y] 23)) = V at P0 P1 P2 HW  ⊢
  refine (ron_any _ _ _).mono ?_
  rintro e W0 ⟨rfl, hB⟩
  have HW1 := Lib.hid (HW.out.trans (hB.mono HW.out.size))
  have Q0 := Lib.hid (P0.out.keep hB)
  have Q1 := Lib.hid (P1.out.keep hB)
  have Q2 := Lib.hid (P2.out.keep hB)
  clear hB HW P0 P1 P2
  have Q0a := Q0.out.c0
  have Q0b := Q0.out.c1
  have Q1a := Q1.out.c0
  have Q1b := Q1.out.c1
  have Q2a := Q2.out.c0
  have Q2b := Q2.out.c1
  go_wp2_with fail
  refine (ron_any _ _ _).mono ?_
  rintro e W1 ⟨rfl, hB⟩
  replace HW1 := Lib.hid (HW1.out.trans (hB.mono HW1.out.size))
  replace Q0 := Lib.hid (Q0.out.keep hB)
  replace Q1 := Lib.hid (Q1.out.keep hB)
  replace Q2 := Lib.hid (Q2.out.keep hB)
  clear hB Q0a Q0b Q1a Q1b Q2a Q2b
  have Q0a := Q0.out.c0
  have Q0b := Q0.out.c1
  have Q1a := Q1.out.c0
  have Q1b := Q1.out.c1
  have Q2a := Q2.out.c0
  have Q2b := Q2.out.c1
  go_wp2_with fail
  refine (ron_any _ _ _).mono ?_
  rintro e W2 ⟨rfl, hB⟩
  replace HW1 := Lib.hid (HW1.out.trans (hB.mono HW1.out.size))
  replace Q0 := Lib.hid (Q0.out.keep hB)
  replace Q1 := Lib.hid (Q1.out.keep hB)
  replace Q2 := Lib.hid (Q2.out.keep hB)
  clear hB Q0a Q0b Q1a Q1b Q2a Q2b
  have Q0a := Q0.out.c0
  have Q0b := Q0.out.c1
  have Q1a := Q1.out.c0
  have Q1b := Q1.out.c1
  have Q2a := Q2.out.c0
  have Q2b := Q2.out.c1
  go_wp2
  go_ret
  exact ⟨by rw [HE.out]; rfl, HW1.out⟩


set_option maxRecDepth 100000 in
set_option maxHeartbeats 2000000 in
theorem rside_zero (a b c d x y : Int) (w : World) (h0 : On a b) (h1 : On c d) (h2 : On x y) (hcr : crossP a b c d x y = 0) :
    Calls Try.prog 30 #[.agg #[.int .i64 a, .int .i64 b], .agg #[.int .i64 c, .int .i64 d], .agg #[.int .i64 x, .int .i64 y]] w fun e w' => e = .returned (.int .i64 (sideP a b c d x y)) ∧ Below w.heap.size w w' := by
  have HE : Hid (sideP a b c d x y = 0) := Lib.hid (by unfold sideP; rw [if_pos ⟨h0, h1, h2⟩, if_neg (by omega), if_neg (by omega)])
  unfold crossP at hcr
  have b0 : decide (On a b) = true := decide_eq_true h0
  have b1 : decide (On c d) = true := decide_eq_true h1
  have b2 : decide (On x y) = true := decide_eq_true h2
  obtain ⟨o1, o2, o3, o4⟩ := h0
  obtain ⟨o5, o6, o7, o8⟩ := h1
  obtain ⟨o9, p1, p2, p3⟩ := h2
  have m1 := mul_bound (a := c - a) (b := y - b) (A := 2000) (B := 2000) (by omega) (by omega) (by omega) (by omega)
  have m2 := mul_bound (a := d - b) (b := x - a) (A := 2000) (B := 2000) (by omega) (by omega) (by omega) (by omega)
  go_enter Try.func30, Try.ntmps30
  go_wp2_with fail
  have P0 : Hid (Pt (((w.alloc (.cells #[.int .i64 a, .int .i64 b] 23)).alloc (.cells #[.int .i64 c, .int .i64 d] 23)).alloc (.cells #[.int .i64 x, .int .i64 y] 23)) (w.heap.size) 23 (a) (b)) := Lib.hid (((Pt.mk_ rfl).alloc _).alloc _)
  have P1 : Hid (Pt (((w.alloc (.cells #[.int .i64 a, .int .i64 b] 23)).alloc (.cells #[.int .i64 c, .int .i64 d] 23)).alloc (.cells #[.int .i64 x, .int .i64 y] 23)) (w.heap.size + 1) 23 (c) (d)) := Lib.hid ((Pt.mk_ (by simp)).alloc _)
  have P2 : Hid (Pt (((w.alloc (.cells #[.int .i64 a, .int .i64 b] 23)).alloc (.cells #[.int .i64 c, .int .i64 d] 23)).alloc (.cells #[.int .i64 x, .int .i64 y] 23)) (w.heap.size + 1 + 1) 23 (x) (y)) := Lib.hid (Pt.mk_ (by simp))
  have HW : Hid (Below w.heap.size w (((w.alloc (.cells #[.int .i64 a, .int .i64 b] 23)).alloc (.cells #[.int .i64 c, .int .i64 d] 23)).alloc (.cells #[.int .i64 x, .int .i64 y] 23))) := Lib.hid ((((Below.refl _ _).alloc (Nat.le_refl _) _).alloc (by simp) _).alloc (by simp; omega) _)
  generalize (((w.alloc (.cells #[.int .i64 a, .int .i64 b] 23)).alloc (.cells #[.int .i64 c, .int .i64 d] 23)).alloc (.cells #[.int .i64 x, .int .i64 y] 23)) = V at P0 P1 P2 HW  ⊢
  refine (ron_any _ _ _).mono ?_
  rintro e W0 ⟨rfl, hB⟩
  have HW1 := Lib.hid (HW.out.trans (hB.mono HW.out.size))
  have Q0 := Lib.hid (P0.out.keep hB)
  have Q1 := Lib.hid (P1.out.keep hB)
  have Q2 := Lib.hid (P2.out.keep hB)
  clear hB HW P0 P1 P2
  have Q0a := Q0.out.c0
  have Q0b := Q0.out.c1
  have Q1a := Q1.out.c0
  have Q1b := Q1.out.c1
  have Q2a := Q2.out.c0
  have Q2b := Q2.out.c1
  go_wp2_with fail
  refine (ron_any _ _ _).mono ?_
  rintro e W1 ⟨rfl, hB⟩
  replace HW1 := Lib.hid (HW1.out.trans (hB.mono HW1.out.size))
  replace Q0 := Lib.hid (Q0.out.keep hB)
  replace Q1 := Lib.hid (Q1.out.keep hB)
  replace Q2 := Lib.hid (Q2.out.keep hB)
  clear hB Q0a Q0b Q1a Q1b Q2a Q2b
  have Q0a := Q0.out.c0
  have Q0b := Q0.out.c1
  have Q1a := Q1.out.c0
  have Q1b := Q1.out.c1
  have Q2a := Q2.out.c0
  have Q2b := Q2.out.c1
  go_wp2_with fail
  refine (ron_any _ _ _).mono ?_
  rintro e W2 ⟨rfl, hB⟩
  replace HW1 := Lib.hid (HW1.out.trans (hB.mono HW1.out.size))
  replace Q0 := Lib.hid (Q0.out.keep hB)
  replace Q1 := Lib.hid (Q1.out.keep hB)
  replace Q2 := Lib.hid (Q2.out.keep hB)
  clear hB Q0a Q0b Q1a Q1b Q2a Q2b
  have Q0a := Q0.out.c0
  have Q0b := Q0.out.c1
  have Q1a := Q1.out.c0
  have Q1b := Q1.out.c1
  have Q2a := Q2.out.c0
  have Q2b := Q2.out.c1
  go_wp2
  go_ret
  exact ⟨by rw [HE.out]; rfl, HW1.out⟩


set_option maxRecDepth 100000 in
set_option maxHeartbeats 2000000 in
theorem rside_any (a b c d x y : Int) (w : World) :
    Calls Try.prog 30 #[.agg #[.int .i64 a, .int .i64 b], .agg #[.int .i64 c, .int .i64 d], .agg #[.int .i64 x, .int .i64 y]] w fun e w' => e = .returned (.int .i64 (sideP a b c d x y)) ∧ Below w.heap.size w w' := by
  by_cases h0 : On a b
  · skip
    by_cases h1 : On c d
    · skip
      by_cases h2 : On x y
      · skip
        rcases Int.lt_trichotomy (crossP a b c d x y) 0 with h | h | h
        · exact rside_neg a b c d x y w h0 h1 h2 h
        · exact rside_zero a b c d x y w h0 h1 h2 h
        · exact rside_pos a b c d x y w h0 h1 h2 h
      · have HE : Hid (sideP a b c d x y = 0) := Lib.hid (by unfold sideP; rw [if_neg (by rintro ⟨k0, k1, k2⟩; exact h2 k2)])
        have b0 : decide (On a b) = true := decide_eq_true h0
        have b1 : decide (On c d) = true := decide_eq_true h1
        have b2 : decide (On x y) = false := decide_eq_false h2
        clear h0 h1 h2
        go_enter Try.func30, Try.ntmps30
        go_wp2_with fail
        have P0 : Hid (Pt (((w.alloc (.cells #[.int .i64 a, .int .i64 b] 23)).alloc (.cells #[.int .i64 c, .int .i64 d] 23)).alloc (.cells #[.int .i64 x, .int .i64 y] 23)) (w.heap.size) 23 (a) (b)) := Lib.hid (((Pt.mk_ rfl).alloc _).alloc _)
        have P1 : Hid (Pt (((w.alloc (.cells #[.int .i64 a, .int .i64 b] 23)).alloc (.cells #[.int .i64 c, .int .i64 d] 23)).alloc (.cells #[.int .i64 x, .int .i64 y] 23)) (w.heap.size + 1) 23 (c) (d)) := Lib.hid ((Pt.mk_ (by simp)).alloc _)
        have P2 : Hid (Pt (((w.alloc (.cells #[.int .i64 a, .int .i64 b] 23)).alloc (.cells #[.int .i64 c, .int .i64 d] 23)).alloc (.cells #[.int .i64 x, .int .i64 y] 23)) (w.heap.size + 1 + 1) 23 (x) (y)) := Lib.hid (Pt.mk_ (by simp))
        have HW : Hid (Below w.heap.size w (((w.alloc (.cells #[.int .i64 a, .int .i64 b] 23)).alloc (.cells #[.int .i64 c, .int .i64 d] 23)).alloc (.cells #[.int .i64 x, .int .i64 y] 23))) := Lib.hid ((((Below.refl _ _).alloc (Nat.le_refl _) _).alloc (by simp) _).alloc (by simp; omega) _)
        generalize (((w.alloc (.cells #[.int .i64 a, .int .i64 b] 23)).alloc (.cells #[.int .i64 c, .int .i64 d] 23)).alloc (.cells #[.int .i64 x, .int .i64 y] 23)) = V at P0 P1 P2 HW  ⊢
        refine (ron_any _ _ _).mono ?_
        rintro e W0 ⟨rfl, hB⟩
        have HW1 := Lib.hid (HW.out.trans (hB.mono HW.out.size))
        have Q0 := Lib.hid (P0.out.keep hB)
        have Q1 := Lib.hid (P1.out.keep hB)
        have Q2 := Lib.hid (P2.out.keep hB)
        clear hB HW P0 P1 P2
        have Q0a := Q0.out.c0
        have Q0b := Q0.out.c1
        have Q1a := Q1.out.c0
        have Q1b := Q1.out.c1
        have Q2a := Q2.out.c0
        have Q2b := Q2.out.c1
        go_wp2_with fail
        refine (ron_any _ _ _).mono ?_
        rintro e W1 ⟨rfl, hB⟩
        replace HW1 := Lib.hid (HW1.out.trans (hB.mono HW1.out.size))
        replace Q0 := Lib.hid (Q0.out.keep hB)
        replace Q1 := Lib.hid (Q1.out.keep hB)
        replace Q2 := Lib.hid (Q2.out.keep hB)
        clear hB Q0a Q0b Q1a Q1b Q2a Q2b
        have Q0a := Q0.out.c0
        have Q0b := Q0.out.c1
        have Q1a := Q1.out.c0
        have Q1b := Q1.out.c1
        have Q2a := Q2.out.c0
        have Q2b := Q2.out.c1
        go_wp2_with fail
        refine (ron_any _ _ _).mono ?_
        rintro e W2 ⟨rfl, hB⟩
        replace HW1 := Lib.hid (HW1.out.trans (hB.mono HW1.out.size))
        replace Q0 := Lib.hid (Q0.out.keep hB)
        replace Q1 := Lib.hid (Q1.out.keep hB)
        replace Q2 := Lib.hid (Q2.out.keep hB)
        clear hB Q0a Q0b Q1a Q1b Q2a Q2b
        have Q0a := Q0.out.c0
        have Q0b := Q0.out.c1
        have Q1a := Q1.out.c0
        have Q1b := Q1.out.c1
        have Q2a := Q2.out.c0
        have Q2b := Q2.out.c1
        go_wp2
        go_ret
        exact ⟨by rw [HE.out]; rfl, HW1.out⟩
    · have HE : Hid (sideP a b c d x y = 0) := Lib.hid (by unfold sideP; rw [if_neg (by rintro ⟨k0, k1, k2⟩; exact h1 k1)])
      have b0 : decide (On a b) = true := decide_eq_true h0
      have b1 : decide (On c d) = false := decide_eq_false h1
      clear h0 h1
      go_enter Try.func30, Try.ntmps30
      go_wp2_with fail
      have P0 : Hid (Pt (((w.alloc (.cells #[.int .i64 a, .int .i64 b] 23)).alloc (.cells #[.int .i64 c, .int .i64 d] 23)).alloc (.cells #[.int .i64 x, .int .i64 y] 23)) (w.heap.size) 23 (a) (b)) := Lib.hid (((Pt.mk_ rfl).alloc _).alloc _)
      have P1 : Hid (Pt (((w.alloc (.cells #[.int .i64 a, .int .i64 b] 23)).alloc (.cells #[.int .i64 c, .int .i64 d] 23)).alloc (.cells #[.int .i64 x, .int .i64 y] 23)) (w.heap.size + 1) 23 (c) (d)) := Lib.hid ((Pt.mk_ (by simp)).alloc _)
      have P2 : Hid (Pt (((w.alloc (.cells #[.int .i64 a, .int .i64 b] 23)).alloc (.cells #[.int .i64 c, .int .i64 d] 23)).alloc (.cells #[.int .i64 x, .int .i64 y] 23)) (w.heap.size + 1 + 1) 23 (x) (y)) := Lib.hid (Pt.mk_ (by simp))
      have HW : Hid (Below w.heap.size w (((w.alloc (.cells #[.int .i64 a, .int .i64 b] 23)).alloc (.cells #[.int .i64 c, .int .i64 d] 23)).alloc (.cells #[.int .i64 x, .int .i64 y] 23))) := Lib.hid ((((Below.refl _ _).alloc (Nat.le_refl _) _).alloc (by simp) _).alloc (by simp; omega) _)
      generalize (((w.alloc (.cells #[.int .i64 a, .int .i64 b] 23)).alloc (.cells #[.int .i64 c, .int .i64 d] 23)).alloc (.cells #[.int .i64 x, .int .i64 y] 23)) = V at P0 P1 P2 HW  ⊢
      refine (ron_any _ _ _).mono ?_
      rintro e W0 ⟨rfl, hB⟩
      have HW1 := Lib.hid (HW.out.trans (hB.mono HW.out.size))
      have Q0 := Lib.hid (P0.out.keep hB)
      have Q1 := Lib.hid (P1.out.keep hB)
      have Q2 := Lib.hid (P2.out.keep hB)
      clear hB HW P0 P1 P2
      have Q0a := Q0.out.c0
      have Q0b := Q0.out.c1
      have Q1a := Q1.out.c0
      have Q1b := Q1.out.c1
      have Q2a := Q2.out.c0
      have Q2b := Q2.out.c1
      go_wp2_with fail
      refine (ron_any _ _ _).mono ?_
      rintro e W1 ⟨rfl, hB⟩
      replace HW1 := Lib.hid (HW1.out.trans (hB.mono HW1.out.size))
      replace Q0 := Lib.hid (Q0.out.keep hB)
      replace Q1 := Lib.hid (Q1.out.keep hB)
      replace Q2 := Lib.hid (Q2.out.keep hB)
      clear hB Q0a Q0b Q1a Q1b Q2a Q2b
      have Q0a := Q0.out.c0
      have Q0b := Q0.out.c1
      have Q1a := Q1.out.c0
      have Q1b := Q1.out.c1
      have Q2a := Q2.out.c0
      have Q2b := Q2.out.c1
      go_wp2
      go_ret
      exact ⟨by rw [HE.out]; rfl, HW1.out⟩
  · have HE : Hid (sideP a b c d x y = 0) := Lib.hid (by unfold sideP; rw [if_neg (by rintro ⟨k0, k1, k2⟩; exact h0 k0)])
    have b0 : decide (On a b) = false := decide_eq_false h0
    clear h0
    go_enter Try.func30, Try.ntmps30
    go_wp2_with fail
    have P0 : Hid (Pt (((w.alloc (.cells #[.int .i64 a, .int .i64 b] 23)).alloc (.cells #[.int .i64 c, .int .i64 d] 23)).alloc (.cells #[.int .i64 x, .int .i64 y] 23)) (w.heap.size) 23 (a) (b)) := Lib.hid (((Pt.mk_ rfl).alloc _).alloc _)
    have P1 : Hid (Pt (((w.alloc (.cells #[.int .i64 a, .int .i64 b] 23)).alloc (.cells #[.int .i64 c, .int .i64 d] 23)).alloc (.cells #[.int .i64 x, .int .i64 y] 23)) (w.heap.size + 1) 23 (c) (d)) := Lib.hid ((Pt.mk_ (by simp)).alloc _)
    have P2 : Hid (Pt (((w.alloc (.cells #[.int .i64 a, .int .i64 b] 23)).alloc (.cells #[.int .i64 c, .int .i64 d] 23)).alloc (.cells #[.int .i64 x, .int .i64 y] 23)) (w.heap.size + 1 + 1) 23 (x) (y)) := Lib.hid (Pt.mk_ (by simp))
    have HW : Hid (Below w.heap.size w (((w.alloc (.cells #[.int .i64 a, .int .i64 b] 23)).alloc (.cells #[.int .i64 c, .int .i64 d] 23)).alloc (.cells #[.int .i64 x, .int .i64 y] 23))) := Lib.hid ((((Below.refl _ _).alloc (Nat.le_refl _) _).alloc (by simp) _).alloc (by simp; omega) _)
    generalize (((w.alloc (.cells #[.int .i64 a, .int .i64 b] 23)).alloc (.cells #[.int .i64 c, .int .i64 d] 23)).alloc (.cells #[.int .i64 x, .int .i64 y] 23)) = V at P0 P1 P2 HW  ⊢
    refine (ron_any _ _ _).mono ?_
    rintro e W0 ⟨rfl, hB⟩
    have HW1 := Lib.hid (HW.out.trans (hB.mono HW.out.size))
    have Q0 := Lib.hid (P0.out.keep hB)
    have Q1 := Lib.hid (P1.out.keep hB)
    have Q2 := Lib.hid (P2.out.keep hB)
    clear hB HW P0 P1 P2
    have Q0a := Q0.out.c0
    have Q0b := Q0.out.c1
    have Q1a := Q1.out.c0
    have Q1b := Q1.out.c1
    have Q2a := Q2.out.c0
    have Q2b := Q2.out.c1
    go_wp2
    go_ret
    exact ⟨by rw [HE.out]; rfl, HW1.out⟩

end Go.Proofs.Ytjbjekejekmipaa
