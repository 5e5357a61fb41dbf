/-
  The document's Turn.
-/
import Derived.Test.YtjbjekejekmipaaChD
namespace Go.Proofs.Ytjbjekejekmipaa
open Go.RowKit
set_option linter.unusedVariables false
theorem tmod4_pos {n : Int} (h : 0 ≤ n.tmod 4) : n.tmod 4 = n % 4 := by
  rw [Int.tmod_eq_emod] at h ⊢
  split at h <;> rename_i h1
  · rw [if_pos h1]; omega
  · exfalso; simp at h1 h; omega
theorem tmod4_neg {n : Int} (h : n.tmod 4 < 0) : n.tmod 4 + 4 = n % 4 := by
  rw [Int.tmod_eq_emod] at h ⊢
  split at h <;> rename_i h1
  · exfalso; omega
  · rw [if_neg h1]; simp

set_option maxRecDepth 100000 in
set_option maxHeartbeats 2000000 in
theorem rturn_neg (a b c d n : Int) (w : World) (h0 : On a b) (h1 : On c d) (hn : n.tmod 4 < 0) :
    Calls Try.prog 20 #[.agg #[.int .i64 a, .int .i64 b], .agg #[.int .i64 c, .int .i64 d], .int .i64 n] w fun e w' => e = .returned (resV (turnP a b c d n)) ∧ Below w.heap.size w w' := by
  obtain ⟨q, hq, q4⟩ : ∃ q : Nat, n % 4 = (q : Int) ∧ q < 4 := ⟨(n % 4).toNat, by omega, by omega⟩
  have HE : Hid (turnP a b c d n = held (c + rotX q (a - c) (b - d)) (d + rotY q (a - c) (b - d))) := Lib.hid (by unfold turnP; rw [if_pos ⟨h0, h1⟩, hq]; rfl)
  have b0 : decide (On a b) = true := decide_eq_true h0
  have b1 : decide (On c d) = true := decide_eq_true h1
  obtain ⟨o1, o2, o3, o4⟩ := h0
  obtain ⟨o5, o6, o7, o8⟩ := h1
  have HR : Hid (∀ k, (-2000 ≤ rotX k (a - c) (b - d) ∧ rotX k (a - c) (b - d) ≤ 2000) ∧ (-2000 ≤ rotY k (a - c) (b - d) ∧ rotY k (a - c) (b - d) ≤ 2000)) := Lib.hid fun k => rot_bound k _ _ (by omega) (by omega) (by omega) (by omega)
  obtain ⟨r, hr⟩ : ∃ r, n.tmod 4 = r := ⟨_, rfl⟩
  have hr0 : r < 0 := by omega
  have hr4 : r + 4 = (q : Int) := by rw [← hr, ← hq]; exact tmod4_neg hn
  clear hq hn
  go_enter Try.func20, Try.ntmps20
  go_wp2_with fail
  have P0 : Hid (Pt (((w.alloc (.cells #[.int .i64 a, .int .i64 b] 23)).alloc (.cells #[.int .i64 c, .int .i64 d] 23)).alloc (.cells #[.int .i64 0, .int .i64 0] 23)) (w.heap.size) 23 (a) (b)) := Lib.hid (((Pt.mk_ rfl).alloc _).alloc _)
  have P1 : Hid (Pt (((w.alloc (.cells #[.int .i64 a, .int .i64 b] 23)).alloc (.cells #[.int .i64 c, .int .i64 d] 23)).alloc (.cells #[.int .i64 0, .int .i64 0] 23)) (w.heap.size + 1) 23 (c) (d)) := Lib.hid ((Pt.mk_ (by simp)).alloc _)
  have PR : Hid (Pt (((w.alloc (.cells #[.int .i64 a, .int .i64 b] 23)).alloc (.cells #[.int .i64 c, .int .i64 d] 23)).alloc (.cells #[.int .i64 0, .int .i64 0] 23)) (w.heap.size + 1 + 1) 23 (0) (0)) := Lib.hid (Pt.mk_ (by simp))
  have HW : Hid (Below w.heap.size w (((w.alloc (.cells #[.int .i64 a, .int .i64 b] 23)).alloc (.cells #[.int .i64 c, .int .i64 d] 23)).alloc (.cells #[.int .i64 0, .int .i64 0] 23))) := Lib.hid ((((Below.refl _ _).alloc (Nat.le_refl _) _).alloc (by simp) _).alloc (by simp; omega) _)
  generalize (((w.alloc (.cells #[.int .i64 a, .int .i64 b] 23)).alloc (.cells #[.int .i64 c, .int .i64 d] 23)).alloc (.cells #[.int .i64 0, .int .i64 0] 23)) = V at P0 P1 PR HW  ⊢
  refine (ron_any _ _ _).mono ?_
  rintro e W0 ⟨rfl, hB⟩
  have HW1 := Lib.hid (HW.out.trans (hB.mono HW.out.size))
  have Q0 := Lib.hid (P0.out.keep hB)
  have Q1 := Lib.hid (P1.out.keep hB)
  have QR := Lib.hid (PR.out.keep hB)
  clear hB HW P0 P1 PR
  have Q0a := Q0.out.c0
  have Q0b := Q0.out.c1
  have Q1a := Q1.out.c0
  have Q1b := Q1.out.c1
  have QRa := QR.out.c0
  have QRb := QR.out.c1
  have QRc := QR.out.f0
  have QRd := QR.out.f1
  go_wp2_with fail
  refine (ron_any _ _ _).mono ?_
  rintro e W1 ⟨rfl, hB⟩
  replace HW1 := Lib.hid (HW1.out.trans (hB.mono HW1.out.size))
  replace Q0 := Lib.hid (Q0.out.keep hB)
  replace Q1 := Lib.hid (Q1.out.keep hB)
  replace QR := Lib.hid (QR.out.keep hB)
  clear hB Q0a Q0b Q1a Q1b QRa QRb QRc QRd
  have Q0a := Q0.out.c0
  have Q0b := Q0.out.c1
  have Q1a := Q1.out.c0
  have Q1b := Q1.out.c1
  have QRa := QR.out.c0
  have QRb := QR.out.c1
  have QRc := QR.out.f0
  have QRd := QR.out.f1
  go_wp2_with fail
  go_quiet (fail)
  replace HW1 := Lib.hid (below_drewN HW1.out nq)
  replace Q0 := Lib.hid (Q0.out.drewN nq)
  replace Q1 := Lib.hid (Q1.out.drewN nq)
  replace QR := Lib.hid (QR.out.drewN nq)
  clear Q0a Q0b Q1a Q1b QRa QRb QRc QRd
  have Q0a := Q0.out.c0
  have Q0b := Q0.out.c1
  have Q1a := Q1.out.c0
  have Q1b := Q1.out.c1
  have QRa := QR.out.c0
  have QRb := QR.out.c1
  have QRc := QR.out.f0
  have QRd := QR.out.f1
  generalize W1.drewN nq = W2 at *
  go_wp2_with fail
  go_loop [8, 9, 10] (fun x y i => ∃ (k : Nat), k ≤ q ∧ i = .int .i64 k ∧ x = .int .i64 (rotX k (a - c) (b - d)) ∧ y = .int .i64 (rotY k (a - c) (b - d))) (fun _ _ i => q - (intOf i).toNat)
  case atStart => exact ⟨0, Nat.zero_le _, rfl, rfl, rfl⟩
  case round =>
    obtain ⟨k, hk, rfl, rfl, rfl⟩ := hrel
    obtain ⟨⟨r1, r2⟩, r3, r4⟩ := HR.out k
    by_cases hlt : k < q
    · have HX := Lib.hid (rotX_succ k (a - c) (b - d))
      have HY := Lib.hid (rotY_succ k (a - c) (b - d))
      generalize rotX k (a - c) (b - d) = X at *
      generalize rotY k (a - c) (b - d) = Y at *
      go_wp2
      go_round
      case rel => exact ⟨k + 1, by omega, by go_num, by rw [HX.out], by rw [HY.out]⟩
      case measure => simp [intOf]; omega
    · obtain rfl : k = q := by omega
      have HC : Hid (∀ w, Calls Try.prog 55 #[.agg #[.int .i64 (c + rotX k (a - c) (b - d)), .int .i64 (d + rotY k (a - c) (b - d))]] w fun e w' => e = .returned (.tuple #[.agg #[.int .i64 (held (c + rotX k (a - c) (b - d)) (d + rotY k (a - c) (b - d))).x, .int .i64 (held (c + rotX k (a - c) (b - d)) (d + rotY k (a - c) (b - d))).y], .int .i64 (held (c + rotX k (a - c) (b - d)) (d + rotY k (a - c) (b - d))).e]) ∧ Below w.heap.size w w') := Lib.hid fun w => rheld_any _ _ w
      generalize held (c + rotX k (a - c) (b - d)) (d + rotY k (a - c) (b - d)) = R at HE HC
      obtain ⟨rx, ry, re'⟩ := R
      simp only at HC
      generalize rotX k (a - c) (b - d) = X at *
      generalize rotY k (a - c) (b - d) = Y at *
      go_wp2_with fail
      refine (HC.out _).mono ?_
      rintro e Z ⟨rfl, hB⟩
      replace HW1 := Lib.hid (HW1.out.trans (hB.mono HW1.out.size))
      replace Q0 := Lib.hid (Q0.out.keep hB)
      replace Q1 := Lib.hid (Q1.out.keep hB)
      replace QR := Lib.hid (QR.out.keep hB)
      clear hB Q0a Q0b Q1a Q1b QRa QRb QRc QRd
      have Q0a := Q0.out.c0
      have Q0b := Q0.out.c1
      have Q1a := Q1.out.c0
      have Q1b := Q1.out.c1
      have QRa := QR.out.c0
      have QRb := QR.out.c1
      have QRc := QR.out.f0
      have QRd := QR.out.f1
      go_wp2
      exact bodyPost_ret (results23 Try.results20 _ _ (w.heap.size + 1 + 1) 23 rx ry _ rfl rfl (QR.out.set rx ry)) rfl ⟨by rw [HE.out]; rfl, (HW1.out.setCell (by simp; omega) _).setCell (by simp; omega) _⟩


set_option maxRecDepth 100000 in
set_option maxHeartbeats 2000000 in
theorem rturn_pos (a b c d n : Int) (w : World) (h0 : On a b) (h1 : On c d) (hn : 0 ≤ n.tmod 4) :
    Calls Try.prog 20 #[.agg #[.int .i64 a, .int .i64 b], .agg #[.int .i64 c, .int .i64 d], .int .i64 n] w fun e w' => e = .returned (resV (turnP a b c d n)) ∧ Below w.heap.size w w' := by
  obtain ⟨q, hq, q4⟩ : ∃ q : Nat, n % 4 = (q : Int) ∧ q < 4 := ⟨(n % 4).toNat, by omega, by omega⟩
  have HE : Hid (turnP a b c d n = held (c + rotX q (a - c) (b - d)) (d + rotY q (a - c) (b - d))) := Lib.hid (by unfold turnP; rw [if_pos ⟨h0, h1⟩, hq]; rfl)
  have b0 : decide (On a b) = true := decide_eq_true h0
  have b1 : decide (On c d) = true := decide_eq_true h1
  obtain ⟨o1, o2, o3, o4⟩ := h0
  obtain ⟨o5, o6, o7, o8⟩ := h1
  have HR : Hid (∀ k, (-2000 ≤ rotX k (a - c) (b - d) ∧ rotX k (a - c) (b - d) ≤ 2000) ∧ (-2000 ≤ rotY k (a - c) (b - d) ∧ rotY k (a - c) (b - d) ≤ 2000)) := Lib.hid fun k => rot_bound k _ _ (by omega) (by omega) (by omega) (by omega)
  obtain ⟨r, hr⟩ : ∃ r, n.tmod 4 = r := ⟨_, rfl⟩
  obtain rfl : r = (q : Int) := by rw [← hr, ← hq]; exact tmod4_pos hn
  clear hq hn
  go_enter Try.func20, Try.ntmps20
  go_wp2_with fail
  have P0 : Hid (Pt (((w.alloc (.cells #[.int .i64 a, .int .i64 b] 23)).alloc (.cells #[.int .i64 c, .int .i64 d] 23)).alloc (.cells #[.int .i64 0, .int .i64 0] 23)) (w.heap.size) 23 (a) (b)) := Lib.hid (((Pt.mk_ rfl).alloc _).alloc _)
  have P1 : Hid (Pt (((w.alloc (.cells #[.int .i64 a, .int .i64 b] 23)).alloc (.cells #[.int .i64 c, .int .i64 d] 23)).alloc (.cells #[.int .i64 0, .int .i64 0] 23)) (w.heap.size + 1) 23 (c) (d)) := Lib.hid ((Pt.mk_ (by simp)).alloc _)
  have PR : Hid (Pt (((w.alloc (.cells #[.int .i64 a, .int .i64 b] 23)).alloc (.cells #[.int .i64 c, .int .i64 d] 23)).alloc (.cells #[.int .i64 0, .int .i64 0] 23)) (w.heap.size + 1 + 1) 23 (0) (0)) := Lib.hid (Pt.mk_ (by simp))
  have HW : Hid (Below w.heap.size w (((w.alloc (.cells #[.int .i64 a, .int .i64 b] 23)).alloc (.cells #[.int .i64 c, .int .i64 d] 23)).alloc (.cells #[.int .i64 0, .int .i64 0] 23))) := Lib.hid ((((Below.refl _ _).alloc (Nat.le_refl _) _).alloc (by simp) _).alloc (by simp; omega) _)
  generalize (((w.alloc (.cells #[.int .i64 a, .int .i64 b] 23)).alloc (.cells #[.int .i64 c, .int .i64 d] 23)).alloc (.cells #[.int .i64 0, .int .i64 0] 23)) = V at P0 P1 PR HW  ⊢
  refine (ron_any _ _ _).mono ?_
  rintro e W0 ⟨rfl, hB⟩
  have HW1 := Lib.hid (HW.out.trans (hB.mono HW.out.size))
  have Q0 := Lib.hid (P0.out.keep hB)
  have Q1 := Lib.hid (P1.out.keep hB)
  have QR := Lib.hid (PR.out.keep hB)
  clear hB HW P0 P1 PR
  have Q0a := Q0.out.c0
  have Q0b := Q0.out.c1
  have Q1a := Q1.out.c0
  have Q1b := Q1.out.c1
  have QRa := QR.out.c0
  have QRb := QR.out.c1
  have QRc := QR.out.f0
  have QRd := QR.out.f1
  go_wp2_with fail
  refine (ron_any _ _ _).mono ?_
  rintro e W1 ⟨rfl, hB⟩
  replace HW1 := Lib.hid (HW1.out.trans (hB.mono HW1.out.size))
  replace Q0 := Lib.hid (Q0.out.keep hB)
  replace Q1 := Lib.hid (Q1.out.keep hB)
  replace QR := Lib.hid (QR.out.keep hB)
  clear hB Q0a Q0b Q1a Q1b QRa QRb QRc QRd
  have Q0a := Q0.out.c0
  have Q0b := Q0.out.c1
  have Q1a := Q1.out.c0
  have Q1b := Q1.out.c1
  have QRa := QR.out.c0
  have QRb := QR.out.c1
  have QRc := QR.out.f0
  have QRd := QR.out.f1
  go_wp2_with fail
  go_quiet (fail)
  replace HW1 := Lib.hid (below_drewN HW1.out nq)
  replace Q0 := Lib.hid (Q0.out.drewN nq)
  replace Q1 := Lib.hid (Q1.out.drewN nq)
  replace QR := Lib.hid (QR.out.drewN nq)
  clear Q0a Q0b Q1a Q1b QRa QRb QRc QRd
  have Q0a := Q0.out.c0
  have Q0b := Q0.out.c1
  have Q1a := Q1.out.c0
  have Q1b := Q1.out.c1
  have QRa := QR.out.c0
  have QRb := QR.out.c1
  have QRc := QR.out.f0
  have QRd := QR.out.f1
  generalize W1.drewN nq = W2 at *
  go_wp2_with fail
  go_loop [8, 9, 10] (fun x y i => ∃ (k : Nat), k ≤ q ∧ i = .int .i64 k ∧ x = .int .i64 (rotX k (a - c) (b - d)) ∧ y = .int .i64 (rotY k (a - c) (b - d))) (fun _ _ i => q - (intOf i).toNat)
  case atStart => exact ⟨0, Nat.zero_le _, rfl, rfl, rfl⟩
  case round =>
    obtain ⟨k, hk, rfl, rfl, rfl⟩ := hrel
    obtain ⟨⟨r1, r2⟩, r3, r4⟩ := HR.out k
    by_cases hlt : k < q
    · have HX := Lib.hid (rotX_succ k (a - c) (b - d))
      have HY := Lib.hid (rotY_succ k (a - c) (b - d))
      generalize rotX k (a - c) (b - d) = X at *
      generalize rotY k (a - c) (b - d) = Y at *
      go_wp2
      go_round
      case rel => exact ⟨k + 1, by omega, by go_num, by rw [HX.out], by rw [HY.out]⟩
      case measure => simp [intOf]; omega
    · obtain rfl : k = q := by omega
      have HC : Hid (∀ w, Calls Try.prog 55 #[.agg #[.int .i64 (c + rotX k (a - c) (b - d)), .int .i64 (d + rotY k (a - c) (b - d))]] w fun e w' => e = .returned (.tuple #[.agg #[.int .i64 (held (c + rotX k (a - c) (b - d)) (d + rotY k (a - c) (b - d))).x, .int .i64 (held (c + rotX k (a - c) (b - d)) (d + rotY k (a - c) (b - d))).y], .int .i64 (held (c + rotX k (a - c) (b - d)) (d + rotY k (a - c) (b - d))).e]) ∧ Below w.heap.size w w') := Lib.hid fun w => rheld_any _ _ w
      generalize held (c + rotX k (a - c) (b - d)) (d + rotY k (a - c) (b - d)) = R at HE HC
      obtain ⟨rx, ry, re'⟩ := R
      simp only at HC
      generalize rotX k (a - c) (b - d) = X at *
      generalize rotY k (a - c) (b - d) = Y at *
      go_wp2_with fail
      refine (HC.out _).mono ?_
      rintro e Z ⟨rfl, hB⟩
      replace HW1 := Lib.hid (HW1.out.trans (hB.mono HW1.out.size))
      replace Q0 := Lib.hid (Q0.out.keep hB)
      replace Q1 := Lib.hid (Q1.out.keep hB)
      replace QR := Lib.hid (QR.out.keep hB)
      clear hB Q0a Q0b Q1a Q1b QRa QRb QRc QRd
      have Q0a := Q0.out.c0
      have Q0b := Q0.out.c1
      have Q1a := Q1.out.c0
      have Q1b := Q1.out.c1
      have QRa := QR.out.c0
      have QRb := QR.out.c1
      have QRc := QR.out.f0
      have QRd := QR.out.f1
      go_wp2
      exact bodyPost_ret (results23 Try.results20 _ _ (w.heap.size + 1 + 1) 23 rx ry _ rfl rfl (QR.out.set rx ry)) rfl ⟨by rw [HE.out]; rfl, (HW1.out.setCell (by simp; omega) _).setCell (by simp; omega) _⟩

set_option maxRecDepth 100000 in
set_option maxHeartbeats 2000000 in
theorem rturn_any (a b c d n : Int) (w : World) :
    Calls Try.prog 20 #[.agg #[.int .i64 a, .int .i64 b], .agg #[.int .i64 c, .int .i64 d], .int .i64 n] w fun e w' => e = .returned (resV (turnP a b c d n)) ∧ Below w.heap.size w w' := by
  by_cases h0 : On a b
  · skip
    by_cases h1 : On c d
    · skip
      rcases Int.lt_or_le (n.tmod 4) 0 with h | h
      · exact rturn_neg a b c d n w h0 h1 h
      · exact rturn_pos a b c d n w h0 h1 h
    · have HE : Hid (turnP a b c d n = ⟨0, 0, 1⟩) := Lib.hid (by unfold turnP; rw [if_neg (by rintro ⟨k0, k1⟩; exact h1 k1)])
      have b0 : decide (On a b) = true := decide_eq_true h0
      have b1 : decide (On c d) = false := decide_eq_false h1
      clear h0 h1
      go_enter Try.func20, Try.ntmps20
      go_wp2_with fail
      have P0 : Hid (Pt (((w.alloc (.cells #[.int .i64 a, .int .i64 b] 23)).alloc (.cells #[.int .i64 c, .int .i64 d] 23)).alloc (.cells #[.int .i64 0, .int .i64 0] 23)) (w.heap.size) 23 (a) (b)) := Lib.hid (((Pt.mk_ rfl).alloc _).alloc _)
      have P1 : Hid (Pt (((w.alloc (.cells #[.int .i64 a, .int .i64 b] 23)).alloc (.cells #[.int .i64 c, .int .i64 d] 23)).alloc (.cells #[.int .i64 0, .int .i64 0] 23)) (w.heap.size + 1) 23 (c) (d)) := Lib.hid ((Pt.mk_ (by simp)).alloc _)
      have PR : Hid (Pt (((w.alloc (.cells #[.int .i64 a, .int .i64 b] 23)).alloc (.cells #[.int .i64 c, .int .i64 d] 23)).alloc (.cells #[.int .i64 0, .int .i64 0] 23)) (w.heap.size + 1 + 1) 23 (0) (0)) := Lib.hid (Pt.mk_ (by simp))
      have HW : Hid (Below w.heap.size w (((w.alloc (.cells #[.int .i64 a, .int .i64 b] 23)).alloc (.cells #[.int .i64 c, .int .i64 d] 23)).alloc (.cells #[.int .i64 0, .int .i64 0] 23))) := Lib.hid ((((Below.refl _ _).alloc (Nat.le_refl _) _).alloc (by simp) _).alloc (by simp; omega) _)
      generalize (((w.alloc (.cells #[.int .i64 a, .int .i64 b] 23)).alloc (.cells #[.int .i64 c, .int .i64 d] 23)).alloc (.cells #[.int .i64 0, .int .i64 0] 23)) = V at P0 P1 PR HW  ⊢
      refine (ron_any _ _ _).mono ?_
      rintro e W0 ⟨rfl, hB⟩
      have HW1 := Lib.hid (HW.out.trans (hB.mono HW.out.size))
      have Q0 := Lib.hid (P0.out.keep hB)
      have Q1 := Lib.hid (P1.out.keep hB)
      have QR := Lib.hid (PR.out.keep hB)
      clear hB HW P0 P1 PR
      have Q0a := Q0.out.c0
      have Q0b := Q0.out.c1
      have Q1a := Q1.out.c0
      have Q1b := Q1.out.c1
      have QRa := QR.out.c0
      have QRb := QR.out.c1
      have QRc := QR.out.f0
      have QRd := QR.out.f1
      go_wp2_with fail
      refine (ron_any _ _ _).mono ?_
      rintro e W1 ⟨rfl, hB⟩
      replace HW1 := Lib.hid (HW1.out.trans (hB.mono HW1.out.size))
      replace Q0 := Lib.hid (Q0.out.keep hB)
      replace Q1 := Lib.hid (Q1.out.keep hB)
      replace QR := Lib.hid (QR.out.keep hB)
      clear hB Q0a Q0b Q1a Q1b QRa QRb QRc QRd
      have Q0a := Q0.out.c0
      have Q0b := Q0.out.c1
      have Q1a := Q1.out.c0
      have Q1b := Q1.out.c1
      have QRa := QR.out.c0
      have QRb := QR.out.c1
      have QRc := QR.out.f0
      have QRd := QR.out.f1
      go_wp2
      exact bodyPost_ret (results23 Try.results20 _ _ (w.heap.size + 1 + 1) 23 0 0 _ rfl rfl (QR.out.set 0 0)) rfl ⟨by rw [HE.out]; rfl, (HW1.out.setCell (by simp; omega) _).setCell (by simp; omega) _⟩
  · have HE : Hid (turnP a b c d n = ⟨0, 0, 1⟩) := Lib.hid (by unfold turnP; rw [if_neg (by rintro ⟨k0, k1⟩; exact h0 k0)])
    have b0 : decide (On a b) = false := decide_eq_false h0
    clear h0
    go_enter Try.func20, Try.ntmps20
    go_wp2_with fail
    have P0 : Hid (Pt (((w.alloc (.cells #[.int .i64 a, .int .i64 b] 23)).alloc (.cells #[.int .i64 c, .int .i64 d] 23)).alloc (.cells #[.int .i64 0, .int .i64 0] 23)) (w.heap.size) 23 (a) (b)) := Lib.hid (((Pt.mk_ rfl).alloc _).alloc _)
    have P1 : Hid (Pt (((w.alloc (.cells #[.int .i64 a, .int .i64 b] 23)).alloc (.cells #[.int .i64 c, .int .i64 d] 23)).alloc (.cells #[.int .i64 0, .int .i64 0] 23)) (w.heap.size + 1) 23 (c) (d)) := Lib.hid ((Pt.mk_ (by simp)).alloc _)
    have PR : Hid (Pt (((w.alloc (.cells #[.int .i64 a, .int .i64 b] 23)).alloc (.cells #[.int .i64 c, .int .i64 d] 23)).alloc (.cells #[.int .i64 0, .int .i64 0] 23)) (w.heap.size + 1 + 1) 23 (0) (0)) := Lib.hid (Pt.mk_ (by simp))
    have HW : Hid (Below w.heap.size w (((w.alloc (.cells #[.int .i64 a, .int .i64 b] 23)).alloc (.cells #[.int .i64 c, .int .i64 d] 23)).alloc (.cells #[.int .i64 0, .int .i64 0] 23))) := Lib.hid ((((Below.refl _ _).alloc (Nat.le_refl _) _).alloc (by simp) _).alloc (by simp; omega) _)
    generalize (((w.alloc (.cells #[.int .i64 a, .int .i64 b] 23)).alloc (.cells #[.int .i64 c, .int .i64 d] 23)).alloc (.cells #[.int .i64 0, .int .i64 0] 23)) = V at P0 P1 PR HW  ⊢
    refine (ron_any _ _ _).mono ?_
    rintro e W0 ⟨rfl, hB⟩
    have HW1 := Lib.hid (HW.out.trans (hB.mono HW.out.size))
    have Q0 := Lib.hid (P0.out.keep hB)
    have Q1 := Lib.hid (P1.out.keep hB)
    have QR := Lib.hid (PR.out.keep hB)
    clear hB HW P0 P1 PR
    have Q0a := Q0.out.c0
    have Q0b := Q0.out.c1
    have Q1a := Q1.out.c0
    have Q1b := Q1.out.c1
    have QRa := QR.out.c0
    have QRb := QR.out.c1
    have QRc := QR.out.f0
    have QRd := QR.out.f1
    go_wp2
    exact bodyPost_ret (results23 Try.results20 _ _ (w.heap.size + 1 + 1) 23 0 0 _ rfl rfl (QR.out.set 0 0)) rfl ⟨by rw [HE.out]; rfl, (HW1.out.setCell (by simp; omega) _).setCell (by simp; omega) _⟩

end Go.Proofs.Ytjbjekejekmipaa
