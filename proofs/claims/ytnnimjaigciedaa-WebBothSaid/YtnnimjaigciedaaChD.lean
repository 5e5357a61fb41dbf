/-
  The document's chart: On, held, Move, Times, Turn, Far, Side: what they answer; memory that was there stays as it was. A spot as the program's.
-/
import Derived.Test.YtnnimjaigciedaaChC
namespace Go.Proofs.Ytnnimjaigciedaa
open Go.RowKit
set_option linter.unusedVariables false

theorem result24 {fn : Func} {p : Tmp} (h : fn.results = #[.cell p 62]) (tmps : Array Value) (w : World) (g t : Nat) (x y : Int) (hp : tmps.getD p undef = .pointer (some ⟨g, 0, none⟩)) (hP : Pt w g t x y) :
    (results fn tmps).run Try.prog w = .ok (.agg #[.int .i64 x, .int .i64 y]) w := by
  have hp2 : tmps[p]?.getD undef = .pointer (some ⟨g, 0, none⟩) := by simpa using hp
  simp only [results, h]
  simp [hp2, asAddr, load24 w g t x y hP]


set_option maxRecDepth 100000 in
set_option maxHeartbeats 2000000 in
theorem to_any (x y : Int) (w : World) :
    Calls Try.prog 25 #[.agg #[.int .i64 x, .int .i64 y]] w fun e w' => e = .returned (.agg #[.int .i64 x, .int .i64 y]) ∧ Below w.heap.size w w' := by
  go_enter Try.func25, Try.ntmps25
  go_wp2
  exact bodyPost_ret (result24 Try.results25 _ _ (w.heap.size + 1) 62 x y rfl (Pt.mk_ (by simp))) rfl ⟨rfl, ((Below.refl _ _).alloc (Nat.le_refl _) _).alloc (by simp) _⟩


set_option maxRecDepth 100000 in
set_option maxHeartbeats 2000000 in
theorem ron_any (x y : Int) (w : World) :
    Calls Try.prog 79 #[.agg #[.int .i64 x, .int .i64 y]] w fun e w' => e = .returned (.bool (decide (On x y))) ∧ Below w.heap.size w w' := by
  by_cases hon : On x y
  · have HE := Lib.hid (decide_eq_true hon)
    obtain ⟨o1, o2, o3, o4⟩ := hon
    go_enter Try.func79, Try.ntmps79
    go_wp2
    go_ret
    exact ⟨by rw [HE.out]; rfl, (Below.refl _ _).alloc (Nat.le_refl _) _⟩
  · have HE := Lib.hid (decide_eq_false hon)
    have h4 : x < -1000 ∨ (-1000 ≤ x ∧ 1000 < x) ∨ (-1000 ≤ x ∧ x ≤ 1000 ∧ y < -1000) ∨ (-1000 ≤ x ∧ x ≤ 1000 ∧ -1000 ≤ y ∧ 1000 < y) := by
      unfold On at hon
      omega
    clear hon
    rcases h4 with o1 | ⟨o1, o2⟩ | ⟨o1, o2, o3⟩ | ⟨o1, o2, o3, o4⟩
    all_goals
      first | have b9 : decide (y ≤ 1000) = false := decide_eq_false (by omega) | skip
      go_enter Try.func79, Try.ntmps79
      go_wp2
      go_ret
      exact ⟨by rw [HE.out]; rfl, (Below.refl _ _).alloc (Nat.le_refl _) _⟩


set_option maxRecDepth 100000 in
set_option maxHeartbeats 2000000 in
theorem rfar_any (a b c d : Int) (w : World) :
    Calls Try.prog 51 #[.agg #[.int .i64 a, .int .i64 b], .agg #[.int .i64 c, .int .i64 d]] w fun e w' => e = .returned (.int .i64 (farP a b c d)) ∧ Below w.heap.size w w' := by
  by_cases h0 : On a b
  · skip
    by_cases h1 : On c d
    · skip
      have b0 : decide (On a b) = true := decide_eq_true h0
      have b1 : decide (On c d) = true := decide_eq_true h1
      have HE : Hid (farP a b c d = (a - c) * (a - c) + (b - d) * (b - d)) := Lib.hid (by unfold farP; rw [if_pos ⟨h0, h1⟩])
      obtain ⟨o1, o2, o3, o4⟩ := h0
      obtain ⟨o5, o6, o7, o8⟩ := h1
      have m1 := mul_bound (a := a - c) (b := a - c) (A := 2000) (B := 2000) (by omega) (by omega) (by omega) (by omega)
      have m2 := mul_bound (a := b - d) (b := b - d) (A := 2000) (B := 2000) (by omega) (by omega) (by omega) (by omega)
      go_enter Try.func51, Try.ntmps51
      go_wp2_with fail
      have P0 : Hid (Pt ((w.alloc (.cells #[.int .i64 a, .int .i64 b] 56)).alloc (.cells #[.int .i64 c, .int .i64 d] 56)) (w.heap.size) 56 (a) (b)) := Lib.hid ((Pt.mk_ rfl).alloc _)
      have P1 : Hid (Pt ((w.alloc (.cells #[.int .i64 a, .int .i64 b] 56)).alloc (.cells #[.int .i64 c, .int .i64 d] 56)) (w.heap.size + 1) 56 (c) (d)) := Lib.hid (Pt.mk_ (by simp))
      have HW : Hid (Below w.heap.size w ((w.alloc (.cells #[.int .i64 a, .int .i64 b] 56)).alloc (.cells #[.int .i64 c, .int .i64 d] 56))) := Lib.hid (((Below.refl _ _).alloc (Nat.le_refl _) _).alloc (by simp) _)
      generalize ((w.alloc (.cells #[.int .i64 a, .int .i64 b] 56)).alloc (.cells #[.int .i64 c, .int .i64 d] 56)) = V at P0 P1 HW  ⊢
      refine (ron_any _ _ _).mono ?_
      rintro e W0 ⟨rfl, hB⟩
      have HW1 := Lib.hid (HW.out.trans (hB.mono HW.out.size))
      have Q0 := Lib.hid (P0.out.keep hB)
      have Q1 := Lib.hid (P1.out.keep hB)
      clear hB HW P0 P1
      have Q0a := Q0.out.c0
      have Q0b := Q0.out.c1
      have Q1a := Q1.out.c0
      have Q1b := Q1.out.c1
      go_wp2_with fail
      refine (ron_any _ _ _).mono ?_
      rintro e W1 ⟨rfl, hB⟩
      replace HW1 := Lib.hid (HW1.out.trans (hB.mono HW1.out.size))
      replace Q0 := Lib.hid (Q0.out.keep hB)
      replace Q1 := Lib.hid (Q1.out.keep hB)
      clear hB Q0a Q0b Q1a Q1b
      have Q0a := Q0.out.c0
      have Q0b := Q0.out.c1
      have Q1a := Q1.out.c0
      have Q1b := Q1.out.c1
      go_wp2
      go_ret
      exact ⟨by rw [HE.out]; rfl, HW1.out⟩
    · have HE : Hid (farP a b c d = -1) := Lib.hid (by unfold farP; rw [if_neg (by rintro ⟨k0, k1⟩; exact h1 k1)])
      have b0 : decide (On a b) = true := decide_eq_true h0
      have b1 : decide (On c d) = false := decide_eq_false h1
      clear h0 h1
      go_enter Try.func51, Try.ntmps51
      go_wp2_with fail
      have P0 : Hid (Pt ((w.alloc (.cells #[.int .i64 a, .int .i64 b] 56)).alloc (.cells #[.int .i64 c, .int .i64 d] 56)) (w.heap.size) 56 (a) (b)) := Lib.hid ((Pt.mk_ rfl).alloc _)
      have P1 : Hid (Pt ((w.alloc (.cells #[.int .i64 a, .int .i64 b] 56)).alloc (.cells #[.int .i64 c, .int .i64 d] 56)) (w.heap.size + 1) 56 (c) (d)) := Lib.hid (Pt.mk_ (by simp))
      have HW : Hid (Below w.heap.size w ((w.alloc (.cells #[.int .i64 a, .int .i64 b] 56)).alloc (.cells #[.int .i64 c, .int .i64 d] 56))) := Lib.hid (((Below.refl _ _).alloc (Nat.le_refl _) _).alloc (by simp) _)
      generalize ((w.alloc (.cells #[.int .i64 a, .int .i64 b] 56)).alloc (.cells #[.int .i64 c, .int .i64 d] 56)) = V at P0 P1 HW  ⊢
      refine (ron_any _ _ _).mono ?_
      rintro e W0 ⟨rfl, hB⟩
      have HW1 := Lib.hid (HW.out.trans (hB.mono HW.out.size))
      have Q0 := Lib.hid (P0.out.keep hB)
      have Q1 := Lib.hid (P1.out.keep hB)
      clear hB HW P0 P1
      have Q0a := Q0.out.c0
      have Q0b := Q0.out.c1
      have Q1a := Q1.out.c0
      have Q1b := Q1.out.c1
      go_wp2_with fail
      refine (ron_any _ _ _).mono ?_
      rintro e W1 ⟨rfl, hB⟩
      replace HW1 := Lib.hid (HW1.out.trans (hB.mono HW1.out.size))
      replace Q0 := Lib.hid (Q0.out.keep hB)
      replace Q1 := Lib.hid (Q1.out.keep hB)
      clear hB Q0a Q0b Q1a Q1b
      have Q0a := Q0.out.c0
      have Q0b := Q0.out.c1
      have Q1a := Q1.out.c0
      have Q1b := Q1.out.c1
      go_wp2
      go_ret
      exact ⟨by rw [HE.out]; rfl, HW1.out⟩
  · have HE : Hid (farP a b c d = -1) := Lib.hid (by unfold farP; rw [if_neg (by rintro ⟨k0, k1⟩; exact h0 k0)])
    have b0 : decide (On a b) = false := decide_eq_false h0
    clear h0
    go_enter Try.func51, Try.ntmps51
    go_wp2_with fail
    have P0 : Hid (Pt ((w.alloc (.cells #[.int .i64 a, .int .i64 b] 56)).alloc (.cells #[.int .i64 c, .int .i64 d] 56)) (w.heap.size) 56 (a) (b)) := Lib.hid ((Pt.mk_ rfl).alloc _)
    have P1 : Hid (Pt ((w.alloc (.cells #[.int .i64 a, .int .i64 b] 56)).alloc (.cells #[.int .i64 c, .int .i64 d] 56)) (w.heap.size + 1) 56 (c) (d)) := Lib.hid (Pt.mk_ (by simp))
    have HW : Hid (Below w.heap.size w ((w.alloc (.cells #[.int .i64 a, .int .i64 b] 56)).alloc (.cells #[.int .i64 c, .int .i64 d] 56))) := Lib.hid (((Below.refl _ _).alloc (Nat.le_refl _) _).alloc (by simp) _)
    generalize ((w.alloc (.cells #[.int .i64 a, .int .i64 b] 56)).alloc (.cells #[.int .i64 c, .int .i64 d] 56)) = V at P0 P1 HW  ⊢
    refine (ron_any _ _ _).mono ?_
    rintro e W0 ⟨rfl, hB⟩
    have HW1 := Lib.hid (HW.out.trans (hB.mono HW.out.size))
    have Q0 := Lib.hid (P0.out.keep hB)
    have Q1 := Lib.hid (P1.out.keep hB)
    clear hB HW P0 P1
    have Q0a := Q0.out.c0
    have Q0b := Q0.out.c1
    have Q1a := Q1.out.c0
    have Q1b := Q1.out.c1
    go_wp2
    go_ret
    exact ⟨by rw [HE.out]; rfl, HW1.out⟩


end Go.Proofs.Ytnnimjaigciedaa
