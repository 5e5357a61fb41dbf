/-
  What a fee's calls answer (Of, Over), for every input, and the document's three examples (awake); memory that was there stays as it was.
-/
import Derived.Test.YtneacogenjlhgaaMoney
namespace Go.Proofs.Ytneacogenjlhgaa
open Go.RowKit

theorem word_lit (n : Int) (h : 0 ≤ n ∧ n ≤ 18446744073709551615) : Word n := h

set_option maxHeartbeats 1000000 in
theorem of_any (b r x : Int) (w : World) (hb : Word b) (hr : Word r) (hx : Word x) :
    Calls Try.prog 51 #[.agg #[.int .u64 b, .int .u64 r], .int .u64 x] w fun e w' => e = .returned (.tuple #[.int .u64 (ofV b r x), .int .i64 (ofE b r x)]) ∧ Below w.heap.size w w' := by
  have hs : Word 1000000 := by unfold Word; omega
  have hv := partV_word hx hr hs
  by_cases h0 : partE x r 1000000 = 0
  · have b0 : (partE x r 1000000 != 0) = false := by simp [h0]
    have H1 : Hid (ofV b r x = addV b (partV x r 1000000)) := by show _ = _; simp [ofV, h0]
    have H2 : Hid (ofE b r x = addE b (partV x r 1000000)) := by show _ = _; simp [ofE, h0]
    clear h0
    go_enter Try.func51, Try.ntmps51
    go_wp2_with (first | (go_at_call 43; refine (part_any _ _ _ _ hx hr hs).mono ?_; rintro e w' ⟨rfl, n, rfl⟩) | (go_at_call 33; refine (add_any _ _ _ hb hv).mono ?_; rintro e w' ⟨rfl, rfl⟩))
    go_ret2
    exact ⟨by rw [H1.out, H2.out]; rfl, below_drewN ((Below.refl _ _).alloc (Nat.le_refl _) _) _⟩
  · have b0 : (partE x r 1000000 != 0) = true := by simpa using h0
    have H1 : Hid (ofV b r x = 0) := by show _ = _; simp [ofV, h0]
    have H2 : Hid (ofE b r x = partE x r 1000000) := by show _ = _; simp [ofE, h0]
    clear h0
    go_enter Try.func51, Try.ntmps51
    go_wp2_with (go_at_call 43; refine (part_any _ _ _ _ hx hr hs).mono ?_; rintro e w' ⟨rfl, n, rfl⟩)
    go_ret2
    exact ⟨by rw [H1.out, H2.out]; rfl, below_drewN ((Below.refl _ _).alloc (Nat.le_refl _) _) _⟩

set_option maxHeartbeats 1000000 in
theorem over_any (b r x : Int) (w : World) (hb : Word b) (hr : Word r) (hx : Word x) :
    Calls Try.prog 55 #[.agg #[.int .u64 b, .int .u64 r], .int .u64 x] w fun e w' => e = .returned (.tuple #[.int .u64 (overV b r x), .int .i64 (overE b r x)]) ∧ Below w.heap.size w w' := by
  have hv := ofV_word hb hr hx
  by_cases h0 : ofE b r x = 0
  · have b0 : (ofE b r x != 0) = false := by simp [h0]
    have H1 : Hid (overV b r x = addV x (ofV b r x)) := by show _ = _; simp [overV, h0]
    have H2 : Hid (overE b r x = addE x (ofV b r x)) := by show _ = _; simp [overE, h0]
    clear h0
    go_enter Try.func55, Try.ntmps55
    go_wp2_with (first | (go_at_call 51; refine (of_any _ _ _ _ hb hr hx).mono ?_; rintro e w' ⟨rfl, hB⟩) | (go_at_call 33; refine (add_any _ _ _ hx hv).mono ?_; rintro e w' ⟨rfl, rfl⟩))
    go_ret2
    exact ⟨by rw [H1.out, H2.out]; rfl, ((Below.refl _ _).alloc (Nat.le_refl _) _).trans (hB.mono (by simp))⟩
  · have b0 : (ofE b r x != 0) = true := by simpa using h0
    have H1 : Hid (overV b r x = 0) := by show _ = _; simp [overV, h0]
    have H2 : Hid (overE b r x = ofE b r x) := by show _ = _; simp [overE, h0]
    clear h0
    go_enter Try.func55, Try.ntmps55
    go_wp2_with (go_at_call 51; refine (of_any _ _ _ _ hb hr hx).mono ?_; rintro e w' ⟨rfl, hB⟩)
    go_ret2
    exact ⟨by rw [H1.out, H2.out]; rfl, ((Below.refl _ _).alloc (Nat.le_refl _) _).trans (hB.mono (by simp))⟩

theorem ex_part : partV 7 1 2 = 3 := by decide
theorem ex_up : upV 7 1 2 = 4 := by decide
theorem ex_of : ofV 1 10000 500 = 6 := by decide

set_option maxHeartbeats 1000000 in
theorem awake_any (w : World) : Calls Try.prog 41 #[] w fun e w' => e = .returned (.bool true) ∧ Below w.heap.size w w' := by
  have w7 : Word 7 := by unfold Word; omega
  have w1 : Word 1 := by unfold Word; omega
  have w2 : Word 2 := by unfold Word; omega
  have w3 : Word 10000 := by unfold Word; omega
  have w5 : Word 500 := by unfold Word; omega
  have b1 : (partV 7 1 2 == 3) = true := by rw [ex_part]; rfl
  have b2 : (upV 7 1 2 == 4) = true := by rw [ex_up]; rfl
  have b3 : (ofV 1 10000 500 == 6) = true := by rw [ex_of]; rfl
  go_enter Try.func41, Try.ntmps41
  go_wp2_with (first | (go_at_call 43; refine (part_any _ _ _ _ w7 w1 w2).mono ?_; rintro e w' ⟨rfl, n, rfl⟩) | (go_at_call 45; refine (up_any _ _ _ _ w7 w1 w2).mono ?_; rintro e w' ⟨rfl, n, rfl⟩) | (go_at_call 51; refine (of_any _ _ _ _ w1 w3 w5).mono ?_; rintro e w' ⟨rfl, hB⟩))
  go_ret
  exact ⟨rfl, (below_drewN (Below.refl _ _) _).trans hB⟩
end Go.Proofs.Ytneacogenjlhgaa
