/-
  ChartBack's walk.
-/
import Derived.Test.YtjbjekejekmipaaChF
import Derived.Test.YtjbjekejekmipaaStep
import Derived.Test.YtjbjekejekmipaaArg
namespace Go.Proofs.Ytjbjekejekmipaa
open Go.RowKit
set_option linter.unusedVariables false

theorem move_ok {a b c d : Int} (h : (moveP a b c d).e = 0) : On a b ∧ On c d ∧ On (a + c) (b + d) ∧ moveP a b c d = ⟨a + c, b + d, 0⟩ := by
  unfold moveP at h ⊢
  split at h
  · rename_i h1
    rw [if_pos h1]
    unfold held at h ⊢
    split at h
    · rename_i h2
      rw [if_pos h2]
      exact ⟨h1.1, h1.2, h2, rfl⟩
    · simp at h
  · simp at h

theorem move_back {a b c d : Int} (h : (moveP a b c d).e = 0) : moveP (a + c) (b + d) (-c) (-d) = ⟨a, b, 0⟩ := by
  obtain ⟨h1, h2, h3, _⟩ := move_ok h
  have h4 : On (-c) (-d) := ⟨by have := h2.2.1; omega, by have := h2.1; omega, by have := h2.2.2.2; omega, by have := h2.2.2.1; omega⟩
  unfold moveP held
  rw [if_pos ⟨h3, h4⟩, show a + c + -c = a by omega, show b + d + -d = b by omega, if_pos h1]

theorem i_times (a b : Int) : timesP a b 0 1 = turnP a b 0 0 1 := by
  unfold timesP turnP
  have h1 : On 0 1 := by decide
  have h2 : On 0 0 := by decide
  by_cases h : On a b
  · rw [if_pos ⟨h, h1⟩, if_pos ⟨h, h2⟩]
    have e : ((1 : Int) % 4).toNat = 1 := by decide
    rw [e]
    simp only [rotX, rotY]
    congr 1 <;> omega
  · rw [if_neg (by rintro ⟨k, _⟩; exact h k), if_neg (by rintro ⟨k, _⟩; exact h k)]

theorem mirror_on {a b : Int} (h : On a b) : mirrorP a b = ⟨a, -b, 0⟩ ∧ mirrorP a (-b) = ⟨a, b, 0⟩ := by
  have h2 : On a (-b) := ⟨h.1, h.2.1, by have := h.2.2.2; omega, by have := h.2.2.1; omega⟩
  unfold mirrorP
  rw [if_pos h, if_pos h2]
  exact ⟨rfl, by simp⟩
theorem mirror_off {a b : Int} (h : ¬ On a b) : mirrorP a b = ⟨0, 0, 1⟩ := by
  unfold mirrorP
  rw [if_neg h]
theorem mirror_zero : mirrorP 0 0 = ⟨0, 0, 0⟩ := by decide


set_option maxRecDepth 100000 in
set_option maxHeartbeats 4000000 in
theorem back_walk (a b c d : Int) (w : World) (ha : I64 a) (hb : I64 b) (hc : I64 c) (hd : I64 d) :
    Calls Try.prog 7 #[.agg #[.int .i64 a, .int .i64 b], .agg #[.int .i64 c, .int .i64 d]] w fun e w' => e = .returned (.bool true) ∧ Below w.heap.size w w' := by
  clear ha hb hc hd
  go_enter Try.func7, Try.ntmps7
  go_upto_region 1 with fail
  have Q0 : Hid (Pt ((w.alloc (.cells #[.int .i64 a, .int .i64 b] 23)).alloc (.cells #[.int .i64 c, .int .i64 d] 23)) (w.heap.size) 23 (a) (b)) := Lib.hid ((Pt.mk_ rfl).alloc _)
  have Q1 : Hid (Pt ((w.alloc (.cells #[.int .i64 a, .int .i64 b] 23)).alloc (.cells #[.int .i64 c, .int .i64 d] 23)) (w.heap.size + 1) 23 (c) (d)) := Lib.hid (Pt.mk_ (by simp))
  have HW1 : Hid (Below w.heap.size w ((w.alloc (.cells #[.int .i64 a, .int .i64 b] 23)).alloc (.cells #[.int .i64 c, .int .i64 d] 23))) := Lib.hid (((Below.refl _ _).alloc (Nat.le_refl _) _).alloc (by simp) _)
  generalize ((w.alloc (.cells #[.int .i64 a, .int .i64 b] 23)).alloc (.cells #[.int .i64 c, .int .i64 d] 23)) = W at Q0 Q1 HW1  ⊢
  go_cut [5, 6] (fun p q wc => ∃ g0 g1, p = .pointer (some ⟨g0, 0, none⟩) ∧ q = .pointer (some ⟨g1, 0, none⟩) ∧ Hid (Pt wc g0 24 a b) ∧ Hid (Pt wc g1 24 c d) ∧ Hid (Pt wc w.heap.size 23 a b) ∧ Hid (Pt wc (w.heap.size + 1) 23 c d) ∧ Hid (Below w.heap.size w wc))
  case first =>
    replace Q0 : Hid (Pt W.drew (w.heap.size) 23 a b) := Lib.hid Q0.out
    replace Q1 : Hid (Pt W.drew (w.heap.size + 1) 23 c d) := Lib.hid Q1.out
    replace HW1 : Hid (Below w.heap.size w W.drew) := Lib.hid (below_drewN HW1.out 1)
    refine wp_region_held_drew (S := fun w' => Pt w' (w.heap.size) 23 a b ∧ Pt w' (w.heap.size + 1) 23 c d) (by kernel_rfl) (⟨Q0.out, Q1.out⟩) (fun hHeld => ?_)
    generalize W.drew = X at hHeld Q0 Q1 HW1 ⊢
    refine wpAnyH_take (i := 0) (v := .agg #[.int .i64 a, .int .i64 b]) rfl (by kernel_rfl) (by kernel_rfl) (by kernel_rfl) (fun _ _ _ h => h) (Or.inl ⟨by rfl, by intro w' h; have k1 := (h.1).c0; have k2 := (h.1).c1; go_simp⟩) hHeld ?_
    show wpAnyH _ _ _ _ _ _ _ (Act.put _ (some 19) _) _
    simp only [Act.put, List.setIfInBounds_toArray, List.set_cons_zero, List.set_cons_succ]
    refine wpAnyH_take (i := 2) (v := .agg #[.int .i64 c, .int .i64 d]) rfl (by kernel_rfl) (by kernel_rfl) (by kernel_rfl) (fun _ _ _ h => h) (Or.inl ⟨by rfl, by intro w' h; have k1 := (h.2).c0; have k2 := (h.2).c1; go_simp⟩) hHeld ?_
    show wpAnyH _ _ _ _ _ _ _ (Act.put _ (some 21) _) _
    simp only [Act.put, List.setIfInBounds_toArray, List.set_cons_zero, List.set_cons_succ]
    refine wpAnyH_ready (rs := [1, 4, 5]) (by kernel_rfl) (by simp) ?_
    refine AllReadyH.cons rfl (fun K hK => ?_) (AllReadyH.cons rfl (fun K hK => ?_) (AllReadyH.cons rfl (fun K hK => ?_) AllReadyH.nil))
    · refine step_call rfl 14 #[.tmp 19] #[23] rfl #[.agg #[.int .i64 a, .int .i64 b]] (by simp [Act.eval]) (by go_simp) (to_any _ _ _) ?_
      rintro e X1 ⟨rfl, hB⟩
      replace HW1 := Lib.hid (HW1.out.trans (hB.mono HW1.out.size))
      replace Q0 := Lib.hid (Q0.out.keep hB)
      replace Q1 := Lib.hid (Q1.out.keep hB)
      clear hB
      refine ⟨_, rfl, hK.out _ _ (⟨Q0.out, Q1.out⟩) (fun hHeld => ?_)⟩
      clear hK K
      show wpAnyH _ _ _ _ _ _ _ (Act.put _ (some 20) _) _
      simp only [Act.put, List.setIfInBounds_toArray, List.set_cons_zero, List.set_cons_succ]
      refine wpAnyH_ready (rs := [3, 4, 5]) (by kernel_rfl) (by simp) ?_
      refine AllReadyH.cons rfl (fun K hK => ?_) (AllReadyH.cons rfl (fun K hK => ?_) (AllReadyH.cons rfl (fun K hK => ?_) AllReadyH.nil))
      · refine step_call rfl 14 #[.tmp 21] #[23] rfl #[.agg #[.int .i64 c, .int .i64 d]] (by simp [Act.eval]) (by go_simp) (to_any _ _ _) ?_
        rintro e X2 ⟨rfl, hB⟩
        replace HW1 := Lib.hid (HW1.out.trans (hB.mono HW1.out.size))
        replace Q0 := Lib.hid (Q0.out.keep hB)
        replace Q1 := Lib.hid (Q1.out.keep hB)
        clear hB
        refine ⟨_, rfl, hK.out _ _ (⟨Q0.out, Q1.out⟩) (fun hHeld => ?_)⟩
        clear hK K
        show wpAnyH _ _ _ _ _ _ _ (Act.put _ (some 22) _) _
        simp only [Act.put, List.setIfInBounds_toArray, List.set_cons_zero, List.set_cons_succ]
        refine wpAnyH_ready (rs := [4, 5]) (by kernel_rfl) (by simp) ?_
        refine AllReadyH.cons rfl (fun K hK => ?_) (AllReadyH.cons rfl (fun K hK => ?_) AllReadyH.nil)
        · refine step_new rfl 24 rfl #[.int .i64 0, .int .i64 0] (by kernel_rfl) ?_
          have N0 : Hid (Pt (X2.alloc (.cells #[.int .i64 0, .int .i64 0] 24)) X2.heap.size 24 0 0) := Lib.hid (Pt.mk_ rfl)
          have L0 : Hid (w.heap.size ≤ X2.heap.size) := Lib.hid HW1.out.size
          have F00 : Hid ((w.heap.size) ≠ X2.heap.size) := Lib.hid (Nat.ne_of_lt Q0.out.lt)
          have F10 : Hid ((w.heap.size + 1) ≠ X2.heap.size) := Lib.hid (Nat.ne_of_lt Q1.out.lt)
          replace Q0 := Lib.hid (Q0.out.alloc (.cells #[.int .i64 0, .int .i64 0] 24))
          replace Q1 := Lib.hid (Q1.out.alloc (.cells #[.int .i64 0, .int .i64 0] 24))
          replace HW1 := Lib.hid (HW1.out.alloc HW1.out.size (.cells #[.int .i64 0, .int .i64 0] 24))
          refine hK.out _ _ (⟨Q0.out, Q1.out⟩) (fun hHeld => ?_)
          generalize (X2.alloc (.cells #[.int .i64 0, .int .i64 0] 24)) = X3 at hHeld HW1 Q0 Q1 N0 ⊢
          generalize X2.heap.size = g0 at N0 L0  F00 F10 ⊢
          clear hK K
          show wpAnyH _ _ _ _ _ _ _ (Act.put _ (some 5) _) _
          simp only [Act.put, List.setIfInBounds_toArray, List.set_cons_zero, List.set_cons_succ]
          refine wpAnyH_ready (rs := [5]) (by kernel_rfl) (by simp) ?_
          refine AllReadyH.cons rfl (fun K hK => ?_) AllReadyH.nil
          refine step_new rfl 24 rfl #[.int .i64 0, .int .i64 0] (by kernel_rfl) ?_
          have N1 : Hid (Pt (X3.alloc (.cells #[.int .i64 0, .int .i64 0] 24)) X3.heap.size 24 0 0) := Lib.hid (Pt.mk_ rfl)
          have L1 : Hid (w.heap.size ≤ X3.heap.size) := Lib.hid HW1.out.size
          have D01 : Hid (g0 ≠ X3.heap.size) := Lib.hid (Nat.ne_of_lt N0.out.lt)
          have F01 : Hid ((w.heap.size) ≠ X3.heap.size) := Lib.hid (Nat.ne_of_lt Q0.out.lt)
          have F11 : Hid ((w.heap.size + 1) ≠ X3.heap.size) := Lib.hid (Nat.ne_of_lt Q1.out.lt)
          replace Q0 := Lib.hid (Q0.out.alloc (.cells #[.int .i64 0, .int .i64 0] 24))
          replace Q1 := Lib.hid (Q1.out.alloc (.cells #[.int .i64 0, .int .i64 0] 24))
          replace N0 := Lib.hid (N0.out.alloc (.cells #[.int .i64 0, .int .i64 0] 24))
          replace HW1 := Lib.hid (HW1.out.alloc HW1.out.size (.cells #[.int .i64 0, .int .i64 0] 24))
          refine hK.out _ _ (⟨Q0.out, Q1.out⟩) (fun hHeld => ?_)
          generalize (X3.alloc (.cells #[.int .i64 0, .int .i64 0] 24)) = X4 at hHeld HW1 Q0 Q1 N0 N1 ⊢
          generalize X3.heap.size = g1 at N1 L1 D01 F01 F11 ⊢
          clear hK K
          show wpAnyH _ _ _ _ _ _ _ (Act.put _ (some 6) _) _
          simp only [Act.put, List.setIfInBounds_toArray, List.set_cons_zero, List.set_cons_succ]
          refine wpAnyH_ready (rs := [6]) (by kernel_rfl) (by simp) ?_
          refine AllReadyH.cons rfl (fun K hK => ?_) AllReadyH.nil
          refine step_store24 rfl (.tmp 5) (.tmp 20) rfl g0 24 0 0 a b rfl rfl N0.out ?_
          replace HW1 : Hid (Below w.heap.size w ((X4.setCell ⟨g0, 0, none⟩ (.int .i64 a)).setCell ⟨g0, 1, none⟩ (.int .i64 b))) := Lib.hid ((HW1.out.setCell L0.out _).setCell L0.out _)
          replace Q0 : Hid (Pt ((X4.setCell ⟨g0, 0, none⟩ (.int .i64 a)).setCell ⟨g0, 1, none⟩ (.int .i64 b)) (w.heap.size) 23 a b) := Lib.hid (Q0.out.far F00.out _ _)
          replace Q1 : Hid (Pt ((X4.setCell ⟨g0, 0, none⟩ (.int .i64 a)).setCell ⟨g0, 1, none⟩ (.int .i64 b)) (w.heap.size + 1) 23 c d) := Lib.hid (Q1.out.far F10.out _ _)
          replace N1 : Hid (Pt ((X4.setCell ⟨g0, 0, none⟩ (.int .i64 a)).setCell ⟨g0, 1, none⟩ (.int .i64 b)) g1 24 0 0) := Lib.hid (N1.out.far (by have h := D01.out; omega) _ _)
          replace N0 : Hid (Pt ((X4.setCell ⟨g0, 0, none⟩ (.int .i64 a)).setCell ⟨g0, 1, none⟩ (.int .i64 b)) g0 24 a b) := Lib.hid (N0.out.set a b)
          refine hK.out _ _ (⟨Q0.out, Q1.out⟩) (fun hHeld => ?_)
          generalize ((X4.setCell ⟨g0, 0, none⟩ (.int .i64 a)).setCell ⟨g0, 1, none⟩ (.int .i64 b)) = X5 at hHeld HW1 Q0 N0 Q1 N1 ⊢
          clear hK K
          show wpAnyH _ _ _ _ _ _ _ (Act.put _ none _) _
          simp only [Act.put]
          refine wpAnyH_ready (rs := [7]) (by kernel_rfl) (by simp) ?_
          refine AllReadyH.cons rfl (fun K hK => ?_) AllReadyH.nil
          refine step_store24 rfl (.tmp 6) (.tmp 22) rfl g1 24 0 0 c d rfl rfl N1.out ?_
          replace HW1 : Hid (Below w.heap.size w ((X5.setCell ⟨g1, 0, none⟩ (.int .i64 c)).setCell ⟨g1, 1, none⟩ (.int .i64 d))) := Lib.hid ((HW1.out.setCell L1.out _).setCell L1.out _)
          replace Q0 : Hid (Pt ((X5.setCell ⟨g1, 0, none⟩ (.int .i64 c)).setCell ⟨g1, 1, none⟩ (.int .i64 d)) (w.heap.size) 23 a b) := Lib.hid (Q0.out.far F01.out _ _)
          replace Q1 : Hid (Pt ((X5.setCell ⟨g1, 0, none⟩ (.int .i64 c)).setCell ⟨g1, 1, none⟩ (.int .i64 d)) (w.heap.size + 1) 23 c d) := Lib.hid (Q1.out.far F11.out _ _)
          replace N0 : Hid (Pt ((X5.setCell ⟨g1, 0, none⟩ (.int .i64 c)).setCell ⟨g1, 1, none⟩ (.int .i64 d)) g0 24 a b) := Lib.hid (N0.out.far (by have h := D01.out; omega) _ _)
          replace N1 : Hid (Pt ((X5.setCell ⟨g1, 0, none⟩ (.int .i64 c)).setCell ⟨g1, 1, none⟩ (.int .i64 d)) g1 24 c d) := Lib.hid (N1.out.set c d)
          refine hK.out _ _ (⟨Q0.out, Q1.out⟩) (fun hHeld => ?_)
          generalize ((X5.setCell ⟨g1, 0, none⟩ (.int .i64 c)).setCell ⟨g1, 1, none⟩ (.int .i64 d)) = X6 at hHeld HW1 Q0 N0 Q1 N1 ⊢
          clear hK K
          show wpAnyH _ _ _ _ _ _ _ (Act.put _ none _) _
          simp only [Act.put]
          refine wpAnyH_done (by kernel_rfl) ?_ _
          go_wp2_with fail
          go_meet
          exact ⟨g0, g1, rfl, rfl, N0, N1, Q0, Q1, HW1⟩
        · refine step_new rfl 24 rfl #[.int .i64 0, .int .i64 0] (by kernel_rfl) ?_
          have N1 : Hid (Pt (X2.alloc (.cells #[.int .i64 0, .int .i64 0] 24)) X2.heap.size 24 0 0) := Lib.hid (Pt.mk_ rfl)
          have L1 : Hid (w.heap.size ≤ X2.heap.size) := Lib.hid HW1.out.size
          have F01 : Hid ((w.heap.size) ≠ X2.heap.size) := Lib.hid (Nat.ne_of_lt Q0.out.lt)
          have F11 : Hid ((w.heap.size + 1) ≠ X2.heap.size) := Lib.hid (Nat.ne_of_lt Q1.out.lt)
          replace Q0 := Lib.hid (Q0.out.alloc (.cells #[.int .i64 0, .int .i64 0] 24))
          replace Q1 := Lib.hid (Q1.out.alloc (.cells #[.int .i64 0, .int .i64 0] 24))
          replace HW1 := Lib.hid (HW1.out.alloc HW1.out.size (.cells #[.int .i64 0, .int .i64 0] 24))
          refine hK.out _ _ (⟨Q0.out, Q1.out⟩) (fun hHeld => ?_)
          generalize (X2.alloc (.cells #[.int .i64 0, .int .i64 0] 24)) = X3 at hHeld HW1 Q0 Q1 N1 ⊢
          generalize X2.heap.size = g1 at N1 L1  F01 F11 ⊢
          clear hK K
          show wpAnyH _ _ _ _ _ _ _ (Act.put _ (some 6) _) _
          simp only [Act.put, List.setIfInBounds_toArray, List.set_cons_zero, List.set_cons_succ]
          refine wpAnyH_ready (rs := [4]) (by kernel_rfl) (by simp) ?_
          refine AllReadyH.cons rfl (fun K hK => ?_) AllReadyH.nil
          refine step_new rfl 24 rfl #[.int .i64 0, .int .i64 0] (by kernel_rfl) ?_
          have N0 : Hid (Pt (X3.alloc (.cells #[.int .i64 0, .int .i64 0] 24)) X3.heap.size 24 0 0) := Lib.hid (Pt.mk_ rfl)
          have L0 : Hid (w.heap.size ≤ X3.heap.size) := Lib.hid HW1.out.size
          have D01 : Hid (g1 ≠ X3.heap.size) := Lib.hid (Nat.ne_of_lt N1.out.lt)
          have F00 : Hid ((w.heap.size) ≠ X3.heap.size) := Lib.hid (Nat.ne_of_lt Q0.out.lt)
          have F10 : Hid ((w.heap.size + 1) ≠ X3.heap.size) := Lib.hid (Nat.ne_of_lt Q1.out.lt)
          replace Q0 := Lib.hid (Q0.out.alloc (.cells #[.int .i64 0, .int .i64 0] 24))
          replace Q1 := Lib.hid (Q1.out.alloc (.cells #[.int .i64 0, .int .i64 0] 24))
          replace N1 := Lib.hid (N1.out.alloc (.cells #[.int .i64 0, .int .i64 0] 24))
          replace HW1 := Lib.hid (HW1.out.alloc HW1.out.size (.cells #[.int .i64 0, .int .i64 0] 24))
          refine hK.out _ _ (⟨Q0.out, Q1.out⟩) (fun hHeld => ?_)
          generalize (X3.alloc (.cells #[.int .i64 0, .int .i64 0] 24)) = X4 at hHeld HW1 Q0 Q1 N1 N0 ⊢
          generalize X3.heap.size = g0 at N0 L0 D01 F00 F10 ⊢
          clear hK K
          show wpAnyH _ _ _ _ _ _ _ (Act.put _ (some 5) _) _
          simp only [Act.put, List.setIfInBounds_toArray, List.set_cons_zero, List.set_cons_succ]
          refine wpAnyH_ready (rs := [6]) (by kernel_rfl) (by simp) ?_
          refine AllReadyH.cons rfl (fun K hK => ?_) AllReadyH.nil
          refine step_store24 rfl (.tmp 5) (.tmp 20) rfl g0 24 0 0 a b rfl rfl N0.out ?_
          replace HW1 : Hid (Below w.heap.size w ((X4.setCell ⟨g0, 0, none⟩ (.int .i64 a)).setCell ⟨g0, 1, none⟩ (.int .i64 b))) := Lib.hid ((HW1.out.setCell L0.out _).setCell L0.out _)
          replace Q0 : Hid (Pt ((X4.setCell ⟨g0, 0, none⟩ (.int .i64 a)).setCell ⟨g0, 1, none⟩ (.int .i64 b)) (w.heap.size) 23 a b) := Lib.hid (Q0.out.far F00.out _ _)
          replace Q1 : Hid (Pt ((X4.setCell ⟨g0, 0, none⟩ (.int .i64 a)).setCell ⟨g0, 1, none⟩ (.int .i64 b)) (w.heap.size + 1) 23 c d) := Lib.hid (Q1.out.far F10.out _ _)
          replace N1 : Hid (Pt ((X4.setCell ⟨g0, 0, none⟩ (.int .i64 a)).setCell ⟨g0, 1, none⟩ (.int .i64 b)) g1 24 0 0) := Lib.hid (N1.out.far (by have h := D01.out; omega) _ _)
          replace N0 : Hid (Pt ((X4.setCell ⟨g0, 0, none⟩ (.int .i64 a)).setCell ⟨g0, 1, none⟩ (.int .i64 b)) g0 24 a b) := Lib.hid (N0.out.set a b)
          refine hK.out _ _ (⟨Q0.out, Q1.out⟩) (fun hHeld => ?_)
          generalize ((X4.setCell ⟨g0, 0, none⟩ (.int .i64 a)).setCell ⟨g0, 1, none⟩ (.int .i64 b)) = X5 at hHeld HW1 Q0 N0 Q1 N1 ⊢
          clear hK K
          show wpAnyH _ _ _ _ _ _ _ (Act.put _ none _) _
          simp only [Act.put]
          refine wpAnyH_ready (rs := [7]) (by kernel_rfl) (by simp) ?_
          refine AllReadyH.cons rfl (fun K hK => ?_) AllReadyH.nil
          refine step_store24 rfl (.tmp 6) (.tmp 22) rfl g1 24 0 0 c d rfl rfl N1.out ?_
          replace HW1 : Hid (Below w.heap.size w ((X5.setCell ⟨g1, 0, none⟩ (.int .i64 c)).setCell ⟨g1, 1, none⟩ (.int .i64 d))) := Lib.hid ((HW1.out.setCell L1.out _).setCell L1.out _)
          replace Q0 : Hid (Pt ((X5.setCell ⟨g1, 0, none⟩ (.int .i64 c)).setCell ⟨g1, 1, none⟩ (.int .i64 d)) (w.heap.size) 23 a b) := Lib.hid (Q0.out.far F01.out _ _)
          replace Q1 : Hid (Pt ((X5.setCell ⟨g1, 0, none⟩ (.int .i64 c)).setCell ⟨g1, 1, none⟩ (.int .i64 d)) (w.heap.size + 1) 23 c d) := Lib.hid (Q1.out.far F11.out _ _)
          replace N0 : Hid (Pt ((X5.setCell ⟨g1, 0, none⟩ (.int .i64 c)).setCell ⟨g1, 1, none⟩ (.int .i64 d)) g0 24 a b) := Lib.hid (N0.out.far (by have h := D01.out; omega) _ _)
          replace N1 : Hid (Pt ((X5.setCell ⟨g1, 0, none⟩ (.int .i64 c)).setCell ⟨g1, 1, none⟩ (.int .i64 d)) g1 24 c d) := Lib.hid (N1.out.set c d)
          refine hK.out _ _ (⟨Q0.out, Q1.out⟩) (fun hHeld => ?_)
          generalize ((X5.setCell ⟨g1, 0, none⟩ (.int .i64 c)).setCell ⟨g1, 1, none⟩ (.int .i64 d)) = X6 at hHeld HW1 Q0 N0 Q1 N1 ⊢
          clear hK K
          show wpAnyH _ _ _ _ _ _ _ (Act.put _ none _) _
          simp only [Act.put]
          refine wpAnyH_done (by kernel_rfl) ?_ _
          go_wp2_with fail
          go_meet
          exact ⟨g0, g1, rfl, rfl, N0, N1, Q0, Q1, HW1⟩
      · refine step_new rfl 24 rfl #[.int .i64 0, .int .i64 0] (by kernel_rfl) ?_
        have N0 : Hid (Pt (X1.alloc (.cells #[.int .i64 0, .int .i64 0] 24)) X1.heap.size 24 0 0) := Lib.hid (Pt.mk_ rfl)
        have L0 : Hid (w.heap.size ≤ X1.heap.size) := Lib.hid HW1.out.size
        have F00 : Hid ((w.heap.size) ≠ X1.heap.size) := Lib.hid (Nat.ne_of_lt Q0.out.lt)
        have F10 : Hid ((w.heap.size + 1) ≠ X1.heap.size) := Lib.hid (Nat.ne_of_lt Q1.out.lt)
        replace Q0 := Lib.hid (Q0.out.alloc (.cells #[.int .i64 0, .int .i64 0] 24))
        replace Q1 := Lib.hid (Q1.out.alloc (.cells #[.int .i64 0, .int .i64 0] 24))
        replace HW1 := Lib.hid (HW1.out.alloc HW1.out.size (.cells #[.int .i64 0, .int .i64 0] 24))
        refine hK.out _ _ (⟨Q0.out, Q1.out⟩) (fun hHeld => ?_)
        generalize (X1.alloc (.cells #[.int .i64 0, .int .i64 0] 24)) = X2 at hHeld HW1 Q0 Q1 N0 ⊢
        generalize X1.heap.size = g0 at N0 L0  F00 F10 ⊢
        clear hK K
        show wpAnyH _ _ _ _ _ _ _ (Act.put _ (some 5) _) _
        simp only [Act.put, List.setIfInBounds_toArray, List.set_cons_zero, List.set_cons_succ]
        refine wpAnyH_ready (rs := [3, 5]) (by kernel_rfl) (by simp) ?_
        refine AllReadyH.cons rfl (fun K hK => ?_) (AllReadyH.cons rfl (fun K hK => ?_) AllReadyH.nil)
        · refine step_call rfl 14 #[.tmp 21] #[23] rfl #[.agg #[.int .i64 c, .int .i64 d]] (by simp [Act.eval]) (by go_simp) (to_any _ _ _) ?_
          rintro e X3 ⟨rfl, hB⟩
          replace HW1 := Lib.hid (HW1.out.trans (hB.mono HW1.out.size))
          replace Q0 := Lib.hid (Q0.out.keep hB)
          replace Q1 := Lib.hid (Q1.out.keep hB)
          replace N0 := Lib.hid (N0.out.keep hB)
          clear hB
          refine ⟨_, rfl, hK.out _ _ (⟨Q0.out, Q1.out⟩) (fun hHeld => ?_)⟩
          clear hK K
          show wpAnyH _ _ _ _ _ _ _ (Act.put _ (some 22) _) _
          simp only [Act.put, List.setIfInBounds_toArray, List.set_cons_zero, List.set_cons_succ]
          refine wpAnyH_ready (rs := [5]) (by kernel_rfl) (by simp) ?_
          refine AllReadyH.cons rfl (fun K hK => ?_) AllReadyH.nil
          refine step_new rfl 24 rfl #[.int .i64 0, .int .i64 0] (by kernel_rfl) ?_
          have N1 : Hid (Pt (X3.alloc (.cells #[.int .i64 0, .int .i64 0] 24)) X3.heap.size 24 0 0) := Lib.hid (Pt.mk_ rfl)
          have L1 : Hid (w.heap.size ≤ X3.heap.size) := Lib.hid HW1.out.size
          have D01 : Hid (g0 ≠ X3.heap.size) := Lib.hid (Nat.ne_of_lt N0.out.lt)
          have F01 : Hid ((w.heap.size) ≠ X3.heap.size) := Lib.hid (Nat.ne_of_lt Q0.out.lt)
          have F11 : Hid ((w.heap.size + 1) ≠ X3.heap.size) := Lib.hid (Nat.ne_of_lt Q1.out.lt)
          replace Q0 := Lib.hid (Q0.out.alloc (.cells #[.int .i64 0, .int .i64 0] 24))
          replace Q1 := Lib.hid (Q1.out.alloc (.cells #[.int .i64 0, .int .i64 0] 24))
          replace N0 := Lib.hid (N0.out.alloc (.cells #[.int .i64 0, .int .i64 0] 24))
          replace HW1 := Lib.hid (HW1.out.alloc HW1.out.size (.cells #[.int .i64 0, .int .i64 0] 24))
          refine hK.out _ _ (⟨Q0.out, Q1.out⟩) (fun hHeld => ?_)
          generalize (X3.alloc (.cells #[.int .i64 0, .int .i64 0] 24)) = X4 at hHeld HW1 Q0 Q1 N0 N1 ⊢
          generalize X3.heap.size = g1 at N1 L1 D01 F01 F11 ⊢
          clear hK K
          show wpAnyH _ _ _ _ _ _ _ (Act.put _ (some 6) _) _
          simp only [Act.put, List.setIfInBounds_toArray, List.set_cons_zero, List.set_cons_succ]
          refine wpAnyH_ready (rs := [6]) (by kernel_rfl) (by simp) ?_
          refine AllReadyH.cons rfl (fun K hK => ?_) AllReadyH.nil
          refine step_store24 rfl (.tmp 5) (.tmp 20) rfl g0 24 0 0 a b rfl rfl N0.out ?_
          replace HW1 : Hid (Below w.heap.size w ((X4.setCell ⟨g0, 0, none⟩ (.int .i64 a)).setCell ⟨g0, 1, none⟩ (.int .i64 b))) := Lib.hid ((HW1.out.setCell L0.out _).setCell L0.out _)
          replace Q0 : Hid (Pt ((X4.setCell ⟨g0, 0, none⟩ (.int .i64 a)).setCell ⟨g0, 1, none⟩ (.int .i64 b)) (w.heap.size) 23 a b) := Lib.hid (Q0.out.far F00.out _ _)
          replace Q1 : Hid (Pt ((X4.setCell ⟨g0, 0, none⟩ (.int .i64 a)).setCell ⟨g0, 1, none⟩ (.int .i64 b)) (w.heap.size + 1) 23 c d) := Lib.hid (Q1.out.far F10.out _ _)
          replace N1 : Hid (Pt ((X4.setCell ⟨g0, 0, none⟩ (.int .i64 a)).setCell ⟨g0, 1, none⟩ (.int .i64 b)) g1 24 0 0) := Lib.hid (N1.out.far (by have h := D01.out; omega) _ _)
          replace N0 : Hid (Pt ((X4.setCell ⟨g0, 0, none⟩ (.int .i64 a)).setCell ⟨g0, 1, none⟩ (.int .i64 b)) g0 24 a b) := Lib.hid (N0.out.set a b)
          refine hK.out _ _ (⟨Q0.out, Q1.out⟩) (fun hHeld => ?_)
          generalize ((X4.setCell ⟨g0, 0, none⟩ (.int .i64 a)).setCell ⟨g0, 1, none⟩ (.int .i64 b)) = X5 at hHeld HW1 Q0 N0 Q1 N1 ⊢
          clear hK K
          show wpAnyH _ _ _ _ _ _ _ (Act.put _ none _) _
          simp only [Act.put]
          refine wpAnyH_ready (rs := [7]) (by kernel_rfl) (by simp) ?_
          refine AllReadyH.cons rfl (fun K hK => ?_) AllReadyH.nil
          refine step_store24 rfl (.tmp 6) (.tmp 22) rfl g1 24 0 0 c d rfl rfl N1.out ?_
          replace HW1 : Hid (Below w.heap.size w ((X5.setCell ⟨g1, 0, none⟩ (.int .i64 c)).setCell ⟨g1, 1, none⟩ (.int .i64 d))) := Lib.hid ((HW1.out.setCell L1.out _).setCell L1.out _)
          replace Q0 : Hid (Pt ((X5.setCell ⟨g1, 0, none⟩ (.int .i64 c)).setCell ⟨g1, 1, none⟩ (.int .i64 d)) (w.heap.size) 23 a b) := Lib.hid (Q0.out.far F01.out _ _)
          replace Q1 : Hid (Pt ((X5.setCell ⟨g1, 0, none⟩ (.int .i64 c)).setCell ⟨g1, 1, none⟩ (.int .i64 d)) (w.heap.size + 1) 23 c d) := Lib.hid (Q1.out.far F11.out _ _)
          replace N0 : Hid (Pt ((X5.setCell ⟨g1, 0, none⟩ (.int .i64 c)).setCell ⟨g1, 1, none⟩ (.int .i64 d)) g0 24 a b) := Lib.hid (N0.out.far (by have h := D01.out; omega) _ _)
          replace N1 : Hid (Pt ((X5.setCell ⟨g1, 0, none⟩ (.int .i64 c)).setCell ⟨g1, 1, none⟩ (.int .i64 d)) g1 24 c d) := Lib.hid (N1.out.set c d)
          refine hK.out _ _ (⟨Q0.out, Q1.out⟩) (fun hHeld => ?_)
          generalize ((X5.setCell ⟨g1, 0, none⟩ (.int .i64 c)).setCell ⟨g1, 1, none⟩ (.int .i64 d)) = X6 at hHeld HW1 Q0 N0 Q1 N1 ⊢
          clear hK K
          show wpAnyH _ _ _ _ _ _ _ (Act.put _ none _) _
          simp only [Act.put]
          refine wpAnyH_done (by kernel_rfl) ?_ _
          go_wp2_with fail
          go_meet
          exact ⟨g0, g1, rfl, rfl, N0, N1, Q0, Q1, HW1⟩
        · refine step_new rfl 24 rfl #[.int .i64 0, .int .i64 0] (by kernel_rfl) ?_
          have N1 : Hid (Pt (X2.alloc (.cells #[.int .i64 0, .int .i64 0] 24)) X2.heap.size 24 0 0) := Lib.hid (Pt.mk_ rfl)
          have L1 : Hid (w.heap.size ≤ X2.heap.size) := Lib.hid HW1.out.size
          have D01 : Hid (g0 ≠ X2.heap.size) := Lib.hid (Nat.ne_of_lt N0.out.lt)
          have F01 : Hid ((w.heap.size) ≠ X2.heap.size) := Lib.hid (Nat.ne_of_lt Q0.out.lt)
          have F11 : Hid ((w.heap.size + 1) ≠ X2.heap.size) := Lib.hid (Nat.ne_of_lt Q1.out.lt)
          replace Q0 := Lib.hid (Q0.out.alloc (.cells #[.int .i64 0, .int .i64 0] 24))
          replace Q1 := Lib.hid (Q1.out.alloc (.cells #[.int .i64 0, .int .i64 0] 24))
          replace N0 := Lib.hid (N0.out.alloc (.cells #[.int .i64 0, .int .i64 0] 24))
          replace HW1 := Lib.hid (HW1.out.alloc HW1.out.size (.cells #[.int .i64 0, .int .i64 0] 24))
          refine hK.out _ _ (⟨Q0.out, Q1.out⟩) (fun hHeld => ?_)
          generalize (X2.alloc (.cells #[.int .i64 0, .int .i64 0] 24)) = X3 at hHeld HW1 Q0 Q1 N0 N1 ⊢
          generalize X2.heap.size = g1 at N1 L1 D01 F01 F11 ⊢
          clear hK K
          show wpAnyH _ _ _ _ _ _ _ (Act.put _ (some 6) _) _
          simp only [Act.put, List.setIfInBounds_toArray, List.set_cons_zero, List.set_cons_succ]
          refine wpAnyH_ready (rs := [3]) (by kernel_rfl) (by simp) ?_
          refine AllReadyH.cons rfl (fun K hK => ?_) AllReadyH.nil
          refine step_call rfl 14 #[.tmp 21] #[23] rfl #[.agg #[.int .i64 c, .int .i64 d]] (by simp [Act.eval]) (by go_simp) (to_any _ _ _) ?_
          rintro e X4 ⟨rfl, hB⟩
          replace HW1 := Lib.hid (HW1.out.trans (hB.mono HW1.out.size))
          replace Q0 := Lib.hid (Q0.out.keep hB)
          replace Q1 := Lib.hid (Q1.out.keep hB)
          replace N0 := Lib.hid (N0.out.keep hB)
          replace N1 := Lib.hid (N1.out.keep hB)
          clear hB
          refine ⟨_, rfl, hK.out _ _ (⟨Q0.out, Q1.out⟩) (fun hHeld => ?_)⟩
          clear hK K
          show wpAnyH _ _ _ _ _ _ _ (Act.put _ (some 22) _) _
          simp only [Act.put, List.setIfInBounds_toArray, List.set_cons_zero, List.set_cons_succ]
          refine wpAnyH_ready (rs := [6]) (by kernel_rfl) (by simp) ?_
          refine AllReadyH.cons rfl (fun K hK => ?_) AllReadyH.nil
          refine step_store24 rfl (.tmp 5) (.tmp 20) rfl g0 24 0 0 a b rfl rfl N0.out ?_
          replace HW1 : Hid (Below w.heap.size w ((X4.setCell ⟨g0, 0, none⟩ (.int .i64 a)).setCell ⟨g0, 1, none⟩ (.int .i64 b))) := Lib.hid ((HW1.out.setCell L0.out _).setCell L0.out _)
          replace Q0 : Hid (Pt ((X4.setCell ⟨g0, 0, none⟩ (.int .i64 a)).setCell ⟨g0, 1, none⟩ (.int .i64 b)) (w.heap.size) 23 a b) := Lib.hid (Q0.out.far F00.out _ _)
          replace Q1 : Hid (Pt ((X4.setCell ⟨g0, 0, none⟩ (.int .i64 a)).setCell ⟨g0, 1, none⟩ (.int .i64 b)) (w.heap.size + 1) 23 c d) := Lib.hid (Q1.out.far F10.out _ _)
          replace N1 : Hid (Pt ((X4.setCell ⟨g0, 0, none⟩ (.int .i64 a)).setCell ⟨g0, 1, none⟩ (.int .i64 b)) g1 24 0 0) := Lib.hid (N1.out.far (by have h := D01.out; omega) _ _)
          replace N0 : Hid (Pt ((X4.setCell ⟨g0, 0, none⟩ (.int .i64 a)).setCell ⟨g0, 1, none⟩ (.int .i64 b)) g0 24 a b) := Lib.hid (N0.out.set a b)
          refine hK.out _ _ (⟨Q0.out, Q1.out⟩) (fun hHeld => ?_)
          generalize ((X4.setCell ⟨g0, 0, none⟩ (.int .i64 a)).setCell ⟨g0, 1, none⟩ (.int .i64 b)) = X5 at hHeld HW1 Q0 N0 Q1 N1 ⊢
          clear hK K
          show wpAnyH _ _ _ _ _ _ _ (Act.put _ none _) _
          simp only [Act.put]
          refine wpAnyH_ready (rs := [7]) (by kernel_rfl) (by simp) ?_
          refine AllReadyH.cons rfl (fun K hK => ?_) AllReadyH.nil
          refine step_store24 rfl (.tmp 6) (.tmp 22) rfl g1 24 0 0 c d rfl rfl N1.out ?_
          replace HW1 : Hid (Below w.heap.size w ((X5.setCell ⟨g1, 0, none⟩ (.int .i64 c)).setCell ⟨g1, 1, none⟩ (.int .i64 d))) := Lib.hid ((HW1.out.setCell L1.out _).setCell L1.out _)
          replace Q0 : Hid (Pt ((X5.setCell ⟨g1, 0, none⟩ (.int .i64 c)).setCell ⟨g1, 1, none⟩ (.int .i64 d)) (w.heap.size) 23 a b) := Lib.hid (Q0.out.far F01.out _ _)
          replace Q1 : Hid (Pt ((X5.setCell ⟨g1, 0, none⟩ (.int .i64 c)).setCell ⟨g1, 1, none⟩ (.int .i64 d)) (w.heap.size + 1) 23 c d) := Lib.hid (Q1.out.far F11.out _ _)
          replace N0 : Hid (Pt ((X5.setCell ⟨g1, 0, none⟩ (.int .i64 c)).setCell ⟨g1, 1, none⟩ (.int .i64 d)) g0 24 a b) := Lib.hid (N0.out.far (by have h := D01.out; omega) _ _)
          replace N1 : Hid (Pt ((X5.setCell ⟨g1, 0, none⟩ (.int .i64 c)).setCell ⟨g1, 1, none⟩ (.int .i64 d)) g1 24 c d) := Lib.hid (N1.out.set c d)
          refine hK.out _ _ (⟨Q0.out, Q1.out⟩) (fun hHeld => ?_)
          generalize ((X5.setCell ⟨g1, 0, none⟩ (.int .i64 c)).setCell ⟨g1, 1, none⟩ (.int .i64 d)) = X6 at hHeld HW1 Q0 N0 Q1 N1 ⊢
          clear hK K
          show wpAnyH _ _ _ _ _ _ _ (Act.put _ none _) _
          simp only [Act.put]
          refine wpAnyH_done (by kernel_rfl) ?_ _
          go_wp2_with fail
          go_meet
          exact ⟨g0, g1, rfl, rfl, N0, N1, Q0, Q1, HW1⟩
      · refine step_new rfl 24 rfl #[.int .i64 0, .int .i64 0] (by kernel_rfl) ?_
        have N1 : Hid (Pt (X1.alloc (.cells #[.int .i64 0, .int .i64 0] 24)) X1.heap.size 24 0 0) := Lib.hid (Pt.mk_ rfl)
        have L1 : Hid (w.heap.size ≤ X1.heap.size) := Lib.hid HW1.out.size
        have F01 : Hid ((w.heap.size) ≠ X1.heap.size) := Lib.hid (Nat.ne_of_lt Q0.out.lt)
        have F11 : Hid ((w.heap.size + 1) ≠ X1.heap.size) := Lib.hid (Nat.ne_of_lt Q1.out.lt)
        replace Q0 := Lib.hid (Q0.out.alloc (.cells #[.int .i64 0, .int .i64 0] 24))
        replace Q1 := Lib.hid (Q1.out.alloc (.cells #[.int .i64 0, .int .i64 0] 24))
        replace HW1 := Lib.hid (HW1.out.alloc HW1.out.size (.cells #[.int .i64 0, .int .i64 0] 24))
        refine hK.out _ _ (⟨Q0.out, Q1.out⟩) (fun hHeld => ?_)
        generalize (X1.alloc (.cells #[.int .i64 0, .int .i64 0] 24)) = X2 at hHeld HW1 Q0 Q1 N1 ⊢
        generalize X1.heap.size = g1 at N1 L1  F01 F11 ⊢
        clear hK K
        show wpAnyH _ _ _ _ _ _ _ (Act.put _ (some 6) _) _
        simp only [Act.put, List.setIfInBounds_toArray, List.set_cons_zero, List.set_cons_succ]
        refine wpAnyH_ready (rs := [3, 4]) (by kernel_rfl) (by simp) ?_
        refine AllReadyH.cons rfl (fun K hK => ?_) (AllReadyH.cons rfl (fun K hK => ?_) AllReadyH.nil)
        · refine step_call rfl 14 #[.tmp 21] #[23] rfl #[.agg #[.int .i64 c, .int .i64 d]] (by simp [Act.eval]) (by go_simp) (to_any _ _ _) ?_
          rintro e X3 ⟨rfl, hB⟩
          replace HW1 := Lib.hid (HW1.out.trans (hB.mono HW1.out.size))
          replace Q0 := Lib.hid (Q0.out.keep hB)
          replace Q1 := Lib.hid (Q1.out.keep hB)
          replace N1 := Lib.hid (N1.out.keep hB)
          clear hB
          refine ⟨_, rfl, hK.out _ _ (⟨Q0.out, Q1.out⟩) (fun hHeld => ?_)⟩
          clear hK K
          show wpAnyH _ _ _ _ _ _ _ (Act.put _ (some 22) _) _
          simp only [Act.put, List.setIfInBounds_toArray, List.set_cons_zero, List.set_cons_succ]
          refine wpAnyH_ready (rs := [4]) (by kernel_rfl) (by simp) ?_
          refine AllReadyH.cons rfl (fun K hK => ?_) AllReadyH.nil
          refine step_new rfl 24 rfl #[.int .i64 0, .int .i64 0] (by kernel_rfl) ?_
          have N0 : Hid (Pt (X3.alloc (.cells #[.int .i64 0, .int .i64 0] 24)) X3.heap.size 24 0 0) := Lib.hid (Pt.mk_ rfl)
          have L0 : Hid (w.heap.size ≤ X3.heap.size) := Lib.hid HW1.out.size
          have D01 : Hid (g1 ≠ X3.heap.size) := Lib.hid (Nat.ne_of_lt N1.out.lt)
          have F00 : Hid ((w.heap.size) ≠ X3.heap.size) := Lib.hid (Nat.ne_of_lt Q0.out.lt)
          have F10 : Hid ((w.heap.size + 1) ≠ X3.heap.size) := Lib.hid (Nat.ne_of_lt Q1.out.lt)
          replace Q0 := Lib.hid (Q0.out.alloc (.cells #[.int .i64 0, .int .i64 0] 24))
          replace Q1 := Lib.hid (Q1.out.alloc (.cells #[.int .i64 0, .int .i64 0] 24))
          replace N1 := Lib.hid (N1.out.alloc (.cells #[.int .i64 0, .int .i64 0] 24))
          replace HW1 := Lib.hid (HW1.out.alloc HW1.out.size (.cells #[.int .i64 0, .int .i64 0] 24))
          refine hK.out _ _ (⟨Q0.out, Q1.out⟩) (fun hHeld => ?_)
          generalize (X3.alloc (.cells #[.int .i64 0, .int .i64 0] 24)) = X4 at hHeld HW1 Q0 Q1 N1 N0 ⊢
          generalize X3.heap.size = g0 at N0 L0 D01 F00 F10 ⊢
          clear hK K
          show wpAnyH _ _ _ _ _ _ _ (Act.put _ (some 5) _) _
          simp only [Act.put, List.setIfInBounds_toArray, List.set_cons_zero, List.set_cons_succ]
          refine wpAnyH_ready (rs := [6]) (by kernel_rfl) (by simp) ?_
          refine AllReadyH.cons rfl (fun K hK => ?_) AllReadyH.nil
          refine step_store24 rfl (.tmp 5) (.tmp 20) rfl g0 24 0 0 a b rfl rfl N0.out ?_
          replace HW1 : Hid (Below w.heap.size w ((X4.setCell ⟨g0, 0, none⟩ (.int .i64 a)).setCell ⟨g0, 1, none⟩ (.int .i64 b))) := Lib.hid ((HW1.out.setCell L0.out _).setCell L0.out _)
          replace Q0 : Hid (Pt ((X4.setCell ⟨g0, 0, none⟩ (.int .i64 a)).setCell ⟨g0, 1, none⟩ (.int .i64 b)) (w.heap.size) 23 a b) := Lib.hid (Q0.out.far F00.out _ _)
          replace Q1 : Hid (Pt ((X4.setCell ⟨g0, 0, none⟩ (.int .i64 a)).setCell ⟨g0, 1, none⟩ (.int .i64 b)) (w.heap.size + 1) 23 c d) := Lib.hid (Q1.out.far F10.out _ _)
          replace N1 : Hid (Pt ((X4.setCell ⟨g0, 0, none⟩ (.int .i64 a)).setCell ⟨g0, 1, none⟩ (.int .i64 b)) g1 24 0 0) := Lib.hid (N1.out.far (by have h := D01.out; omega) _ _)
          replace N0 : Hid (Pt ((X4.setCell ⟨g0, 0, none⟩ (.int .i64 a)).setCell ⟨g0, 1, none⟩ (.int .i64 b)) g0 24 a b) := Lib.hid (N0.out.set a b)
          refine hK.out _ _ (⟨Q0.out, Q1.out⟩) (fun hHeld => ?_)
          generalize ((X4.setCell ⟨g0, 0, none⟩ (.int .i64 a)).setCell ⟨g0, 1, none⟩ (.int .i64 b)) = X5 at hHeld HW1 Q0 N0 Q1 N1 ⊢
          clear hK K
          show wpAnyH _ _ _ _ _ _ _ (Act.put _ none _) _
          simp only [Act.put]
          refine wpAnyH_ready (rs := [7]) (by kernel_rfl) (by simp) ?_
          refine AllReadyH.cons rfl (fun K hK => ?_) AllReadyH.nil
          refine step_store24 rfl (.tmp 6) (.tmp 22) rfl g1 24 0 0 c d rfl rfl N1.out ?_
          replace HW1 : Hid (Below w.heap.size w ((X5.setCell ⟨g1, 0, none⟩ (.int .i64 c)).setCell ⟨g1, 1, none⟩ (.int .i64 d))) := Lib.hid ((HW1.out.setCell L1.out _).setCell L1.out _)
          replace Q0 : Hid (Pt ((X5.setCell ⟨g1, 0, none⟩ (.int .i64 c)).setCell ⟨g1, 1, none⟩ (.int .i64 d)) (w.heap.size) 23 a b) := Lib.hid (Q0.out.far F01.out _ _)
          replace Q1 : Hid (Pt ((X5.setCell ⟨g1, 0, none⟩ (.int .i64 c)).setCell ⟨g1, 1, none⟩ (.int .i64 d)) (w.heap.size + 1) 23 c d) := Lib.hid (Q1.out.far F11.out _ _)
          replace N0 : Hid (Pt ((X5.setCell ⟨g1, 0, none⟩ (.int .i64 c)).setCell ⟨g1, 1, none⟩ (.int .i64 d)) g0 24 a b) := Lib.hid (N0.out.far (by have h := D01.out; omega) _ _)
          replace N1 : Hid (Pt ((X5.setCell ⟨g1, 0, none⟩ (.int .i64 c)).setCell ⟨g1, 1, none⟩ (.int .i64 d)) g1 24 c d) := Lib.hid (N1.out.set c d)
          refine hK.out _ _ (⟨Q0.out, Q1.out⟩) (fun hHeld => ?_)
          generalize ((X5.setCell ⟨g1, 0, none⟩ (.int .i64 c)).setCell ⟨g1, 1, none⟩ (.int .i64 d)) = X6 at hHeld HW1 Q0 N0 Q1 N1 ⊢
          clear hK K
          show wpAnyH _ _ _ _ _ _ _ (Act.put _ none _) _
          simp only [Act.put]
          refine wpAnyH_done (by kernel_rfl) ?_ _
          go_wp2_with fail
          go_meet
          exact ⟨g0, g1, rfl, rfl, N0, N1, Q0, Q1, HW1⟩
        · refine step_new rfl 24 rfl #[.int .i64 0, .int .i64 0] (by kernel_rfl) ?_
          have N0 : Hid (Pt (X2.alloc (.cells #[.int .i64 0, .int .i64 0] 24)) X2.heap.size 24 0 0) := Lib.hid (Pt.mk_ rfl)
          have L0 : Hid (w.heap.size ≤ X2.heap.size) := Lib.hid HW1.out.size
          have D01 : Hid (g1 ≠ X2.heap.size) := Lib.hid (Nat.ne_of_lt N1.out.lt)
          have F00 : Hid ((w.heap.size) ≠ X2.heap.size) := Lib.hid (Nat.ne_of_lt Q0.out.lt)
          have F10 : Hid ((w.heap.size + 1) ≠ X2.heap.size) := Lib.hid (Nat.ne_of_lt Q1.out.lt)
          replace Q0 := Lib.hid (Q0.out.alloc (.cells #[.int .i64 0, .int .i64 0] 24))
          replace Q1 := Lib.hid (Q1.out.alloc (.cells #[.int .i64 0, .int .i64 0] 24))
          replace N1 := Lib.hid (N1.out.alloc (.cells #[.int .i64 0, .int .i64 0] 24))
          replace HW1 := Lib.hid (HW1.out.alloc HW1.out.size (.cells #[.int .i64 0, .int .i64 0] 24))
          refine hK.out _ _ (⟨Q0.out, Q1.out⟩) (fun hHeld => ?_)
          generalize (X2.alloc (.cells #[.int .i64 0, .int .i64 0] 24)) = X3 at hHeld HW1 Q0 Q1 N1 N0 ⊢
          generalize X2.heap.size = g0 at N0 L0 D01 F00 F10 ⊢
          clear hK K
          show wpAnyH _ _ _ _ _ _ _ (Act.put _ (some 5) _) _
          simp only [Act.put, List.setIfInBounds_toArray, List.set_cons_zero, List.set_cons_succ]
          refine wpAnyH_ready (rs := [3]) (by kernel_rfl) (by simp) ?_
          refine AllReadyH.cons rfl (fun K hK => ?_) AllReadyH.nil
          refine step_call rfl 14 #[.tmp 21] #[23] rfl #[.agg #[.int .i64 c, .int .i64 d]] (by simp [Act.eval]) (by go_simp) (to_any _ _ _) ?_
          rintro e X4 ⟨rfl, hB⟩
          replace HW1 := Lib.hid (HW1.out.trans (hB.mono HW1.out.size))
          replace Q0 := Lib.hid (Q0.out.keep hB)
          replace Q1 := Lib.hid (Q1.out.keep hB)
          replace N1 := Lib.hid (N1.out.keep hB)
          replace N0 := Lib.hid (N0.out.keep hB)
          clear hB
          refine ⟨_, rfl, hK.out _ _ (⟨Q0.out, Q1.out⟩) (fun hHeld => ?_)⟩
          clear hK K
          show wpAnyH _ _ _ _ _ _ _ (Act.put _ (some 22) _) _
          simp only [Act.put, List.setIfInBounds_toArray, List.set_cons_zero, List.set_cons_succ]
          refine wpAnyH_ready (rs := [6]) (by kernel_rfl) (by simp) ?_
          refine AllReadyH.cons rfl (fun K hK => ?_) AllReadyH.nil
          refine step_store24 rfl (.tmp 5) (.tmp 20) rfl g0 24 0 0 a b rfl rfl N0.out ?_
          replace HW1 : Hid (Below w.heap.size w ((X4.setCell ⟨g0, 0, none⟩ (.int .i64 a)).setCell ⟨g0, 1, none⟩ (.int .i64 b))) := Lib.hid ((HW1.out.setCell L0.out _).setCell L0.out _)
          replace Q0 : Hid (Pt ((X4.setCell ⟨g0, 0, none⟩ (.int .i64 a)).setCell ⟨g0, 1, none⟩ (.int .i64 b)) (w.heap.size) 23 a b) := Lib.hid (Q0.out.far F00.out _ _)
          replace Q1 : Hid (Pt ((X4.setCell ⟨g0, 0, none⟩ (.int .i64 a)).setCell ⟨g0, 1, none⟩ (.int .i64 b)) (w.heap.size + 1) 23 c d) := Lib.hid (Q1.out.far F10.out _ _)
          replace N1 : Hid (Pt ((X4.setCell ⟨g0, 0, none⟩ (.int .i64 a)).setCell ⟨g0, 1, none⟩ (.int .i64 b)) g1 24 0 0) := Lib.hid (N1.out.far (by have h := D01.out; omega) _ _)
          replace N0 : Hid (Pt ((X4.setCell ⟨g0, 0, none⟩ (.int .i64 a)).setCell ⟨g0, 1, none⟩ (.int .i64 b)) g0 24 a b) := Lib.hid (N0.out.set a b)
          refine hK.out _ _ (⟨Q0.out, Q1.out⟩) (fun hHeld => ?_)
          generalize ((X4.setCell ⟨g0, 0, none⟩ (.int .i64 a)).setCell ⟨g0, 1, none⟩ (.int .i64 b)) = X5 at hHeld HW1 Q0 N0 Q1 N1 ⊢
          clear hK K
          show wpAnyH _ _ _ _ _ _ _ (Act.put _ none _) _
          simp only [Act.put]
          refine wpAnyH_ready (rs := [7]) (by kernel_rfl) (by simp) ?_
          refine AllReadyH.cons rfl (fun K hK => ?_) AllReadyH.nil
          refine step_store24 rfl (.tmp 6) (.tmp 22) rfl g1 24 0 0 c d rfl rfl N1.out ?_
          replace HW1 : Hid (Below w.heap.size w ((X5.setCell ⟨g1, 0, none⟩ (.int .i64 c)).setCell ⟨g1, 1, none⟩ (.int .i64 d))) := Lib.hid ((HW1.out.setCell L1.out _).setCell L1.out _)
          replace Q0 : Hid (Pt ((X5.setCell ⟨g1, 0, none⟩ (.int .i64 c)).setCell ⟨g1, 1, none⟩ (.int .i64 d)) (w.heap.size) 23 a b) := Lib.hid (Q0.out.far F01.out _ _)
          replace Q1 : Hid (Pt ((X5.setCell ⟨g1, 0, none⟩ (.int .i64 c)).setCell ⟨g1, 1, none⟩ (.int .i64 d)) (w.heap.size + 1) 23 c d) := Lib.hid (Q1.out.far F11.out _ _)
          replace N0 : Hid (Pt ((X5.setCell ⟨g1, 0, none⟩ (.int .i64 c)).setCell ⟨g1, 1, none⟩ (.int .i64 d)) g0 24 a b) := Lib.hid (N0.out.far (by have h := D01.out; omega) _ _)
          replace N1 : Hid (Pt ((X5.setCell ⟨g1, 0, none⟩ (.int .i64 c)).setCell ⟨g1, 1, none⟩ (.int .i64 d)) g1 24 c d) := Lib.hid (N1.out.set c d)
          refine hK.out _ _ (⟨Q0.out, Q1.out⟩) (fun hHeld => ?_)
          generalize ((X5.setCell ⟨g1, 0, none⟩ (.int .i64 c)).setCell ⟨g1, 1, none⟩ (.int .i64 d)) = X6 at hHeld HW1 Q0 N0 Q1 N1 ⊢
          clear hK K
          show wpAnyH _ _ _ _ _ _ _ (Act.put _ none _) _
          simp only [Act.put]
          refine wpAnyH_done (by kernel_rfl) ?_ _
          go_wp2_with fail
          go_meet
          exact ⟨g0, g1, rfl, rfl, N0, N1, Q0, Q1, HW1⟩
    · refine step_new rfl 24 rfl #[.int .i64 0, .int .i64 0] (by kernel_rfl) ?_
      have N0 : Hid (Pt (X.alloc (.cells #[.int .i64 0, .int .i64 0] 24)) X.heap.size 24 0 0) := Lib.hid (Pt.mk_ rfl)
      have L0 : Hid (w.heap.size ≤ X.heap.size) := Lib.hid HW1.out.size
      have F00 : Hid ((w.heap.size) ≠ X.heap.size) := Lib.hid (Nat.ne_of_lt Q0.out.lt)
      have F10 : Hid ((w.heap.size + 1) ≠ X.heap.size) := Lib.hid (Nat.ne_of_lt Q1.out.lt)
      replace Q0 := Lib.hid (Q0.out.alloc (.cells #[.int .i64 0, .int .i64 0] 24))
      replace Q1 := Lib.hid (Q1.out.alloc (.cells #[.int .i64 0, .int .i64 0] 24))
      replace HW1 := Lib.hid (HW1.out.alloc HW1.out.size (.cells #[.int .i64 0, .int .i64 0] 24))
      refine hK.out _ _ (⟨Q0.out, Q1.out⟩) (fun hHeld => ?_)
      generalize (X.alloc (.cells #[.int .i64 0, .int .i64 0] 24)) = X1 at hHeld HW1 Q0 Q1 N0 ⊢
      generalize X.heap.size = g0 at N0 L0  F00 F10 ⊢
      clear hK K
      show wpAnyH _ _ _ _ _ _ _ (Act.put _ (some 5) _) _
      simp only [Act.put, List.setIfInBounds_toArray, List.set_cons_zero, List.set_cons_succ]
      refine wpAnyH_ready (rs := [1, 5]) (by kernel_rfl) (by simp) ?_
      refine AllReadyH.cons rfl (fun K hK => ?_) (AllReadyH.cons rfl (fun K hK => ?_) AllReadyH.nil)
      · refine step_call rfl 14 #[.tmp 19] #[23] rfl #[.agg #[.int .i64 a, .int .i64 b]] (by simp [Act.eval]) (by go_simp) (to_any _ _ _) ?_
        rintro e X2 ⟨rfl, hB⟩
        replace HW1 := Lib.hid (HW1.out.trans (hB.mono HW1.out.size))
        replace Q0 := Lib.hid (Q0.out.keep hB)
        replace Q1 := Lib.hid (Q1.out.keep hB)
        replace N0 := Lib.hid (N0.out.keep hB)
        clear hB
        refine ⟨_, rfl, hK.out _ _ (⟨Q0.out, Q1.out⟩) (fun hHeld => ?_)⟩
        clear hK K
        show wpAnyH _ _ _ _ _ _ _ (Act.put _ (some 20) _) _
        simp only [Act.put, List.setIfInBounds_toArray, List.set_cons_zero, List.set_cons_succ]
        refine wpAnyH_ready (rs := [3, 5]) (by kernel_rfl) (by simp) ?_
        refine AllReadyH.cons rfl (fun K hK => ?_) (AllReadyH.cons rfl (fun K hK => ?_) AllReadyH.nil)
        · refine step_call rfl 14 #[.tmp 21] #[23] rfl #[.agg #[.int .i64 c, .int .i64 d]] (by simp [Act.eval]) (by go_simp) (to_any _ _ _) ?_
          rintro e X3 ⟨rfl, hB⟩
          replace HW1 := Lib.hid (HW1.out.trans (hB.mono HW1.out.size))
          replace Q0 := Lib.hid (Q0.out.keep hB)
          replace Q1 := Lib.hid (Q1.out.keep hB)
          replace N0 := Lib.hid (N0.out.keep hB)
          clear hB
          refine ⟨_, rfl, hK.out _ _ (⟨Q0.out, Q1.out⟩) (fun hHeld => ?_)⟩
          clear hK K
          show wpAnyH _ _ _ _ _ _ _ (Act.put _ (some 22) _) _
          simp only [Act.put, List.setIfInBounds_toArray, List.set_cons_zero, List.set_cons_succ]
          refine wpAnyH_ready (rs := [5]) (by kernel_rfl) (by simp) ?_
          refine AllReadyH.cons rfl (fun K hK => ?_) AllReadyH.nil
          refine step_new rfl 24 rfl #[.int .i64 0, .int .i64 0] (by kernel_rfl) ?_
          have N1 : Hid (Pt (X3.alloc (.cells #[.int .i64 0, .int .i64 0] 24)) X3.heap.size 24 0 0) := Lib.hid (Pt.mk_ rfl)
          have L1 : Hid (w.heap.size ≤ X3.heap.size) := Lib.hid HW1.out.size
          have D01 : Hid (g0 ≠ X3.heap.size) := Lib.hid (Nat.ne_of_lt N0.out.lt)
          have F01 : Hid ((w.heap.size) ≠ X3.heap.size) := Lib.hid (Nat.ne_of_lt Q0.out.lt)
          have F11 : Hid ((w.heap.size + 1) ≠ X3.heap.size) := Lib.hid (Nat.ne_of_lt Q1.out.lt)
          replace Q0 := Lib.hid (Q0.out.alloc (.cells #[.int .i64 0, .int .i64 0] 24))
          replace Q1 := Lib.hid (Q1.out.alloc (.cells #[.int .i64 0, .int .i64 0] 24))
          replace N0 := Lib.hid (N0.out.alloc (.cells #[.int .i64 0, .int .i64 0] 24))
          replace HW1 := Lib.hid (HW1.out.alloc HW1.out.size (.cells #[.int .i64 0, .int .i64 0] 24))
          refine hK.out _ _ (⟨Q0.out, Q1.out⟩) (fun hHeld => ?_)
          generalize (X3.alloc (.cells #[.int .i64 0, .int .i64 0] 24)) = X4 at hHeld HW1 Q0 Q1 N0 N1 ⊢
          generalize X3.heap.size = g1 at N1 L1 D01 F01 F11 ⊢
          clear hK K
          show wpAnyH _ _ _ _ _ _ _ (Act.put _ (some 6) _) _
          simp only [Act.put, List.setIfInBounds_toArray, List.set_cons_zero, List.set_cons_succ]
          refine wpAnyH_ready (rs := [6]) (by kernel_rfl) (by simp) ?_
          refine AllReadyH.cons rfl (fun K hK => ?_) AllReadyH.nil
          refine step_store24 rfl (.tmp 5) (.tmp 20) rfl g0 24 0 0 a b rfl rfl N0.out ?_
          replace HW1 : Hid (Below w.heap.size w ((X4.setCell ⟨g0, 0, none⟩ (.int .i64 a)).setCell ⟨g0, 1, none⟩ (.int .i64 b))) := Lib.hid ((HW1.out.setCell L0.out _).setCell L0.out _)
          replace Q0 : Hid (Pt ((X4.setCell ⟨g0, 0, none⟩ (.int .i64 a)).setCell ⟨g0, 1, none⟩ (.int .i64 b)) (w.heap.size) 23 a b) := Lib.hid (Q0.out.far F00.out _ _)
          replace Q1 : Hid (Pt ((X4.setCell ⟨g0, 0, none⟩ (.int .i64 a)).setCell ⟨g0, 1, none⟩ (.int .i64 b)) (w.heap.size + 1) 23 c d) := Lib.hid (Q1.out.far F10.out _ _)
          replace N1 : Hid (Pt ((X4.setCell ⟨g0, 0, none⟩ (.int .i64 a)).setCell ⟨g0, 1, none⟩ (.int .i64 b)) g1 24 0 0) := Lib.hid (N1.out.far (by have h := D01.out; omega) _ _)
          replace N0 : Hid (Pt ((X4.setCell ⟨g0, 0, none⟩ (.int .i64 a)).setCell ⟨g0, 1, none⟩ (.int .i64 b)) g0 24 a b) := Lib.hid (N0.out.set a b)
          refine hK.out _ _ (⟨Q0.out, Q1.out⟩) (fun hHeld => ?_)
          generalize ((X4.setCell ⟨g0, 0, none⟩ (.int .i64 a)).setCell ⟨g0, 1, none⟩ (.int .i64 b)) = X5 at hHeld HW1 Q0 N0 Q1 N1 ⊢
          clear hK K
          show wpAnyH _ _ _ _ _ _ _ (Act.put _ none _) _
          simp only [Act.put]
          refine wpAnyH_ready (rs := [7]) (by kernel_rfl) (by simp) ?_
          refine AllReadyH.cons rfl (fun K hK => ?_) AllReadyH.nil
          refine step_store24 rfl (.tmp 6) (.tmp 22) rfl g1 24 0 0 c d rfl rfl N1.out ?_
          replace HW1 : Hid (Below w.heap.size w ((X5.setCell ⟨g1, 0, none⟩ (.int .i64 c)).setCell ⟨g1, 1, none⟩ (.int .i64 d))) := Lib.hid ((HW1.out.setCell L1.out _).setCell L1.out _)
          replace Q0 : Hid (Pt ((X5.setCell ⟨g1, 0, none⟩ (.int .i64 c)).setCell ⟨g1, 1, none⟩ (.int .i64 d)) (w.heap.size) 23 a b) := Lib.hid (Q0.out.far F01.out _ _)
          replace Q1 : Hid (Pt ((X5.setCell ⟨g1, 0, none⟩ (.int .i64 c)).setCell ⟨g1, 1, none⟩ (.int .i64 d)) (w.heap.size + 1) 23 c d) := Lib.hid (Q1.out.far F11.out _ _)
          replace N0 : Hid (Pt ((X5.setCell ⟨g1, 0, none⟩ (.int .i64 c)).setCell ⟨g1, 1, none⟩ (.int .i64 d)) g0 24 a b) := Lib.hid (N0.out.far (by have h := D01.out; omega) _ _)
          replace N1 : Hid (Pt ((X5.setCell ⟨g1, 0, none⟩ (.int .i64 c)).setCell ⟨g1, 1, none⟩ (.int .i64 d)) g1 24 c d) := Lib.hid (N1.out.set c d)
          refine hK.out _ _ (⟨Q0.out, Q1.out⟩) (fun hHeld => ?_)
          generalize ((X5.setCell ⟨g1, 0, none⟩ (.int .i64 c)).setCell ⟨g1, 1, none⟩ (.int .i64 d)) = X6 at hHeld HW1 Q0 N0 Q1 N1 ⊢
          clear hK K
          show wpAnyH _ _ _ _ _ _ _ (Act.put _ none _) _
          simp only [Act.put]
          refine wpAnyH_done (by kernel_rfl) ?_ _
          go_wp2_with fail
          go_meet
          exact ⟨g0, g1, rfl, rfl, N0, N1, Q0, Q1, HW1⟩
        · refine step_new rfl 24 rfl #[.int .i64 0, .int .i64 0] (by kernel_rfl) ?_
          have N1 : Hid (Pt (X2.alloc (.cells #[.int .i64 0, .int .i64 0] 24)) X2.heap.size 24 0 0) := Lib.hid (Pt.mk_ rfl)
          have L1 : Hid (w.heap.size ≤ X2.heap.size) := Lib.hid HW1.out.size
          have D01 : Hid (g0 ≠ X2.heap.size) := Lib.hid (Nat.ne_of_lt N0.out.lt)
          have F01 : Hid ((w.heap.size) ≠ X2.heap.size) := Lib.hid (Nat.ne_of_lt Q0.out.lt)
          have F11 : Hid ((w.heap.size + 1) ≠ X2.heap.size) := Lib.hid (Nat.ne_of_lt Q1.out.lt)
          replace Q0 := Lib.hid (Q0.out.alloc (.cells #[.int .i64 0, .int .i64 0] 24))
          replace Q1 := Lib.hid (Q1.out.alloc (.cells #[.int .i64 0, .int .i64 0] 24))
          replace N0 := Lib.hid (N0.out.alloc (.cells #[.int .i64 0, .int .i64 0] 24))
          replace HW1 := Lib.hid (HW1.out.alloc HW1.out.size (.cells #[.int .i64 0, .int .i64 0] 24))
          refine hK.out _ _ (⟨Q0.out, Q1.out⟩) (fun hHeld => ?_)
          generalize (X2.alloc (.cells #[.int .i64 0, .int .i64 0] 24)) = X3 at hHeld HW1 Q0 Q1 N0 N1 ⊢
          generalize X2.heap.size = g1 at N1 L1 D01 F01 F11 ⊢
          clear hK K
          show wpAnyH _ _ _ _ _ _ _ (Act.put _ (some 6) _) _
          simp only [Act.put, List.setIfInBounds_toArray, List.set_cons_zero, List.set_cons_succ]
          refine wpAnyH_ready (rs := [3]) (by kernel_rfl) (by simp) ?_
          refine AllReadyH.cons rfl (fun K hK => ?_) AllReadyH.nil
          refine step_call rfl 14 #[.tmp 21] #[23] rfl #[.agg #[.int .i64 c, .int .i64 d]] (by simp [Act.eval]) (by go_simp) (to_any _ _ _) ?_
          rintro e X4 ⟨rfl, hB⟩
          replace HW1 := Lib.hid (HW1.out.trans (hB.mono HW1.out.size))
          replace Q0 := Lib.hid (Q0.out.keep hB)
          replace Q1 := Lib.hid (Q1.out.keep hB)
          replace N0 := Lib.hid (N0.out.keep hB)
          replace N1 := Lib.hid (N1.out.keep hB)
          clear hB
          refine ⟨_, rfl, hK.out _ _ (⟨Q0.out, Q1.out⟩) (fun hHeld => ?_)⟩
          clear hK K
          show wpAnyH _ _ _ _ _ _ _ (Act.put _ (some 22) _) _
          simp only [Act.put, List.setIfInBounds_toArray, List.set_cons_zero, List.set_cons_succ]
          refine wpAnyH_ready (rs := [6]) (by kernel_rfl) (by simp) ?_
          refine AllReadyH.cons rfl (fun K hK => ?_) AllReadyH.nil
          refine step_store24 rfl (.tmp 5) (.tmp 20) rfl g0 24 0 0 a b rfl rfl N0.out ?_
          replace HW1 : Hid (Below w.heap.size w ((X4.setCell ⟨g0, 0, none⟩ (.int .i64 a)).setCell ⟨g0, 1, none⟩ (.int .i64 b))) := Lib.hid ((HW1.out.setCell L0.out _).setCell L0.out _)
          replace Q0 : Hid (Pt ((X4.setCell ⟨g0, 0, none⟩ (.int .i64 a)).setCell ⟨g0, 1, none⟩ (.int .i64 b)) (w.heap.size) 23 a b) := Lib.hid (Q0.out.far F00.out _ _)
          replace Q1 : Hid (Pt ((X4.setCell ⟨g0, 0, none⟩ (.int .i64 a)).setCell ⟨g0, 1, none⟩ (.int .i64 b)) (w.heap.size + 1) 23 c d) := Lib.hid (Q1.out.far F10.out _ _)
          replace N1 : Hid (Pt ((X4.setCell ⟨g0, 0, none⟩ (.int .i64 a)).setCell ⟨g0, 1, none⟩ (.int .i64 b)) g1 24 0 0) := Lib.hid (N1.out.far (by have h := D01.out; omega) _ _)
          replace N0 : Hid (Pt ((X4.setCell ⟨g0, 0, none⟩ (.int .i64 a)).setCell ⟨g0, 1, none⟩ (.int .i64 b)) g0 24 a b) := Lib.hid (N0.out.set a b)
          refine hK.out _ _ (⟨Q0.out, Q1.out⟩) (fun hHeld => ?_)
          generalize ((X4.setCell ⟨g0, 0, none⟩ (.int .i64 a)).setCell ⟨g0, 1, none⟩ (.int .i64 b)) = X5 at hHeld HW1 Q0 N0 Q1 N1 ⊢
          clear hK K
          show wpAnyH _ _ _ _ _ _ _ (Act.put _ none _) _
          simp only [Act.put]
          refine wpAnyH_ready (rs := [7]) (by kernel_rfl) (by simp) ?_
          refine AllReadyH.cons rfl (fun K hK => ?_) AllReadyH.nil
          refine step_store24 rfl (.tmp 6) (.tmp 22) rfl g1 24 0 0 c d rfl rfl N1.out ?_
          replace HW1 : Hid (Below w.heap.size w ((X5.setCell ⟨g1, 0, none⟩ (.int .i64 c)).setCell ⟨g1, 1, none⟩ (.int .i64 d))) := Lib.hid ((HW1.out.setCell L1.out _).setCell L1.out _)
          replace Q0 : Hid (Pt ((X5.setCell ⟨g1, 0, none⟩ (.int .i64 c)).setCell ⟨g1, 1, none⟩ (.int .i64 d)) (w.heap.size) 23 a b) := Lib.hid (Q0.out.far F01.out _ _)
          replace Q1 : Hid (Pt ((X5.setCell ⟨g1, 0, none⟩ (.int .i64 c)).setCell ⟨g1, 1, none⟩ (.int .i64 d)) (w.heap.size + 1) 23 c d) := Lib.hid (Q1.out.far F11.out _ _)
          replace N0 : Hid (Pt ((X5.setCell ⟨g1, 0, none⟩ (.int .i64 c)).setCell ⟨g1, 1, none⟩ (.int .i64 d)) g0 24 a b) := Lib.hid (N0.out.far (by have h := D01.out; omega) _ _)
          replace N1 : Hid (Pt ((X5.setCell ⟨g1, 0, none⟩ (.int .i64 c)).setCell ⟨g1, 1, none⟩ (.int .i64 d)) g1 24 c d) := Lib.hid (N1.out.set c d)
          refine hK.out _ _ (⟨Q0.out, Q1.out⟩) (fun hHeld => ?_)
          generalize ((X5.setCell ⟨g1, 0, none⟩ (.int .i64 c)).setCell ⟨g1, 1, none⟩ (.int .i64 d)) = X6 at hHeld HW1 Q0 N0 Q1 N1 ⊢
          clear hK K
          show wpAnyH _ _ _ _ _ _ _ (Act.put _ none _) _
          simp only [Act.put]
          refine wpAnyH_done (by kernel_rfl) ?_ _
          go_wp2_with fail
          go_meet
          exact ⟨g0, g1, rfl, rfl, N0, N1, Q0, Q1, HW1⟩
      · refine step_new rfl 24 rfl #[.int .i64 0, .int .i64 0] (by kernel_rfl) ?_
        have N1 : Hid (Pt (X1.alloc (.cells #[.int .i64 0, .int .i64 0] 24)) X1.heap.size 24 0 0) := Lib.hid (Pt.mk_ rfl)
        have L1 : Hid (w.heap.size ≤ X1.heap.size) := Lib.hid HW1.out.size
        have D01 : Hid (g0 ≠ X1.heap.size) := Lib.hid (Nat.ne_of_lt N0.out.lt)
        have F01 : Hid ((w.heap.size) ≠ X1.heap.size) := Lib.hid (Nat.ne_of_lt Q0.out.lt)
        have F11 : Hid ((w.heap.size + 1) ≠ X1.heap.size) := Lib.hid (Nat.ne_of_lt Q1.out.lt)
        replace Q0 := Lib.hid (Q0.out.alloc (.cells #[.int .i64 0, .int .i64 0] 24))
        replace Q1 := Lib.hid (Q1.out.alloc (.cells #[.int .i64 0, .int .i64 0] 24))
        replace N0 := Lib.hid (N0.out.alloc (.cells #[.int .i64 0, .int .i64 0] 24))
        replace HW1 := Lib.hid (HW1.out.alloc HW1.out.size (.cells #[.int .i64 0, .int .i64 0] 24))
        refine hK.out _ _ (⟨Q0.out, Q1.out⟩) (fun hHeld => ?_)
        generalize (X1.alloc (.cells #[.int .i64 0, .int .i64 0] 24)) = X2 at hHeld HW1 Q0 Q1 N0 N1 ⊢
        generalize X1.heap.size = g1 at N1 L1 D01 F01 F11 ⊢
        clear hK K
        show wpAnyH _ _ _ _ _ _ _ (Act.put _ (some 6) _) _
        simp only [Act.put, List.setIfInBounds_toArray, List.set_cons_zero, List.set_cons_succ]
        refine wpAnyH_ready (rs := [1]) (by kernel_rfl) (by simp) ?_
        refine AllReadyH.cons rfl (fun K hK => ?_) AllReadyH.nil
        refine step_call rfl 14 #[.tmp 19] #[23] rfl #[.agg #[.int .i64 a, .int .i64 b]] (by simp [Act.eval]) (by go_simp) (to_any _ _ _) ?_
        rintro e X3 ⟨rfl, hB⟩
        replace HW1 := Lib.hid (HW1.out.trans (hB.mono HW1.out.size))
        replace Q0 := Lib.hid (Q0.out.keep hB)
        replace Q1 := Lib.hid (Q1.out.keep hB)
        replace N0 := Lib.hid (N0.out.keep hB)
        replace N1 := Lib.hid (N1.out.keep hB)
        clear hB
        refine ⟨_, rfl, hK.out _ _ (⟨Q0.out, Q1.out⟩) (fun hHeld => ?_)⟩
        clear hK K
        show wpAnyH _ _ _ _ _ _ _ (Act.put _ (some 20) _) _
        simp only [Act.put, List.setIfInBounds_toArray, List.set_cons_zero, List.set_cons_succ]
        refine wpAnyH_ready (rs := [3]) (by kernel_rfl) (by simp) ?_
        refine AllReadyH.cons rfl (fun K hK => ?_) AllReadyH.nil
        refine step_call rfl 14 #[.tmp 21] #[23] rfl #[.agg #[.int .i64 c, .int .i64 d]] (by simp [Act.eval]) (by go_simp) (to_any _ _ _) ?_
        rintro e X4 ⟨rfl, hB⟩
        replace HW1 := Lib.hid (HW1.out.trans (hB.mono HW1.out.size))
        replace Q0 := Lib.hid (Q0.out.keep hB)
        replace Q1 := Lib.hid (Q1.out.keep hB)
        replace N0 := Lib.hid (N0.out.keep hB)
        replace N1 := Lib.hid (N1.out.keep hB)
        clear hB
        refine ⟨_, rfl, hK.out _ _ (⟨Q0.out, Q1.out⟩) (fun hHeld => ?_)⟩
        clear hK K
        show wpAnyH _ _ _ _ _ _ _ (Act.put _ (some 22) _) _
        simp only [Act.put, List.setIfInBounds_toArray, List.set_cons_zero, List.set_cons_succ]
        refine wpAnyH_ready (rs := [6]) (by kernel_rfl) (by simp) ?_
        refine AllReadyH.cons rfl (fun K hK => ?_) AllReadyH.nil
        refine step_store24 rfl (.tmp 5) (.tmp 20) rfl g0 24 0 0 a b rfl rfl N0.out ?_
        replace HW1 : Hid (Below w.heap.size w ((X4.setCell ⟨g0, 0, none⟩ (.int .i64 a)).setCell ⟨g0, 1, none⟩ (.int .i64 b))) := Lib.hid ((HW1.out.setCell L0.out _).setCell L0.out _)
        replace Q0 : Hid (Pt ((X4.setCell ⟨g0, 0, none⟩ (.int .i64 a)).setCell ⟨g0, 1, none⟩ (.int .i64 b)) (w.heap.size) 23 a b) := Lib.hid (Q0.out.far F00.out _ _)
        replace Q1 : Hid (Pt ((X4.setCell ⟨g0, 0, none⟩ (.int .i64 a)).setCell ⟨g0, 1, none⟩ (.int .i64 b)) (w.heap.size + 1) 23 c d) := Lib.hid (Q1.out.far F10.out _ _)
        replace N1 : Hid (Pt ((X4.setCell ⟨g0, 0, none⟩ (.int .i64 a)).setCell ⟨g0, 1, none⟩ (.int .i64 b)) g1 24 0 0) := Lib.hid (N1.out.far (by have h := D01.out; omega) _ _)
        replace N0 : Hid (Pt ((X4.setCell ⟨g0, 0, none⟩ (.int .i64 a)).setCell ⟨g0, 1, none⟩ (.int .i64 b)) g0 24 a b) := Lib.hid (N0.out.set a b)
        refine hK.out _ _ (⟨Q0.out, Q1.out⟩) (fun hHeld => ?_)
        generalize ((X4.setCell ⟨g0, 0, none⟩ (.int .i64 a)).setCell ⟨g0, 1, none⟩ (.int .i64 b)) = X5 at hHeld HW1 Q0 N0 Q1 N1 ⊢
        clear hK K
        show wpAnyH _ _ _ _ _ _ _ (Act.put _ none _) _
        simp only [Act.put]
        refine wpAnyH_ready (rs := [7]) (by kernel_rfl) (by simp) ?_
        refine AllReadyH.cons rfl (fun K hK => ?_) AllReadyH.nil
        refine step_store24 rfl (.tmp 6) (.tmp 22) rfl g1 24 0 0 c d rfl rfl N1.out ?_
        replace HW1 : Hid (Below w.heap.size w ((X5.setCell ⟨g1, 0, none⟩ (.int .i64 c)).setCell ⟨g1, 1, none⟩ (.int .i64 d))) := Lib.hid ((HW1.out.setCell L1.out _).setCell L1.out _)
        replace Q0 : Hid (Pt ((X5.setCell ⟨g1, 0, none⟩ (.int .i64 c)).setCell ⟨g1, 1, none⟩ (.int .i64 d)) (w.heap.size) 23 a b) := Lib.hid (Q0.out.far F01.out _ _)
        replace Q1 : Hid (Pt ((X5.setCell ⟨g1, 0, none⟩ (.int .i64 c)).setCell ⟨g1, 1, none⟩ (.int .i64 d)) (w.heap.size + 1) 23 c d) := Lib.hid (Q1.out.far F11.out _ _)
        replace N0 : Hid (Pt ((X5.setCell ⟨g1, 0, none⟩ (.int .i64 c)).setCell ⟨g1, 1, none⟩ (.int .i64 d)) g0 24 a b) := Lib.hid (N0.out.far (by have h := D01.out; omega) _ _)
        replace N1 : Hid (Pt ((X5.setCell ⟨g1, 0, none⟩ (.int .i64 c)).setCell ⟨g1, 1, none⟩ (.int .i64 d)) g1 24 c d) := Lib.hid (N1.out.set c d)
        refine hK.out _ _ (⟨Q0.out, Q1.out⟩) (fun hHeld => ?_)
        generalize ((X5.setCell ⟨g1, 0, none⟩ (.int .i64 c)).setCell ⟨g1, 1, none⟩ (.int .i64 d)) = X6 at hHeld HW1 Q0 N0 Q1 N1 ⊢
        clear hK K
        show wpAnyH _ _ _ _ _ _ _ (Act.put _ none _) _
        simp only [Act.put]
        refine wpAnyH_done (by kernel_rfl) ?_ _
        go_wp2_with fail
        go_meet
        exact ⟨g0, g1, rfl, rfl, N0, N1, Q0, Q1, HW1⟩
    · refine step_new rfl 24 rfl #[.int .i64 0, .int .i64 0] (by kernel_rfl) ?_
      have N1 : Hid (Pt (X.alloc (.cells #[.int .i64 0, .int .i64 0] 24)) X.heap.size 24 0 0) := Lib.hid (Pt.mk_ rfl)
      have L1 : Hid (w.heap.size ≤ X.heap.size) := Lib.hid HW1.out.size
      have F01 : Hid ((w.heap.size) ≠ X.heap.size) := Lib.hid (Nat.ne_of_lt Q0.out.lt)
      have F11 : Hid ((w.heap.size + 1) ≠ X.heap.size) := Lib.hid (Nat.ne_of_lt Q1.out.lt)
      replace Q0 := Lib.hid (Q0.out.alloc (.cells #[.int .i64 0, .int .i64 0] 24))
      replace Q1 := Lib.hid (Q1.out.alloc (.cells #[.int .i64 0, .int .i64 0] 24))
      replace HW1 := Lib.hid (HW1.out.alloc HW1.out.size (.cells #[.int .i64 0, .int .i64 0] 24))
      refine hK.out _ _ (⟨Q0.out, Q1.out⟩) (fun hHeld => ?_)
      generalize (X.alloc (.cells #[.int .i64 0, .int .i64 0] 24)) = X1 at hHeld HW1 Q0 Q1 N1 ⊢
      generalize X.heap.size = g1 at N1 L1  F01 F11 ⊢
      clear hK K
      show wpAnyH _ _ _ _ _ _ _ (Act.put _ (some 6) _) _
      simp only [Act.put, List.setIfInBounds_toArray, List.set_cons_zero, List.set_cons_succ]
      refine wpAnyH_ready (rs := [1, 4]) (by kernel_rfl) (by simp) ?_
      refine AllReadyH.cons rfl (fun K hK => ?_) (AllReadyH.cons rfl (fun K hK => ?_) AllReadyH.nil)
      · refine step_call rfl 14 #[.tmp 19] #[23] rfl #[.agg #[.int .i64 a, .int .i64 b]] (by simp [Act.eval]) (by go_simp) (to_any _ _ _) ?_
        rintro e X2 ⟨rfl, hB⟩
        replace HW1 := Lib.hid (HW1.out.trans (hB.mono HW1.out.size))
        replace Q0 := Lib.hid (Q0.out.keep hB)
        replace Q1 := Lib.hid (Q1.out.keep hB)
        replace N1 := Lib.hid (N1.out.keep hB)
        clear hB
        refine ⟨_, rfl, hK.out _ _ (⟨Q0.out, Q1.out⟩) (fun hHeld => ?_)⟩
        clear hK K
        show wpAnyH _ _ _ _ _ _ _ (Act.put _ (some 20) _) _
        simp only [Act.put, List.setIfInBounds_toArray, List.set_cons_zero, List.set_cons_succ]
        refine wpAnyH_ready (rs := [3, 4]) (by kernel_rfl) (by simp) ?_
        refine AllReadyH.cons rfl (fun K hK => ?_) (AllReadyH.cons rfl (fun K hK => ?_) AllReadyH.nil)
        · refine step_call rfl 14 #[.tmp 21] #[23] rfl #[.agg #[.int .i64 c, .int .i64 d]] (by simp [Act.eval]) (by go_simp) (to_any _ _ _) ?_
          rintro e X3 ⟨rfl, hB⟩
          replace HW1 := Lib.hid (HW1.out.trans (hB.mono HW1.out.size))
          replace Q0 := Lib.hid (Q0.out.keep hB)
          replace Q1 := Lib.hid (Q1.out.keep hB)
          replace N1 := Lib.hid (N1.out.keep hB)
          clear hB
          refine ⟨_, rfl, hK.out _ _ (⟨Q0.out, Q1.out⟩) (fun hHeld => ?_)⟩
          clear hK K
          show wpAnyH _ _ _ _ _ _ _ (Act.put _ (some 22) _) _
          simp only [Act.put, List.setIfInBounds_toArray, List.set_cons_zero, List.set_cons_succ]
          refine wpAnyH_ready (rs := [4]) (by kernel_rfl) (by simp) ?_
          refine AllReadyH.cons rfl (fun K hK => ?_) AllReadyH.nil
          refine step_new rfl 24 rfl #[.int .i64 0, .int .i64 0] (by kernel_rfl) ?_
          have N0 : Hid (Pt (X3.alloc (.cells #[.int .i64 0, .int .i64 0] 24)) X3.heap.size 24 0 0) := Lib.hid (Pt.mk_ rfl)
          have L0 : Hid (w.heap.size ≤ X3.heap.size) := Lib.hid HW1.out.size
          have D01 : Hid (g1 ≠ X3.heap.size) := Lib.hid (Nat.ne_of_lt N1.out.lt)
          have F00 : Hid ((w.heap.size) ≠ X3.heap.size) := Lib.hid (Nat.ne_of_lt Q0.out.lt)
          have F10 : Hid ((w.heap.size + 1) ≠ X3.heap.size) := Lib.hid (Nat.ne_of_lt Q1.out.lt)
          replace Q0 := Lib.hid (Q0.out.alloc (.cells #[.int .i64 0, .int .i64 0] 24))
          replace Q1 := Lib.hid (Q1.out.alloc (.cells #[.int .i64 0, .int .i64 0] 24))
          replace N1 := Lib.hid (N1.out.alloc (.cells #[.int .i64 0, .int .i64 0] 24))
          replace HW1 := Lib.hid (HW1.out.alloc HW1.out.size (.cells #[.int .i64 0, .int .i64 0] 24))
          refine hK.out _ _ (⟨Q0.out, Q1.out⟩) (fun hHeld => ?_)
          generalize (X3.alloc (.cells #[.int .i64 0, .int .i64 0] 24)) = X4 at hHeld HW1 Q0 Q1 N1 N0 ⊢
          generalize X3.heap.size = g0 at N0 L0 D01 F00 F10 ⊢
          clear hK K
          show wpAnyH _ _ _ _ _ _ _ (Act.put _ (some 5) _) _
          simp only [Act.put, List.setIfInBounds_toArray, List.set_cons_zero, List.set_cons_succ]
          refine wpAnyH_ready (rs := [6]) (by kernel_rfl) (by simp) ?_
          refine AllReadyH.cons rfl (fun K hK => ?_) AllReadyH.nil
          refine step_store24 rfl (.tmp 5) (.tmp 20) rfl g0 24 0 0 a b rfl rfl N0.out ?_
          replace HW1 : Hid (Below w.heap.size w ((X4.setCell ⟨g0, 0, none⟩ (.int .i64 a)).setCell ⟨g0, 1, none⟩ (.int .i64 b))) := Lib.hid ((HW1.out.setCell L0.out _).setCell L0.out _)
          replace Q0 : Hid (Pt ((X4.setCell ⟨g0, 0, none⟩ (.int .i64 a)).setCell ⟨g0, 1, none⟩ (.int .i64 b)) (w.heap.size) 23 a b) := Lib.hid (Q0.out.far F00.out _ _)
          replace Q1 : Hid (Pt ((X4.setCell ⟨g0, 0, none⟩ (.int .i64 a)).setCell ⟨g0, 1, none⟩ (.int .i64 b)) (w.heap.size + 1) 23 c d) := Lib.hid (Q1.out.far F10.out _ _)
          replace N1 : Hid (Pt ((X4.setCell ⟨g0, 0, none⟩ (.int .i64 a)).setCell ⟨g0, 1, none⟩ (.int .i64 b)) g1 24 0 0) := Lib.hid (N1.out.far (by have h := D01.out; omega) _ _)
          replace N0 : Hid (Pt ((X4.setCell ⟨g0, 0, none⟩ (.int .i64 a)).setCell ⟨g0, 1, none⟩ (.int .i64 b)) g0 24 a b) := Lib.hid (N0.out.set a b)
          refine hK.out _ _ (⟨Q0.out, Q1.out⟩) (fun hHeld => ?_)
          generalize ((X4.setCell ⟨g0, 0, none⟩ (.int .i64 a)).setCell ⟨g0, 1, none⟩ (.int .i64 b)) = X5 at hHeld HW1 Q0 N0 Q1 N1 ⊢
          clear hK K
          show wpAnyH _ _ _ _ _ _ _ (Act.put _ none _) _
          simp only [Act.put]
          refine wpAnyH_ready (rs := [7]) (by kernel_rfl) (by simp) ?_
          refine AllReadyH.cons rfl (fun K hK => ?_) AllReadyH.nil
          refine step_store24 rfl (.tmp 6) (.tmp 22) rfl g1 24 0 0 c d rfl rfl N1.out ?_
          replace HW1 : Hid (Below w.heap.size w ((X5.setCell ⟨g1, 0, none⟩ (.int .i64 c)).setCell ⟨g1, 1, none⟩ (.int .i64 d))) := Lib.hid ((HW1.out.setCell L1.out _).setCell L1.out _)
          replace Q0 : Hid (Pt ((X5.setCell ⟨g1, 0, none⟩ (.int .i64 c)).setCell ⟨g1, 1, none⟩ (.int .i64 d)) (w.heap.size) 23 a b) := Lib.hid (Q0.out.far F01.out _ _)
          replace Q1 : Hid (Pt ((X5.setCell ⟨g1, 0, none⟩ (.int .i64 c)).setCell ⟨g1, 1, none⟩ (.int .i64 d)) (w.heap.size + 1) 23 c d) := Lib.hid (Q1.out.far F11.out _ _)
          replace N0 : Hid (Pt ((X5.setCell ⟨g1, 0, none⟩ (.int .i64 c)).setCell ⟨g1, 1, none⟩ (.int .i64 d)) g0 24 a b) := Lib.hid (N0.out.far (by have h := D01.out; omega) _ _)
          replace N1 : Hid (Pt ((X5.setCell ⟨g1, 0, none⟩ (.int .i64 c)).setCell ⟨g1, 1, none⟩ (.int .i64 d)) g1 24 c d) := Lib.hid (N1.out.set c d)
          refine hK.out _ _ (⟨Q0.out, Q1.out⟩) (fun hHeld => ?_)
          generalize ((X5.setCell ⟨g1, 0, none⟩ (.int .i64 c)).setCell ⟨g1, 1, none⟩ (.int .i64 d)) = X6 at hHeld HW1 Q0 N0 Q1 N1 ⊢
          clear hK K
          show wpAnyH _ _ _ _ _ _ _ (Act.put _ none _) _
          simp only [Act.put]
          refine wpAnyH_done (by kernel_rfl) ?_ _
          go_wp2_with fail
          go_meet
          exact ⟨g0, g1, rfl, rfl, N0, N1, Q0, Q1, HW1⟩
        · refine step_new rfl 24 rfl #[.int .i64 0, .int .i64 0] (by kernel_rfl) ?_
          have N0 : Hid (Pt (X2.alloc (.cells #[.int .i64 0, .int .i64 0] 24)) X2.heap.size 24 0 0) := Lib.hid (Pt.mk_ rfl)
          have L0 : Hid (w.heap.size ≤ X2.heap.size) := Lib.hid HW1.out.size
          have D01 : Hid (g1 ≠ X2.heap.size) := Lib.hid (Nat.ne_of_lt N1.out.lt)
          have F00 : Hid ((w.heap.size) ≠ X2.heap.size) := Lib.hid (Nat.ne_of_lt Q0.out.lt)
          have F10 : Hid ((w.heap.size + 1) ≠ X2.heap.size) := Lib.hid (Nat.ne_of_lt Q1.out.lt)
          replace Q0 := Lib.hid (Q0.out.alloc (.cells #[.int .i64 0, .int .i64 0] 24))
          replace Q1 := Lib.hid (Q1.out.alloc (.cells #[.int .i64 0, .int .i64 0] 24))
          replace N1 := Lib.hid (N1.out.alloc (.cells #[.int .i64 0, .int .i64 0] 24))
          replace HW1 := Lib.hid (HW1.out.alloc HW1.out.size (.cells #[.int .i64 0, .int .i64 0] 24))
          refine hK.out _ _ (⟨Q0.out, Q1.out⟩) (fun hHeld => ?_)
          generalize (X2.alloc (.cells #[.int .i64 0, .int .i64 0] 24)) = X3 at hHeld HW1 Q0 Q1 N1 N0 ⊢
          generalize X2.heap.size = g0 at N0 L0 D01 F00 F10 ⊢
          clear hK K
          show wpAnyH _ _ _ _ _ _ _ (Act.put _ (some 5) _) _
          simp only [Act.put, List.setIfInBounds_toArray, List.set_cons_zero, List.set_cons_succ]
          refine wpAnyH_ready (rs := [3]) (by kernel_rfl) (by simp) ?_
          refine AllReadyH.cons rfl (fun K hK => ?_) AllReadyH.nil
          refine step_call rfl 14 #[.tmp 21] #[23] rfl #[.agg #[.int .i64 c, .int .i64 d]] (by simp [Act.eval]) (by go_simp) (to_any _ _ _) ?_
          rintro e X4 ⟨rfl, hB⟩
          replace HW1 := Lib.hid (HW1.out.trans (hB.mono HW1.out.size))
          replace Q0 := Lib.hid (Q0.out.keep hB)
          replace Q1 := Lib.hid (Q1.out.keep hB)
          replace N1 := Lib.hid (N1.out.keep hB)
          replace N0 := Lib.hid (N0.out.keep hB)
          clear hB
          refine ⟨_, rfl, hK.out _ _ (⟨Q0.out, Q1.out⟩) (fun hHeld => ?_)⟩
          clear hK K
          show wpAnyH _ _ _ _ _ _ _ (Act.put _ (some 22) _) _
          simp only [Act.put, List.setIfInBounds_toArray, List.set_cons_zero, List.set_cons_succ]
          refine wpAnyH_ready (rs := [6]) (by kernel_rfl) (by simp) ?_
          refine AllReadyH.cons rfl (fun K hK => ?_) AllReadyH.nil
          refine step_store24 rfl (.tmp 5) (.tmp 20) rfl g0 24 0 0 a b rfl rfl N0.out ?_
          replace HW1 : Hid (Below w.heap.size w ((X4.setCell ⟨g0, 0, none⟩ (.int .i64 a)).setCell ⟨g0, 1, none⟩ (.int .i64 b))) := Lib.hid ((HW1.out.setCell L0.out _).setCell L0.out _)
          replace Q0 : Hid (Pt ((X4.setCell ⟨g0, 0, none⟩ (.int .i64 a)).setCell ⟨g0, 1, none⟩ (.int .i64 b)) (w.heap.size) 23 a b) := Lib.hid (Q0.out.far F00.out _ _)
          replace Q1 : Hid (Pt ((X4.setCell ⟨g0, 0, none⟩ (.int .i64 a)).setCell ⟨g0, 1, none⟩ (.int .i64 b)) (w.heap.size + 1) 23 c d) := Lib.hid (Q1.out.far F10.out _ _)
          replace N1 : Hid (Pt ((X4.setCell ⟨g0, 0, none⟩ (.int .i64 a)).setCell ⟨g0, 1, none⟩ (.int .i64 b)) g1 24 0 0) := Lib.hid (N1.out.far (by have h := D01.out; omega) _ _)
          replace N0 : Hid (Pt ((X4.setCell ⟨g0, 0, none⟩ (.int .i64 a)).setCell ⟨g0, 1, none⟩ (.int .i64 b)) g0 24 a b) := Lib.hid (N0.out.set a b)
          refine hK.out _ _ (⟨Q0.out, Q1.out⟩) (fun hHeld => ?_)
          generalize ((X4.setCell ⟨g0, 0, none⟩ (.int .i64 a)).setCell ⟨g0, 1, none⟩ (.int .i64 b)) = X5 at hHeld HW1 Q0 N0 Q1 N1 ⊢
          clear hK K
          show wpAnyH _ _ _ _ _ _ _ (Act.put _ none _) _
          simp only [Act.put]
          refine wpAnyH_ready (rs := [7]) (by kernel_rfl) (by simp) ?_
          refine AllReadyH.cons rfl (fun K hK => ?_) AllReadyH.nil
          refine step_store24 rfl (.tmp 6) (.tmp 22) rfl g1 24 0 0 c d rfl rfl N1.out ?_
          replace HW1 : Hid (Below w.heap.size w ((X5.setCell ⟨g1, 0, none⟩ (.int .i64 c)).setCell ⟨g1, 1, none⟩ (.int .i64 d))) := Lib.hid ((HW1.out.setCell L1.out _).setCell L1.out _)
          replace Q0 : Hid (Pt ((X5.setCell ⟨g1, 0, none⟩ (.int .i64 c)).setCell ⟨g1, 1, none⟩ (.int .i64 d)) (w.heap.size) 23 a b) := Lib.hid (Q0.out.far F01.out _ _)
          replace Q1 : Hid (Pt ((X5.setCell ⟨g1, 0, none⟩ (.int .i64 c)).setCell ⟨g1, 1, none⟩ (.int .i64 d)) (w.heap.size + 1) 23 c d) := Lib.hid (Q1.out.far F11.out _ _)
          replace N0 : Hid (Pt ((X5.setCell ⟨g1, 0, none⟩ (.int .i64 c)).setCell ⟨g1, 1, none⟩ (.int .i64 d)) g0 24 a b) := Lib.hid (N0.out.far (by have h := D01.out; omega) _ _)
          replace N1 : Hid (Pt ((X5.setCell ⟨g1, 0, none⟩ (.int .i64 c)).setCell ⟨g1, 1, none⟩ (.int .i64 d)) g1 24 c d) := Lib.hid (N1.out.set c d)
          refine hK.out _ _ (⟨Q0.out, Q1.out⟩) (fun hHeld => ?_)
          generalize ((X5.setCell ⟨g1, 0, none⟩ (.int .i64 c)).setCell ⟨g1, 1, none⟩ (.int .i64 d)) = X6 at hHeld HW1 Q0 N0 Q1 N1 ⊢
          clear hK K
          show wpAnyH _ _ _ _ _ _ _ (Act.put _ none _) _
          simp only [Act.put]
          refine wpAnyH_done (by kernel_rfl) ?_ _
          go_wp2_with fail
          go_meet
          exact ⟨g0, g1, rfl, rfl, N0, N1, Q0, Q1, HW1⟩
      · refine step_new rfl 24 rfl #[.int .i64 0, .int .i64 0] (by kernel_rfl) ?_
        have N0 : Hid (Pt (X1.alloc (.cells #[.int .i64 0, .int .i64 0] 24)) X1.heap.size 24 0 0) := Lib.hid (Pt.mk_ rfl)
        have L0 : Hid (w.heap.size ≤ X1.heap.size) := Lib.hid HW1.out.size
        have D01 : Hid (g1 ≠ X1.heap.size) := Lib.hid (Nat.ne_of_lt N1.out.lt)
        have F00 : Hid ((w.heap.size) ≠ X1.heap.size) := Lib.hid (Nat.ne_of_lt Q0.out.lt)
        have F10 : Hid ((w.heap.size + 1) ≠ X1.heap.size) := Lib.hid (Nat.ne_of_lt Q1.out.lt)
        replace Q0 := Lib.hid (Q0.out.alloc (.cells #[.int .i64 0, .int .i64 0] 24))
        replace Q1 := Lib.hid (Q1.out.alloc (.cells #[.int .i64 0, .int .i64 0] 24))
        replace N1 := Lib.hid (N1.out.alloc (.cells #[.int .i64 0, .int .i64 0] 24))
        replace HW1 := Lib.hid (HW1.out.alloc HW1.out.size (.cells #[.int .i64 0, .int .i64 0] 24))
        refine hK.out _ _ (⟨Q0.out, Q1.out⟩) (fun hHeld => ?_)
        generalize (X1.alloc (.cells #[.int .i64 0, .int .i64 0] 24)) = X2 at hHeld HW1 Q0 Q1 N1 N0 ⊢
        generalize X1.heap.size = g0 at N0 L0 D01 F00 F10 ⊢
        clear hK K
        show wpAnyH _ _ _ _ _ _ _ (Act.put _ (some 5) _) _
        simp only [Act.put, List.setIfInBounds_toArray, List.set_cons_zero, List.set_cons_succ]
        refine wpAnyH_ready (rs := [1]) (by kernel_rfl) (by simp) ?_
        refine AllReadyH.cons rfl (fun K hK => ?_) AllReadyH.nil
        refine step_call rfl 14 #[.tmp 19] #[23] rfl #[.agg #[.int .i64 a, .int .i64 b]] (by simp [Act.eval]) (by go_simp) (to_any _ _ _) ?_
        rintro e X3 ⟨rfl, hB⟩
        replace HW1 := Lib.hid (HW1.out.trans (hB.mono HW1.out.size))
        replace Q0 := Lib.hid (Q0.out.keep hB)
        replace Q1 := Lib.hid (Q1.out.keep hB)
        replace N1 := Lib.hid (N1.out.keep hB)
        replace N0 := Lib.hid (N0.out.keep hB)
        clear hB
        refine ⟨_, rfl, hK.out _ _ (⟨Q0.out, Q1.out⟩) (fun hHeld => ?_)⟩
        clear hK K
        show wpAnyH _ _ _ _ _ _ _ (Act.put _ (some 20) _) _
        simp only [Act.put, List.setIfInBounds_toArray, List.set_cons_zero, List.set_cons_succ]
        refine wpAnyH_ready (rs := [3]) (by kernel_rfl) (by simp) ?_
        refine AllReadyH.cons rfl (fun K hK => ?_) AllReadyH.nil
        refine step_call rfl 14 #[.tmp 21] #[23] rfl #[.agg #[.int .i64 c, .int .i64 d]] (by simp [Act.eval]) (by go_simp) (to_any _ _ _) ?_
        rintro e X4 ⟨rfl, hB⟩
        replace HW1 := Lib.hid (HW1.out.trans (hB.mono HW1.out.size))
        replace Q0 := Lib.hid (Q0.out.keep hB)
        replace Q1 := Lib.hid (Q1.out.keep hB)
        replace N1 := Lib.hid (N1.out.keep hB)
        replace N0 := Lib.hid (N0.out.keep hB)
        clear hB
        refine ⟨_, rfl, hK.out _ _ (⟨Q0.out, Q1.out⟩) (fun hHeld => ?_)⟩
        clear hK K
        show wpAnyH _ _ _ _ _ _ _ (Act.put _ (some 22) _) _
        simp only [Act.put, List.setIfInBounds_toArray, List.set_cons_zero, List.set_cons_succ]
        refine wpAnyH_ready (rs := [6]) (by kernel_rfl) (by simp) ?_
        refine AllReadyH.cons rfl (fun K hK => ?_) AllReadyH.nil
        refine step_store24 rfl (.tmp 5) (.tmp 20) rfl g0 24 0 0 a b rfl rfl N0.out ?_
        replace HW1 : Hid (Below w.heap.size w ((X4.setCell ⟨g0, 0, none⟩ (.int .i64 a)).setCell ⟨g0, 1, none⟩ (.int .i64 b))) := Lib.hid ((HW1.out.setCell L0.out _).setCell L0.out _)
        replace Q0 : Hid (Pt ((X4.setCell ⟨g0, 0, none⟩ (.int .i64 a)).setCell ⟨g0, 1, none⟩ (.int .i64 b)) (w.heap.size) 23 a b) := Lib.hid (Q0.out.far F00.out _ _)
        replace Q1 : Hid (Pt ((X4.setCell ⟨g0, 0, none⟩ (.int .i64 a)).setCell ⟨g0, 1, none⟩ (.int .i64 b)) (w.heap.size + 1) 23 c d) := Lib.hid (Q1.out.far F10.out _ _)
        replace N1 : Hid (Pt ((X4.setCell ⟨g0, 0, none⟩ (.int .i64 a)).setCell ⟨g0, 1, none⟩ (.int .i64 b)) g1 24 0 0) := Lib.hid (N1.out.far (by have h := D01.out; omega) _ _)
        replace N0 : Hid (Pt ((X4.setCell ⟨g0, 0, none⟩ (.int .i64 a)).setCell ⟨g0, 1, none⟩ (.int .i64 b)) g0 24 a b) := Lib.hid (N0.out.set a b)
        refine hK.out _ _ (⟨Q0.out, Q1.out⟩) (fun hHeld => ?_)
        generalize ((X4.setCell ⟨g0, 0, none⟩ (.int .i64 a)).setCell ⟨g0, 1, none⟩ (.int .i64 b)) = X5 at hHeld HW1 Q0 N0 Q1 N1 ⊢
        clear hK K
        show wpAnyH _ _ _ _ _ _ _ (Act.put _ none _) _
        simp only [Act.put]
        refine wpAnyH_ready (rs := [7]) (by kernel_rfl) (by simp) ?_
        refine AllReadyH.cons rfl (fun K hK => ?_) AllReadyH.nil
        refine step_store24 rfl (.tmp 6) (.tmp 22) rfl g1 24 0 0 c d rfl rfl N1.out ?_
        replace HW1 : Hid (Below w.heap.size w ((X5.setCell ⟨g1, 0, none⟩ (.int .i64 c)).setCell ⟨g1, 1, none⟩ (.int .i64 d))) := Lib.hid ((HW1.out.setCell L1.out _).setCell L1.out _)
        replace Q0 : Hid (Pt ((X5.setCell ⟨g1, 0, none⟩ (.int .i64 c)).setCell ⟨g1, 1, none⟩ (.int .i64 d)) (w.heap.size) 23 a b) := Lib.hid (Q0.out.far F01.out _ _)
        replace Q1 : Hid (Pt ((X5.setCell ⟨g1, 0, none⟩ (.int .i64 c)).setCell ⟨g1, 1, none⟩ (.int .i64 d)) (w.heap.size + 1) 23 c d) := Lib.hid (Q1.out.far F11.out _ _)
        replace N0 : Hid (Pt ((X5.setCell ⟨g1, 0, none⟩ (.int .i64 c)).setCell ⟨g1, 1, none⟩ (.int .i64 d)) g0 24 a b) := Lib.hid (N0.out.far (by have h := D01.out; omega) _ _)
        replace N1 : Hid (Pt ((X5.setCell ⟨g1, 0, none⟩ (.int .i64 c)).setCell ⟨g1, 1, none⟩ (.int .i64 d)) g1 24 c d) := Lib.hid (N1.out.set c d)
        refine hK.out _ _ (⟨Q0.out, Q1.out⟩) (fun hHeld => ?_)
        generalize ((X5.setCell ⟨g1, 0, none⟩ (.int .i64 c)).setCell ⟨g1, 1, none⟩ (.int .i64 d)) = X6 at hHeld HW1 Q0 N0 Q1 N1 ⊢
        clear hK K
        show wpAnyH _ _ _ _ _ _ _ (Act.put _ none _) _
        simp only [Act.put]
        refine wpAnyH_done (by kernel_rfl) ?_ _
        go_wp2_with fail
        go_meet
        exact ⟨g0, g1, rfl, rfl, N0, N1, Q0, Q1, HW1⟩
  case rest =>
    obtain ⟨g0, g1, rfl, rfl, N0, N1, Q0, Q1, HW1⟩ := hcut
    obtain ⟨r1, h1⟩ : ∃ r, moveP a b c d = r := ⟨_, rfl⟩
    obtain ⟨r2, h2⟩ : ∃ r, turnP a b 0 0 1 = r := ⟨_, rfl⟩
    have HM1 : Hid (r1.e = 0 → r1 = ⟨a + c, b + d, 0⟩ ∧ moveP (a + c) (b + d) (-c) (-d) = ⟨a, b, 0⟩ ∧ On c d) := Lib.hid (by rw [← h1]; exact fun h => ⟨(move_ok h).2.2.2, move_back h, (move_ok h).2.1⟩)
    have HP1 : Hid (∀ w, Calls Try.prog 15 #[.agg #[.int .i64 a, .int .i64 b], .agg #[.int .i64 c, .int .i64 d]] w fun e w' => e = .returned (.tuple #[.agg #[.int .i64 r1.x, .int .i64 r1.y], .int .i64 r1.e]) ∧ Below w.heap.size w w') := Lib.hid fun w => by
      have h := move_any a b c d w
      rw [h1] at h
      exact h
    have HT : Hid (∀ w, Calls Try.prog 17 #[.agg #[.int .i64 a, .int .i64 b], .agg #[.int .i64 0, .int .i64 1]] w fun e w' => e = .returned (.tuple #[.agg #[.int .i64 r2.x, .int .i64 r2.y], .int .i64 r2.e]) ∧ Below w.heap.size w w') := Lib.hid fun w => by
      have h := times_any a b 0 1 w
      rw [i_times, h2] at h
      exact h
    have HU : Hid (∀ w, Calls Try.prog 19 #[.agg #[.int .i64 a, .int .i64 b], .agg #[.int .i64 0, .int .i64 0], .int .i64 1] w fun e w' => e = .returned (.tuple #[.agg #[.int .i64 r2.x, .int .i64 r2.y], .int .i64 r2.e]) ∧ Below w.heap.size w w') := Lib.hid fun w => by
      have h := turn_any a b 0 0 1 w
      rw [h2] at h
      exact h
    clear h1 h2
    have N0a := N0.out.c0
    have N0b := N0.out.c1
    have N1a := N1.out.c0
    have N1b := N1.out.c1
    go_wp2_with fail
    refine (HP1.out _).mono ?_
    rintro e Y1 ⟨rfl, hB⟩
    clear N0a N0b
    clear N1a N1b
    replace HW1 := Lib.hid (HW1.out.trans (hB.mono HW1.out.size))
    replace N0 := Lib.hid (N0.out.keep hB)
    replace N1 := Lib.hid (N1.out.keep hB)
    replace Q0 := Lib.hid (Q0.out.keep hB)
    replace Q1 := Lib.hid (Q1.out.keep hB)
    clear hB
    go_upto_region 3 with fail
    have A1 : Hid (Pt (Y1.alloc (.cells #[.int .i64 r1.x, .int .i64 r1.y] 24)) Y1.heap.size 24 r1.x r1.y) := Lib.hid (Pt.mk_ rfl)
    replace N0 := Lib.hid (N0.out.alloc (.cells #[.int .i64 r1.x, .int .i64 r1.y] 24))
    replace N1 := Lib.hid (N1.out.alloc (.cells #[.int .i64 r1.x, .int .i64 r1.y] 24))
    replace Q0 := Lib.hid (Q0.out.alloc (.cells #[.int .i64 r1.x, .int .i64 r1.y] 24))
    replace Q1 := Lib.hid (Q1.out.alloc (.cells #[.int .i64 r1.x, .int .i64 r1.y] 24))
    replace HW1 := Lib.hid (HW1.out.alloc HW1.out.size (.cells #[.int .i64 r1.x, .int .i64 r1.y] 24))
    generalize (Y1.alloc (.cells #[.int .i64 r1.x, .int .i64 r1.y] 24)) = Y2 at HW1 A1 N0 N1 Q0 Q1 ⊢
    generalize Y1.heap.size = gA1 at A1 ⊢
    by_cases he : r1.e = 0
    · have hm := HM1.out he
      obtain rfl : r1 = ⟨a + c, b + d, 0⟩ := hm.1
      have HB := Lib.hid hm.2.1
      obtain ⟨o1, o2, o3, o4⟩ := hm.2.2
      clear hm he
      have HP2 : Hid (∀ w, Calls Try.prog 15 #[.agg #[.int .i64 (a + c), .int .i64 (b + d)], .agg #[.int .i64 (-c), .int .i64 (-d)]] w fun e w' => e = .returned (.tuple #[.agg #[.int .i64 a, .int .i64 b], .int .i64 0]) ∧ Below w.heap.size w w') := Lib.hid fun w => by
        have h := move_any (a + c) (b + d) (-c) (-d) w
        rw [HB.out] at h
        exact h
      have Q1a := Q1.out.c0
      have Q1b := Q1.out.c1
      have A1a := A1.out.c0
      have A1b := A1.out.c1
      have N1a := N1.out.c0
      have N1b := N1.out.c1
      go_wp2_with fail
      refine (HP2.out _).mono ?_
      rintro e Y3 ⟨rfl, hB⟩
      clear Q1a Q1b
      clear A1a A1b
      clear N1a N1b
      replace HW1 := Lib.hid (HW1.out.trans (hB.mono HW1.out.size))
      replace N0 := Lib.hid (N0.out.keep hB)
      replace N1 := Lib.hid (N1.out.keep hB)
      replace Q0 := Lib.hid (Q0.out.keep hB)
      replace Q1 := Lib.hid (Q1.out.keep hB)
      replace A1 := Lib.hid (A1.out.keep hB)
      clear hB
      go_upto_region 5 with fail
      have A2 : Hid (Pt (Y3.alloc (.cells #[.int .i64 a, .int .i64 b] 24)) Y3.heap.size 24 a b) := Lib.hid (Pt.mk_ rfl)
      replace N0 := Lib.hid (N0.out.alloc (.cells #[.int .i64 a, .int .i64 b] 24))
      replace N1 := Lib.hid (N1.out.alloc (.cells #[.int .i64 a, .int .i64 b] 24))
      replace Q0 := Lib.hid (Q0.out.alloc (.cells #[.int .i64 a, .int .i64 b] 24))
      replace Q1 := Lib.hid (Q1.out.alloc (.cells #[.int .i64 a, .int .i64 b] 24))
      replace A1 := Lib.hid (A1.out.alloc (.cells #[.int .i64 a, .int .i64 b] 24))
      replace HW1 := Lib.hid (HW1.out.alloc HW1.out.size (.cells #[.int .i64 a, .int .i64 b] 24))
      generalize (Y3.alloc (.cells #[.int .i64 a, .int .i64 b] 24)) = Y4 at HW1 A2 N0 N1 Q0 Q1 A1 ⊢
      generalize Y3.heap.size = gA2 at A2 ⊢
      have A2a := A2.out.c0
      have A2b := A2.out.c1
      have N0a := N0.out.c0
      have N0b := N0.out.c1
      go_upto_region 7 with fail
      clear A2a A2b
      go_wp2_with fail
      refine (HT.out _).mono ?_
      rintro e Y5 ⟨rfl, hB⟩
      clear N0a N0b
      replace HW1 := Lib.hid (HW1.out.trans (hB.mono HW1.out.size))
      replace N0 := Lib.hid (N0.out.keep hB)
      replace N1 := Lib.hid (N1.out.keep hB)
      replace Q0 := Lib.hid (Q0.out.keep hB)
      replace Q1 := Lib.hid (Q1.out.keep hB)
      replace A1 := Lib.hid (A1.out.keep hB)
      replace A2 := Lib.hid (A2.out.keep hB)
      clear hB
      go_upto_region 8 with fail
      have A3 : Hid (Pt (Y5.alloc (.cells #[.int .i64 r2.x, .int .i64 r2.y] 24)) Y5.heap.size 24 r2.x r2.y) := Lib.hid (Pt.mk_ rfl)
      replace N0 := Lib.hid (N0.out.alloc (.cells #[.int .i64 r2.x, .int .i64 r2.y] 24))
      replace N1 := Lib.hid (N1.out.alloc (.cells #[.int .i64 r2.x, .int .i64 r2.y] 24))
      replace Q0 := Lib.hid (Q0.out.alloc (.cells #[.int .i64 r2.x, .int .i64 r2.y] 24))
      replace Q1 := Lib.hid (Q1.out.alloc (.cells #[.int .i64 r2.x, .int .i64 r2.y] 24))
      replace A1 := Lib.hid (A1.out.alloc (.cells #[.int .i64 r2.x, .int .i64 r2.y] 24))
      replace A2 := Lib.hid (A2.out.alloc (.cells #[.int .i64 r2.x, .int .i64 r2.y] 24))
      replace HW1 := Lib.hid (HW1.out.alloc HW1.out.size (.cells #[.int .i64 r2.x, .int .i64 r2.y] 24))
      generalize (Y5.alloc (.cells #[.int .i64 r2.x, .int .i64 r2.y] 24)) = Y6 at HW1 A3 N0 N1 Q0 Q1 A1 A2 ⊢
      generalize Y5.heap.size = gA3 at A3 ⊢
      have N0a := N0.out.c0
      have N0b := N0.out.c1
      go_wp2_with fail
      refine (HU.out _).mono ?_
      rintro e Y7 ⟨rfl, hB⟩
      clear N0a N0b
      replace HW1 := Lib.hid (HW1.out.trans (hB.mono HW1.out.size))
      replace N0 := Lib.hid (N0.out.keep hB)
      replace N1 := Lib.hid (N1.out.keep hB)
      replace Q0 := Lib.hid (Q0.out.keep hB)
      replace Q1 := Lib.hid (Q1.out.keep hB)
      replace A1 := Lib.hid (A1.out.keep hB)
      replace A2 := Lib.hid (A2.out.keep hB)
      replace A3 := Lib.hid (A3.out.keep hB)
      clear hB
      go_upto_region 9 with fail
      have A4 : Hid (Pt (Y7.alloc (.cells #[.int .i64 r2.x, .int .i64 r2.y] 24)) Y7.heap.size 24 r2.x r2.y) := Lib.hid (Pt.mk_ rfl)
      replace N0 := Lib.hid (N0.out.alloc (.cells #[.int .i64 r2.x, .int .i64 r2.y] 24))
      replace N1 := Lib.hid (N1.out.alloc (.cells #[.int .i64 r2.x, .int .i64 r2.y] 24))
      replace Q0 := Lib.hid (Q0.out.alloc (.cells #[.int .i64 r2.x, .int .i64 r2.y] 24))
      replace Q1 := Lib.hid (Q1.out.alloc (.cells #[.int .i64 r2.x, .int .i64 r2.y] 24))
      replace A1 := Lib.hid (A1.out.alloc (.cells #[.int .i64 r2.x, .int .i64 r2.y] 24))
      replace A2 := Lib.hid (A2.out.alloc (.cells #[.int .i64 r2.x, .int .i64 r2.y] 24))
      replace A3 := Lib.hid (A3.out.alloc (.cells #[.int .i64 r2.x, .int .i64 r2.y] 24))
      replace HW1 := Lib.hid (HW1.out.alloc HW1.out.size (.cells #[.int .i64 r2.x, .int .i64 r2.y] 24))
      generalize (Y7.alloc (.cells #[.int .i64 r2.x, .int .i64 r2.y] 24)) = Y8 at HW1 A4 N0 N1 Q0 Q1 A1 A2 A3 ⊢
      generalize Y7.heap.size = gA4 at A4 ⊢
      have A3a := A3.out.c0
      have A3b := A3.out.c1
      have A4a := A4.out.c0
      have A4b := A4.out.c1
      go_upto_region 11 with fail
      clear A3a A3b
      clear A4a A4b
      by_cases hon2 : On a b
      · have HM : Hid (∀ w, Calls Try.prog 21 #[.agg #[.int .i64 a, .int .i64 b]] w fun e w' => e = .returned (.tuple #[.agg #[.int .i64 a, .int .i64 (-b)], .int .i64 0]) ∧ Below w.heap.size w w') := Lib.hid fun w => by
          have h := mirror_any a b w
          rw [(mirror_on hon2).1] at h
          exact h
        have HN : Hid (∀ w, Calls Try.prog 21 #[.agg #[.int .i64 a, .int .i64 (-b)]] w fun e w' => e = .returned (.tuple #[.agg #[.int .i64 a, .int .i64 b], .int .i64 0]) ∧ Below w.heap.size w w') := Lib.hid fun w => by
          have h := mirror_any a (-b) w
          rw [(mirror_on hon2).2] at h
          exact h
        clear hon2
        have N0a := N0.out.c0
        have N0b := N0.out.c1
        go_wp2_with fail
        refine (HM.out _).mono ?_
        rintro e Y9 ⟨rfl, hB⟩
        clear N0a N0b
        replace HW1 := Lib.hid (HW1.out.trans (hB.mono HW1.out.size))
        replace N0 := Lib.hid (N0.out.keep hB)
        replace N1 := Lib.hid (N1.out.keep hB)
        replace Q0 := Lib.hid (Q0.out.keep hB)
        replace Q1 := Lib.hid (Q1.out.keep hB)
        replace A1 := Lib.hid (A1.out.keep hB)
        replace A2 := Lib.hid (A2.out.keep hB)
        replace A3 := Lib.hid (A3.out.keep hB)
        replace A4 := Lib.hid (A4.out.keep hB)
        clear hB
        go_upto_region 12 with fail
        have A5 : Hid (Pt (Y9.alloc (.cells #[.int .i64 a, .int .i64 (-b)] 24)) Y9.heap.size 24 a (-b)) := Lib.hid (Pt.mk_ rfl)
        replace N0 := Lib.hid (N0.out.alloc (.cells #[.int .i64 a, .int .i64 (-b)] 24))
        replace N1 := Lib.hid (N1.out.alloc (.cells #[.int .i64 a, .int .i64 (-b)] 24))
        replace Q0 := Lib.hid (Q0.out.alloc (.cells #[.int .i64 a, .int .i64 (-b)] 24))
        replace Q1 := Lib.hid (Q1.out.alloc (.cells #[.int .i64 a, .int .i64 (-b)] 24))
        replace A1 := Lib.hid (A1.out.alloc (.cells #[.int .i64 a, .int .i64 (-b)] 24))
        replace A2 := Lib.hid (A2.out.alloc (.cells #[.int .i64 a, .int .i64 (-b)] 24))
        replace A3 := Lib.hid (A3.out.alloc (.cells #[.int .i64 a, .int .i64 (-b)] 24))
        replace A4 := Lib.hid (A4.out.alloc (.cells #[.int .i64 a, .int .i64 (-b)] 24))
        replace HW1 := Lib.hid (HW1.out.alloc HW1.out.size (.cells #[.int .i64 a, .int .i64 (-b)] 24))
        generalize (Y9.alloc (.cells #[.int .i64 a, .int .i64 (-b)] 24)) = Y10 at HW1 A5 N0 N1 Q0 Q1 A1 A2 A3 A4 ⊢
        generalize Y9.heap.size = gA5 at A5 ⊢
        have A5a := A5.out.c0
        have A5b := A5.out.c1
        go_wp2_with fail
        refine (HN.out _).mono ?_
        rintro e Y11 ⟨rfl, hB⟩
        clear A5a A5b
        replace HW1 := Lib.hid (HW1.out.trans (hB.mono HW1.out.size))
        replace N0 := Lib.hid (N0.out.keep hB)
        replace N1 := Lib.hid (N1.out.keep hB)
        replace Q0 := Lib.hid (Q0.out.keep hB)
        replace Q1 := Lib.hid (Q1.out.keep hB)
        replace A1 := Lib.hid (A1.out.keep hB)
        replace A2 := Lib.hid (A2.out.keep hB)
        replace A3 := Lib.hid (A3.out.keep hB)
        replace A4 := Lib.hid (A4.out.keep hB)
        replace A5 := Lib.hid (A5.out.keep hB)
        clear hB
        go_upto_region 13 with fail
        have A6 : Hid (Pt (Y11.alloc (.cells #[.int .i64 a, .int .i64 b] 24)) Y11.heap.size 24 a b) := Lib.hid (Pt.mk_ rfl)
        replace N0 := Lib.hid (N0.out.alloc (.cells #[.int .i64 a, .int .i64 b] 24))
        replace N1 := Lib.hid (N1.out.alloc (.cells #[.int .i64 a, .int .i64 b] 24))
        replace Q0 := Lib.hid (Q0.out.alloc (.cells #[.int .i64 a, .int .i64 b] 24))
        replace Q1 := Lib.hid (Q1.out.alloc (.cells #[.int .i64 a, .int .i64 b] 24))
        replace A1 := Lib.hid (A1.out.alloc (.cells #[.int .i64 a, .int .i64 b] 24))
        replace A2 := Lib.hid (A2.out.alloc (.cells #[.int .i64 a, .int .i64 b] 24))
        replace A3 := Lib.hid (A3.out.alloc (.cells #[.int .i64 a, .int .i64 b] 24))
        replace A4 := Lib.hid (A4.out.alloc (.cells #[.int .i64 a, .int .i64 b] 24))
        replace A5 := Lib.hid (A5.out.alloc (.cells #[.int .i64 a, .int .i64 b] 24))
        replace HW1 := Lib.hid (HW1.out.alloc HW1.out.size (.cells #[.int .i64 a, .int .i64 b] 24))
        generalize (Y11.alloc (.cells #[.int .i64 a, .int .i64 b] 24)) = Y12 at HW1 A6 N0 N1 Q0 Q1 A1 A2 A3 A4 A5 ⊢
        generalize Y11.heap.size = gA6 at A6 ⊢
        go_wp2_with fail
        refine (awake_any _).mono ?_
        rintro e Y13 ⟨rfl, hB⟩
        replace HW1 := Lib.hid (HW1.out.trans (hB.mono HW1.out.size))
        replace N0 := Lib.hid (N0.out.keep hB)
        replace N1 := Lib.hid (N1.out.keep hB)
        replace Q0 := Lib.hid (Q0.out.keep hB)
        replace Q1 := Lib.hid (Q1.out.keep hB)
        replace A1 := Lib.hid (A1.out.keep hB)
        replace A2 := Lib.hid (A2.out.keep hB)
        replace A3 := Lib.hid (A3.out.keep hB)
        replace A4 := Lib.hid (A4.out.keep hB)
        replace A5 := Lib.hid (A5.out.keep hB)
        replace A6 := Lib.hid (A6.out.keep hB)
        clear hB
        have A6a := A6.out.c0
        have A6b := A6.out.c1
        have N0a := N0.out.c0
        have N0b := N0.out.c1
        go_wp2
        go_ret
        exact ⟨rfl, HW1.out⟩
      · have HM : Hid (∀ w, Calls Try.prog 21 #[.agg #[.int .i64 a, .int .i64 b]] w fun e w' => e = .returned (.tuple #[.agg #[.int .i64 0, .int .i64 0], .int .i64 1]) ∧ Below w.heap.size w w') := Lib.hid fun w => by
          have h := mirror_any a b w
          rw [mirror_off hon2] at h
          exact h
        have HN : Hid (∀ w, Calls Try.prog 21 #[.agg #[.int .i64 0, .int .i64 0]] w fun e w' => e = .returned (.tuple #[.agg #[.int .i64 0, .int .i64 0], .int .i64 0]) ∧ Below w.heap.size w w') := Lib.hid fun w => by
          have h := mirror_any 0 0 w
          rw [mirror_zero] at h
          exact h
        clear hon2
        have N0a := N0.out.c0
        have N0b := N0.out.c1
        go_wp2_with fail
        refine (HM.out _).mono ?_
        rintro e Y9 ⟨rfl, hB⟩
        clear N0a N0b
        replace HW1 := Lib.hid (HW1.out.trans (hB.mono HW1.out.size))
        replace N0 := Lib.hid (N0.out.keep hB)
        replace N1 := Lib.hid (N1.out.keep hB)
        replace Q0 := Lib.hid (Q0.out.keep hB)
        replace Q1 := Lib.hid (Q1.out.keep hB)
        replace A1 := Lib.hid (A1.out.keep hB)
        replace A2 := Lib.hid (A2.out.keep hB)
        replace A3 := Lib.hid (A3.out.keep hB)
        replace A4 := Lib.hid (A4.out.keep hB)
        clear hB
        go_upto_region 12 with fail
        have A5 : Hid (Pt (Y9.alloc (.cells #[.int .i64 0, .int .i64 0] 24)) Y9.heap.size 24 0 0) := Lib.hid (Pt.mk_ rfl)
        replace N0 := Lib.hid (N0.out.alloc (.cells #[.int .i64 0, .int .i64 0] 24))
        replace N1 := Lib.hid (N1.out.alloc (.cells #[.int .i64 0, .int .i64 0] 24))
        replace Q0 := Lib.hid (Q0.out.alloc (.cells #[.int .i64 0, .int .i64 0] 24))
        replace Q1 := Lib.hid (Q1.out.alloc (.cells #[.int .i64 0, .int .i64 0] 24))
        replace A1 := Lib.hid (A1.out.alloc (.cells #[.int .i64 0, .int .i64 0] 24))
        replace A2 := Lib.hid (A2.out.alloc (.cells #[.int .i64 0, .int .i64 0] 24))
        replace A3 := Lib.hid (A3.out.alloc (.cells #[.int .i64 0, .int .i64 0] 24))
        replace A4 := Lib.hid (A4.out.alloc (.cells #[.int .i64 0, .int .i64 0] 24))
        replace HW1 := Lib.hid (HW1.out.alloc HW1.out.size (.cells #[.int .i64 0, .int .i64 0] 24))
        generalize (Y9.alloc (.cells #[.int .i64 0, .int .i64 0] 24)) = Y10 at HW1 A5 N0 N1 Q0 Q1 A1 A2 A3 A4 ⊢
        generalize Y9.heap.size = gA5 at A5 ⊢
        have A5a := A5.out.c0
        have A5b := A5.out.c1
        go_wp2_with fail
        refine (HN.out _).mono ?_
        rintro e Y11 ⟨rfl, hB⟩
        clear A5a A5b
        replace HW1 := Lib.hid (HW1.out.trans (hB.mono HW1.out.size))
        replace N0 := Lib.hid (N0.out.keep hB)
        replace N1 := Lib.hid (N1.out.keep hB)
        replace Q0 := Lib.hid (Q0.out.keep hB)
        replace Q1 := Lib.hid (Q1.out.keep hB)
        replace A1 := Lib.hid (A1.out.keep hB)
        replace A2 := Lib.hid (A2.out.keep hB)
        replace A3 := Lib.hid (A3.out.keep hB)
        replace A4 := Lib.hid (A4.out.keep hB)
        replace A5 := Lib.hid (A5.out.keep hB)
        clear hB
        go_upto_region 13 with fail
        have A6 : Hid (Pt (Y11.alloc (.cells #[.int .i64 0, .int .i64 0] 24)) Y11.heap.size 24 0 0) := Lib.hid (Pt.mk_ rfl)
        replace N0 := Lib.hid (N0.out.alloc (.cells #[.int .i64 0, .int .i64 0] 24))
        replace N1 := Lib.hid (N1.out.alloc (.cells #[.int .i64 0, .int .i64 0] 24))
        replace Q0 := Lib.hid (Q0.out.alloc (.cells #[.int .i64 0, .int .i64 0] 24))
        replace Q1 := Lib.hid (Q1.out.alloc (.cells #[.int .i64 0, .int .i64 0] 24))
        replace A1 := Lib.hid (A1.out.alloc (.cells #[.int .i64 0, .int .i64 0] 24))
        replace A2 := Lib.hid (A2.out.alloc (.cells #[.int .i64 0, .int .i64 0] 24))
        replace A3 := Lib.hid (A3.out.alloc (.cells #[.int .i64 0, .int .i64 0] 24))
        replace A4 := Lib.hid (A4.out.alloc (.cells #[.int .i64 0, .int .i64 0] 24))
        replace A5 := Lib.hid (A5.out.alloc (.cells #[.int .i64 0, .int .i64 0] 24))
        replace HW1 := Lib.hid (HW1.out.alloc HW1.out.size (.cells #[.int .i64 0, .int .i64 0] 24))
        generalize (Y11.alloc (.cells #[.int .i64 0, .int .i64 0] 24)) = Y12 at HW1 A6 N0 N1 Q0 Q1 A1 A2 A3 A4 A5 ⊢
        generalize Y11.heap.size = gA6 at A6 ⊢
        go_wp2_with fail
        refine (awake_any _).mono ?_
        rintro e Y13 ⟨rfl, hB⟩
        replace HW1 := Lib.hid (HW1.out.trans (hB.mono HW1.out.size))
        replace N0 := Lib.hid (N0.out.keep hB)
        replace N1 := Lib.hid (N1.out.keep hB)
        replace Q0 := Lib.hid (Q0.out.keep hB)
        replace Q1 := Lib.hid (Q1.out.keep hB)
        replace A1 := Lib.hid (A1.out.keep hB)
        replace A2 := Lib.hid (A2.out.keep hB)
        replace A3 := Lib.hid (A3.out.keep hB)
        replace A4 := Lib.hid (A4.out.keep hB)
        replace A5 := Lib.hid (A5.out.keep hB)
        replace A6 := Lib.hid (A6.out.keep hB)
        clear hB
        have A6a := A6.out.c0
        have A6b := A6.out.c1
        have N0a := N0.out.c0
        have N0b := N0.out.c1
        go_wp2
        go_ret
        exact ⟨rfl, HW1.out⟩
    · have b0 : (r1.e == 0) = false := by simpa using he
      clear he
      have Q1a := Q1.out.c0
      have Q1b := Q1.out.c1
      go_upto_region 7 with fail
      clear Q1a Q1b
      have N0a := N0.out.c0
      have N0b := N0.out.c1
      go_wp2_with fail
      refine (HT.out _).mono ?_
      rintro e Y3 ⟨rfl, hB⟩
      clear N0a N0b
      replace HW1 := Lib.hid (HW1.out.trans (hB.mono HW1.out.size))
      replace N0 := Lib.hid (N0.out.keep hB)
      replace N1 := Lib.hid (N1.out.keep hB)
      replace Q0 := Lib.hid (Q0.out.keep hB)
      replace Q1 := Lib.hid (Q1.out.keep hB)
      replace A1 := Lib.hid (A1.out.keep hB)
      clear hB
      go_upto_region 8 with fail
      have A3 : Hid (Pt (Y3.alloc (.cells #[.int .i64 r2.x, .int .i64 r2.y] 24)) Y3.heap.size 24 r2.x r2.y) := Lib.hid (Pt.mk_ rfl)
      replace N0 := Lib.hid (N0.out.alloc (.cells #[.int .i64 r2.x, .int .i64 r2.y] 24))
      replace N1 := Lib.hid (N1.out.alloc (.cells #[.int .i64 r2.x, .int .i64 r2.y] 24))
      replace Q0 := Lib.hid (Q0.out.alloc (.cells #[.int .i64 r2.x, .int .i64 r2.y] 24))
      replace Q1 := Lib.hid (Q1.out.alloc (.cells #[.int .i64 r2.x, .int .i64 r2.y] 24))
      replace A1 := Lib.hid (A1.out.alloc (.cells #[.int .i64 r2.x, .int .i64 r2.y] 24))
      replace HW1 := Lib.hid (HW1.out.alloc HW1.out.size (.cells #[.int .i64 r2.x, .int .i64 r2.y] 24))
      generalize (Y3.alloc (.cells #[.int .i64 r2.x, .int .i64 r2.y] 24)) = Y4 at HW1 A3 N0 N1 Q0 Q1 A1 ⊢
      generalize Y3.heap.size = gA3 at A3 ⊢
      have N0a := N0.out.c0
      have N0b := N0.out.c1
      go_wp2_with fail
      refine (HU.out _).mono ?_
      rintro e Y5 ⟨rfl, hB⟩
      clear N0a N0b
      replace HW1 := Lib.hid (HW1.out.trans (hB.mono HW1.out.size))
      replace N0 := Lib.hid (N0.out.keep hB)
      replace N1 := Lib.hid (N1.out.keep hB)
      replace Q0 := Lib.hid (Q0.out.keep hB)
      replace Q1 := Lib.hid (Q1.out.keep hB)
      replace A1 := Lib.hid (A1.out.keep hB)
      replace A3 := Lib.hid (A3.out.keep hB)
      clear hB
      go_upto_region 9 with fail
      have A4 : Hid (Pt (Y5.alloc (.cells #[.int .i64 r2.x, .int .i64 r2.y] 24)) Y5.heap.size 24 r2.x r2.y) := Lib.hid (Pt.mk_ rfl)
      replace N0 := Lib.hid (N0.out.alloc (.cells #[.int .i64 r2.x, .int .i64 r2.y] 24))
      replace N1 := Lib.hid (N1.out.alloc (.cells #[.int .i64 r2.x, .int .i64 r2.y] 24))
      replace Q0 := Lib.hid (Q0.out.alloc (.cells #[.int .i64 r2.x, .int .i64 r2.y] 24))
      replace Q1 := Lib.hid (Q1.out.alloc (.cells #[.int .i64 r2.x, .int .i64 r2.y] 24))
      replace A1 := Lib.hid (A1.out.alloc (.cells #[.int .i64 r2.x, .int .i64 r2.y] 24))
      replace A3 := Lib.hid (A3.out.alloc (.cells #[.int .i64 r2.x, .int .i64 r2.y] 24))
      replace HW1 := Lib.hid (HW1.out.alloc HW1.out.size (.cells #[.int .i64 r2.x, .int .i64 r2.y] 24))
      generalize (Y5.alloc (.cells #[.int .i64 r2.x, .int .i64 r2.y] 24)) = Y6 at HW1 A4 N0 N1 Q0 Q1 A1 A3 ⊢
      generalize Y5.heap.size = gA4 at A4 ⊢
      have A3a := A3.out.c0
      have A3b := A3.out.c1
      have A4a := A4.out.c0
      have A4b := A4.out.c1
      go_upto_region 11 with fail
      clear A3a A3b
      clear A4a A4b
      by_cases hon2 : On a b
      · have HM : Hid (∀ w, Calls Try.prog 21 #[.agg #[.int .i64 a, .int .i64 b]] w fun e w' => e = .returned (.tuple #[.agg #[.int .i64 a, .int .i64 (-b)], .int .i64 0]) ∧ Below w.heap.size w w') := Lib.hid fun w => by
          have h := mirror_any a b w
          rw [(mirror_on hon2).1] at h
          exact h
        have HN : Hid (∀ w, Calls Try.prog 21 #[.agg #[.int .i64 a, .int .i64 (-b)]] w fun e w' => e = .returned (.tuple #[.agg #[.int .i64 a, .int .i64 b], .int .i64 0]) ∧ Below w.heap.size w w') := Lib.hid fun w => by
          have h := mirror_any a (-b) w
          rw [(mirror_on hon2).2] at h
          exact h
        clear hon2
        have N0a := N0.out.c0
        have N0b := N0.out.c1
        go_wp2_with fail
        refine (HM.out _).mono ?_
        rintro e Y7 ⟨rfl, hB⟩
        clear N0a N0b
        replace HW1 := Lib.hid (HW1.out.trans (hB.mono HW1.out.size))
        replace N0 := Lib.hid (N0.out.keep hB)
        replace N1 := Lib.hid (N1.out.keep hB)
        replace Q0 := Lib.hid (Q0.out.keep hB)
        replace Q1 := Lib.hid (Q1.out.keep hB)
        replace A1 := Lib.hid (A1.out.keep hB)
        replace A3 := Lib.hid (A3.out.keep hB)
        replace A4 := Lib.hid (A4.out.keep hB)
        clear hB
        go_upto_region 12 with fail
        have A5 : Hid (Pt (Y7.alloc (.cells #[.int .i64 a, .int .i64 (-b)] 24)) Y7.heap.size 24 a (-b)) := Lib.hid (Pt.mk_ rfl)
        replace N0 := Lib.hid (N0.out.alloc (.cells #[.int .i64 a, .int .i64 (-b)] 24))
        replace N1 := Lib.hid (N1.out.alloc (.cells #[.int .i64 a, .int .i64 (-b)] 24))
        replace Q0 := Lib.hid (Q0.out.alloc (.cells #[.int .i64 a, .int .i64 (-b)] 24))
        replace Q1 := Lib.hid (Q1.out.alloc (.cells #[.int .i64 a, .int .i64 (-b)] 24))
        replace A1 := Lib.hid (A1.out.alloc (.cells #[.int .i64 a, .int .i64 (-b)] 24))
        replace A3 := Lib.hid (A3.out.alloc (.cells #[.int .i64 a, .int .i64 (-b)] 24))
        replace A4 := Lib.hid (A4.out.alloc (.cells #[.int .i64 a, .int .i64 (-b)] 24))
        replace HW1 := Lib.hid (HW1.out.alloc HW1.out.size (.cells #[.int .i64 a, .int .i64 (-b)] 24))
        generalize (Y7.alloc (.cells #[.int .i64 a, .int .i64 (-b)] 24)) = Y8 at HW1 A5 N0 N1 Q0 Q1 A1 A3 A4 ⊢
        generalize Y7.heap.size = gA5 at A5 ⊢
        have A5a := A5.out.c0
        have A5b := A5.out.c1
        go_wp2_with fail
        refine (HN.out _).mono ?_
        rintro e Y9 ⟨rfl, hB⟩
        clear A5a A5b
        replace HW1 := Lib.hid (HW1.out.trans (hB.mono HW1.out.size))
        replace N0 := Lib.hid (N0.out.keep hB)
        replace N1 := Lib.hid (N1.out.keep hB)
        replace Q0 := Lib.hid (Q0.out.keep hB)
        replace Q1 := Lib.hid (Q1.out.keep hB)
        replace A1 := Lib.hid (A1.out.keep hB)
        replace A3 := Lib.hid (A3.out.keep hB)
        replace A4 := Lib.hid (A4.out.keep hB)
        replace A5 := Lib.hid (A5.out.keep hB)
        clear hB
        go_upto_region 13 with fail
        have A6 : Hid (Pt (Y9.alloc (.cells #[.int .i64 a, .int .i64 b] 24)) Y9.heap.size 24 a b) := Lib.hid (Pt.mk_ rfl)
        replace N0 := Lib.hid (N0.out.alloc (.cells #[.int .i64 a, .int .i64 b] 24))
        replace N1 := Lib.hid (N1.out.alloc (.cells #[.int .i64 a, .int .i64 b] 24))
        replace Q0 := Lib.hid (Q0.out.alloc (.cells #[.int .i64 a, .int .i64 b] 24))
        replace Q1 := Lib.hid (Q1.out.alloc (.cells #[.int .i64 a, .int .i64 b] 24))
        replace A1 := Lib.hid (A1.out.alloc (.cells #[.int .i64 a, .int .i64 b] 24))
        replace A3 := Lib.hid (A3.out.alloc (.cells #[.int .i64 a, .int .i64 b] 24))
        replace A4 := Lib.hid (A4.out.alloc (.cells #[.int .i64 a, .int .i64 b] 24))
        replace A5 := Lib.hid (A5.out.alloc (.cells #[.int .i64 a, .int .i64 b] 24))
        replace HW1 := Lib.hid (HW1.out.alloc HW1.out.size (.cells #[.int .i64 a, .int .i64 b] 24))
        generalize (Y9.alloc (.cells #[.int .i64 a, .int .i64 b] 24)) = Y10 at HW1 A6 N0 N1 Q0 Q1 A1 A3 A4 A5 ⊢
        generalize Y9.heap.size = gA6 at A6 ⊢
        go_wp2_with fail
        refine (awake_any _).mono ?_
        rintro e Y11 ⟨rfl, hB⟩
        replace HW1 := Lib.hid (HW1.out.trans (hB.mono HW1.out.size))
        replace N0 := Lib.hid (N0.out.keep hB)
        replace N1 := Lib.hid (N1.out.keep hB)
        replace Q0 := Lib.hid (Q0.out.keep hB)
        replace Q1 := Lib.hid (Q1.out.keep hB)
        replace A1 := Lib.hid (A1.out.keep hB)
        replace A3 := Lib.hid (A3.out.keep hB)
        replace A4 := Lib.hid (A4.out.keep hB)
        replace A5 := Lib.hid (A5.out.keep hB)
        replace A6 := Lib.hid (A6.out.keep hB)
        clear hB
        have A6a := A6.out.c0
        have A6b := A6.out.c1
        have N0a := N0.out.c0
        have N0b := N0.out.c1
        go_wp2
        go_ret
        exact ⟨rfl, HW1.out⟩
      · have HM : Hid (∀ w, Calls Try.prog 21 #[.agg #[.int .i64 a, .int .i64 b]] w fun e w' => e = .returned (.tuple #[.agg #[.int .i64 0, .int .i64 0], .int .i64 1]) ∧ Below w.heap.size w w') := Lib.hid fun w => by
          have h := mirror_any a b w
          rw [mirror_off hon2] at h
          exact h
        have HN : Hid (∀ w, Calls Try.prog 21 #[.agg #[.int .i64 0, .int .i64 0]] w fun e w' => e = .returned (.tuple #[.agg #[.int .i64 0, .int .i64 0], .int .i64 0]) ∧ Below w.heap.size w w') := Lib.hid fun w => by
          have h := mirror_any 0 0 w
          rw [mirror_zero] at h
          exact h
        clear hon2
        have N0a := N0.out.c0
        have N0b := N0.out.c1
        go_wp2_with fail
        refine (HM.out _).mono ?_
        rintro e Y7 ⟨rfl, hB⟩
        clear N0a N0b
        replace HW1 := Lib.hid (HW1.out.trans (hB.mono HW1.out.size))
        replace N0 := Lib.hid (N0.out.keep hB)
        replace N1 := Lib.hid (N1.out.keep hB)
        replace Q0 := Lib.hid (Q0.out.keep hB)
        replace Q1 := Lib.hid (Q1.out.keep hB)
        replace A1 := Lib.hid (A1.out.keep hB)
        replace A3 := Lib.hid (A3.out.keep hB)
        replace A4 := Lib.hid (A4.out.keep hB)
        clear hB
        go_upto_region 12 with fail
        have A5 : Hid (Pt (Y7.alloc (.cells #[.int .i64 0, .int .i64 0] 24)) Y7.heap.size 24 0 0) := Lib.hid (Pt.mk_ rfl)
        replace N0 := Lib.hid (N0.out.alloc (.cells #[.int .i64 0, .int .i64 0] 24))
        replace N1 := Lib.hid (N1.out.alloc (.cells #[.int .i64 0, .int .i64 0] 24))
        replace Q0 := Lib.hid (Q0.out.alloc (.cells #[.int .i64 0, .int .i64 0] 24))
        replace Q1 := Lib.hid (Q1.out.alloc (.cells #[.int .i64 0, .int .i64 0] 24))
        replace A1 := Lib.hid (A1.out.alloc (.cells #[.int .i64 0, .int .i64 0] 24))
        replace A3 := Lib.hid (A3.out.alloc (.cells #[.int .i64 0, .int .i64 0] 24))
        replace A4 := Lib.hid (A4.out.alloc (.cells #[.int .i64 0, .int .i64 0] 24))
        replace HW1 := Lib.hid (HW1.out.alloc HW1.out.size (.cells #[.int .i64 0, .int .i64 0] 24))
        generalize (Y7.alloc (.cells #[.int .i64 0, .int .i64 0] 24)) = Y8 at HW1 A5 N0 N1 Q0 Q1 A1 A3 A4 ⊢
        generalize Y7.heap.size = gA5 at A5 ⊢
        have A5a := A5.out.c0
        have A5b := A5.out.c1
        go_wp2_with fail
        refine (HN.out _).mono ?_
        rintro e Y9 ⟨rfl, hB⟩
        clear A5a A5b
        replace HW1 := Lib.hid (HW1.out.trans (hB.mono HW1.out.size))
        replace N0 := Lib.hid (N0.out.keep hB)
        replace N1 := Lib.hid (N1.out.keep hB)
        replace Q0 := Lib.hid (Q0.out.keep hB)
        replace Q1 := Lib.hid (Q1.out.keep hB)
        replace A1 := Lib.hid (A1.out.keep hB)
        replace A3 := Lib.hid (A3.out.keep hB)
        replace A4 := Lib.hid (A4.out.keep hB)
        replace A5 := Lib.hid (A5.out.keep hB)
        clear hB
        go_upto_region 13 with fail
        have A6 : Hid (Pt (Y9.alloc (.cells #[.int .i64 0, .int .i64 0] 24)) Y9.heap.size 24 0 0) := Lib.hid (Pt.mk_ rfl)
        replace N0 := Lib.hid (N0.out.alloc (.cells #[.int .i64 0, .int .i64 0] 24))
        replace N1 := Lib.hid (N1.out.alloc (.cells #[.int .i64 0, .int .i64 0] 24))
        replace Q0 := Lib.hid (Q0.out.alloc (.cells #[.int .i64 0, .int .i64 0] 24))
        replace Q1 := Lib.hid (Q1.out.alloc (.cells #[.int .i64 0, .int .i64 0] 24))
        replace A1 := Lib.hid (A1.out.alloc (.cells #[.int .i64 0, .int .i64 0] 24))
        replace A3 := Lib.hid (A3.out.alloc (.cells #[.int .i64 0, .int .i64 0] 24))
        replace A4 := Lib.hid (A4.out.alloc (.cells #[.int .i64 0, .int .i64 0] 24))
        replace A5 := Lib.hid (A5.out.alloc (.cells #[.int .i64 0, .int .i64 0] 24))
        replace HW1 := Lib.hid (HW1.out.alloc HW1.out.size (.cells #[.int .i64 0, .int .i64 0] 24))
        generalize (Y9.alloc (.cells #[.int .i64 0, .int .i64 0] 24)) = Y10 at HW1 A6 N0 N1 Q0 Q1 A1 A3 A4 A5 ⊢
        generalize Y9.heap.size = gA6 at A6 ⊢
        go_wp2_with fail
        refine (awake_any _).mono ?_
        rintro e Y11 ⟨rfl, hB⟩
        replace HW1 := Lib.hid (HW1.out.trans (hB.mono HW1.out.size))
        replace N0 := Lib.hid (N0.out.keep hB)
        replace N1 := Lib.hid (N1.out.keep hB)
        replace Q0 := Lib.hid (Q0.out.keep hB)
        replace Q1 := Lib.hid (Q1.out.keep hB)
        replace A1 := Lib.hid (A1.out.keep hB)
        replace A3 := Lib.hid (A3.out.keep hB)
        replace A4 := Lib.hid (A4.out.keep hB)
        replace A5 := Lib.hid (A5.out.keep hB)
        replace A6 := Lib.hid (A6.out.keep hB)
        clear hB
        have A6a := A6.out.c0
        have A6b := A6.out.c1
        have N0a := N0.out.c0
        have N0b := N0.out.c1
        go_wp2
        go_ret
        exact ⟨rfl, HW1.out⟩

end Go.Proofs.Ytjbjekejekmipaa
