/-
  ChartReckons' walk.
-/
import Derived.Test.YtjbjekejekmipaaChF
import Derived.Test.YtjbjekejekmipaaStep
import Derived.Test.YtjbjekejekmipaaArg
namespace Go.Proofs.Ytjbjekejekmipaa
open Go.RowKit
set_option linter.unusedVariables false


set_option maxRecDepth 100000 in
set_option maxHeartbeats 4000000 in
theorem reckons_walk (a b c d n : Int) (w : World) (ha : I64 a) (hb : I64 b) (hc : I64 c) (hd : I64 d) (hn : I64 n) :
    Calls Try.prog 3 #[.agg #[.int .i64 a, .int .i64 b], .agg #[.int .i64 c, .int .i64 d], .int .i64 n] w fun e w' => e = .returned (.bool true) ∧ Below w.heap.size w w' := by
  clear ha hb hc hd hn
  go_enter Try.func3, Try.ntmps3
  go_upto_region 1 with fail
  have Q0 : Hid (Pt ((w.alloc (.cells #[.int .i64 a, .int .i64 b] 23)).alloc (.cells #[.int .i64 c, .int .i64 d] 23)) (w.heap.size) 23 (a) (b)) := Lib.hid ((Pt.mk_ rfl).alloc _)
  have Q1 : Hid (Pt ((w.alloc (.cells #[.int .i64 a, .int .i64 b] 23)).alloc (.cells #[.int .i64 c, .int .i64 d] 23)) (w.heap.size + 1) 23 (c) (d)) := Lib.hid (Pt.mk_ (by simp))
  have HW1 : Hid (Below w.heap.size w ((w.alloc (.cells #[.int .i64 a, .int .i64 b] 23)).alloc (.cells #[.int .i64 c, .int .i64 d] 23))) := Lib.hid (((Below.refl _ _).alloc (Nat.le_refl _) _).alloc (by simp) _)
  generalize ((w.alloc (.cells #[.int .i64 a, .int .i64 b] 23)).alloc (.cells #[.int .i64 c, .int .i64 d] 23)) = W at Q0 Q1 HW1  ⊢
  go_cut [7, 8] (fun p q wc => ∃ g0 g1, p = .pointer (some ⟨g0, 0, none⟩) ∧ q = .pointer (some ⟨g1, 0, none⟩) ∧ Hid (Pt wc g0 24 a b) ∧ Hid (Pt wc g1 24 c d) ∧ Hid (Pt wc w.heap.size 23 a b) ∧ Hid (Pt wc (w.heap.size + 1) 23 c d) ∧ Hid (Below w.heap.size w wc))
  case first =>
    replace Q0 : Hid (Pt W.drew (w.heap.size) 23 a b) := Lib.hid Q0.out
    replace Q1 : Hid (Pt W.drew (w.heap.size + 1) 23 c d) := Lib.hid Q1.out
    replace HW1 : Hid (Below w.heap.size w W.drew) := Lib.hid (below_drewN HW1.out 1)
    refine wp_region_held_drew (S := fun w' => Pt w' (w.heap.size) 23 a b ∧ Pt w' (w.heap.size + 1) 23 c d) (by kernel_rfl) (⟨Q0.out, Q1.out⟩) (fun hHeld => ?_)
    generalize W.drew = X at hHeld Q0 Q1 HW1 ⊢
    refine wpAnyH_take (i := 0) (v := .agg #[.int .i64 a, .int .i64 b]) rfl (by kernel_rfl) (by kernel_rfl) (by kernel_rfl) (fun _ _ _ h => h) (Or.inl ⟨by rfl, by intro w' h; have k1 := (h.1).c0; have k2 := (h.1).c1; go_simp⟩) hHeld ?_
    show wpAnyH _ _ _ _ _ _ _ (Act.put _ (some 25) _) _
    simp only [Act.put, List.setIfInBounds_toArray, List.set_cons_zero, List.set_cons_succ]
    refine wpAnyH_take (i := 2) (v := .agg #[.int .i64 c, .int .i64 d]) rfl (by kernel_rfl) (by kernel_rfl) (by kernel_rfl) (fun _ _ _ h => h) (Or.inl ⟨by rfl, by intro w' h; have k1 := (h.2).c0; have k2 := (h.2).c1; go_simp⟩) hHeld ?_
    show wpAnyH _ _ _ _ _ _ _ (Act.put _ (some 27) _) _
    simp only [Act.put, List.setIfInBounds_toArray, List.set_cons_zero, List.set_cons_succ]
    refine wpAnyH_ready (rs := [1, 4, 5]) (by kernel_rfl) (by simp) ?_
    refine AllReadyH.cons rfl (fun K hK => ?_) (AllReadyH.cons rfl (fun K hK => ?_) (AllReadyH.cons rfl (fun K hK => ?_) AllReadyH.nil))
    · refine step_call rfl 14 #[.tmp 25] #[23] rfl #[.agg #[.int .i64 a, .int .i64 b]] (by simp [Act.eval]) (by go_simp) (to_any _ _ _) ?_
      rintro e X1 ⟨rfl, hB⟩
      replace HW1 := Lib.hid (HW1.out.trans (hB.mono HW1.out.size))
      replace Q0 := Lib.hid (Q0.out.keep hB)
      replace Q1 := Lib.hid (Q1.out.keep hB)
      clear hB
      refine ⟨_, rfl, hK.out _ _ (⟨Q0.out, Q1.out⟩) (fun hHeld => ?_)⟩
      clear hK K
      show wpAnyH _ _ _ _ _ _ _ (Act.put _ (some 26) _) _
      simp only [Act.put, List.setIfInBounds_toArray, List.set_cons_zero, List.set_cons_succ]
      refine wpAnyH_ready (rs := [3, 4, 5]) (by kernel_rfl) (by simp) ?_
      refine AllReadyH.cons rfl (fun K hK => ?_) (AllReadyH.cons rfl (fun K hK => ?_) (AllReadyH.cons rfl (fun K hK => ?_) AllReadyH.nil))
      · refine step_call rfl 14 #[.tmp 27] #[23] rfl #[.agg #[.int .i64 c, .int .i64 d]] (by simp [Act.eval]) (by go_simp) (to_any _ _ _) ?_
        rintro e X2 ⟨rfl, hB⟩
        replace HW1 := Lib.hid (HW1.out.trans (hB.mono HW1.out.size))
        replace Q0 := Lib.hid (Q0.out.keep hB)
        replace Q1 := Lib.hid (Q1.out.keep hB)
        clear hB
        refine ⟨_, rfl, hK.out _ _ (⟨Q0.out, Q1.out⟩) (fun hHeld => ?_)⟩
        clear hK K
        show wpAnyH _ _ _ _ _ _ _ (Act.put _ (some 28) _) _
        simp only [Act.put, List.setIfInBounds_toArray, List.set_cons_zero, List.set_cons_succ]
        refine wpAnyH_ready (rs := [4, 5]) (by kernel_rfl) (by simp) ?_
        refine AllReadyH.cons rfl (fun K hK => ?_) (AllReadyH.cons rfl (fun K hK => ?_) AllReadyH.nil)
        · refine step_new rfl 24 rfl #[.int .i64 0, .int .i64 0] (by kernel_rfl) ?_
          have N0 : Hid (Pt (X2.alloc (.cells #[.int .i64 0, .int .i64 0] 24)) X2.heap.size 24 0 0) := Lib.hid (Pt.mk_ rfl)
          have L0 : Hid (w.heap.size ≤ X2.heap.size) := Lib.hid HW1.out.size
          have F00 : Hid ((w.heap.size) ≠ X2.heap.size) := Lib.hid (Nat.ne_of_lt Q0.out.lt)
          have F10 : Hid ((w.heap.size + 1) ≠ X2.heap.size) := Lib.hid (Nat.ne_of_lt Q1.out.lt)
          replace Q0 := Lib.hid (Q0.out.alloc (.cells #[.int .i64 0, .int .i64 0] 24))
          replace Q1 := Lib.hid (Q1.out.alloc (.cells #[.int .i64 0, .int .i64 0] 24))
          replace HW1 := Lib.hid (HW1.out.alloc HW1.out.size (.cells #[.int .i64 0, .int .i64 0] 24))
          refine hK.out _ _ (⟨Q0.out, Q1.out⟩) (fun hHeld => ?_)
          generalize (X2.alloc (.cells #[.int .i64 0, .int .i64 0] 24)) = X3 at hHeld HW1 Q0 Q1 N0 ⊢
          generalize X2.heap.size = g0 at N0 L0  F00 F10 ⊢
          clear hK K
          show wpAnyH _ _ _ _ _ _ _ (Act.put _ (some 7) _) _
          simp only [Act.put, List.setIfInBounds_toArray, List.set_cons_zero, List.set_cons_succ]
          refine wpAnyH_ready (rs := [5]) (by kernel_rfl) (by simp) ?_
          refine AllReadyH.cons rfl (fun K hK => ?_) AllReadyH.nil
          refine step_new rfl 24 rfl #[.int .i64 0, .int .i64 0] (by kernel_rfl) ?_
          have N1 : Hid (Pt (X3.alloc (.cells #[.int .i64 0, .int .i64 0] 24)) X3.heap.size 24 0 0) := Lib.hid (Pt.mk_ rfl)
          have L1 : Hid (w.heap.size ≤ X3.heap.size) := Lib.hid HW1.out.size
          have D01 : Hid (g0 ≠ X3.heap.size) := Lib.hid (Nat.ne_of_lt N0.out.lt)
          have F01 : Hid ((w.heap.size) ≠ X3.heap.size) := Lib.hid (Nat.ne_of_lt Q0.out.lt)
          have F11 : Hid ((w.heap.size + 1) ≠ X3.heap.size) := Lib.hid (Nat.ne_of_lt Q1.out.lt)
          replace Q0 := Lib.hid (Q0.out.alloc (.cells #[.int .i64 0, .int .i64 0] 24))
          replace Q1 := Lib.hid (Q1.out.alloc (.cells #[.int .i64 0, .int .i64 0] 24))
          replace N0 := Lib.hid (N0.out.alloc (.cells #[.int .i64 0, .int .i64 0] 24))
          replace HW1 := Lib.hid (HW1.out.alloc HW1.out.size (.cells #[.int .i64 0, .int .i64 0] 24))
          refine hK.out _ _ (⟨Q0.out, Q1.out⟩) (fun hHeld => ?_)
          generalize (X3.alloc (.cells #[.int .i64 0, .int .i64 0] 24)) = X4 at hHeld HW1 Q0 Q1 N0 N1 ⊢
          generalize X3.heap.size = g1 at N1 L1 D01 F01 F11 ⊢
          clear hK K
          show wpAnyH _ _ _ _ _ _ _ (Act.put _ (some 8) _) _
          simp only [Act.put, List.setIfInBounds_toArray, List.set_cons_zero, List.set_cons_succ]
          refine wpAnyH_ready (rs := [6]) (by kernel_rfl) (by simp) ?_
          refine AllReadyH.cons rfl (fun K hK => ?_) AllReadyH.nil
          refine step_store24 rfl (.tmp 7) (.tmp 26) rfl g0 24 0 0 a b rfl rfl N0.out ?_
          replace HW1 : Hid (Below w.heap.size w ((X4.setCell ⟨g0, 0, none⟩ (.int .i64 a)).setCell ⟨g0, 1, none⟩ (.int .i64 b))) := Lib.hid ((HW1.out.setCell L0.out _).setCell L0.out _)
          replace Q0 : Hid (Pt ((X4.setCell ⟨g0, 0, none⟩ (.int .i64 a)).setCell ⟨g0, 1, none⟩ (.int .i64 b)) (w.heap.size) 23 a b) := Lib.hid (Q0.out.far F00.out _ _)
          replace Q1 : Hid (Pt ((X4.setCell ⟨g0, 0, none⟩ (.int .i64 a)).setCell ⟨g0, 1, none⟩ (.int .i64 b)) (w.heap.size + 1) 23 c d) := Lib.hid (Q1.out.far F10.out _ _)
          replace N1 : Hid (Pt ((X4.setCell ⟨g0, 0, none⟩ (.int .i64 a)).setCell ⟨g0, 1, none⟩ (.int .i64 b)) g1 24 0 0) := Lib.hid (N1.out.far (by have h := D01.out; omega) _ _)
          replace N0 : Hid (Pt ((X4.setCell ⟨g0, 0, none⟩ (.int .i64 a)).setCell ⟨g0, 1, none⟩ (.int .i64 b)) g0 24 a b) := Lib.hid (N0.out.set a b)
          refine hK.out _ _ (⟨Q0.out, Q1.out⟩) (fun hHeld => ?_)
          generalize ((X4.setCell ⟨g0, 0, none⟩ (.int .i64 a)).setCell ⟨g0, 1, none⟩ (.int .i64 b)) = X5 at hHeld HW1 Q0 N0 Q1 N1 ⊢
          clear hK K
          show wpAnyH _ _ _ _ _ _ _ (Act.put _ none _) _
          simp only [Act.put]
          refine wpAnyH_ready (rs := [7]) (by kernel_rfl) (by simp) ?_
          refine AllReadyH.cons rfl (fun K hK => ?_) AllReadyH.nil
          refine step_store24 rfl (.tmp 8) (.tmp 28) rfl g1 24 0 0 c d rfl rfl N1.out ?_
          replace HW1 : Hid (Below w.heap.size w ((X5.setCell ⟨g1, 0, none⟩ (.int .i64 c)).setCell ⟨g1, 1, none⟩ (.int .i64 d))) := Lib.hid ((HW1.out.setCell L1.out _).setCell L1.out _)
          replace Q0 : Hid (Pt ((X5.setCell ⟨g1, 0, none⟩ (.int .i64 c)).setCell ⟨g1, 1, none⟩ (.int .i64 d)) (w.heap.size) 23 a b) := Lib.hid (Q0.out.far F01.out _ _)
          replace Q1 : Hid (Pt ((X5.setCell ⟨g1, 0, none⟩ (.int .i64 c)).setCell ⟨g1, 1, none⟩ (.int .i64 d)) (w.heap.size + 1) 23 c d) := Lib.hid (Q1.out.far F11.out _ _)
          replace N0 : Hid (Pt ((X5.setCell ⟨g1, 0, none⟩ (.int .i64 c)).setCell ⟨g1, 1, none⟩ (.int .i64 d)) g0 24 a b) := Lib.hid (N0.out.far (by have h := D01.out; omega) _ _)
          replace N1 : Hid (Pt ((X5.setCell ⟨g1, 0, none⟩ (.int .i64 c)).setCell ⟨g1, 1, none⟩ (.int .i64 d)) g1 24 c d) := Lib.hid (N1.out.set c d)
          refine hK.out _ _ (⟨Q0.out, Q1.out⟩) (fun hHeld => ?_)
          generalize ((X5.setCell ⟨g1, 0, none⟩ (.int .i64 c)).setCell ⟨g1, 1, none⟩ (.int .i64 d)) = X6 at hHeld HW1 Q0 N0 Q1 N1 ⊢
          clear hK K
          show wpAnyH _ _ _ _ _ _ _ (Act.put _ none _) _
          simp only [Act.put]
          refine wpAnyH_done (by kernel_rfl) ?_ _
          go_wp2_with fail
          go_meet
          exact ⟨g0, g1, rfl, rfl, N0, N1, Q0, Q1, HW1⟩
        · refine step_new rfl 24 rfl #[.int .i64 0, .int .i64 0] (by kernel_rfl) ?_
          have N1 : Hid (Pt (X2.alloc (.cells #[.int .i64 0, .int .i64 0] 24)) X2.heap.size 24 0 0) := Lib.hid (Pt.mk_ rfl)
          have L1 : Hid (w.heap.size ≤ X2.heap.size) := Lib.hid HW1.out.size
          have F01 : Hid ((w.heap.size) ≠ X2.heap.size) := Lib.hid (Nat.ne_of_lt Q0.out.lt)
          have F11 : Hid ((w.heap.size + 1) ≠ X2.heap.size) := Lib.hid (Nat.ne_of_lt Q1.out.lt)
          replace Q0 := Lib.hid (Q0.out.alloc (.cells #[.int .i64 0, .int .i64 0] 24))
          replace Q1 := Lib.hid (Q1.out.alloc (.cells #[.int .i64 0, .int .i64 0] 24))
          replace HW1 := Lib.hid (HW1.out.alloc HW1.out.size (.cells #[.int .i64 0, .int .i64 0] 24))
          refine hK.out _ _ (⟨Q0.out, Q1.out⟩) (fun hHeld => ?_)
          generalize (X2.alloc (.cells #[.int .i64 0, .int .i64 0] 24)) = X3 at hHeld HW1 Q0 Q1 N1 ⊢
          generalize X2.heap.size = g1 at N1 L1  F01 F11 ⊢
          clear hK K
          show wpAnyH _ _ _ _ _ _ _ (Act.put _ (some 8) _) _
          simp only [Act.put, List.setIfInBounds_toArray, List.set_cons_zero, List.set_cons_succ]
          refine wpAnyH_ready (rs := [4]) (by kernel_rfl) (by simp) ?_
          refine AllReadyH.cons rfl (fun K hK => ?_) AllReadyH.nil
          refine step_new rfl 24 rfl #[.int .i64 0, .int .i64 0] (by kernel_rfl) ?_
          have N0 : Hid (Pt (X3.alloc (.cells #[.int .i64 0, .int .i64 0] 24)) X3.heap.size 24 0 0) := Lib.hid (Pt.mk_ rfl)
          have L0 : Hid (w.heap.size ≤ X3.heap.size) := Lib.hid HW1.out.size
          have D01 : Hid (g1 ≠ X3.heap.size) := Lib.hid (Nat.ne_of_lt N1.out.lt)
          have F00 : Hid ((w.heap.size) ≠ X3.heap.size) := Lib.hid (Nat.ne_of_lt Q0.out.lt)
          have F10 : Hid ((w.heap.size + 1) ≠ X3.heap.size) := Lib.hid (Nat.ne_of_lt Q1.out.lt)
          replace Q0 := Lib.hid (Q0.out.alloc (.cells #[.int .i64 0, .int .i64 0] 24))
          replace Q1 := Lib.hid (Q1.out.alloc (.cells #[.int .i64 0, .int .i64 0] 24))
          replace N1 := Lib.hid (N1.out.alloc (.cells #[.int .i64 0, .int .i64 0] 24))
          replace HW1 := Lib.hid (HW1.out.alloc HW1.out.size (.cells #[.int .i64 0, .int .i64 0] 24))
          refine hK.out _ _ (⟨Q0.out, Q1.out⟩) (fun hHeld => ?_)
          generalize (X3.alloc (.cells #[.int .i64 0, .int .i64 0] 24)) = X4 at hHeld HW1 Q0 Q1 N1 N0 ⊢
          generalize X3.heap.size = g0 at N0 L0 D01 F00 F10 ⊢
          clear hK K
          show wpAnyH _ _ _ _ _ _ _ (Act.put _ (some 7) _) _
          simp only [Act.put, List.setIfInBounds_toArray, List.set_cons_zero, List.set_cons_succ]
          refine wpAnyH_ready (rs := [6]) (by kernel_rfl) (by simp) ?_
          refine AllReadyH.cons rfl (fun K hK => ?_) AllReadyH.nil
          refine step_store24 rfl (.tmp 7) (.tmp 26) rfl g0 24 0 0 a b rfl rfl N0.out ?_
          replace HW1 : Hid (Below w.heap.size w ((X4.setCell ⟨g0, 0, none⟩ (.int .i64 a)).setCell ⟨g0, 1, none⟩ (.int .i64 b))) := Lib.hid ((HW1.out.setCell L0.out _).setCell L0.out _)
          replace Q0 : Hid (Pt ((X4.setCell ⟨g0, 0, none⟩ (.int .i64 a)).setCell ⟨g0, 1, none⟩ (.int .i64 b)) (w.heap.size) 23 a b) := Lib.hid (Q0.out.far F00.out _ _)
          replace Q1 : Hid (Pt ((X4.setCell ⟨g0, 0, none⟩ (.int .i64 a)).setCell ⟨g0, 1, none⟩ (.int .i64 b)) (w.heap.size + 1) 23 c d) := Lib.hid (Q1.out.far F10.out _ _)
          replace N1 : Hid (Pt ((X4.setCell ⟨g0, 0, none⟩ (.int .i64 a)).setCell ⟨g0, 1, none⟩ (.int .i64 b)) g1 24 0 0) := Lib.hid (N1.out.far (by have h := D01.out; omega) _ _)
          replace N0 : Hid (Pt ((X4.setCell ⟨g0, 0, none⟩ (.int .i64 a)).setCell ⟨g0, 1, none⟩ (.int .i64 b)) g0 24 a b) := Lib.hid (N0.out.set a b)
          refine hK.out _ _ (⟨Q0.out, Q1.out⟩) (fun hHeld => ?_)
          generalize ((X4.setCell ⟨g0, 0, none⟩ (.int .i64 a)).setCell ⟨g0, 1, none⟩ (.int .i64 b)) = X5 at hHeld HW1 Q0 N0 Q1 N1 ⊢
          clear hK K
          show wpAnyH _ _ _ _ _ _ _ (Act.put _ none _) _
          simp only [Act.put]
          refine wpAnyH_ready (rs := [7]) (by kernel_rfl) (by simp) ?_
          refine AllReadyH.cons rfl (fun K hK => ?_) AllReadyH.nil
          refine step_store24 rfl (.tmp 8) (.tmp 28) rfl g1 24 0 0 c d rfl rfl N1.out ?_
          replace HW1 : Hid (Below w.heap.size w ((X5.setCell ⟨g1, 0, none⟩ (.int .i64 c)).setCell ⟨g1, 1, none⟩ (.int .i64 d))) := Lib.hid ((HW1.out.setCell L1.out _).setCell L1.out _)
          replace Q0 : Hid (Pt ((X5.setCell ⟨g1, 0, none⟩ (.int .i64 c)).setCell ⟨g1, 1, none⟩ (.int .i64 d)) (w.heap.size) 23 a b) := Lib.hid (Q0.out.far F01.out _ _)
          replace Q1 : Hid (Pt ((X5.setCell ⟨g1, 0, none⟩ (.int .i64 c)).setCell ⟨g1, 1, none⟩ (.int .i64 d)) (w.heap.size + 1) 23 c d) := Lib.hid (Q1.out.far F11.out _ _)
          replace N0 : Hid (Pt ((X5.setCell ⟨g1, 0, none⟩ (.int .i64 c)).setCell ⟨g1, 1, none⟩ (.int .i64 d)) g0 24 a b) := Lib.hid (N0.out.far (by have h := D01.out; omega) _ _)
          replace N1 : Hid (Pt ((X5.setCell ⟨g1, 0, none⟩ (.int .i64 c)).setCell ⟨g1, 1, none⟩ (.int .i64 d)) g1 24 c d) := Lib.hid (N1.out.set c d)
          refine hK.out _ _ (⟨Q0.out, Q1.out⟩) (fun hHeld => ?_)
          generalize ((X5.setCell ⟨g1, 0, none⟩ (.int .i64 c)).setCell ⟨g1, 1, none⟩ (.int .i64 d)) = X6 at hHeld HW1 Q0 N0 Q1 N1 ⊢
          clear hK K
          show wpAnyH _ _ _ _ _ _ _ (Act.put _ none _) _
          simp only [Act.put]
          refine wpAnyH_done (by kernel_rfl) ?_ _
          go_wp2_with fail
          go_meet
          exact ⟨g0, g1, rfl, rfl, N0, N1, Q0, Q1, HW1⟩
      · refine step_new rfl 24 rfl #[.int .i64 0, .int .i64 0] (by kernel_rfl) ?_
        have N0 : Hid (Pt (X1.alloc (.cells #[.int .i64 0, .int .i64 0] 24)) X1.heap.size 24 0 0) := Lib.hid (Pt.mk_ rfl)
        have L0 : Hid (w.heap.size ≤ X1.heap.size) := Lib.hid HW1.out.size
        have F00 : Hid ((w.heap.size) ≠ X1.heap.size) := Lib.hid (Nat.ne_of_lt Q0.out.lt)
        have F10 : Hid ((w.heap.size + 1) ≠ X1.heap.size) := Lib.hid (Nat.ne_of_lt Q1.out.lt)
        replace Q0 := Lib.hid (Q0.out.alloc (.cells #[.int .i64 0, .int .i64 0] 24))
        replace Q1 := Lib.hid (Q1.out.alloc (.cells #[.int .i64 0, .int .i64 0] 24))
        replace HW1 := Lib.hid (HW1.out.alloc HW1.out.size (.cells #[.int .i64 0, .int .i64 0] 24))
        refine hK.out _ _ (⟨Q0.out, Q1.out⟩) (fun hHeld => ?_)
        generalize (X1.alloc (.cells #[.int .i64 0, .int .i64 0] 24)) = X2 at hHeld HW1 Q0 Q1 N0 ⊢
        generalize X1.heap.size = g0 at N0 L0  F00 F10 ⊢
        clear hK K
        show wpAnyH _ _ _ _ _ _ _ (Act.put _ (some 7) _) _
        simp only [Act.put, List.setIfInBounds_toArray, List.set_cons_zero, List.set_cons_succ]
        refine wpAnyH_ready (rs := [3, 5]) (by kernel_rfl) (by simp) ?_
        refine AllReadyH.cons rfl (fun K hK => ?_) (AllReadyH.cons rfl (fun K hK => ?_) AllReadyH.nil)
        · refine step_call rfl 14 #[.tmp 27] #[23] rfl #[.agg #[.int .i64 c, .int .i64 d]] (by simp [Act.eval]) (by go_simp) (to_any _ _ _) ?_
          rintro e X3 ⟨rfl, hB⟩
          replace HW1 := Lib.hid (HW1.out.trans (hB.mono HW1.out.size))
          replace Q0 := Lib.hid (Q0.out.keep hB)
          replace Q1 := Lib.hid (Q1.out.keep hB)
          replace N0 := Lib.hid (N0.out.keep hB)
          clear hB
          refine ⟨_, rfl, hK.out _ _ (⟨Q0.out, Q1.out⟩) (fun hHeld => ?_)⟩
          clear hK K
          show wpAnyH _ _ _ _ _ _ _ (Act.put _ (some 28) _) _
          simp only [Act.put, List.setIfInBounds_toArray, List.set_cons_zero, List.set_cons_succ]
          refine wpAnyH_ready (rs := [5]) (by kernel_rfl) (by simp) ?_
          refine AllReadyH.cons rfl (fun K hK => ?_) AllReadyH.nil
          refine step_new rfl 24 rfl #[.int .i64 0, .int .i64 0] (by kernel_rfl) ?_
          have N1 : Hid (Pt (X3.alloc (.cells #[.int .i64 0, .int .i64 0] 24)) X3.heap.size 24 0 0) := Lib.hid (Pt.mk_ rfl)
          have L1 : Hid (w.heap.size ≤ X3.heap.size) := Lib.hid HW1.out.size
          have D01 : Hid (g0 ≠ X3.heap.size) := Lib.hid (Nat.ne_of_lt N0.out.lt)
          have F01 : Hid ((w.heap.size) ≠ X3.heap.size) := Lib.hid (Nat.ne_of_lt Q0.out.lt)
          have F11 : Hid ((w.heap.size + 1) ≠ X3.heap.size) := Lib.hid (Nat.ne_of_lt Q1.out.lt)
          replace Q0 := Lib.hid (Q0.out.alloc (.cells #[.int .i64 0, .int .i64 0] 24))
          replace Q1 := Lib.hid (Q1.out.alloc (.cells #[.int .i64 0, .int .i64 0] 24))
          replace N0 := Lib.hid (N0.out.alloc (.cells #[.int .i64 0, .int .i64 0] 24))
          replace HW1 := Lib.hid (HW1.out.alloc HW1.out.size (.cells #[.int .i64 0, .int .i64 0] 24))
          refine hK.out _ _ (⟨Q0.out, Q1.out⟩) (fun hHeld => ?_)
          generalize (X3.alloc (.cells #[.int .i64 0, .int .i64 0] 24)) = X4 at hHeld HW1 Q0 Q1 N0 N1 ⊢
          generalize X3.heap.size = g1 at N1 L1 D01 F01 F11 ⊢
          clear hK K
          show wpAnyH _ _ _ _ _ _ _ (Act.put _ (some 8) _) _
          simp only [Act.put, List.setIfInBounds_toArray, List.set_cons_zero, List.set_cons_succ]
          refine wpAnyH_ready (rs := [6]) (by kernel_rfl) (by simp) ?_
          refine AllReadyH.cons rfl (fun K hK => ?_) AllReadyH.nil
          refine step_store24 rfl (.tmp 7) (.tmp 26) rfl g0 24 0 0 a b rfl rfl N0.out ?_
          replace HW1 : Hid (Below w.heap.size w ((X4.setCell ⟨g0, 0, none⟩ (.int .i64 a)).setCell ⟨g0, 1, none⟩ (.int .i64 b))) := Lib.hid ((HW1.out.setCell L0.out _).setCell L0.out _)
          replace Q0 : Hid (Pt ((X4.setCell ⟨g0, 0, none⟩ (.int .i64 a)).setCell ⟨g0, 1, none⟩ (.int .i64 b)) (w.heap.size) 23 a b) := Lib.hid (Q0.out.far F00.out _ _)
          replace Q1 : Hid (Pt ((X4.setCell ⟨g0, 0, none⟩ (.int .i64 a)).setCell ⟨g0, 1, none⟩ (.int .i64 b)) (w.heap.size + 1) 23 c d) := Lib.hid (Q1.out.far F10.out _ _)
          replace N1 : Hid (Pt ((X4.setCell ⟨g0, 0, none⟩ (.int .i64 a)).setCell ⟨g0, 1, none⟩ (.int .i64 b)) g1 24 0 0) := Lib.hid (N1.out.far (by have h := D01.out; omega) _ _)
          replace N0 : Hid (Pt ((X4.setCell ⟨g0, 0, none⟩ (.int .i64 a)).setCell ⟨g0, 1, none⟩ (.int .i64 b)) g0 24 a b) := Lib.hid (N0.out.set a b)
          refine hK.out _ _ (⟨Q0.out, Q1.out⟩) (fun hHeld => ?_)
          generalize ((X4.setCell ⟨g0, 0, none⟩ (.int .i64 a)).setCell ⟨g0, 1, none⟩ (.int .i64 b)) = X5 at hHeld HW1 Q0 N0 Q1 N1 ⊢
          clear hK K
          show wpAnyH _ _ _ _ _ _ _ (Act.put _ none _) _
          simp only [Act.put]
          refine wpAnyH_ready (rs := [7]) (by kernel_rfl) (by simp) ?_
          refine AllReadyH.cons rfl (fun K hK => ?_) AllReadyH.nil
          refine step_store24 rfl (.tmp 8) (.tmp 28) rfl g1 24 0 0 c d rfl rfl N1.out ?_
          replace HW1 : Hid (Below w.heap.size w ((X5.setCell ⟨g1, 0, none⟩ (.int .i64 c)).setCell ⟨g1, 1, none⟩ (.int .i64 d))) := Lib.hid ((HW1.out.setCell L1.out _).setCell L1.out _)
          replace Q0 : Hid (Pt ((X5.setCell ⟨g1, 0, none⟩ (.int .i64 c)).setCell ⟨g1, 1, none⟩ (.int .i64 d)) (w.heap.size) 23 a b) := Lib.hid (Q0.out.far F01.out _ _)
          replace Q1 : Hid (Pt ((X5.setCell ⟨g1, 0, none⟩ (.int .i64 c)).setCell ⟨g1, 1, none⟩ (.int .i64 d)) (w.heap.size + 1) 23 c d) := Lib.hid (Q1.out.far F11.out _ _)
          replace N0 : Hid (Pt ((X5.setCell ⟨g1, 0, none⟩ (.int .i64 c)).setCell ⟨g1, 1, none⟩ (.int .i64 d)) g0 24 a b) := Lib.hid (N0.out.far (by have h := D01.out; omega) _ _)
          replace N1 : Hid (Pt ((X5.setCell ⟨g1, 0, none⟩ (.int .i64 c)).setCell ⟨g1, 1, none⟩ (.int .i64 d)) g1 24 c d) := Lib.hid (N1.out.set c d)
          refine hK.out _ _ (⟨Q0.out, Q1.out⟩) (fun hHeld => ?_)
          generalize ((X5.setCell ⟨g1, 0, none⟩ (.int .i64 c)).setCell ⟨g1, 1, none⟩ (.int .i64 d)) = X6 at hHeld HW1 Q0 N0 Q1 N1 ⊢
          clear hK K
          show wpAnyH _ _ _ _ _ _ _ (Act.put _ none _) _
          simp only [Act.put]
          refine wpAnyH_done (by kernel_rfl) ?_ _
          go_wp2_with fail
          go_meet
          exact ⟨g0, g1, rfl, rfl, N0, N1, Q0, Q1, HW1⟩
        · refine step_new rfl 24 rfl #[.int .i64 0, .int .i64 0] (by kernel_rfl) ?_
          have N1 : Hid (Pt (X2.alloc (.cells #[.int .i64 0, .int .i64 0] 24)) X2.heap.size 24 0 0) := Lib.hid (Pt.mk_ rfl)
          have L1 : Hid (w.heap.size ≤ X2.heap.size) := Lib.hid HW1.out.size
          have D01 : Hid (g0 ≠ X2.heap.size) := Lib.hid (Nat.ne_of_lt N0.out.lt)
          have F01 : Hid ((w.heap.size) ≠ X2.heap.size) := Lib.hid (Nat.ne_of_lt Q0.out.lt)
          have F11 : Hid ((w.heap.size + 1) ≠ X2.heap.size) := Lib.hid (Nat.ne_of_lt Q1.out.lt)
          replace Q0 := Lib.hid (Q0.out.alloc (.cells #[.int .i64 0, .int .i64 0] 24))
          replace Q1 := Lib.hid (Q1.out.alloc (.cells #[.int .i64 0, .int .i64 0] 24))
          replace N0 := Lib.hid (N0.out.alloc (.cells #[.int .i64 0, .int .i64 0] 24))
          replace HW1 := Lib.hid (HW1.out.alloc HW1.out.size (.cells #[.int .i64 0, .int .i64 0] 24))
          refine hK.out _ _ (⟨Q0.out, Q1.out⟩) (fun hHeld => ?_)
          generalize (X2.alloc (.cells #[.int .i64 0, .int .i64 0] 24)) = X3 at hHeld HW1 Q0 Q1 N0 N1 ⊢
          generalize X2.heap.size = g1 at N1 L1 D01 F01 F11 ⊢
          clear hK K
          show wpAnyH _ _ _ _ _ _ _ (Act.put _ (some 8) _) _
          simp only [Act.put, List.setIfInBounds_toArray, List.set_cons_zero, List.set_cons_succ]
          refine wpAnyH_ready (rs := [3]) (by kernel_rfl) (by simp) ?_
          refine AllReadyH.cons rfl (fun K hK => ?_) AllReadyH.nil
          refine step_call rfl 14 #[.tmp 27] #[23] rfl #[.agg #[.int .i64 c, .int .i64 d]] (by simp [Act.eval]) (by go_simp) (to_any _ _ _) ?_
          rintro e X4 ⟨rfl, hB⟩
          replace HW1 := Lib.hid (HW1.out.trans (hB.mono HW1.out.size))
          replace Q0 := Lib.hid (Q0.out.keep hB)
          replace Q1 := Lib.hid (Q1.out.keep hB)
          replace N0 := Lib.hid (N0.out.keep hB)
          replace N1 := Lib.hid (N1.out.keep hB)
          clear hB
          refine ⟨_, rfl, hK.out _ _ (⟨Q0.out, Q1.out⟩) (fun hHeld => ?_)⟩
          clear hK K
          show wpAnyH _ _ _ _ _ _ _ (Act.put _ (some 28) _) _
          simp only [Act.put, List.setIfInBounds_toArray, List.set_cons_zero, List.set_cons_succ]
          refine wpAnyH_ready (rs := [6]) (by kernel_rfl) (by simp) ?_
          refine AllReadyH.cons rfl (fun K hK => ?_) AllReadyH.nil
          refine step_store24 rfl (.tmp 7) (.tmp 26) rfl g0 24 0 0 a b rfl rfl N0.out ?_
          replace HW1 : Hid (Below w.heap.size w ((X4.setCell ⟨g0, 0, none⟩ (.int .i64 a)).setCell ⟨g0, 1, none⟩ (.int .i64 b))) := Lib.hid ((HW1.out.setCell L0.out _).setCell L0.out _)
          replace Q0 : Hid (Pt ((X4.setCell ⟨g0, 0, none⟩ (.int .i64 a)).setCell ⟨g0, 1, none⟩ (.int .i64 b)) (w.heap.size) 23 a b) := Lib.hid (Q0.out.far F00.out _ _)
          replace Q1 : Hid (Pt ((X4.setCell ⟨g0, 0, none⟩ (.int .i64 a)).setCell ⟨g0, 1, none⟩ (.int .i64 b)) (w.heap.size + 1) 23 c d) := Lib.hid (Q1.out.far F10.out _ _)
          replace N1 : Hid (Pt ((X4.setCell ⟨g0, 0, none⟩ (.int .i64 a)).setCell ⟨g0, 1, none⟩ (.int .i64 b)) g1 24 0 0) := Lib.hid (N1.out.far (by have h := D01.out; omega) _ _)
          replace N0 : Hid (Pt ((X4.setCell ⟨g0, 0, none⟩ (.int .i64 a)).setCell ⟨g0, 1, none⟩ (.int .i64 b)) g0 24 a b) := Lib.hid (N0.out.set a b)
          refine hK.out _ _ (⟨Q0.out, Q1.out⟩) (fun hHeld => ?_)
          generalize ((X4.setCell ⟨g0, 0, none⟩ (.int .i64 a)).setCell ⟨g0, 1, none⟩ (.int .i64 b)) = X5 at hHeld HW1 Q0 N0 Q1 N1 ⊢
          clear hK K
          show wpAnyH _ _ _ _ _ _ _ (Act.put _ none _) _
          simp only [Act.put]
          refine wpAnyH_ready (rs := [7]) (by kernel_rfl) (by simp) ?_
          refine AllReadyH.cons rfl (fun K hK => ?_) AllReadyH.nil
          refine step_store24 rfl (.tmp 8) (.tmp 28) rfl g1 24 0 0 c d rfl rfl N1.out ?_
          replace HW1 : Hid (Below w.heap.size w ((X5.setCell ⟨g1, 0, none⟩ (.int .i64 c)).setCell ⟨g1, 1, none⟩ (.int .i64 d))) := Lib.hid ((HW1.out.setCell L1.out _).setCell L1.out _)
          replace Q0 : Hid (Pt ((X5.setCell ⟨g1, 0, none⟩ (.int .i64 c)).setCell ⟨g1, 1, none⟩ (.int .i64 d)) (w.heap.size) 23 a b) := Lib.hid (Q0.out.far F01.out _ _)
          replace Q1 : Hid (Pt ((X5.setCell ⟨g1, 0, none⟩ (.int .i64 c)).setCell ⟨g1, 1, none⟩ (.int .i64 d)) (w.heap.size + 1) 23 c d) := Lib.hid (Q1.out.far F11.out _ _)
          replace N0 : Hid (Pt ((X5.setCell ⟨g1, 0, none⟩ (.int .i64 c)).setCell ⟨g1, 1, none⟩ (.int .i64 d)) g0 24 a b) := Lib.hid (N0.out.far (by have h := D01.out; omega) _ _)
          replace N1 : Hid (Pt ((X5.setCell ⟨g1, 0, none⟩ (.int .i64 c)).setCell ⟨g1, 1, none⟩ (.int .i64 d)) g1 24 c d) := Lib.hid (N1.out.set c d)
          refine hK.out _ _ (⟨Q0.out, Q1.out⟩) (fun hHeld => ?_)
          generalize ((X5.setCell ⟨g1, 0, none⟩ (.int .i64 c)).setCell ⟨g1, 1, none⟩ (.int .i64 d)) = X6 at hHeld HW1 Q0 N0 Q1 N1 ⊢
          clear hK K
          show wpAnyH _ _ _ _ _ _ _ (Act.put _ none _) _
          simp only [Act.put]
          refine wpAnyH_done (by kernel_rfl) ?_ _
          go_wp2_with fail
          go_meet
          exact ⟨g0, g1, rfl, rfl, N0, N1, Q0, Q1, HW1⟩
      · refine step_new rfl 24 rfl #[.int .i64 0, .int .i64 0] (by kernel_rfl) ?_
        have N1 : Hid (Pt (X1.alloc (.cells #[.int .i64 0, .int .i64 0] 24)) X1.heap.size 24 0 0) := Lib.hid (Pt.mk_ rfl)
        have L1 : Hid (w.heap.size ≤ X1.heap.size) := Lib.hid HW1.out.size
        have F01 : Hid ((w.heap.size) ≠ X1.heap.size) := Lib.hid (Nat.ne_of_lt Q0.out.lt)
        have F11 : Hid ((w.heap.size + 1) ≠ X1.heap.size) := Lib.hid (Nat.ne_of_lt Q1.out.lt)
        replace Q0 := Lib.hid (Q0.out.alloc (.cells #[.int .i64 0, .int .i64 0] 24))
        replace Q1 := Lib.hid (Q1.out.alloc (.cells #[.int .i64 0, .int .i64 0] 24))
        replace HW1 := Lib.hid (HW1.out.alloc HW1.out.size (.cells #[.int .i64 0, .int .i64 0] 24))
        refine hK.out _ _ (⟨Q0.out, Q1.out⟩) (fun hHeld => ?_)
        generalize (X1.alloc (.cells #[.int .i64 0, .int .i64 0] 24)) = X2 at hHeld HW1 Q0 Q1 N1 ⊢
        generalize X1.heap.size = g1 at N1 L1  F01 F11 ⊢
        clear hK K
        show wpAnyH _ _ _ _ _ _ _ (Act.put _ (some 8) _) _
        simp only [Act.put, List.setIfInBounds_toArray, List.set_cons_zero, List.set_cons_succ]
        refine wpAnyH_ready (rs := [3, 4]) (by kernel_rfl) (by simp) ?_
        refine AllReadyH.cons rfl (fun K hK => ?_) (AllReadyH.cons rfl (fun K hK => ?_) AllReadyH.nil)
        · refine step_call rfl 14 #[.tmp 27] #[23] rfl #[.agg #[.int .i64 c, .int .i64 d]] (by simp [Act.eval]) (by go_simp) (to_any _ _ _) ?_
          rintro e X3 ⟨rfl, hB⟩
          replace HW1 := Lib.hid (HW1.out.trans (hB.mono HW1.out.size))
          replace Q0 := Lib.hid (Q0.out.keep hB)
          replace Q1 := Lib.hid (Q1.out.keep hB)
          replace N1 := Lib.hid (N1.out.keep hB)
          clear hB
          refine ⟨_, rfl, hK.out _ _ (⟨Q0.out, Q1.out⟩) (fun hHeld => ?_)⟩
          clear hK K
          show wpAnyH _ _ _ _ _ _ _ (Act.put _ (some 28) _) _
          simp only [Act.put, List.setIfInBounds_toArray, List.set_cons_zero, List.set_cons_succ]
          refine wpAnyH_ready (rs := [4]) (by kernel_rfl) (by simp) ?_
          refine AllReadyH.cons rfl (fun K hK => ?_) AllReadyH.nil
          refine step_new rfl 24 rfl #[.int .i64 0, .int .i64 0] (by kernel_rfl) ?_
          have N0 : Hid (Pt (X3.alloc (.cells #[.int .i64 0, .int .i64 0] 24)) X3.heap.size 24 0 0) := Lib.hid (Pt.mk_ rfl)
          have L0 : Hid (w.heap.size ≤ X3.heap.size) := Lib.hid HW1.out.size
          have D01 : Hid (g1 ≠ X3.heap.size) := Lib.hid (Nat.ne_of_lt N1.out.lt)
          have F00 : Hid ((w.heap.size) ≠ X3.heap.size) := Lib.hid (Nat.ne_of_lt Q0.out.lt)
          have F10 : Hid ((w.heap.size + 1) ≠ X3.heap.size) := Lib.hid (Nat.ne_of_lt Q1.out.lt)
          replace Q0 := Lib.hid (Q0.out.alloc (.cells #[.int .i64 0, .int .i64 0] 24))
          replace Q1 := Lib.hid (Q1.out.alloc (.cells #[.int .i64 0, .int .i64 0] 24))
          replace N1 := Lib.hid (N1.out.alloc (.cells #[.int .i64 0, .int .i64 0] 24))
          replace HW1 := Lib.hid (HW1.out.alloc HW1.out.size (.cells #[.int .i64 0, .int .i64 0] 24))
          refine hK.out _ _ (⟨Q0.out, Q1.out⟩) (fun hHeld => ?_)
          generalize (X3.alloc (.cells #[.int .i64 0, .int .i64 0] 24)) = X4 at hHeld HW1 Q0 Q1 N1 N0 ⊢
          generalize X3.heap.size = g0 at N0 L0 D01 F00 F10 ⊢
          clear hK K
          show wpAnyH _ _ _ _ _ _ _ (Act.put _ (some 7) _) _
          simp only [Act.put, List.setIfInBounds_toArray, List.set_cons_zero, List.set_cons_succ]
          refine wpAnyH_ready (rs := [6]) (by kernel_rfl) (by simp) ?_
          refine AllReadyH.cons rfl (fun K hK => ?_) AllReadyH.nil
          refine step_store24 rfl (.tmp 7) (.tmp 26) rfl g0 24 0 0 a b rfl rfl N0.out ?_
          replace HW1 : Hid (Below w.heap.size w ((X4.setCell ⟨g0, 0, none⟩ (.int .i64 a)).setCell ⟨g0, 1, none⟩ (.int .i64 b))) := Lib.hid ((HW1.out.setCell L0.out _).setCell L0.out _)
          replace Q0 : Hid (Pt ((X4.setCell ⟨g0, 0, none⟩ (.int .i64 a)).setCell ⟨g0, 1, none⟩ (.int .i64 b)) (w.heap.size) 23 a b) := Lib.hid (Q0.out.far F00.out _ _)
          replace Q1 : Hid (Pt ((X4.setCell ⟨g0, 0, none⟩ (.int .i64 a)).setCell ⟨g0, 1, none⟩ (.int .i64 b)) (w.heap.size + 1) 23 c d) := Lib.hid (Q1.out.far F10.out _ _)
          replace N1 : Hid (Pt ((X4.setCell ⟨g0, 0, none⟩ (.int .i64 a)).setCell ⟨g0, 1, none⟩ (.int .i64 b)) g1 24 0 0) := Lib.hid (N1.out.far (by have h := D01.out; omega) _ _)
          replace N0 : Hid (Pt ((X4.setCell ⟨g0, 0, none⟩ (.int .i64 a)).setCell ⟨g0, 1, none⟩ (.int .i64 b)) g0 24 a b) := Lib.hid (N0.out.set a b)
          refine hK.out _ _ (⟨Q0.out, Q1.out⟩) (fun hHeld => ?_)
          generalize ((X4.setCell ⟨g0, 0, none⟩ (.int .i64 a)).setCell ⟨g0, 1, none⟩ (.int .i64 b)) = X5 at hHeld HW1 Q0 N0 Q1 N1 ⊢
          clear hK K
          show wpAnyH _ _ _ _ _ _ _ (Act.put _ none _) _
          simp only [Act.put]
          refine wpAnyH_ready (rs := [7]) (by kernel_rfl) (by simp) ?_
          refine AllReadyH.cons rfl (fun K hK => ?_) AllReadyH.nil
          refine step_store24 rfl (.tmp 8) (.tmp 28) rfl g1 24 0 0 c d rfl rfl N1.out ?_
          replace HW1 : Hid (Below w.heap.size w ((X5.setCell ⟨g1, 0, none⟩ (.int .i64 c)).setCell ⟨g1, 1, none⟩ (.int .i64 d))) := Lib.hid ((HW1.out.setCell L1.out _).setCell L1.out _)
          replace Q0 : Hid (Pt ((X5.setCell ⟨g1, 0, none⟩ (.int .i64 c)).setCell ⟨g1, 1, none⟩ (.int .i64 d)) (w.heap.size) 23 a b) := Lib.hid (Q0.out.far F01.out _ _)
          replace Q1 : Hid (Pt ((X5.setCell ⟨g1, 0, none⟩ (.int .i64 c)).setCell ⟨g1, 1, none⟩ (.int .i64 d)) (w.heap.size + 1) 23 c d) := Lib.hid (Q1.out.far F11.out _ _)
          replace N0 : Hid (Pt ((X5.setCell ⟨g1, 0, none⟩ (.int .i64 c)).setCell ⟨g1, 1, none⟩ (.int .i64 d)) g0 24 a b) := Lib.hid (N0.out.far (by have h := D01.out; omega) _ _)
          replace N1 : Hid (Pt ((X5.setCell ⟨g1, 0, none⟩ (.int .i64 c)).setCell ⟨g1, 1, none⟩ (.int .i64 d)) g1 24 c d) := Lib.hid (N1.out.set c d)
          refine hK.out _ _ (⟨Q0.out, Q1.out⟩) (fun hHeld => ?_)
          generalize ((X5.setCell ⟨g1, 0, none⟩ (.int .i64 c)).setCell ⟨g1, 1, none⟩ (.int .i64 d)) = X6 at hHeld HW1 Q0 N0 Q1 N1 ⊢
          clear hK K
          show wpAnyH _ _ _ _ _ _ _ (Act.put _ none _) _
          simp only [Act.put]
          refine wpAnyH_done (by kernel_rfl) ?_ _
          go_wp2_with fail
          go_meet
          exact ⟨g0, g1, rfl, rfl, N0, N1, Q0, Q1, HW1⟩
        · refine step_new rfl 24 rfl #[.int .i64 0, .int .i64 0] (by kernel_rfl) ?_
          have N0 : Hid (Pt (X2.alloc (.cells #[.int .i64 0, .int .i64 0] 24)) X2.heap.size 24 0 0) := Lib.hid (Pt.mk_ rfl)
          have L0 : Hid (w.heap.size ≤ X2.heap.size) := Lib.hid HW1.out.size
          have D01 : Hid (g1 ≠ X2.heap.size) := Lib.hid (Nat.ne_of_lt N1.out.lt)
          have F00 : Hid ((w.heap.size) ≠ X2.heap.size) := Lib.hid (Nat.ne_of_lt Q0.out.lt)
          have F10 : Hid ((w.heap.size + 1) ≠ X2.heap.size) := Lib.hid (Nat.ne_of_lt Q1.out.lt)
          replace Q0 := Lib.hid (Q0.out.alloc (.cells #[.int .i64 0, .int .i64 0] 24))
          replace Q1 := Lib.hid (Q1.out.alloc (.cells #[.int .i64 0, .int .i64 0] 24))
          replace N1 := Lib.hid (N1.out.alloc (.cells #[.int .i64 0, .int .i64 0] 24))
          replace HW1 := Lib.hid (HW1.out.alloc HW1.out.size (.cells #[.int .i64 0, .int .i64 0] 24))
          refine hK.out _ _ (⟨Q0.out, Q1.out⟩) (fun hHeld => ?_)
          generalize (X2.alloc (.cells #[.int .i64 0, .int .i64 0] 24)) = X3 at hHeld HW1 Q0 Q1 N1 N0 ⊢
          generalize X2.heap.size = g0 at N0 L0 D01 F00 F10 ⊢
          clear hK K
          show wpAnyH _ _ _ _ _ _ _ (Act.put _ (some 7) _) _
          simp only [Act.put, List.setIfInBounds_toArray, List.set_cons_zero, List.set_cons_succ]
          refine wpAnyH_ready (rs := [3]) (by kernel_rfl) (by simp) ?_
          refine AllReadyH.cons rfl (fun K hK => ?_) AllReadyH.nil
          refine step_call rfl 14 #[.tmp 27] #[23] rfl #[.agg #[.int .i64 c, .int .i64 d]] (by simp [Act.eval]) (by go_simp) (to_any _ _ _) ?_
          rintro e X4 ⟨rfl, hB⟩
          replace HW1 := Lib.hid (HW1.out.trans (hB.mono HW1.out.size))
          replace Q0 := Lib.hid (Q0.out.keep hB)
          replace Q1 := Lib.hid (Q1.out.keep hB)
          replace N1 := Lib.hid (N1.out.keep hB)
          replace N0 := Lib.hid (N0.out.keep hB)
          clear hB
          refine ⟨_, rfl, hK.out _ _ (⟨Q0.out, Q1.out⟩) (fun hHeld => ?_)⟩
          clear hK K
          show wpAnyH _ _ _ _ _ _ _ (Act.put _ (some 28) _) _
          simp only [Act.put, List.setIfInBounds_toArray, List.set_cons_zero, List.set_cons_succ]
          refine wpAnyH_ready (rs := [6]) (by kernel_rfl) (by simp) ?_
          refine AllReadyH.cons rfl (fun K hK => ?_) AllReadyH.nil
          refine step_store24 rfl (.tmp 7) (.tmp 26) rfl g0 24 0 0 a b rfl rfl N0.out ?_
          replace HW1 : Hid (Below w.heap.size w ((X4.setCell ⟨g0, 0, none⟩ (.int .i64 a)).setCell ⟨g0, 1, none⟩ (.int .i64 b))) := Lib.hid ((HW1.out.setCell L0.out _).setCell L0.out _)
          replace Q0 : Hid (Pt ((X4.setCell ⟨g0, 0, none⟩ (.int .i64 a)).setCell ⟨g0, 1, none⟩ (.int .i64 b)) (w.heap.size) 23 a b) := Lib.hid (Q0.out.far F00.out _ _)
          replace Q1 : Hid (Pt ((X4.setCell ⟨g0, 0, none⟩ (.int .i64 a)).setCell ⟨g0, 1, none⟩ (.int .i64 b)) (w.heap.size + 1) 23 c d) := Lib.hid (Q1.out.far F10.out _ _)
          replace N1 : Hid (Pt ((X4.setCell ⟨g0, 0, none⟩ (.int .i64 a)).setCell ⟨g0, 1, none⟩ (.int .i64 b)) g1 24 0 0) := Lib.hid (N1.out.far (by have h := D01.out; omega) _ _)
          replace N0 : Hid (Pt ((X4.setCell ⟨g0, 0, none⟩ (.int .i64 a)).setCell ⟨g0, 1, none⟩ (.int .i64 b)) g0 24 a b) := Lib.hid (N0.out.set a b)
          refine hK.out _ _ (⟨Q0.out, Q1.out⟩) (fun hHeld => ?_)
          generalize ((X4.setCell ⟨g0, 0, none⟩ (.int .i64 a)).setCell ⟨g0, 1, none⟩ (.int .i64 b)) = X5 at hHeld HW1 Q0 N0 Q1 N1 ⊢
          clear hK K
          show wpAnyH _ _ _ _ _ _ _ (Act.put _ none _) _
          simp only [Act.put]
          refine wpAnyH_ready (rs := [7]) (by kernel_rfl) (by simp) ?_
          refine AllReadyH.cons rfl (fun K hK => ?_) AllReadyH.nil
          refine step_store24 rfl (.tmp 8) (.tmp 28) rfl g1 24 0 0 c d rfl rfl N1.out ?_
          replace HW1 : Hid (Below w.heap.size w ((X5.setCell ⟨g1, 0, none⟩ (.int .i64 c)).setCell ⟨g1, 1, none⟩ (.int .i64 d))) := Lib.hid ((HW1.out.setCell L1.out _).setCell L1.out _)
          replace Q0 : Hid (Pt ((X5.setCell ⟨g1, 0, none⟩ (.int .i64 c)).setCell ⟨g1, 1, none⟩ (.int .i64 d)) (w.heap.size) 23 a b) := Lib.hid (Q0.out.far F01.out _ _)
          replace Q1 : Hid (Pt ((X5.setCell ⟨g1, 0, none⟩ (.int .i64 c)).setCell ⟨g1, 1, none⟩ (.int .i64 d)) (w.heap.size + 1) 23 c d) := Lib.hid (Q1.out.far F11.out _ _)
          replace N0 : Hid (Pt ((X5.setCell ⟨g1, 0, none⟩ (.int .i64 c)).setCell ⟨g1, 1, none⟩ (.int .i64 d)) g0 24 a b) := Lib.hid (N0.out.far (by have h := D01.out; omega) _ _)
          replace N1 : Hid (Pt ((X5.setCell ⟨g1, 0, none⟩ (.int .i64 c)).setCell ⟨g1, 1, none⟩ (.int .i64 d)) g1 24 c d) := Lib.hid (N1.out.set c d)
          refine hK.out _ _ (⟨Q0.out, Q1.out⟩) (fun hHeld => ?_)
          generalize ((X5.setCell ⟨g1, 0, none⟩ (.int .i64 c)).setCell ⟨g1, 1, none⟩ (.int .i64 d)) = X6 at hHeld HW1 Q0 N0 Q1 N1 ⊢
          clear hK K
          show wpAnyH _ _ _ _ _ _ _ (Act.put _ none _) _
          simp only [Act.put]
          refine wpAnyH_done (by kernel_rfl) ?_ _
          go_wp2_with fail
          go_meet
          exact ⟨g0, g1, rfl, rfl, N0, N1, Q0, Q1, HW1⟩
    · refine step_new rfl 24 rfl #[.int .i64 0, .int .i64 0] (by kernel_rfl) ?_
      have N0 : Hid (Pt (X.alloc (.cells #[.int .i64 0, .int .i64 0] 24)) X.heap.size 24 0 0) := Lib.hid (Pt.mk_ rfl)
      have L0 : Hid (w.heap.size ≤ X.heap.size) := Lib.hid HW1.out.size
      have F00 : Hid ((w.heap.size) ≠ X.heap.size) := Lib.hid (Nat.ne_of_lt Q0.out.lt)
      have F10 : Hid ((w.heap.size + 1) ≠ X.heap.size) := Lib.hid (Nat.ne_of_lt Q1.out.lt)
      replace Q0 := Lib.hid (Q0.out.alloc (.cells #[.int .i64 0, .int .i64 0] 24))
      replace Q1 := Lib.hid (Q1.out.alloc (.cells #[.int .i64 0, .int .i64 0] 24))
      replace HW1 := Lib.hid (HW1.out.alloc HW1.out.size (.cells #[.int .i64 0, .int .i64 0] 24))
      refine hK.out _ _ (⟨Q0.out, Q1.out⟩) (fun hHeld => ?_)
      generalize (X.alloc (.cells #[.int .i64 0, .int .i64 0] 24)) = X1 at hHeld HW1 Q0 Q1 N0 ⊢
      generalize X.heap.size = g0 at N0 L0  F00 F10 ⊢
      clear hK K
      show wpAnyH _ _ _ _ _ _ _ (Act.put _ (some 7) _) _
      simp only [Act.put, List.setIfInBounds_toArray, List.set_cons_zero, List.set_cons_succ]
      refine wpAnyH_ready (rs := [1, 5]) (by kernel_rfl) (by simp) ?_
      refine AllReadyH.cons rfl (fun K hK => ?_) (AllReadyH.cons rfl (fun K hK => ?_) AllReadyH.nil)
      · refine step_call rfl 14 #[.tmp 25] #[23] rfl #[.agg #[.int .i64 a, .int .i64 b]] (by simp [Act.eval]) (by go_simp) (to_any _ _ _) ?_
        rintro e X2 ⟨rfl, hB⟩
        replace HW1 := Lib.hid (HW1.out.trans (hB.mono HW1.out.size))
        replace Q0 := Lib.hid (Q0.out.keep hB)
        replace Q1 := Lib.hid (Q1.out.keep hB)
        replace N0 := Lib.hid (N0.out.keep hB)
        clear hB
        refine ⟨_, rfl, hK.out _ _ (⟨Q0.out, Q1.out⟩) (fun hHeld => ?_)⟩
        clear hK K
        show wpAnyH _ _ _ _ _ _ _ (Act.put _ (some 26) _) _
        simp only [Act.put, List.setIfInBounds_toArray, List.set_cons_zero, List.set_cons_succ]
        refine wpAnyH_ready (rs := [3, 5]) (by kernel_rfl) (by simp) ?_
        refine AllReadyH.cons rfl (fun K hK => ?_) (AllReadyH.cons rfl (fun K hK => ?_) AllReadyH.nil)
        · refine step_call rfl 14 #[.tmp 27] #[23] rfl #[.agg #[.int .i64 c, .int .i64 d]] (by simp [Act.eval]) (by go_simp) (to_any _ _ _) ?_
          rintro e X3 ⟨rfl, hB⟩
          replace HW1 := Lib.hid (HW1.out.trans (hB.mono HW1.out.size))
          replace Q0 := Lib.hid (Q0.out.keep hB)
          replace Q1 := Lib.hid (Q1.out.keep hB)
          replace N0 := Lib.hid (N0.out.keep hB)
          clear hB
          refine ⟨_, rfl, hK.out _ _ (⟨Q0.out, Q1.out⟩) (fun hHeld => ?_)⟩
          clear hK K
          show wpAnyH _ _ _ _ _ _ _ (Act.put _ (some 28) _) _
          simp only [Act.put, List.setIfInBounds_toArray, List.set_cons_zero, List.set_cons_succ]
          refine wpAnyH_ready (rs := [5]) (by kernel_rfl) (by simp) ?_
          refine AllReadyH.cons rfl (fun K hK => ?_) AllReadyH.nil
          refine step_new rfl 24 rfl #[.int .i64 0, .int .i64 0] (by kernel_rfl) ?_
          have N1 : Hid (Pt (X3.alloc (.cells #[.int .i64 0, .int .i64 0] 24)) X3.heap.size 24 0 0) := Lib.hid (Pt.mk_ rfl)
          have L1 : Hid (w.heap.size ≤ X3.heap.size) := Lib.hid HW1.out.size
          have D01 : Hid (g0 ≠ X3.heap.size) := Lib.hid (Nat.ne_of_lt N0.out.lt)
          have F01 : Hid ((w.heap.size) ≠ X3.heap.size) := Lib.hid (Nat.ne_of_lt Q0.out.lt)
          have F11 : Hid ((w.heap.size + 1) ≠ X3.heap.size) := Lib.hid (Nat.ne_of_lt Q1.out.lt)
          replace Q0 := Lib.hid (Q0.out.alloc (.cells #[.int .i64 0, .int .i64 0] 24))
          replace Q1 := Lib.hid (Q1.out.alloc (.cells #[.int .i64 0, .int .i64 0] 24))
          replace N0 := Lib.hid (N0.out.alloc (.cells #[.int .i64 0, .int .i64 0] 24))
          replace HW1 := Lib.hid (HW1.out.alloc HW1.out.size (.cells #[.int .i64 0, .int .i64 0] 24))
          refine hK.out _ _ (⟨Q0.out, Q1.out⟩) (fun hHeld => ?_)
          generalize (X3.alloc (.cells #[.int .i64 0, .int .i64 0] 24)) = X4 at hHeld HW1 Q0 Q1 N0 N1 ⊢
          generalize X3.heap.size = g1 at N1 L1 D01 F01 F11 ⊢
          clear hK K
          show wpAnyH _ _ _ _ _ _ _ (Act.put _ (some 8) _) _
          simp only [Act.put, List.setIfInBounds_toArray, List.set_cons_zero, List.set_cons_succ]
          refine wpAnyH_ready (rs := [6]) (by kernel_rfl) (by simp) ?_
          refine AllReadyH.cons rfl (fun K hK => ?_) AllReadyH.nil
          refine step_store24 rfl (.tmp 7) (.tmp 26) rfl g0 24 0 0 a b rfl rfl N0.out ?_
          replace HW1 : Hid (Below w.heap.size w ((X4.setCell ⟨g0, 0, none⟩ (.int .i64 a)).setCell ⟨g0, 1, none⟩ (.int .i64 b))) := Lib.hid ((HW1.out.setCell L0.out _).setCell L0.out _)
          replace Q0 : Hid (Pt ((X4.setCell ⟨g0, 0, none⟩ (.int .i64 a)).setCell ⟨g0, 1, none⟩ (.int .i64 b)) (w.heap.size) 23 a b) := Lib.hid (Q0.out.far F00.out _ _)
          replace Q1 : Hid (Pt ((X4.setCell ⟨g0, 0, none⟩ (.int .i64 a)).setCell ⟨g0, 1, none⟩ (.int .i64 b)) (w.heap.size + 1) 23 c d) := Lib.hid (Q1.out.far F10.out _ _)
          replace N1 : Hid (Pt ((X4.setCell ⟨g0, 0, none⟩ (.int .i64 a)).setCell ⟨g0, 1, none⟩ (.int .i64 b)) g1 24 0 0) := Lib.hid (N1.out.far (by have h := D01.out; omega) _ _)
          replace N0 : Hid (Pt ((X4.setCell ⟨g0, 0, none⟩ (.int .i64 a)).setCell ⟨g0, 1, none⟩ (.int .i64 b)) g0 24 a b) := Lib.hid (N0.out.set a b)
          refine hK.out _ _ (⟨Q0.out, Q1.out⟩) (fun hHeld => ?_)
          generalize ((X4.setCell ⟨g0, 0, none⟩ (.int .i64 a)).setCell ⟨g0, 1, none⟩ (.int .i64 b)) = X5 at hHeld HW1 Q0 N0 Q1 N1 ⊢
          clear hK K
          show wpAnyH _ _ _ _ _ _ _ (Act.put _ none _) _
          simp only [Act.put]
          refine wpAnyH_ready (rs := [7]) (by kernel_rfl) (by simp) ?_
          refine AllReadyH.cons rfl (fun K hK => ?_) AllReadyH.nil
          refine step_store24 rfl (.tmp 8) (.tmp 28) rfl g1 24 0 0 c d rfl rfl N1.out ?_
          replace HW1 : Hid (Below w.heap.size w ((X5.setCell ⟨g1, 0, none⟩ (.int .i64 c)).setCell ⟨g1, 1, none⟩ (.int .i64 d))) := Lib.hid ((HW1.out.setCell L1.out _).setCell L1.out _)
          replace Q0 : Hid (Pt ((X5.setCell ⟨g1, 0, none⟩ (.int .i64 c)).setCell ⟨g1, 1, none⟩ (.int .i64 d)) (w.heap.size) 23 a b) := Lib.hid (Q0.out.far F01.out _ _)
          replace Q1 : Hid (Pt ((X5.setCell ⟨g1, 0, none⟩ (.int .i64 c)).setCell ⟨g1, 1, none⟩ (.int .i64 d)) (w.heap.size + 1) 23 c d) := Lib.hid (Q1.out.far F11.out _ _)
          replace N0 : Hid (Pt ((X5.setCell ⟨g1, 0, none⟩ (.int .i64 c)).setCell ⟨g1, 1, none⟩ (.int .i64 d)) g0 24 a b) := Lib.hid (N0.out.far (by have h := D01.out; omega) _ _)
          replace N1 : Hid (Pt ((X5.setCell ⟨g1, 0, none⟩ (.int .i64 c)).setCell ⟨g1, 1, none⟩ (.int .i64 d)) g1 24 c d) := Lib.hid (N1.out.set c d)
          refine hK.out _ _ (⟨Q0.out, Q1.out⟩) (fun hHeld => ?_)
          generalize ((X5.setCell ⟨g1, 0, none⟩ (.int .i64 c)).setCell ⟨g1, 1, none⟩ (.int .i64 d)) = X6 at hHeld HW1 Q0 N0 Q1 N1 ⊢
          clear hK K
          show wpAnyH _ _ _ _ _ _ _ (Act.put _ none _) _
          simp only [Act.put]
          refine wpAnyH_done (by kernel_rfl) ?_ _
          go_wp2_with fail
          go_meet
          exact ⟨g0, g1, rfl, rfl, N0, N1, Q0, Q1, HW1⟩
        · refine step_new rfl 24 rfl #[.int .i64 0, .int .i64 0] (by kernel_rfl) ?_
          have N1 : Hid (Pt (X2.alloc (.cells #[.int .i64 0, .int .i64 0] 24)) X2.heap.size 24 0 0) := Lib.hid (Pt.mk_ rfl)
          have L1 : Hid (w.heap.size ≤ X2.heap.size) := Lib.hid HW1.out.size
          have D01 : Hid (g0 ≠ X2.heap.size) := Lib.hid (Nat.ne_of_lt N0.out.lt)
          have F01 : Hid ((w.heap.size) ≠ X2.heap.size) := Lib.hid (Nat.ne_of_lt Q0.out.lt)
          have F11 : Hid ((w.heap.size + 1) ≠ X2.heap.size) := Lib.hid (Nat.ne_of_lt Q1.out.lt)
          replace Q0 := Lib.hid (Q0.out.alloc (.cells #[.int .i64 0, .int .i64 0] 24))
          replace Q1 := Lib.hid (Q1.out.alloc (.cells #[.int .i64 0, .int .i64 0] 24))
          replace N0 := Lib.hid (N0.out.alloc (.cells #[.int .i64 0, .int .i64 0] 24))
          replace HW1 := Lib.hid (HW1.out.alloc HW1.out.size (.cells #[.int .i64 0, .int .i64 0] 24))
          refine hK.out _ _ (⟨Q0.out, Q1.out⟩) (fun hHeld => ?_)
          generalize (X2.alloc (.cells #[.int .i64 0, .int .i64 0] 24)) = X3 at hHeld HW1 Q0 Q1 N0 N1 ⊢
          generalize X2.heap.size = g1 at N1 L1 D01 F01 F11 ⊢
          clear hK K
          show wpAnyH _ _ _ _ _ _ _ (Act.put _ (some 8) _) _
          simp only [Act.put, List.setIfInBounds_toArray, List.set_cons_zero, List.set_cons_succ]
          refine wpAnyH_ready (rs := [3]) (by kernel_rfl) (by simp) ?_
          refine AllReadyH.cons rfl (fun K hK => ?_) AllReadyH.nil
          refine step_call rfl 14 #[.tmp 27] #[23] rfl #[.agg #[.int .i64 c, .int .i64 d]] (by simp [Act.eval]) (by go_simp) (to_any _ _ _) ?_
          rintro e X4 ⟨rfl, hB⟩
          replace HW1 := Lib.hid (HW1.out.trans (hB.mono HW1.out.size))
          replace Q0 := Lib.hid (Q0.out.keep hB)
          replace Q1 := Lib.hid (Q1.out.keep hB)
          replace N0 := Lib.hid (N0.out.keep hB)
          replace N1 := Lib.hid (N1.out.keep hB)
          clear hB
          refine ⟨_, rfl, hK.out _ _ (⟨Q0.out, Q1.out⟩) (fun hHeld => ?_)⟩
          clear hK K
          show wpAnyH _ _ _ _ _ _ _ (Act.put _ (some 28) _) _
          simp only [Act.put, List.setIfInBounds_toArray, List.set_cons_zero, List.set_cons_succ]
          refine wpAnyH_ready (rs := [6]) (by kernel_rfl) (by simp) ?_
          refine AllReadyH.cons rfl (fun K hK => ?_) AllReadyH.nil
          refine step_store24 rfl (.tmp 7) (.tmp 26) rfl g0 24 0 0 a b rfl rfl N0.out ?_
          replace HW1 : Hid (Below w.heap.size w ((X4.setCell ⟨g0, 0, none⟩ (.int .i64 a)).setCell ⟨g0, 1, none⟩ (.int .i64 b))) := Lib.hid ((HW1.out.setCell L0.out _).setCell L0.out _)
          replace Q0 : Hid (Pt ((X4.setCell ⟨g0, 0, none⟩ (.int .i64 a)).setCell ⟨g0, 1, none⟩ (.int .i64 b)) (w.heap.size) 23 a b) := Lib.hid (Q0.out.far F00.out _ _)
          replace Q1 : Hid (Pt ((X4.setCell ⟨g0, 0, none⟩ (.int .i64 a)).setCell ⟨g0, 1, none⟩ (.int .i64 b)) (w.heap.size + 1) 23 c d) := Lib.hid (Q1.out.far F10.out _ _)
          replace N1 : Hid (Pt ((X4.setCell ⟨g0, 0, none⟩ (.int .i64 a)).setCell ⟨g0, 1, none⟩ (.int .i64 b)) g1 24 0 0) := Lib.hid (N1.out.far (by have h := D01.out; omega) _ _)
          replace N0 : Hid (Pt ((X4.setCell ⟨g0, 0, none⟩ (.int .i64 a)).setCell ⟨g0, 1, none⟩ (.int .i64 b)) g0 24 a b) := Lib.hid (N0.out.set a b)
          refine hK.out _ _ (⟨Q0.out, Q1.out⟩) (fun hHeld => ?_)
          generalize ((X4.setCell ⟨g0, 0, none⟩ (.int .i64 a)).setCell ⟨g0, 1, none⟩ (.int .i64 b)) = X5 at hHeld HW1 Q0 N0 Q1 N1 ⊢
          clear hK K
          show wpAnyH _ _ _ _ _ _ _ (Act.put _ none _) _
          simp only [Act.put]
          refine wpAnyH_ready (rs := [7]) (by kernel_rfl) (by simp) ?_
          refine AllReadyH.cons rfl (fun K hK => ?_) AllReadyH.nil
          refine step_store24 rfl (.tmp 8) (.tmp 28) rfl g1 24 0 0 c d rfl rfl N1.out ?_
          replace HW1 : Hid (Below w.heap.size w ((X5.setCell ⟨g1, 0, none⟩ (.int .i64 c)).setCell ⟨g1, 1, none⟩ (.int .i64 d))) := Lib.hid ((HW1.out.setCell L1.out _).setCell L1.out _)
          replace Q0 : Hid (Pt ((X5.setCell ⟨g1, 0, none⟩ (.int .i64 c)).setCell ⟨g1, 1, none⟩ (.int .i64 d)) (w.heap.size) 23 a b) := Lib.hid (Q0.out.far F01.out _ _)
          replace Q1 : Hid (Pt ((X5.setCell ⟨g1, 0, none⟩ (.int .i64 c)).setCell ⟨g1, 1, none⟩ (.int .i64 d)) (w.heap.size + 1) 23 c d) := Lib.hid (Q1.out.far F11.out _ _)
          replace N0 : Hid (Pt ((X5.setCell ⟨g1, 0, none⟩ (.int .i64 c)).setCell ⟨g1, 1, none⟩ (.int .i64 d)) g0 24 a b) := Lib.hid (N0.out.far (by have h := D01.out; omega) _ _)
          replace N1 : Hid (Pt ((X5.setCell ⟨g1, 0, none⟩ (.int .i64 c)).setCell ⟨g1, 1, none⟩ (.int .i64 d)) g1 24 c d) := Lib.hid (N1.out.set c d)
          refine hK.out _ _ (⟨Q0.out, Q1.out⟩) (fun hHeld => ?_)
          generalize ((X5.setCell ⟨g1, 0, none⟩ (.int .i64 c)).setCell ⟨g1, 1, none⟩ (.int .i64 d)) = X6 at hHeld HW1 Q0 N0 Q1 N1 ⊢
          clear hK K
          show wpAnyH _ _ _ _ _ _ _ (Act.put _ none _) _
          simp only [Act.put]
          refine wpAnyH_done (by kernel_rfl) ?_ _
          go_wp2_with fail
          go_meet
          exact ⟨g0, g1, rfl, rfl, N0, N1, Q0, Q1, HW1⟩
      · refine step_new rfl 24 rfl #[.int .i64 0, .int .i64 0] (by kernel_rfl) ?_
        have N1 : Hid (Pt (X1.alloc (.cells #[.int .i64 0, .int .i64 0] 24)) X1.heap.size 24 0 0) := Lib.hid (Pt.mk_ rfl)
        have L1 : Hid (w.heap.size ≤ X1.heap.size) := Lib.hid HW1.out.size
        have D01 : Hid (g0 ≠ X1.heap.size) := Lib.hid (Nat.ne_of_lt N0.out.lt)
        have F01 : Hid ((w.heap.size) ≠ X1.heap.size) := Lib.hid (Nat.ne_of_lt Q0.out.lt)
        have F11 : Hid ((w.heap.size + 1) ≠ X1.heap.size) := Lib.hid (Nat.ne_of_lt Q1.out.lt)
        replace Q0 := Lib.hid (Q0.out.alloc (.cells #[.int .i64 0, .int .i64 0] 24))
        replace Q1 := Lib.hid (Q1.out.alloc (.cells #[.int .i64 0, .int .i64 0] 24))
        replace N0 := Lib.hid (N0.out.alloc (.cells #[.int .i64 0, .int .i64 0] 24))
        replace HW1 := Lib.hid (HW1.out.alloc HW1.out.size (.cells #[.int .i64 0, .int .i64 0] 24))
        refine hK.out _ _ (⟨Q0.out, Q1.out⟩) (fun hHeld => ?_)
        generalize (X1.alloc (.cells #[.int .i64 0, .int .i64 0] 24)) = X2 at hHeld HW1 Q0 Q1 N0 N1 ⊢
        generalize X1.heap.size = g1 at N1 L1 D01 F01 F11 ⊢
        clear hK K
        show wpAnyH _ _ _ _ _ _ _ (Act.put _ (some 8) _) _
        simp only [Act.put, List.setIfInBounds_toArray, List.set_cons_zero, List.set_cons_succ]
        refine wpAnyH_ready (rs := [1]) (by kernel_rfl) (by simp) ?_
        refine AllReadyH.cons rfl (fun K hK => ?_) AllReadyH.nil
        refine step_call rfl 14 #[.tmp 25] #[23] rfl #[.agg #[.int .i64 a, .int .i64 b]] (by simp [Act.eval]) (by go_simp) (to_any _ _ _) ?_
        rintro e X3 ⟨rfl, hB⟩
        replace HW1 := Lib.hid (HW1.out.trans (hB.mono HW1.out.size))
        replace Q0 := Lib.hid (Q0.out.keep hB)
        replace Q1 := Lib.hid (Q1.out.keep hB)
        replace N0 := Lib.hid (N0.out.keep hB)
        replace N1 := Lib.hid (N1.out.keep hB)
        clear hB
        refine ⟨_, rfl, hK.out _ _ (⟨Q0.out, Q1.out⟩) (fun hHeld => ?_)⟩
        clear hK K
        show wpAnyH _ _ _ _ _ _ _ (Act.put _ (some 26) _) _
        simp only [Act.put, List.setIfInBounds_toArray, List.set_cons_zero, List.set_cons_succ]
        refine wpAnyH_ready (rs := [3]) (by kernel_rfl) (by simp) ?_
        refine AllReadyH.cons rfl (fun K hK => ?_) AllReadyH.nil
        refine step_call rfl 14 #[.tmp 27] #[23] rfl #[.agg #[.int .i64 c, .int .i64 d]] (by simp [Act.eval]) (by go_simp) (to_any _ _ _) ?_
        rintro e X4 ⟨rfl, hB⟩
        replace HW1 := Lib.hid (HW1.out.trans (hB.mono HW1.out.size))
        replace Q0 := Lib.hid (Q0.out.keep hB)
        replace Q1 := Lib.hid (Q1.out.keep hB)
        replace N0 := Lib.hid (N0.out.keep hB)
        replace N1 := Lib.hid (N1.out.keep hB)
        clear hB
        refine ⟨_, rfl, hK.out _ _ (⟨Q0.out, Q1.out⟩) (fun hHeld => ?_)⟩
        clear hK K
        show wpAnyH _ _ _ _ _ _ _ (Act.put _ (some 28) _) _
        simp only [Act.put, List.setIfInBounds_toArray, List.set_cons_zero, List.set_cons_succ]
        refine wpAnyH_ready (rs := [6]) (by kernel_rfl) (by simp) ?_
        refine AllReadyH.cons rfl (fun K hK => ?_) AllReadyH.nil
        refine step_store24 rfl (.tmp 7) (.tmp 26) rfl g0 24 0 0 a b rfl rfl N0.out ?_
        replace HW1 : Hid (Below w.heap.size w ((X4.setCell ⟨g0, 0, none⟩ (.int .i64 a)).setCell ⟨g0, 1, none⟩ (.int .i64 b))) := Lib.hid ((HW1.out.setCell L0.out _).setCell L0.out _)
        replace Q0 : Hid (Pt ((X4.setCell ⟨g0, 0, none⟩ (.int .i64 a)).setCell ⟨g0, 1, none⟩ (.int .i64 b)) (w.heap.size) 23 a b) := Lib.hid (Q0.out.far F00.out _ _)
        replace Q1 : Hid (Pt ((X4.setCell ⟨g0, 0, none⟩ (.int .i64 a)).setCell ⟨g0, 1, none⟩ (.int .i64 b)) (w.heap.size + 1) 23 c d) := Lib.hid (Q1.out.far F10.out _ _)
        replace N1 : Hid (Pt ((X4.setCell ⟨g0, 0, none⟩ (.int .i64 a)).setCell ⟨g0, 1, none⟩ (.int .i64 b)) g1 24 0 0) := Lib.hid (N1.out.far (by have h := D01.out; omega) _ _)
        replace N0 : Hid (Pt ((X4.setCell ⟨g0, 0, none⟩ (.int .i64 a)).setCell ⟨g0, 1, none⟩ (.int .i64 b)) g0 24 a b) := Lib.hid (N0.out.set a b)
        refine hK.out _ _ (⟨Q0.out, Q1.out⟩) (fun hHeld => ?_)
        generalize ((X4.setCell ⟨g0, 0, none⟩ (.int .i64 a)).setCell ⟨g0, 1, none⟩ (.int .i64 b)) = X5 at hHeld HW1 Q0 N0 Q1 N1 ⊢
        clear hK K
        show wpAnyH _ _ _ _ _ _ _ (Act.put _ none _) _
        simp only [Act.put]
        refine wpAnyH_ready (rs := [7]) (by kernel_rfl) (by simp) ?_
        refine AllReadyH.cons rfl (fun K hK => ?_) AllReadyH.nil
        refine step_store24 rfl (.tmp 8) (.tmp 28) rfl g1 24 0 0 c d rfl rfl N1.out ?_
        replace HW1 : Hid (Below w.heap.size w ((X5.setCell ⟨g1, 0, none⟩ (.int .i64 c)).setCell ⟨g1, 1, none⟩ (.int .i64 d))) := Lib.hid ((HW1.out.setCell L1.out _).setCell L1.out _)
        replace Q0 : Hid (Pt ((X5.setCell ⟨g1, 0, none⟩ (.int .i64 c)).setCell ⟨g1, 1, none⟩ (.int .i64 d)) (w.heap.size) 23 a b) := Lib.hid (Q0.out.far F01.out _ _)
        replace Q1 : Hid (Pt ((X5.setCell ⟨g1, 0, none⟩ (.int .i64 c)).setCell ⟨g1, 1, none⟩ (.int .i64 d)) (w.heap.size + 1) 23 c d) := Lib.hid (Q1.out.far F11.out _ _)
        replace N0 : Hid (Pt ((X5.setCell ⟨g1, 0, none⟩ (.int .i64 c)).setCell ⟨g1, 1, none⟩ (.int .i64 d)) g0 24 a b) := Lib.hid (N0.out.far (by have h := D01.out; omega) _ _)
        replace N1 : Hid (Pt ((X5.setCell ⟨g1, 0, none⟩ (.int .i64 c)).setCell ⟨g1, 1, none⟩ (.int .i64 d)) g1 24 c d) := Lib.hid (N1.out.set c d)
        refine hK.out _ _ (⟨Q0.out, Q1.out⟩) (fun hHeld => ?_)
        generalize ((X5.setCell ⟨g1, 0, none⟩ (.int .i64 c)).setCell ⟨g1, 1, none⟩ (.int .i64 d)) = X6 at hHeld HW1 Q0 N0 Q1 N1 ⊢
        clear hK K
        show wpAnyH _ _ _ _ _ _ _ (Act.put _ none _) _
        simp only [Act.put]
        refine wpAnyH_done (by kernel_rfl) ?_ _
        go_wp2_with fail
        go_meet
        exact ⟨g0, g1, rfl, rfl, N0, N1, Q0, Q1, HW1⟩
    · refine step_new rfl 24 rfl #[.int .i64 0, .int .i64 0] (by kernel_rfl) ?_
      have N1 : Hid (Pt (X.alloc (.cells #[.int .i64 0, .int .i64 0] 24)) X.heap.size 24 0 0) := Lib.hid (Pt.mk_ rfl)
      have L1 : Hid (w.heap.size ≤ X.heap.size) := Lib.hid HW1.out.size
      have F01 : Hid ((w.heap.size) ≠ X.heap.size) := Lib.hid (Nat.ne_of_lt Q0.out.lt)
      have F11 : Hid ((w.heap.size + 1) ≠ X.heap.size) := Lib.hid (Nat.ne_of_lt Q1.out.lt)
      replace Q0 := Lib.hid (Q0.out.alloc (.cells #[.int .i64 0, .int .i64 0] 24))
      replace Q1 := Lib.hid (Q1.out.alloc (.cells #[.int .i64 0, .int .i64 0] 24))
      replace HW1 := Lib.hid (HW1.out.alloc HW1.out.size (.cells #[.int .i64 0, .int .i64 0] 24))
      refine hK.out _ _ (⟨Q0.out, Q1.out⟩) (fun hHeld => ?_)
      generalize (X.alloc (.cells #[.int .i64 0, .int .i64 0] 24)) = X1 at hHeld HW1 Q0 Q1 N1 ⊢
      generalize X.heap.size = g1 at N1 L1  F01 F11 ⊢
      clear hK K
      show wpAnyH _ _ _ _ _ _ _ (Act.put _ (some 8) _) _
      simp only [Act.put, List.setIfInBounds_toArray, List.set_cons_zero, List.set_cons_succ]
      refine wpAnyH_ready (rs := [1, 4]) (by kernel_rfl) (by simp) ?_
      refine AllReadyH.cons rfl (fun K hK => ?_) (AllReadyH.cons rfl (fun K hK => ?_) AllReadyH.nil)
      · refine step_call rfl 14 #[.tmp 25] #[23] rfl #[.agg #[.int .i64 a, .int .i64 b]] (by simp [Act.eval]) (by go_simp) (to_any _ _ _) ?_
        rintro e X2 ⟨rfl, hB⟩
        replace HW1 := Lib.hid (HW1.out.trans (hB.mono HW1.out.size))
        replace Q0 := Lib.hid (Q0.out.keep hB)
        replace Q1 := Lib.hid (Q1.out.keep hB)
        replace N1 := Lib.hid (N1.out.keep hB)
        clear hB
        refine ⟨_, rfl, hK.out _ _ (⟨Q0.out, Q1.out⟩) (fun hHeld => ?_)⟩
        clear hK K
        show wpAnyH _ _ _ _ _ _ _ (Act.put _ (some 26) _) _
        simp only [Act.put, List.setIfInBounds_toArray, List.set_cons_zero, List.set_cons_succ]
        refine wpAnyH_ready (rs := [3, 4]) (by kernel_rfl) (by simp) ?_
        refine AllReadyH.cons rfl (fun K hK => ?_) (AllReadyH.cons rfl (fun K hK => ?_) AllReadyH.nil)
        · refine step_call rfl 14 #[.tmp 27] #[23] rfl #[.agg #[.int .i64 c, .int .i64 d]] (by simp [Act.eval]) (by go_simp) (to_any _ _ _) ?_
          rintro e X3 ⟨rfl, hB⟩
          replace HW1 := Lib.hid (HW1.out.trans (hB.mono HW1.out.size))
          replace Q0 := Lib.hid (Q0.out.keep hB)
          replace Q1 := Lib.hid (Q1.out.keep hB)
          replace N1 := Lib.hid (N1.out.keep hB)
          clear hB
          refine ⟨_, rfl, hK.out _ _ (⟨Q0.out, Q1.out⟩) (fun hHeld => ?_)⟩
          clear hK K
          show wpAnyH _ _ _ _ _ _ _ (Act.put _ (some 28) _) _
          simp only [Act.put, List.setIfInBounds_toArray, List.set_cons_zero, List.set_cons_succ]
          refine wpAnyH_ready (rs := [4]) (by kernel_rfl) (by simp) ?_
          refine AllReadyH.cons rfl (fun K hK => ?_) AllReadyH.nil
          refine step_new rfl 24 rfl #[.int .i64 0, .int .i64 0] (by kernel_rfl) ?_
          have N0 : Hid (Pt (X3.alloc (.cells #[.int .i64 0, .int .i64 0] 24)) X3.heap.size 24 0 0) := Lib.hid (Pt.mk_ rfl)
          have L0 : Hid (w.heap.size ≤ X3.heap.size) := Lib.hid HW1.out.size
          have D01 : Hid (g1 ≠ X3.heap.size) := Lib.hid (Nat.ne_of_lt N1.out.lt)
          have F00 : Hid ((w.heap.size) ≠ X3.heap.size) := Lib.hid (Nat.ne_of_lt Q0.out.lt)
          have F10 : Hid ((w.heap.size + 1) ≠ X3.heap.size) := Lib.hid (Nat.ne_of_lt Q1.out.lt)
          replace Q0 := Lib.hid (Q0.out.alloc (.cells #[.int .i64 0, .int .i64 0] 24))
          replace Q1 := Lib.hid (Q1.out.alloc (.cells #[.int .i64 0, .int .i64 0] 24))
          replace N1 := Lib.hid (N1.out.alloc (.cells #[.int .i64 0, .int .i64 0] 24))
          replace HW1 := Lib.hid (HW1.out.alloc HW1.out.size (.cells #[.int .i64 0, .int .i64 0] 24))
          refine hK.out _ _ (⟨Q0.out, Q1.out⟩) (fun hHeld => ?_)
          generalize (X3.alloc (.cells #[.int .i64 0, .int .i64 0] 24)) = X4 at hHeld HW1 Q0 Q1 N1 N0 ⊢
          generalize X3.heap.size = g0 at N0 L0 D01 F00 F10 ⊢
          clear hK K
          show wpAnyH _ _ _ _ _ _ _ (Act.put _ (some 7) _) _
          simp only [Act.put, List.setIfInBounds_toArray, List.set_cons_zero, List.set_cons_succ]
          refine wpAnyH_ready (rs := [6]) (by kernel_rfl) (by simp) ?_
          refine AllReadyH.cons rfl (fun K hK => ?_) AllReadyH.nil
          refine step_store24 rfl (.tmp 7) (.tmp 26) rfl g0 24 0 0 a b rfl rfl N0.out ?_
          replace HW1 : Hid (Below w.heap.size w ((X4.setCell ⟨g0, 0, none⟩ (.int .i64 a)).setCell ⟨g0, 1, none⟩ (.int .i64 b))) := Lib.hid ((HW1.out.setCell L0.out _).setCell L0.out _)
          replace Q0 : Hid (Pt ((X4.setCell ⟨g0, 0, none⟩ (.int .i64 a)).setCell ⟨g0, 1, none⟩ (.int .i64 b)) (w.heap.size) 23 a b) := Lib.hid (Q0.out.far F00.out _ _)
          replace Q1 : Hid (Pt ((X4.setCell ⟨g0, 0, none⟩ (.int .i64 a)).setCell ⟨g0, 1, none⟩ (.int .i64 b)) (w.heap.size + 1) 23 c d) := Lib.hid (Q1.out.far F10.out _ _)
          replace N1 : Hid (Pt ((X4.setCell ⟨g0, 0, none⟩ (.int .i64 a)).setCell ⟨g0, 1, none⟩ (.int .i64 b)) g1 24 0 0) := Lib.hid (N1.out.far (by have h := D01.out; omega) _ _)
          replace N0 : Hid (Pt ((X4.setCell ⟨g0, 0, none⟩ (.int .i64 a)).setCell ⟨g0, 1, none⟩ (.int .i64 b)) g0 24 a b) := Lib.hid (N0.out.set a b)
          refine hK.out _ _ (⟨Q0.out, Q1.out⟩) (fun hHeld => ?_)
          generalize ((X4.setCell ⟨g0, 0, none⟩ (.int .i64 a)).setCell ⟨g0, 1, none⟩ (.int .i64 b)) = X5 at hHeld HW1 Q0 N0 Q1 N1 ⊢
          clear hK K
          show wpAnyH _ _ _ _ _ _ _ (Act.put _ none _) _
          simp only [Act.put]
          refine wpAnyH_ready (rs := [7]) (by kernel_rfl) (by simp) ?_
          refine AllReadyH.cons rfl (fun K hK => ?_) AllReadyH.nil
          refine step_store24 rfl (.tmp 8) (.tmp 28) rfl g1 24 0 0 c d rfl rfl N1.out ?_
          replace HW1 : Hid (Below w.heap.size w ((X5.setCell ⟨g1, 0, none⟩ (.int .i64 c)).setCell ⟨g1, 1, none⟩ (.int .i64 d))) := Lib.hid ((HW1.out.setCell L1.out _).setCell L1.out _)
          replace Q0 : Hid (Pt ((X5.setCell ⟨g1, 0, none⟩ (.int .i64 c)).setCell ⟨g1, 1, none⟩ (.int .i64 d)) (w.heap.size) 23 a b) := Lib.hid (Q0.out.far F01.out _ _)
          replace Q1 : Hid (Pt ((X5.setCell ⟨g1, 0, none⟩ (.int .i64 c)).setCell ⟨g1, 1, none⟩ (.int .i64 d)) (w.heap.size + 1) 23 c d) := Lib.hid (Q1.out.far F11.out _ _)
          replace N0 : Hid (Pt ((X5.setCell ⟨g1, 0, none⟩ (.int .i64 c)).setCell ⟨g1, 1, none⟩ (.int .i64 d)) g0 24 a b) := Lib.hid (N0.out.far (by have h := D01.out; omega) _ _)
          replace N1 : Hid (Pt ((X5.setCell ⟨g1, 0, none⟩ (.int .i64 c)).setCell ⟨g1, 1, none⟩ (.int .i64 d)) g1 24 c d) := Lib.hid (N1.out.set c d)
          refine hK.out _ _ (⟨Q0.out, Q1.out⟩) (fun hHeld => ?_)
          generalize ((X5.setCell ⟨g1, 0, none⟩ (.int .i64 c)).setCell ⟨g1, 1, none⟩ (.int .i64 d)) = X6 at hHeld HW1 Q0 N0 Q1 N1 ⊢
          clear hK K
          show wpAnyH _ _ _ _ _ _ _ (Act.put _ none _) _
          simp only [Act.put]
          refine wpAnyH_done (by kernel_rfl) ?_ _
          go_wp2_with fail
          go_meet
          exact ⟨g0, g1, rfl, rfl, N0, N1, Q0, Q1, HW1⟩
        · refine step_new rfl 24 rfl #[.int .i64 0, .int .i64 0] (by kernel_rfl) ?_
          have N0 : Hid (Pt (X2.alloc (.cells #[.int .i64 0, .int .i64 0] 24)) X2.heap.size 24 0 0) := Lib.hid (Pt.mk_ rfl)
          have L0 : Hid (w.heap.size ≤ X2.heap.size) := Lib.hid HW1.out.size
          have D01 : Hid (g1 ≠ X2.heap.size) := Lib.hid (Nat.ne_of_lt N1.out.lt)
          have F00 : Hid ((w.heap.size) ≠ X2.heap.size) := Lib.hid (Nat.ne_of_lt Q0.out.lt)
          have F10 : Hid ((w.heap.size + 1) ≠ X2.heap.size) := Lib.hid (Nat.ne_of_lt Q1.out.lt)
          replace Q0 := Lib.hid (Q0.out.alloc (.cells #[.int .i64 0, .int .i64 0] 24))
          replace Q1 := Lib.hid (Q1.out.alloc (.cells #[.int .i64 0, .int .i64 0] 24))
          replace N1 := Lib.hid (N1.out.alloc (.cells #[.int .i64 0, .int .i64 0] 24))
          replace HW1 := Lib.hid (HW1.out.alloc HW1.out.size (.cells #[.int .i64 0, .int .i64 0] 24))
          refine hK.out _ _ (⟨Q0.out, Q1.out⟩) (fun hHeld => ?_)
          generalize (X2.alloc (.cells #[.int .i64 0, .int .i64 0] 24)) = X3 at hHeld HW1 Q0 Q1 N1 N0 ⊢
          generalize X2.heap.size = g0 at N0 L0 D01 F00 F10 ⊢
          clear hK K
          show wpAnyH _ _ _ _ _ _ _ (Act.put _ (some 7) _) _
          simp only [Act.put, List.setIfInBounds_toArray, List.set_cons_zero, List.set_cons_succ]
          refine wpAnyH_ready (rs := [3]) (by kernel_rfl) (by simp) ?_
          refine AllReadyH.cons rfl (fun K hK => ?_) AllReadyH.nil
          refine step_call rfl 14 #[.tmp 27] #[23] rfl #[.agg #[.int .i64 c, .int .i64 d]] (by simp [Act.eval]) (by go_simp) (to_any _ _ _) ?_
          rintro e X4 ⟨rfl, hB⟩
          replace HW1 := Lib.hid (HW1.out.trans (hB.mono HW1.out.size))
          replace Q0 := Lib.hid (Q0.out.keep hB)
          replace Q1 := Lib.hid (Q1.out.keep hB)
          replace N1 := Lib.hid (N1.out.keep hB)
          replace N0 := Lib.hid (N0.out.keep hB)
          clear hB
          refine ⟨_, rfl, hK.out _ _ (⟨Q0.out, Q1.out⟩) (fun hHeld => ?_)⟩
          clear hK K
          show wpAnyH _ _ _ _ _ _ _ (Act.put _ (some 28) _) _
          simp only [Act.put, List.setIfInBounds_toArray, List.set_cons_zero, List.set_cons_succ]
          refine wpAnyH_ready (rs := [6]) (by kernel_rfl) (by simp) ?_
          refine AllReadyH.cons rfl (fun K hK => ?_) AllReadyH.nil
          refine step_store24 rfl (.tmp 7) (.tmp 26) rfl g0 24 0 0 a b rfl rfl N0.out ?_
          replace HW1 : Hid (Below w.heap.size w ((X4.setCell ⟨g0, 0, none⟩ (.int .i64 a)).setCell ⟨g0, 1, none⟩ (.int .i64 b))) := Lib.hid ((HW1.out.setCell L0.out _).setCell L0.out _)
          replace Q0 : Hid (Pt ((X4.setCell ⟨g0, 0, none⟩ (.int .i64 a)).setCell ⟨g0, 1, none⟩ (.int .i64 b)) (w.heap.size) 23 a b) := Lib.hid (Q0.out.far F00.out _ _)
          replace Q1 : Hid (Pt ((X4.setCell ⟨g0, 0, none⟩ (.int .i64 a)).setCell ⟨g0, 1, none⟩ (.int .i64 b)) (w.heap.size + 1) 23 c d) := Lib.hid (Q1.out.far F10.out _ _)
          replace N1 : Hid (Pt ((X4.setCell ⟨g0, 0, none⟩ (.int .i64 a)).setCell ⟨g0, 1, none⟩ (.int .i64 b)) g1 24 0 0) := Lib.hid (N1.out.far (by have h := D01.out; omega) _ _)
          replace N0 : Hid (Pt ((X4.setCell ⟨g0, 0, none⟩ (.int .i64 a)).setCell ⟨g0, 1, none⟩ (.int .i64 b)) g0 24 a b) := Lib.hid (N0.out.set a b)
          refine hK.out _ _ (⟨Q0.out, Q1.out⟩) (fun hHeld => ?_)
          generalize ((X4.setCell ⟨g0, 0, none⟩ (.int .i64 a)).setCell ⟨g0, 1, none⟩ (.int .i64 b)) = X5 at hHeld HW1 Q0 N0 Q1 N1 ⊢
          clear hK K
          show wpAnyH _ _ _ _ _ _ _ (Act.put _ none _) _
          simp only [Act.put]
          refine wpAnyH_ready (rs := [7]) (by kernel_rfl) (by simp) ?_
          refine AllReadyH.cons rfl (fun K hK => ?_) AllReadyH.nil
          refine step_store24 rfl (.tmp 8) (.tmp 28) rfl g1 24 0 0 c d rfl rfl N1.out ?_
          replace HW1 : Hid (Below w.heap.size w ((X5.setCell ⟨g1, 0, none⟩ (.int .i64 c)).setCell ⟨g1, 1, none⟩ (.int .i64 d))) := Lib.hid ((HW1.out.setCell L1.out _).setCell L1.out _)
          replace Q0 : Hid (Pt ((X5.setCell ⟨g1, 0, none⟩ (.int .i64 c)).setCell ⟨g1, 1, none⟩ (.int .i64 d)) (w.heap.size) 23 a b) := Lib.hid (Q0.out.far F01.out _ _)
          replace Q1 : Hid (Pt ((X5.setCell ⟨g1, 0, none⟩ (.int .i64 c)).setCell ⟨g1, 1, none⟩ (.int .i64 d)) (w.heap.size + 1) 23 c d) := Lib.hid (Q1.out.far F11.out _ _)
          replace N0 : Hid (Pt ((X5.setCell ⟨g1, 0, none⟩ (.int .i64 c)).setCell ⟨g1, 1, none⟩ (.int .i64 d)) g0 24 a b) := Lib.hid (N0.out.far (by have h := D01.out; omega) _ _)
          replace N1 : Hid (Pt ((X5.setCell ⟨g1, 0, none⟩ (.int .i64 c)).setCell ⟨g1, 1, none⟩ (.int .i64 d)) g1 24 c d) := Lib.hid (N1.out.set c d)
          refine hK.out _ _ (⟨Q0.out, Q1.out⟩) (fun hHeld => ?_)
          generalize ((X5.setCell ⟨g1, 0, none⟩ (.int .i64 c)).setCell ⟨g1, 1, none⟩ (.int .i64 d)) = X6 at hHeld HW1 Q0 N0 Q1 N1 ⊢
          clear hK K
          show wpAnyH _ _ _ _ _ _ _ (Act.put _ none _) _
          simp only [Act.put]
          refine wpAnyH_done (by kernel_rfl) ?_ _
          go_wp2_with fail
          go_meet
          exact ⟨g0, g1, rfl, rfl, N0, N1, Q0, Q1, HW1⟩
      · refine step_new rfl 24 rfl #[.int .i64 0, .int .i64 0] (by kernel_rfl) ?_
        have N0 : Hid (Pt (X1.alloc (.cells #[.int .i64 0, .int .i64 0] 24)) X1.heap.size 24 0 0) := Lib.hid (Pt.mk_ rfl)
        have L0 : Hid (w.heap.size ≤ X1.heap.size) := Lib.hid HW1.out.size
        have D01 : Hid (g1 ≠ X1.heap.size) := Lib.hid (Nat.ne_of_lt N1.out.lt)
        have F00 : Hid ((w.heap.size) ≠ X1.heap.size) := Lib.hid (Nat.ne_of_lt Q0.out.lt)
        have F10 : Hid ((w.heap.size + 1) ≠ X1.heap.size) := Lib.hid (Nat.ne_of_lt Q1.out.lt)
        replace Q0 := Lib.hid (Q0.out.alloc (.cells #[.int .i64 0, .int .i64 0] 24))
        replace Q1 := Lib.hid (Q1.out.alloc (.cells #[.int .i64 0, .int .i64 0] 24))
        replace N1 := Lib.hid (N1.out.alloc (.cells #[.int .i64 0, .int .i64 0] 24))
        replace HW1 := Lib.hid (HW1.out.alloc HW1.out.size (.cells #[.int .i64 0, .int .i64 0] 24))
        refine hK.out _ _ (⟨Q0.out, Q1.out⟩) (fun hHeld => ?_)
        generalize (X1.alloc (.cells #[.int .i64 0, .int .i64 0] 24)) = X2 at hHeld HW1 Q0 Q1 N1 N0 ⊢
        generalize X1.heap.size = g0 at N0 L0 D01 F00 F10 ⊢
        clear hK K
        show wpAnyH _ _ _ _ _ _ _ (Act.put _ (some 7) _) _
        simp only [Act.put, List.setIfInBounds_toArray, List.set_cons_zero, List.set_cons_succ]
        refine wpAnyH_ready (rs := [1]) (by kernel_rfl) (by simp) ?_
        refine AllReadyH.cons rfl (fun K hK => ?_) AllReadyH.nil
        refine step_call rfl 14 #[.tmp 25] #[23] rfl #[.agg #[.int .i64 a, .int .i64 b]] (by simp [Act.eval]) (by go_simp) (to_any _ _ _) ?_
        rintro e X3 ⟨rfl, hB⟩
        replace HW1 := Lib.hid (HW1.out.trans (hB.mono HW1.out.size))
        replace Q0 := Lib.hid (Q0.out.keep hB)
        replace Q1 := Lib.hid (Q1.out.keep hB)
        replace N1 := Lib.hid (N1.out.keep hB)
        replace N0 := Lib.hid (N0.out.keep hB)
        clear hB
        refine ⟨_, rfl, hK.out _ _ (⟨Q0.out, Q1.out⟩) (fun hHeld => ?_)⟩
        clear hK K
        show wpAnyH _ _ _ _ _ _ _ (Act.put _ (some 26) _) _
        simp only [Act.put, List.setIfInBounds_toArray, List.set_cons_zero, List.set_cons_succ]
        refine wpAnyH_ready (rs := [3]) (by kernel_rfl) (by simp) ?_
        refine AllReadyH.cons rfl (fun K hK => ?_) AllReadyH.nil
        refine step_call rfl 14 #[.tmp 27] #[23] rfl #[.agg #[.int .i64 c, .int .i64 d]] (by simp [Act.eval]) (by go_simp) (to_any _ _ _) ?_
        rintro e X4 ⟨rfl, hB⟩
        replace HW1 := Lib.hid (HW1.out.trans (hB.mono HW1.out.size))
        replace Q0 := Lib.hid (Q0.out.keep hB)
        replace Q1 := Lib.hid (Q1.out.keep hB)
        replace N1 := Lib.hid (N1.out.keep hB)
        replace N0 := Lib.hid (N0.out.keep hB)
        clear hB
        refine ⟨_, rfl, hK.out _ _ (⟨Q0.out, Q1.out⟩) (fun hHeld => ?_)⟩
        clear hK K
        show wpAnyH _ _ _ _ _ _ _ (Act.put _ (some 28) _) _
        simp only [Act.put, List.setIfInBounds_toArray, List.set_cons_zero, List.set_cons_succ]
        refine wpAnyH_ready (rs := [6]) (by kernel_rfl) (by simp) ?_
        refine AllReadyH.cons rfl (fun K hK => ?_) AllReadyH.nil
        refine step_store24 rfl (.tmp 7) (.tmp 26) rfl g0 24 0 0 a b rfl rfl N0.out ?_
        replace HW1 : Hid (Below w.heap.size w ((X4.setCell ⟨g0, 0, none⟩ (.int .i64 a)).setCell ⟨g0, 1, none⟩ (.int .i64 b))) := Lib.hid ((HW1.out.setCell L0.out _).setCell L0.out _)
        replace Q0 : Hid (Pt ((X4.setCell ⟨g0, 0, none⟩ (.int .i64 a)).setCell ⟨g0, 1, none⟩ (.int .i64 b)) (w.heap.size) 23 a b) := Lib.hid (Q0.out.far F00.out _ _)
        replace Q1 : Hid (Pt ((X4.setCell ⟨g0, 0, none⟩ (.int .i64 a)).setCell ⟨g0, 1, none⟩ (.int .i64 b)) (w.heap.size + 1) 23 c d) := Lib.hid (Q1.out.far F10.out _ _)
        replace N1 : Hid (Pt ((X4.setCell ⟨g0, 0, none⟩ (.int .i64 a)).setCell ⟨g0, 1, none⟩ (.int .i64 b)) g1 24 0 0) := Lib.hid (N1.out.far (by have h := D01.out; omega) _ _)
        replace N0 : Hid (Pt ((X4.setCell ⟨g0, 0, none⟩ (.int .i64 a)).setCell ⟨g0, 1, none⟩ (.int .i64 b)) g0 24 a b) := Lib.hid (N0.out.set a b)
        refine hK.out _ _ (⟨Q0.out, Q1.out⟩) (fun hHeld => ?_)
        generalize ((X4.setCell ⟨g0, 0, none⟩ (.int .i64 a)).setCell ⟨g0, 1, none⟩ (.int .i64 b)) = X5 at hHeld HW1 Q0 N0 Q1 N1 ⊢
        clear hK K
        show wpAnyH _ _ _ _ _ _ _ (Act.put _ none _) _
        simp only [Act.put]
        refine wpAnyH_ready (rs := [7]) (by kernel_rfl) (by simp) ?_
        refine AllReadyH.cons rfl (fun K hK => ?_) AllReadyH.nil
        refine step_store24 rfl (.tmp 8) (.tmp 28) rfl g1 24 0 0 c d rfl rfl N1.out ?_
        replace HW1 : Hid (Below w.heap.size w ((X5.setCell ⟨g1, 0, none⟩ (.int .i64 c)).setCell ⟨g1, 1, none⟩ (.int .i64 d))) := Lib.hid ((HW1.out.setCell L1.out _).setCell L1.out _)
        replace Q0 : Hid (Pt ((X5.setCell ⟨g1, 0, none⟩ (.int .i64 c)).setCell ⟨g1, 1, none⟩ (.int .i64 d)) (w.heap.size) 23 a b) := Lib.hid (Q0.out.far F01.out _ _)
        replace Q1 : Hid (Pt ((X5.setCell ⟨g1, 0, none⟩ (.int .i64 c)).setCell ⟨g1, 1, none⟩ (.int .i64 d)) (w.heap.size + 1) 23 c d) := Lib.hid (Q1.out.far F11.out _ _)
        replace N0 : Hid (Pt ((X5.setCell ⟨g1, 0, none⟩ (.int .i64 c)).setCell ⟨g1, 1, none⟩ (.int .i64 d)) g0 24 a b) := Lib.hid (N0.out.far (by have h := D01.out; omega) _ _)
        replace N1 : Hid (Pt ((X5.setCell ⟨g1, 0, none⟩ (.int .i64 c)).setCell ⟨g1, 1, none⟩ (.int .i64 d)) g1 24 c d) := Lib.hid (N1.out.set c d)
        refine hK.out _ _ (⟨Q0.out, Q1.out⟩) (fun hHeld => ?_)
        generalize ((X5.setCell ⟨g1, 0, none⟩ (.int .i64 c)).setCell ⟨g1, 1, none⟩ (.int .i64 d)) = X6 at hHeld HW1 Q0 N0 Q1 N1 ⊢
        clear hK K
        show wpAnyH _ _ _ _ _ _ _ (Act.put _ none _) _
        simp only [Act.put]
        refine wpAnyH_done (by kernel_rfl) ?_ _
        go_wp2_with fail
        go_meet
        exact ⟨g0, g1, rfl, rfl, N0, N1, Q0, Q1, HW1⟩
  case rest =>
    obtain ⟨g0, g1, rfl, rfl, N0, N1, Q0, Q1, HW1⟩ := hcut
    obtain ⟨r1, h1⟩ : ∃ r, moveP a b c d = r := ⟨_, rfl⟩
    obtain ⟨r2, h2⟩ : ∃ r, timesP a b c d = r := ⟨_, rfl⟩
    obtain ⟨r3, h3⟩ : ∃ r, turnP a b c d n = r := ⟨_, rfl⟩
    obtain ⟨r4, h4⟩ : ∃ r, mirrorP a b = r := ⟨_, rfl⟩
    have HM4 : Hid ((On a b → r4 = ⟨a, -b, 0⟩) ∧ (¬ On a b → r4 = ⟨0, 0, 1⟩)) := Lib.hid ⟨fun h => by rw [← h4, mirrorP, if_pos h], fun h => by rw [← h4, mirrorP, if_neg h]⟩
    have HP1 : Hid (∀ w, Calls Try.prog 15 #[.agg #[.int .i64 a, .int .i64 b], .agg #[.int .i64 c, .int .i64 d]] w fun e w' => e = .returned (.tuple #[.agg #[.int .i64 r1.x, .int .i64 r1.y], .int .i64 r1.e]) ∧ Below w.heap.size w w') := Lib.hid fun w => by
      have h := move_any a b c d w
      rw [h1] at h
      exact h
    have HR1 : Hid (∀ w, Calls Try.prog 16 #[.agg #[.int .i64 a, .int .i64 b], .agg #[.int .i64 c, .int .i64 d]] w fun e w' => e = .returned (.tuple #[.agg #[.int .i64 r1.x, .int .i64 r1.y], .int .i64 r1.e]) ∧ Below w.heap.size w w') := Lib.hid fun w => by
      have h := rmove_any a b c d w
      rw [h1] at h
      exact h
    have HP2 : Hid (∀ w, Calls Try.prog 17 #[.agg #[.int .i64 a, .int .i64 b], .agg #[.int .i64 c, .int .i64 d]] w fun e w' => e = .returned (.tuple #[.agg #[.int .i64 r2.x, .int .i64 r2.y], .int .i64 r2.e]) ∧ Below w.heap.size w w') := Lib.hid fun w => by
      have h := times_any a b c d w
      rw [h2] at h
      exact h
    have HR2 : Hid (∀ w, Calls Try.prog 18 #[.agg #[.int .i64 a, .int .i64 b], .agg #[.int .i64 c, .int .i64 d]] w fun e w' => e = .returned (.tuple #[.agg #[.int .i64 r2.x, .int .i64 r2.y], .int .i64 r2.e]) ∧ Below w.heap.size w w') := Lib.hid fun w => by
      have h := rtimes_any a b c d w
      rw [h2] at h
      exact h
    have HP3 : Hid (∀ w, Calls Try.prog 19 #[.agg #[.int .i64 a, .int .i64 b], .agg #[.int .i64 c, .int .i64 d], .int .i64 n] w fun e w' => e = .returned (.tuple #[.agg #[.int .i64 r3.x, .int .i64 r3.y], .int .i64 r3.e]) ∧ Below w.heap.size w w') := Lib.hid fun w => by
      have h := turn_any a b c d n w
      rw [h3] at h
      exact h
    have HR3 : Hid (∀ w, Calls Try.prog 20 #[.agg #[.int .i64 a, .int .i64 b], .agg #[.int .i64 c, .int .i64 d], .int .i64 n] w fun e w' => e = .returned (.tuple #[.agg #[.int .i64 r3.x, .int .i64 r3.y], .int .i64 r3.e]) ∧ Below w.heap.size w w') := Lib.hid fun w => by
      have h := rturn_any a b c d n w
      rw [h3] at h
      exact h
    have HP4 : Hid (∀ w, Calls Try.prog 21 #[.agg #[.int .i64 a, .int .i64 b]] w fun e w' => e = .returned (.tuple #[.agg #[.int .i64 r4.x, .int .i64 r4.y], .int .i64 r4.e]) ∧ Below w.heap.size w w') := Lib.hid fun w => by
      have h := mirror_any a b w
      rw [h4] at h
      exact h
    clear h1 h2 h3 h4
    have N0a := N0.out.c0
    have N0b := N0.out.c1
    have N1a := N1.out.c0
    have N1b := N1.out.c1
    go_wp2_with fail
    refine (HP1.out _).mono ?_
    rintro e Y1 ⟨rfl, hB⟩
    clear N0a N0b
    clear N1a N1b
    replace HW1 := Lib.hid (HW1.out.trans (hB.mono HW1.out.size))
    replace N0 := Lib.hid (N0.out.keep hB)
    replace N1 := Lib.hid (N1.out.keep hB)
    replace Q0 := Lib.hid (Q0.out.keep hB)
    replace Q1 := Lib.hid (Q1.out.keep hB)
    clear hB
    go_upto_region 3 with fail
    have A1 : Hid (Pt (Y1.alloc (.cells #[.int .i64 r1.x, .int .i64 r1.y] 24)) Y1.heap.size 24 r1.x r1.y) := Lib.hid (Pt.mk_ rfl)
    replace N0 := Lib.hid (N0.out.alloc (.cells #[.int .i64 r1.x, .int .i64 r1.y] 24))
    replace N1 := Lib.hid (N1.out.alloc (.cells #[.int .i64 r1.x, .int .i64 r1.y] 24))
    replace Q0 := Lib.hid (Q0.out.alloc (.cells #[.int .i64 r1.x, .int .i64 r1.y] 24))
    replace Q1 := Lib.hid (Q1.out.alloc (.cells #[.int .i64 r1.x, .int .i64 r1.y] 24))
    replace HW1 := Lib.hid (HW1.out.alloc HW1.out.size (.cells #[.int .i64 r1.x, .int .i64 r1.y] 24))
    generalize (Y1.alloc (.cells #[.int .i64 r1.x, .int .i64 r1.y] 24)) = Y2 at HW1 A1 N0 N1 Q0 Q1 ⊢
    generalize Y1.heap.size = gA1 at A1 ⊢
    have Q0a := Q0.out.c0
    have Q0b := Q0.out.c1
    have Q1a := Q1.out.c0
    have Q1b := Q1.out.c1
    go_wp2_with fail
    refine (HR1.out _).mono ?_
    rintro e Y3 ⟨rfl, hB⟩
    clear Q0a Q0b
    clear Q1a Q1b
    replace HW1 := Lib.hid (HW1.out.trans (hB.mono HW1.out.size))
    replace N0 := Lib.hid (N0.out.keep hB)
    replace N1 := Lib.hid (N1.out.keep hB)
    replace Q0 := Lib.hid (Q0.out.keep hB)
    replace Q1 := Lib.hid (Q1.out.keep hB)
    replace A1 := Lib.hid (A1.out.keep hB)
    clear hB
    go_upto_region 4 with fail
    have B1 : Hid (Pt (Y3.alloc (.cells #[.int .i64 r1.x, .int .i64 r1.y] 23)) Y3.heap.size 23 r1.x r1.y) := Lib.hid (Pt.mk_ rfl)
    replace N0 := Lib.hid (N0.out.alloc (.cells #[.int .i64 r1.x, .int .i64 r1.y] 23))
    replace N1 := Lib.hid (N1.out.alloc (.cells #[.int .i64 r1.x, .int .i64 r1.y] 23))
    replace Q0 := Lib.hid (Q0.out.alloc (.cells #[.int .i64 r1.x, .int .i64 r1.y] 23))
    replace Q1 := Lib.hid (Q1.out.alloc (.cells #[.int .i64 r1.x, .int .i64 r1.y] 23))
    replace A1 := Lib.hid (A1.out.alloc (.cells #[.int .i64 r1.x, .int .i64 r1.y] 23))
    replace HW1 := Lib.hid (HW1.out.alloc HW1.out.size (.cells #[.int .i64 r1.x, .int .i64 r1.y] 23))
    generalize (Y3.alloc (.cells #[.int .i64 r1.x, .int .i64 r1.y] 23)) = Y4 at HW1 B1 N0 N1 Q0 Q1 A1 ⊢
    generalize Y3.heap.size = gB1 at B1 ⊢
    have N0a := N0.out.c0
    have N0b := N0.out.c1
    have N1a := N1.out.c0
    have N1b := N1.out.c1
    go_wp2_with fail
    refine (HP2.out _).mono ?_
    rintro e Y5 ⟨rfl, hB⟩
    clear N0a N0b
    clear N1a N1b
    replace HW1 := Lib.hid (HW1.out.trans (hB.mono HW1.out.size))
    replace N0 := Lib.hid (N0.out.keep hB)
    replace N1 := Lib.hid (N1.out.keep hB)
    replace Q0 := Lib.hid (Q0.out.keep hB)
    replace Q1 := Lib.hid (Q1.out.keep hB)
    replace A1 := Lib.hid (A1.out.keep hB)
    replace B1 := Lib.hid (B1.out.keep hB)
    clear hB
    go_upto_region 5 with fail
    have A2 : Hid (Pt (Y5.alloc (.cells #[.int .i64 r2.x, .int .i64 r2.y] 24)) Y5.heap.size 24 r2.x r2.y) := Lib.hid (Pt.mk_ rfl)
    replace N0 := Lib.hid (N0.out.alloc (.cells #[.int .i64 r2.x, .int .i64 r2.y] 24))
    replace N1 := Lib.hid (N1.out.alloc (.cells #[.int .i64 r2.x, .int .i64 r2.y] 24))
    replace Q0 := Lib.hid (Q0.out.alloc (.cells #[.int .i64 r2.x, .int .i64 r2.y] 24))
    replace Q1 := Lib.hid (Q1.out.alloc (.cells #[.int .i64 r2.x, .int .i64 r2.y] 24))
    replace A1 := Lib.hid (A1.out.alloc (.cells #[.int .i64 r2.x, .int .i64 r2.y] 24))
    replace B1 := Lib.hid (B1.out.alloc (.cells #[.int .i64 r2.x, .int .i64 r2.y] 24))
    replace HW1 := Lib.hid (HW1.out.alloc HW1.out.size (.cells #[.int .i64 r2.x, .int .i64 r2.y] 24))
    generalize (Y5.alloc (.cells #[.int .i64 r2.x, .int .i64 r2.y] 24)) = Y6 at HW1 A2 N0 N1 Q0 Q1 A1 B1 ⊢
    generalize Y5.heap.size = gA2 at A2 ⊢
    have Q0a := Q0.out.c0
    have Q0b := Q0.out.c1
    have Q1a := Q1.out.c0
    have Q1b := Q1.out.c1
    go_wp2_with fail
    refine (HR2.out _).mono ?_
    rintro e Y7 ⟨rfl, hB⟩
    clear Q0a Q0b
    clear Q1a Q1b
    replace HW1 := Lib.hid (HW1.out.trans (hB.mono HW1.out.size))
    replace N0 := Lib.hid (N0.out.keep hB)
    replace N1 := Lib.hid (N1.out.keep hB)
    replace Q0 := Lib.hid (Q0.out.keep hB)
    replace Q1 := Lib.hid (Q1.out.keep hB)
    replace A1 := Lib.hid (A1.out.keep hB)
    replace B1 := Lib.hid (B1.out.keep hB)
    replace A2 := Lib.hid (A2.out.keep hB)
    clear hB
    go_upto_region 6 with fail
    have B2 : Hid (Pt (Y7.alloc (.cells #[.int .i64 r2.x, .int .i64 r2.y] 23)) Y7.heap.size 23 r2.x r2.y) := Lib.hid (Pt.mk_ rfl)
    replace N0 := Lib.hid (N0.out.alloc (.cells #[.int .i64 r2.x, .int .i64 r2.y] 23))
    replace N1 := Lib.hid (N1.out.alloc (.cells #[.int .i64 r2.x, .int .i64 r2.y] 23))
    replace Q0 := Lib.hid (Q0.out.alloc (.cells #[.int .i64 r2.x, .int .i64 r2.y] 23))
    replace Q1 := Lib.hid (Q1.out.alloc (.cells #[.int .i64 r2.x, .int .i64 r2.y] 23))
    replace A1 := Lib.hid (A1.out.alloc (.cells #[.int .i64 r2.x, .int .i64 r2.y] 23))
    replace B1 := Lib.hid (B1.out.alloc (.cells #[.int .i64 r2.x, .int .i64 r2.y] 23))
    replace A2 := Lib.hid (A2.out.alloc (.cells #[.int .i64 r2.x, .int .i64 r2.y] 23))
    replace HW1 := Lib.hid (HW1.out.alloc HW1.out.size (.cells #[.int .i64 r2.x, .int .i64 r2.y] 23))
    generalize (Y7.alloc (.cells #[.int .i64 r2.x, .int .i64 r2.y] 23)) = Y8 at HW1 B2 N0 N1 Q0 Q1 A1 B1 A2 ⊢
    generalize Y7.heap.size = gB2 at B2 ⊢
    have N0a := N0.out.c0
    have N0b := N0.out.c1
    have N1a := N1.out.c0
    have N1b := N1.out.c1
    go_wp2_with fail
    refine (HP3.out _).mono ?_
    rintro e Y9 ⟨rfl, hB⟩
    clear N0a N0b
    clear N1a N1b
    replace HW1 := Lib.hid (HW1.out.trans (hB.mono HW1.out.size))
    replace N0 := Lib.hid (N0.out.keep hB)
    replace N1 := Lib.hid (N1.out.keep hB)
    replace Q0 := Lib.hid (Q0.out.keep hB)
    replace Q1 := Lib.hid (Q1.out.keep hB)
    replace A1 := Lib.hid (A1.out.keep hB)
    replace B1 := Lib.hid (B1.out.keep hB)
    replace A2 := Lib.hid (A2.out.keep hB)
    replace B2 := Lib.hid (B2.out.keep hB)
    clear hB
    go_upto_region 7 with fail
    have A3 : Hid (Pt (Y9.alloc (.cells #[.int .i64 r3.x, .int .i64 r3.y] 24)) Y9.heap.size 24 r3.x r3.y) := Lib.hid (Pt.mk_ rfl)
    replace N0 := Lib.hid (N0.out.alloc (.cells #[.int .i64 r3.x, .int .i64 r3.y] 24))
    replace N1 := Lib.hid (N1.out.alloc (.cells #[.int .i64 r3.x, .int .i64 r3.y] 24))
    replace Q0 := Lib.hid (Q0.out.alloc (.cells #[.int .i64 r3.x, .int .i64 r3.y] 24))
    replace Q1 := Lib.hid (Q1.out.alloc (.cells #[.int .i64 r3.x, .int .i64 r3.y] 24))
    replace A1 := Lib.hid (A1.out.alloc (.cells #[.int .i64 r3.x, .int .i64 r3.y] 24))
    replace B1 := Lib.hid (B1.out.alloc (.cells #[.int .i64 r3.x, .int .i64 r3.y] 24))
    replace A2 := Lib.hid (A2.out.alloc (.cells #[.int .i64 r3.x, .int .i64 r3.y] 24))
    replace B2 := Lib.hid (B2.out.alloc (.cells #[.int .i64 r3.x, .int .i64 r3.y] 24))
    replace HW1 := Lib.hid (HW1.out.alloc HW1.out.size (.cells #[.int .i64 r3.x, .int .i64 r3.y] 24))
    generalize (Y9.alloc (.cells #[.int .i64 r3.x, .int .i64 r3.y] 24)) = Y10 at HW1 A3 N0 N1 Q0 Q1 A1 B1 A2 B2 ⊢
    generalize Y9.heap.size = gA3 at A3 ⊢
    have Q0a := Q0.out.c0
    have Q0b := Q0.out.c1
    have Q1a := Q1.out.c0
    have Q1b := Q1.out.c1
    go_wp2_with fail
    refine (HR3.out _).mono ?_
    rintro e Y11 ⟨rfl, hB⟩
    clear Q0a Q0b
    clear Q1a Q1b
    replace HW1 := Lib.hid (HW1.out.trans (hB.mono HW1.out.size))
    replace N0 := Lib.hid (N0.out.keep hB)
    replace N1 := Lib.hid (N1.out.keep hB)
    replace Q0 := Lib.hid (Q0.out.keep hB)
    replace Q1 := Lib.hid (Q1.out.keep hB)
    replace A1 := Lib.hid (A1.out.keep hB)
    replace B1 := Lib.hid (B1.out.keep hB)
    replace A2 := Lib.hid (A2.out.keep hB)
    replace B2 := Lib.hid (B2.out.keep hB)
    replace A3 := Lib.hid (A3.out.keep hB)
    clear hB
    go_upto_region 8 with fail
    have B3 : Hid (Pt (Y11.alloc (.cells #[.int .i64 r3.x, .int .i64 r3.y] 23)) Y11.heap.size 23 r3.x r3.y) := Lib.hid (Pt.mk_ rfl)
    replace N0 := Lib.hid (N0.out.alloc (.cells #[.int .i64 r3.x, .int .i64 r3.y] 23))
    replace N1 := Lib.hid (N1.out.alloc (.cells #[.int .i64 r3.x, .int .i64 r3.y] 23))
    replace Q0 := Lib.hid (Q0.out.alloc (.cells #[.int .i64 r3.x, .int .i64 r3.y] 23))
    replace Q1 := Lib.hid (Q1.out.alloc (.cells #[.int .i64 r3.x, .int .i64 r3.y] 23))
    replace A1 := Lib.hid (A1.out.alloc (.cells #[.int .i64 r3.x, .int .i64 r3.y] 23))
    replace B1 := Lib.hid (B1.out.alloc (.cells #[.int .i64 r3.x, .int .i64 r3.y] 23))
    replace A2 := Lib.hid (A2.out.alloc (.cells #[.int .i64 r3.x, .int .i64 r3.y] 23))
    replace B2 := Lib.hid (B2.out.alloc (.cells #[.int .i64 r3.x, .int .i64 r3.y] 23))
    replace A3 := Lib.hid (A3.out.alloc (.cells #[.int .i64 r3.x, .int .i64 r3.y] 23))
    replace HW1 := Lib.hid (HW1.out.alloc HW1.out.size (.cells #[.int .i64 r3.x, .int .i64 r3.y] 23))
    generalize (Y11.alloc (.cells #[.int .i64 r3.x, .int .i64 r3.y] 23)) = Y12 at HW1 B3 N0 N1 Q0 Q1 A1 B1 A2 B2 A3 ⊢
    generalize Y11.heap.size = gB3 at B3 ⊢
    have N0a := N0.out.c0
    have N0b := N0.out.c1
    go_wp2_with fail
    refine (HP4.out _).mono ?_
    rintro e Y13 ⟨rfl, hB⟩
    clear N0a N0b
    replace HW1 := Lib.hid (HW1.out.trans (hB.mono HW1.out.size))
    replace N0 := Lib.hid (N0.out.keep hB)
    replace N1 := Lib.hid (N1.out.keep hB)
    replace Q0 := Lib.hid (Q0.out.keep hB)
    replace Q1 := Lib.hid (Q1.out.keep hB)
    replace A1 := Lib.hid (A1.out.keep hB)
    replace B1 := Lib.hid (B1.out.keep hB)
    replace A2 := Lib.hid (A2.out.keep hB)
    replace B2 := Lib.hid (B2.out.keep hB)
    replace A3 := Lib.hid (A3.out.keep hB)
    replace B3 := Lib.hid (B3.out.keep hB)
    clear hB
    go_upto_region 9 with fail
    have A4 : Hid (Pt (Y13.alloc (.cells #[.int .i64 r4.x, .int .i64 r4.y] 24)) Y13.heap.size 24 r4.x r4.y) := Lib.hid (Pt.mk_ rfl)
    replace N0 := Lib.hid (N0.out.alloc (.cells #[.int .i64 r4.x, .int .i64 r4.y] 24))
    replace N1 := Lib.hid (N1.out.alloc (.cells #[.int .i64 r4.x, .int .i64 r4.y] 24))
    replace Q0 := Lib.hid (Q0.out.alloc (.cells #[.int .i64 r4.x, .int .i64 r4.y] 24))
    replace Q1 := Lib.hid (Q1.out.alloc (.cells #[.int .i64 r4.x, .int .i64 r4.y] 24))
    replace A1 := Lib.hid (A1.out.alloc (.cells #[.int .i64 r4.x, .int .i64 r4.y] 24))
    replace B1 := Lib.hid (B1.out.alloc (.cells #[.int .i64 r4.x, .int .i64 r4.y] 24))
    replace A2 := Lib.hid (A2.out.alloc (.cells #[.int .i64 r4.x, .int .i64 r4.y] 24))
    replace B2 := Lib.hid (B2.out.alloc (.cells #[.int .i64 r4.x, .int .i64 r4.y] 24))
    replace A3 := Lib.hid (A3.out.alloc (.cells #[.int .i64 r4.x, .int .i64 r4.y] 24))
    replace B3 := Lib.hid (B3.out.alloc (.cells #[.int .i64 r4.x, .int .i64 r4.y] 24))
    replace HW1 := Lib.hid (HW1.out.alloc HW1.out.size (.cells #[.int .i64 r4.x, .int .i64 r4.y] 24))
    generalize (Y13.alloc (.cells #[.int .i64 r4.x, .int .i64 r4.y] 24)) = Y14 at HW1 A4 N0 N1 Q0 Q1 A1 B1 A2 B2 A3 B3 ⊢
    generalize Y13.heap.size = gA4 at A4 ⊢
    go_upto_region 10 with fail
    have B4 : Hid (Pt (Y14.alloc (.cells #[.int .i64 0, .int .i64 0] 23)) Y14.heap.size 23 0 0) := Lib.hid (Pt.mk_ rfl)
    have LB4 : Hid (w.heap.size ≤ Y14.heap.size) := Lib.hid HW1.out.size
    have DN0 : Hid (g0 ≠ Y14.heap.size) := Lib.hid (Nat.ne_of_lt N0.out.lt)
    have DN1 : Hid (g1 ≠ Y14.heap.size) := Lib.hid (Nat.ne_of_lt N1.out.lt)
    have DQ0 : Hid (w.heap.size ≠ Y14.heap.size) := Lib.hid (Nat.ne_of_lt Q0.out.lt)
    have DQ1 : Hid (w.heap.size + 1 ≠ Y14.heap.size) := Lib.hid (Nat.ne_of_lt Q1.out.lt)
    have DA1 : Hid (gA1 ≠ Y14.heap.size) := Lib.hid (Nat.ne_of_lt A1.out.lt)
    have DB1 : Hid (gB1 ≠ Y14.heap.size) := Lib.hid (Nat.ne_of_lt B1.out.lt)
    have DA2 : Hid (gA2 ≠ Y14.heap.size) := Lib.hid (Nat.ne_of_lt A2.out.lt)
    have DB2 : Hid (gB2 ≠ Y14.heap.size) := Lib.hid (Nat.ne_of_lt B2.out.lt)
    have DA3 : Hid (gA3 ≠ Y14.heap.size) := Lib.hid (Nat.ne_of_lt A3.out.lt)
    have DB3 : Hid (gB3 ≠ Y14.heap.size) := Lib.hid (Nat.ne_of_lt B3.out.lt)
    have DA4 : Hid (gA4 ≠ Y14.heap.size) := Lib.hid (Nat.ne_of_lt A4.out.lt)
    replace N0 := Lib.hid (N0.out.alloc (.cells #[.int .i64 0, .int .i64 0] 23))
    replace N1 := Lib.hid (N1.out.alloc (.cells #[.int .i64 0, .int .i64 0] 23))
    replace Q0 := Lib.hid (Q0.out.alloc (.cells #[.int .i64 0, .int .i64 0] 23))
    replace Q1 := Lib.hid (Q1.out.alloc (.cells #[.int .i64 0, .int .i64 0] 23))
    replace A1 := Lib.hid (A1.out.alloc (.cells #[.int .i64 0, .int .i64 0] 23))
    replace B1 := Lib.hid (B1.out.alloc (.cells #[.int .i64 0, .int .i64 0] 23))
    replace A2 := Lib.hid (A2.out.alloc (.cells #[.int .i64 0, .int .i64 0] 23))
    replace B2 := Lib.hid (B2.out.alloc (.cells #[.int .i64 0, .int .i64 0] 23))
    replace A3 := Lib.hid (A3.out.alloc (.cells #[.int .i64 0, .int .i64 0] 23))
    replace B3 := Lib.hid (B3.out.alloc (.cells #[.int .i64 0, .int .i64 0] 23))
    replace A4 := Lib.hid (A4.out.alloc (.cells #[.int .i64 0, .int .i64 0] 23))
    replace HW1 := Lib.hid (HW1.out.alloc HW1.out.size (.cells #[.int .i64 0, .int .i64 0] 23))
    generalize (Y14.alloc (.cells #[.int .i64 0, .int .i64 0] 23)) = Y15 at HW1 B4 N0 N1 Q0 Q1 A1 B1 A2 B2 A3 B3 A4 ⊢
    generalize Y14.heap.size = gB4 at B4 LB4 DN0 DN1 DQ0 DQ1 DA1 DB1 DA2 DB2 DA3 DB3 DA4 ⊢
    have Q0a := Q0.out.c0
    have Q0b := Q0.out.c1
    go_wp2_with fail
    refine (ron_any _ _ _).mono ?_
    rintro e Y16 ⟨rfl, hB⟩
    clear Q0a Q0b
    replace HW1 := Lib.hid (HW1.out.trans (hB.mono HW1.out.size))
    replace N0 := Lib.hid (N0.out.keep hB)
    replace N1 := Lib.hid (N1.out.keep hB)
    replace Q0 := Lib.hid (Q0.out.keep hB)
    replace Q1 := Lib.hid (Q1.out.keep hB)
    replace A1 := Lib.hid (A1.out.keep hB)
    replace B1 := Lib.hid (B1.out.keep hB)
    replace A2 := Lib.hid (A2.out.keep hB)
    replace B2 := Lib.hid (B2.out.keep hB)
    replace A3 := Lib.hid (A3.out.keep hB)
    replace B3 := Lib.hid (B3.out.keep hB)
    replace A4 := Lib.hid (A4.out.keep hB)
    replace B4 := Lib.hid (B4.out.keep hB)
    clear hB
    by_cases hon : On a b
    · have b0 : decide (On a b) = true := decide_eq_true hon
      have h4 := HM4.out.1 hon
      obtain ⟨o1, o2, o3, o4⟩ := hon
      obtain rfl : r4 = ⟨a, -b, 0⟩ := h4
      have Q0a := Q0.out.c0
      have Q0b := Q0.out.c1
      have B4a := B4.out.c0
      have B4b := B4.out.c1
      have B4c := B4.out.f0
      have B4d := B4.out.f1
      go_upto_region 12 with fail
      clear B4c B4d
      clear Q0a Q0b
      clear B4a B4b
      replace HW1 : Hid (Below w.heap.size w ((Y16.setCell ⟨gB4, 0, none⟩ (.int .i64 a)).setCell ⟨gB4, 1, none⟩ (.int .i64 (-b)))) := Lib.hid ((HW1.out.setCell LB4.out _).setCell LB4.out _)
      replace A1 : Hid (Pt ((Y16.setCell ⟨gB4, 0, none⟩ (.int .i64 a)).setCell ⟨gB4, 1, none⟩ (.int .i64 (-b))) gA1 24 r1.x r1.y) := Lib.hid (A1.out.far (by have h := DA1.out; omega) _ _)
      replace B1 : Hid (Pt ((Y16.setCell ⟨gB4, 0, none⟩ (.int .i64 a)).setCell ⟨gB4, 1, none⟩ (.int .i64 (-b))) gB1 23 r1.x r1.y) := Lib.hid (B1.out.far (by have h := DB1.out; omega) _ _)
      replace A2 : Hid (Pt ((Y16.setCell ⟨gB4, 0, none⟩ (.int .i64 a)).setCell ⟨gB4, 1, none⟩ (.int .i64 (-b))) gA2 24 r2.x r2.y) := Lib.hid (A2.out.far (by have h := DA2.out; omega) _ _)
      replace B2 : Hid (Pt ((Y16.setCell ⟨gB4, 0, none⟩ (.int .i64 a)).setCell ⟨gB4, 1, none⟩ (.int .i64 (-b))) gB2 23 r2.x r2.y) := Lib.hid (B2.out.far (by have h := DB2.out; omega) _ _)
      replace A3 : Hid (Pt ((Y16.setCell ⟨gB4, 0, none⟩ (.int .i64 a)).setCell ⟨gB4, 1, none⟩ (.int .i64 (-b))) gA3 24 r3.x r3.y) := Lib.hid (A3.out.far (by have h := DA3.out; omega) _ _)
      replace B3 : Hid (Pt ((Y16.setCell ⟨gB4, 0, none⟩ (.int .i64 a)).setCell ⟨gB4, 1, none⟩ (.int .i64 (-b))) gB3 23 r3.x r3.y) := Lib.hid (B3.out.far (by have h := DB3.out; omega) _ _)
      replace A4 : Hid (Pt ((Y16.setCell ⟨gB4, 0, none⟩ (.int .i64 a)).setCell ⟨gB4, 1, none⟩ (.int .i64 (-b))) gA4 24 a (-b)) := Lib.hid (A4.out.far (by have h := DA4.out; omega) _ _)
      replace B4 : Hid (Pt ((Y16.setCell ⟨gB4, 0, none⟩ (.int .i64 a)).setCell ⟨gB4, 1, none⟩ (.int .i64 (-b))) gB4 23 a (-b)) := Lib.hid (B4.out.set a (-b))
      generalize ((Y16.setCell ⟨gB4, 0, none⟩ (.int .i64 a)).setCell ⟨gB4, 1, none⟩ (.int .i64 (-b))) = Z at HW1 A1 B1 A2 B2 A3 B3 A4 B4 ⊢
      go_wp2_with fail
      refine (awake_any _).mono ?_
      rintro e Y17 ⟨rfl, hB⟩
      replace HW1 := Lib.hid (HW1.out.trans (hB.mono HW1.out.size))
      replace A1 := Lib.hid (A1.out.keep hB)
      replace B1 := Lib.hid (B1.out.keep hB)
      replace A2 := Lib.hid (A2.out.keep hB)
      replace B2 := Lib.hid (B2.out.keep hB)
      replace A3 := Lib.hid (A3.out.keep hB)
      replace B3 := Lib.hid (B3.out.keep hB)
      replace A4 := Lib.hid (A4.out.keep hB)
      replace B4 := Lib.hid (B4.out.keep hB)
      clear hB
      have A1a := A1.out.c0
      have A1b := A1.out.c1
      have B1a := B1.out.c0
      have B1b := B1.out.c1
      go_wp2_with fail
      refine (is_same _ _ _ _).mono ?_
      rintro e Y18 ⟨rfl, hB⟩
      clear A1a A1b
      clear B1a B1b
      replace HW1 := Lib.hid (HW1.out.trans (hB.mono HW1.out.size))
      replace A1 := Lib.hid (A1.out.keep hB)
      replace B1 := Lib.hid (B1.out.keep hB)
      replace A2 := Lib.hid (A2.out.keep hB)
      replace B2 := Lib.hid (B2.out.keep hB)
      replace A3 := Lib.hid (A3.out.keep hB)
      replace B3 := Lib.hid (B3.out.keep hB)
      replace A4 := Lib.hid (A4.out.keep hB)
      replace B4 := Lib.hid (B4.out.keep hB)
      clear hB
      have A2a := A2.out.c0
      have A2b := A2.out.c1
      have B2a := B2.out.c0
      have B2b := B2.out.c1
      go_wp2_with fail
      refine (is_same _ _ _ _).mono ?_
      rintro e Y19 ⟨rfl, hB⟩
      clear A2a A2b
      clear B2a B2b
      replace HW1 := Lib.hid (HW1.out.trans (hB.mono HW1.out.size))
      replace A1 := Lib.hid (A1.out.keep hB)
      replace B1 := Lib.hid (B1.out.keep hB)
      replace A2 := Lib.hid (A2.out.keep hB)
      replace B2 := Lib.hid (B2.out.keep hB)
      replace A3 := Lib.hid (A3.out.keep hB)
      replace B3 := Lib.hid (B3.out.keep hB)
      replace A4 := Lib.hid (A4.out.keep hB)
      replace B4 := Lib.hid (B4.out.keep hB)
      clear hB
      have A3a := A3.out.c0
      have A3b := A3.out.c1
      have B3a := B3.out.c0
      have B3b := B3.out.c1
      go_wp2_with fail
      refine (is_same _ _ _ _).mono ?_
      rintro e Y20 ⟨rfl, hB⟩
      clear A3a A3b
      clear B3a B3b
      replace HW1 := Lib.hid (HW1.out.trans (hB.mono HW1.out.size))
      replace A1 := Lib.hid (A1.out.keep hB)
      replace B1 := Lib.hid (B1.out.keep hB)
      replace A2 := Lib.hid (A2.out.keep hB)
      replace B2 := Lib.hid (B2.out.keep hB)
      replace A3 := Lib.hid (A3.out.keep hB)
      replace B3 := Lib.hid (B3.out.keep hB)
      replace A4 := Lib.hid (A4.out.keep hB)
      replace B4 := Lib.hid (B4.out.keep hB)
      clear hB
      have A4a := A4.out.c0
      have A4b := A4.out.c1
      have B4a := B4.out.c0
      have B4b := B4.out.c1
      go_wp2_with fail
      refine (is_same _ _ _ _).mono ?_
      rintro e Y21 ⟨rfl, hB⟩
      clear A4a A4b
      clear B4a B4b
      replace HW1 := Lib.hid (HW1.out.trans (hB.mono HW1.out.size))
      replace A1 := Lib.hid (A1.out.keep hB)
      replace B1 := Lib.hid (B1.out.keep hB)
      replace A2 := Lib.hid (A2.out.keep hB)
      replace B2 := Lib.hid (B2.out.keep hB)
      replace A3 := Lib.hid (A3.out.keep hB)
      replace B3 := Lib.hid (B3.out.keep hB)
      replace A4 := Lib.hid (A4.out.keep hB)
      replace B4 := Lib.hid (B4.out.keep hB)
      clear hB
      go_wp2
      go_ret
      exact ⟨rfl, HW1.out⟩
    · have b0 : decide (On a b) = false := decide_eq_false hon
      obtain rfl : r4 = ⟨0, 0, 1⟩ := HM4.out.2 hon
      clear hon
      go_upto_region 12 with fail
      go_wp2_with fail
      refine (awake_any _).mono ?_
      rintro e Y17 ⟨rfl, hB⟩
      replace HW1 := Lib.hid (HW1.out.trans (hB.mono HW1.out.size))
      replace N0 := Lib.hid (N0.out.keep hB)
      replace N1 := Lib.hid (N1.out.keep hB)
      replace Q0 := Lib.hid (Q0.out.keep hB)
      replace Q1 := Lib.hid (Q1.out.keep hB)
      replace A1 := Lib.hid (A1.out.keep hB)
      replace B1 := Lib.hid (B1.out.keep hB)
      replace A2 := Lib.hid (A2.out.keep hB)
      replace B2 := Lib.hid (B2.out.keep hB)
      replace A3 := Lib.hid (A3.out.keep hB)
      replace B3 := Lib.hid (B3.out.keep hB)
      replace A4 := Lib.hid (A4.out.keep hB)
      replace B4 := Lib.hid (B4.out.keep hB)
      clear hB
      have A1a := A1.out.c0
      have A1b := A1.out.c1
      have B1a := B1.out.c0
      have B1b := B1.out.c1
      go_wp2_with fail
      refine (is_same _ _ _ _).mono ?_
      rintro e Y18 ⟨rfl, hB⟩
      clear A1a A1b
      clear B1a B1b
      replace HW1 := Lib.hid (HW1.out.trans (hB.mono HW1.out.size))
      replace N0 := Lib.hid (N0.out.keep hB)
      replace N1 := Lib.hid (N1.out.keep hB)
      replace Q0 := Lib.hid (Q0.out.keep hB)
      replace Q1 := Lib.hid (Q1.out.keep hB)
      replace A1 := Lib.hid (A1.out.keep hB)
      replace B1 := Lib.hid (B1.out.keep hB)
      replace A2 := Lib.hid (A2.out.keep hB)
      replace B2 := Lib.hid (B2.out.keep hB)
      replace A3 := Lib.hid (A3.out.keep hB)
      replace B3 := Lib.hid (B3.out.keep hB)
      replace A4 := Lib.hid (A4.out.keep hB)
      replace B4 := Lib.hid (B4.out.keep hB)
      clear hB
      have A2a := A2.out.c0
      have A2b := A2.out.c1
      have B2a := B2.out.c0
      have B2b := B2.out.c1
      go_wp2_with fail
      refine (is_same _ _ _ _).mono ?_
      rintro e Y19 ⟨rfl, hB⟩
      clear A2a A2b
      clear B2a B2b
      replace HW1 := Lib.hid (HW1.out.trans (hB.mono HW1.out.size))
      replace N0 := Lib.hid (N0.out.keep hB)
      replace N1 := Lib.hid (N1.out.keep hB)
      replace Q0 := Lib.hid (Q0.out.keep hB)
      replace Q1 := Lib.hid (Q1.out.keep hB)
      replace A1 := Lib.hid (A1.out.keep hB)
      replace B1 := Lib.hid (B1.out.keep hB)
      replace A2 := Lib.hid (A2.out.keep hB)
      replace B2 := Lib.hid (B2.out.keep hB)
      replace A3 := Lib.hid (A3.out.keep hB)
      replace B3 := Lib.hid (B3.out.keep hB)
      replace A4 := Lib.hid (A4.out.keep hB)
      replace B4 := Lib.hid (B4.out.keep hB)
      clear hB
      have A3a := A3.out.c0
      have A3b := A3.out.c1
      have B3a := B3.out.c0
      have B3b := B3.out.c1
      go_wp2_with fail
      refine (is_same _ _ _ _).mono ?_
      rintro e Y20 ⟨rfl, hB⟩
      clear A3a A3b
      clear B3a B3b
      replace HW1 := Lib.hid (HW1.out.trans (hB.mono HW1.out.size))
      replace N0 := Lib.hid (N0.out.keep hB)
      replace N1 := Lib.hid (N1.out.keep hB)
      replace Q0 := Lib.hid (Q0.out.keep hB)
      replace Q1 := Lib.hid (Q1.out.keep hB)
      replace A1 := Lib.hid (A1.out.keep hB)
      replace B1 := Lib.hid (B1.out.keep hB)
      replace A2 := Lib.hid (A2.out.keep hB)
      replace B2 := Lib.hid (B2.out.keep hB)
      replace A3 := Lib.hid (A3.out.keep hB)
      replace B3 := Lib.hid (B3.out.keep hB)
      replace A4 := Lib.hid (A4.out.keep hB)
      replace B4 := Lib.hid (B4.out.keep hB)
      clear hB
      have A4a := A4.out.c0
      have A4b := A4.out.c1
      have B4a := B4.out.c0
      have B4b := B4.out.c1
      go_wp2_with fail
      refine (is_same _ _ _ _).mono ?_
      rintro e Y21 ⟨rfl, hB⟩
      clear A4a A4b
      clear B4a B4b
      replace HW1 := Lib.hid (HW1.out.trans (hB.mono HW1.out.size))
      replace N0 := Lib.hid (N0.out.keep hB)
      replace N1 := Lib.hid (N1.out.keep hB)
      replace Q0 := Lib.hid (Q0.out.keep hB)
      replace Q1 := Lib.hid (Q1.out.keep hB)
      replace A1 := Lib.hid (A1.out.keep hB)
      replace B1 := Lib.hid (B1.out.keep hB)
      replace A2 := Lib.hid (A2.out.keep hB)
      replace B2 := Lib.hid (B2.out.keep hB)
      replace A3 := Lib.hid (A3.out.keep hB)
      replace B3 := Lib.hid (B3.out.keep hB)
      replace A4 := Lib.hid (A4.out.keep hB)
      replace B4 := Lib.hid (B4.out.keep hB)
      clear hB
      go_wp2
      go_ret
      exact ⟨rfl, HW1.out⟩


end Go.Proofs.Ytjbjekejekmipaa
