/-
  tollhouselaw04.LampFroms (function 5): its walk: true for every signature and digest; nothing that was there is written.
-/
import Derived.Test.YtkonokjhpddbfaaDoorSignsWalk
import Derived.Test.YtkonokjhpddbfaaDoorLampM
namespace Go.Proofs.YtkonokjhpddbfaaDoor
open Go.RowKit
set_option linter.unusedVariables false

set_option maxRecDepth 100000 in
set_option maxHeartbeats 1000000 in
theorem lampFroms_walk (S d : List Nat) (w : World) (HTA : Hid (Tab w)) (HL : Hid (S.length = 1024)) (HP : Hid (∀ x ∈ S, x < 256)) (HDL : Hid (d.length = 32)) (HDP : Hid (∀ x ∈ d, x < 256)) :
    Calls Tryd.prog 5 #[.agg (w8 S).toArray, .agg (w8 d).toArray] w fun e w' => e = .returned (.bool true) ∧ Below w.heap.size w w' := by
  obtain ⟨f, r, hX, hmk⟩ := make_ex
  have HX := Lib.hid hX
  have HMK := Lib.hid hmk
  clear hX hmk
  have HAS : Hid ((Tryd.prog.info? 51).map (·.size) = some (w8 S).length) := Lib.hid (by rw [w8_length, HL.out]; exact info51)
  have HDS : Hid ((Tryd.prog.info? 29).map (·.size) = some (w8 d).length) := Lib.hid (by rw [w8_length, HDL.out]; exact info29)
  go_enter Tryd.func5, Tryd.ntmps5
  go_upto_region 1 with fail
  have HA : Hid (Blk ((w.alloc (.cells (w8 S).toArray 51)).alloc (.cells (w8 d).toArray 29)) w.heap.size 51 (w8 S)) := Lib.hid (by
    have h := (Blk.new w 51 (w8 S)).alloc (.cells (w8 d).toArray 29)
    exact h)
  have HD : Hid (Blk ((w.alloc (.cells (w8 S).toArray 51)).alloc (.cells (w8 d).toArray 29)) (w.heap.size + 1) 29 (w8 d)) := Lib.hid (by
    have h := Blk.new (w.alloc (.cells (w8 S).toArray 51)) 29 (w8 d)
    rw [World.size_alloc] at h
    exact h)
  have HWB : Hid (Below w.heap.size w ((w.alloc (.cells (w8 S).toArray 51)).alloc (.cells (w8 d).toArray 29))) := Lib.hid (((Below.refl _ _).alloc (Nat.le_refl _) _).alloc (by simp) _)
  generalize ((w.alloc (.cells (w8 S).toArray 51)).alloc (.cells (w8 d).toArray 29)) = B at HA HD HWB ⊢
  have HTB : Hid (∀ X, Below B.heap.size B X → Tab X) := Lib.hid fun X hX => HTA.out.below (HWB.out.trans (hX.mono HWB.out.size)) HTA.out.lt
  have HWb : Hid (Below B.heap.size B B) := Lib.hid (Below.refl _ _)
  have heq : ∀ W : World, (binOp .eql 36 (.agg (w8 (fromN S d)).toArray) (.agg (w8 (fromN S d)).toArray)).run Tryd.prog W = .ok (.bool true) W := fun W => eql_same _ (fromN_length _ _) W
  have HWX0 : Hid (Below B.heap.size B B.drew) := Lib.hid (below_drewN HWb.out 1)
  refine wp_region_held_drew (S := fun w' => Below B.heap.size B w') (by kernel_rfl) (HWX0.out) (fun hHeld => ?_)
  generalize B.drew = X0 at hHeld  HWX0 ⊢
  refine wpAnyH_ready (rs := [0]) (by kernel_rfl) (by simp) ?_
  refine AllReadyH.cons rfl (fun K hK => ?_) AllReadyH.nil
  refine step_call rfl 21 #[] #[] rfl #[] (by simp) (by go_simp) (awake4_any X0 (Lib.hid (HTB.out X0 HWX0.out))) ?_
  rintro e X1 ⟨rfl, hB⟩
  have HWX1 := Lib.hid (HWX0.out.trans (hB.mono HWX0.out.size))
  clear hB HWX0  
  refine ⟨_, rfl, hK.out _ _ (HWX1.out) (fun hHeld => ?_)⟩
  clear hK K
  show wpAnyH _ _ _ _ _ _ _ (Act.put _ (some 5) _) _
  simp only [Act.put, List.setIfInBounds_toArray, List.set_cons_zero, List.set_cons_succ]
  refine wpAnyH_take (i := 1) (v := .bool true) rfl (by kernel_rfl) (by kernel_rfl) (by kernel_rfl) (fun _ _ _ h => h) (Or.inl ⟨by rfl, fun w _ => by rfl⟩) hHeld ?_
  show wpAnyH _ _ _ _ _ _ _ (Act.put _ (some 6) _) _
  simp only [Act.put, List.setIfInBounds_toArray, List.set_cons_zero, List.set_cons_succ]
  refine wpAnyH_take (i := 2) (v := .agg (w8 S).toArray) rfl (by kernel_rfl) (by kernel_rfl) (by kernel_rfl) (fun _ _ _ h => h) (yieldsIf_load_mid (by rfl) 51 (.tmp 2) rfl w.heap.size 0 rfl (w8 S) _ (fun w' h => (HA.out.below h HA.out.lt).all) Tryd.underlying51 rfl HAS.out) hHeld ?_
  show wpAnyH _ _ _ _ _ _ _ (Act.put _ (some 7) _) _
  simp only [Act.put, List.setIfInBounds_toArray, List.set_cons_zero, List.set_cons_succ]
  refine wpAnyH_take (i := 4) (v := .agg (w8 d).toArray) rfl (by kernel_rfl) (by kernel_rfl) (by kernel_rfl) (fun _ _ _ h => h) (yieldsIf_load_mid (by rfl) 29 (.tmp 3) rfl (w.heap.size + 1) 0 rfl (w8 d) _ (fun w' h => (HD.out.below h HD.out.lt).all) Tryd.underlying29 rfl HDS.out) hHeld ?_
  show wpAnyH _ _ _ _ _ _ _ (Act.put _ (some 9) _) _
  simp only [Act.put, List.setIfInBounds_toArray, List.set_cons_zero, List.set_cons_succ]
  refine wpAnyH_take (i := 7) (v := .agg (w8 S).toArray) rfl (by kernel_rfl) (by kernel_rfl) (by kernel_rfl) (fun _ _ _ h => h) (yieldsIf_load_mid (by rfl) 51 (.tmp 2) rfl w.heap.size 0 rfl (w8 S) _ (fun w' h => (HA.out.below h HA.out.lt).all) Tryd.underlying51 rfl HAS.out) hHeld ?_
  show wpAnyH _ _ _ _ _ _ _ (Act.put _ (some 12) _) _
  simp only [Act.put, List.setIfInBounds_toArray, List.set_cons_zero, List.set_cons_succ]
  refine wpAnyH_take (i := 8) (v := .agg (w8 d).toArray) rfl (by kernel_rfl) (by kernel_rfl) (by kernel_rfl) (fun _ _ _ h => h) (yieldsIf_load_mid (by rfl) 29 (.tmp 3) rfl (w.heap.size + 1) 0 rfl (w8 d) _ (fun w' h => (HD.out.below h HD.out.lt).all) Tryd.underlying29 rfl HDS.out) hHeld ?_
  show wpAnyH _ _ _ _ _ _ _ (Act.put _ (some 13) _) _
  simp only [Act.put, List.setIfInBounds_toArray, List.set_cons_zero, List.set_cons_succ]
  refine wpAnyH_ready (rs := [3]) (by kernel_rfl) (by simp) ?_
  refine AllReadyH.cons rfl (fun K hK => ?_) AllReadyH.nil
  refine step_call rfl 27 #[.tmp 7] #[51] rfl #[.agg (w8 S).toArray] (by simp [Act.eval]) (by go_simp) (to_any S X1 HL) ?_
  rintro e X2 ⟨rfl, hB⟩
  have HWX2 := Lib.hid (HWX1.out.trans (hB.mono HWX1.out.size))
  clear hB HWX1  
  refine ⟨_, rfl, hK.out _ _ (HWX2.out) (fun hHeld => ?_)⟩
  clear hK K
  show wpAnyH _ _ _ _ _ _ _ (Act.put _ (some 8) _) _
  simp only [Act.put, List.setIfInBounds_toArray, List.set_cons_zero, List.set_cons_succ]
  refine wpAnyH_ready (rs := [5]) (by kernel_rfl) (by simp) ?_
  refine AllReadyH.cons rfl (fun K hK => ?_) AllReadyH.nil
  refine step_call rfl 28 #[.tmp 8, .tmp 9] #[56, 36] rfl #[.agg (w8 S).toArray, .agg (w8 d).toArray] (by simp [Act.eval]) (by go_simp) (from_any S d X2 (Lib.hid (HTB.out X2 HWX2.out)) HL HP HDL HDP) ?_
  rintro e X3 ⟨rfl, hB⟩
  have HWX3 := Lib.hid (HWX2.out.trans (hB.mono HWX2.out.size))
  clear hB HWX2  
  refine ⟨_, rfl, hK.out _ _ (HWX3.out) (fun hHeld => ?_)⟩
  clear hK K
  show wpAnyH _ _ _ _ _ _ _ (Act.put _ (some 10) _) _
  simp only [Act.put, List.setIfInBounds_toArray, List.set_cons_zero, List.set_cons_succ]
  refine wpAnyH_ready (rs := [6]) (by kernel_rfl) (by simp) ?_
  refine AllReadyH.cons rfl (fun K hK => ?_) AllReadyH.nil
  refine step_call rfl 19 #[] #[] rfl #[] (by simp) (by go_simp) (HMK.out X3) ?_
  rintro e X4 ⟨rfl, hB⟩
  have HWX4 := Lib.hid (HWX3.out.trans (hB.mono HWX3.out.size))
  clear hB HWX3  
  refine ⟨_, rfl, hK.out _ _ (HWX4.out) (fun hHeld => ?_)⟩
  clear hK K
  show wpAnyH _ _ _ _ _ _ _ (Act.put _ (some 11) _) _
  simp only [Act.put, List.setIfInBounds_toArray, List.set_cons_zero, List.set_cons_succ]
  refine wpAnyH_ready (rs := [9]) (by kernel_rfl) (by simp) ?_
  refine AllReadyH.cons rfl (fun K hK => ?_) AllReadyH.nil
  refine step_call rfl 29 #[.tmp 11, .tmp 12, .tmp 13] #[40, 51, 29] rfl #[.agg #[.string f, .string r], .agg (w8 S).toArray, .agg (w8 d).toArray] (by simp [Act.eval]) (by go_simp) (rfrom_any f r S d X4 HX HL HP HDL HDP) ?_
  rintro e X5 ⟨rfl, hB⟩
  have HWX5 := Lib.hid (HWX4.out.trans (hB.mono HWX4.out.size))
  clear hB HWX4  
  refine ⟨_, rfl, hK.out _ _ (HWX5.out) (fun hHeld => ?_)⟩
  clear hK K
  show wpAnyH _ _ _ _ _ _ _ (Act.put _ (some 14) _) _
  simp only [Act.put, List.setIfInBounds_toArray, List.set_cons_zero, List.set_cons_succ]
  refine wpAnyH_take (i := 10) (v := .bool true) rfl (by kernel_rfl) (by kernel_rfl) (by kernel_rfl) (fun _ _ _ h => h) (Or.inl ⟨by rfl, by intro w' _; go_simp⟩) hHeld ?_
  show wpAnyH _ _ _ _ _ _ _ (Act.put _ (some 15) _) _
  simp only [Act.put, List.setIfInBounds_toArray, List.set_cons_zero, List.set_cons_succ]
  refine wpAnyH_take (i := 11) (v := .bool true) rfl (by kernel_rfl) (by kernel_rfl) (by kernel_rfl) (fun _ _ _ h => h) (Or.inl ⟨by rfl, by intro w' _; first | rfl | go_simp⟩) hHeld ?_
  show wpAnyH _ _ _ _ _ _ _ (Act.put _ (some 16) _) _
  simp only [Act.put, List.setIfInBounds_toArray, List.set_cons_zero, List.set_cons_succ]
  refine wpAnyH_take (i := 12) (v := .bool true) rfl (by kernel_rfl) (by kernel_rfl) (by kernel_rfl) (fun _ _ _ h => h) (Or.inl ⟨by rfl, fun w _ => by rfl⟩) hHeld ?_
  show wpAnyH _ _ _ _ _ _ _ (Act.put _ (some 4) _) _
  simp only [Act.put, List.setIfInBounds_toArray, List.set_cons_zero, List.set_cons_succ]
  refine wpAnyH_done (by kernel_rfl) ?_ _
  go_wp2
  go_ret
  exact ⟨rfl, HWB.out.trans (HWX5.out.mono HWB.out.size)⟩
end Go.Proofs.YtkonokjhpddbfaaDoor
