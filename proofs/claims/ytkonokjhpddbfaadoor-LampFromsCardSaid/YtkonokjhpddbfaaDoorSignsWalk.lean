/-
  tollhouselaw04.LampSigns (function 4): its walk: true for every seed, number and digest; nothing that was there is written.
-/
import Derived.Test.YtkonokjhpddbfaaDoorLampF
import Derived.Test.YtkonokjhpddbfaaDoorLampJ
import Derived.Test.YtkonokjhpddbfaaDoorLampK
import Derived.Test.YtkonokjhpddbfaaDoorLampL
import Derived.Test.YtkonokjhpddbfaaDoorSumsWalk
namespace Go.Proofs.YtkonokjhpddbfaaDoor
open Go.RowKit
set_option linter.unusedVariables false

theorem make_ex : ∃ f r : ByteArray, Texts f r ∧ ∀ w : World, Calls Tryd.prog 19 #[] w fun e w' => e = .returned (.agg #[.string f, .string r]) ∧ Below w.heap.size w w' := ⟨firstText, roundText, texts, make_any⟩

set_option maxRecDepth 100000 in
set_option maxHeartbeats 1000000 in
theorem lampSigns_walk (seed : List Nat) (n : Nat) (d : List Nat) (w : World) (HTA : Hid (Tab w)) (HL : Hid (seed.length = 32)) (HP : Hid (∀ x ∈ seed, x < 256)) (hn : n < 4294967296) (HDL : Hid (d.length = 32)) (HDP : Hid (∀ x ∈ d, x < 256)) :
    Calls Tryd.prog 4 #[.agg (w8 seed).toArray, .int .u32 (n : Int), .agg (w8 d).toArray] w fun e w' => e = .returned (.bool true) ∧ Below w.heap.size w w' := by
  obtain ⟨f, r, hX, hmk⟩ := make_ex
  have HX := Lib.hid hX
  have HMK := Lib.hid hmk
  clear hX hmk
  have HAS : Hid ((Tryd.prog.info? 29).map (·.size) = some (w8 seed).length) := Lib.hid (by rw [w8_length, HL.out]; exact info29)
  have HDS : Hid ((Tryd.prog.info? 29).map (·.size) = some (w8 d).length) := Lib.hid (by rw [w8_length, HDL.out]; exact info29)
  have HKS : Hid ((Tryd.prog.info? 43).map (·.size) = some (keyC seed n).length) := Lib.hid (by rw [keyC_length _ _ HL.out]; exact info43)
  go_enter Tryd.func4, Tryd.ntmps4
  go_upto_region 1 with fail
  have HA0 : Hid (Blk ((w.alloc (.cells (w8 seed).toArray 29)).alloc (.cells (w8 d).toArray 29)) w.heap.size 29 (w8 seed)) := Lib.hid (by
    have h := (Blk.new w 29 (w8 seed)).alloc (.cells (w8 d).toArray 29)
    exact h)
  have HD0 : Hid (Blk ((w.alloc (.cells (w8 seed).toArray 29)).alloc (.cells (w8 d).toArray 29)) (w.heap.size + 1) 29 (w8 d)) := Lib.hid (by
    have h := Blk.new (w.alloc (.cells (w8 seed).toArray 29)) 29 (w8 d)
    rw [World.size_alloc] at h
    exact h)
  have HW : Hid (Below w.heap.size w ((w.alloc (.cells (w8 seed).toArray 29)).alloc (.cells (w8 d).toArray 29))) := Lib.hid (((Below.refl _ _).alloc (Nat.le_refl _) _).alloc (by simp) _)
  generalize ((w.alloc (.cells (w8 seed).toArray 29)).alloc (.cells (w8 d).toArray 29)) = V at HA0 HD0 HW ⊢
  go_wp2_with fail
  refine (HMK.out V).mono ?_
  rintro e w1 ⟨rfl, hB1⟩
  have HW1 := Lib.hid (HW.out.trans (hB1.mono HW.out.size))
  have HA1 := Lib.hid (HA0.out.below hB1 HA0.out.lt)
  have HD1 := Lib.hid (HD0.out.below hB1 HD0.out.lt)
  clear hB1 HA0 HD0 HW
  go_upto_region 2 with fail
  have HT2 : Hid (Blk (w1.alloc (.cells #[.string f, .string r] 40)) w1.heap.size 40 ([.string f, .string r])) := Lib.hid (by
    have h := Blk.new w1 40 ([.string f, .string r])
    exact h)
  have HV2 : Hid (Below w1.heap.size w1 (w1.alloc (.cells #[.string f, .string r] 40))) := Lib.hid ((Below.refl _ _).alloc (Nat.le_refl _) _)
  generalize (w1.alloc (.cells #[.string f, .string r] 40)) = V2 at HT2 HV2 ⊢
  have HW2 := Lib.hid (HW1.out.trans (HV2.out.mono HW1.out.size))
  have HA2 := Lib.hid (HA1.out.below HV2.out HA1.out.lt)
  have HD2 := Lib.hid (HD1.out.below HV2.out HD1.out.lt)
  generalize w1.heap.size = gT at HT2 ⊢
  have HAR := Lib.hid HA2.out.all
  go_wp2_with (first | (refine wpList_load_mid rfl 29 (.tmp 3) rfl w.heap.size 0 rfl (w8 seed) _ HAR.out Tryd.underlying29 rfl HAS.out ?_))
  refine (lampnew_any seed n V2 HL hn).mono ?_
  rintro e w3 ⟨rfl, hB3⟩
  have HW3 := Lib.hid (HW2.out.trans (hB3.mono HW2.out.size))
  have HA3 := Lib.hid (HA2.out.below hB3 HA2.out.lt)
  have HD3 := Lib.hid (HD2.out.below hB3 HD2.out.lt)
  have HT3 := Lib.hid (HT2.out.below hB3 HT2.out.lt)
  clear hB3 HA1 HD1 HA2 HD2 HT2 HAR HV2 HW1 HW2
  have HL1 := Lib.hid (heap_alloc_last w3 (.cells zkey 43))
  have HS1 : Hid ((Tryd.prog.info? 43).map (·.size) = some (keyC seed n).toArray.size) := Lib.hid (by rw [List.size_toArray]; exact HKS.out)
  have HZK : Hid (zkey.size = (keyC seed n).toArray.size) := Lib.hid (Eq.trans (b := 33) rfl (by rw [List.size_toArray, keyC_length _ _ HL.out]))
  have HO1 := Lib.hid (all_oneCell_toArray (keyC_one seed n))
  go_upto_region 3 with (first | (refine wpList_store_row rfl 43 (.tmp 8) (.tmp 12) rfl w3.heap.size (keyC seed n).toArray rfl rfl 43 _ HL1.out HS1.out HZK.out HO1.out ?_; rw [World.setRow_alloc_new]))
  have HK : Hid (Blk (w3.alloc (.cells (keyC seed n).toArray 43)) w3.heap.size 43 (keyC seed n)) := Lib.hid (by
    have h := Blk.new w3 43 (keyC seed n)
    exact h)
  have HV4 : Hid (Below w3.heap.size w3 (w3.alloc (.cells (keyC seed n).toArray 43))) := Lib.hid ((Below.refl _ _).alloc (Nat.le_refl _) _)
  generalize (w3.alloc (.cells (keyC seed n).toArray 43)) = B at HK HV4 ⊢
  have HWB := Lib.hid (HW3.out.trans (HV4.out.mono HW3.out.size))
  have HA := Lib.hid (HA3.out.below HV4.out HA3.out.lt)
  have HD := Lib.hid (HD3.out.below HV4.out HD3.out.lt)
  have HT := Lib.hid (HT3.out.below HV4.out HT3.out.lt)
  generalize w3.heap.size = gK at HK ⊢
  clear HA3 HD3 HT3 HV4 HL1 HS1 HZK HO1 HW3
  have HTB : Hid (∀ X, Below B.heap.size B X → Tab X) := Lib.hid fun X hX => HTA.out.below (HWB.out.trans (hX.mono HWB.out.size)) HTA.out.lt
  have HWb : Hid (Below B.heap.size B B) := Lib.hid (Below.refl _ _)
  have heq : ∀ W : World, (binOp .eql 36 (.agg (w8 (leafN seed n)).toArray) (.agg (w8 (leafN seed n)).toArray)).run Tryd.prog W = .ok (.bool true) W := fun W => eql_same _ (leafN_length _ _) W
  have heq2 := eql_sig (signN seed n d) (signN_length _ _ _)
  have HWX0 : Hid (Below B.heap.size B B.drew) := Lib.hid (below_drewN HWb.out 1)
  refine wp_region_held_drew (S := fun w' => Below B.heap.size B w') (by kernel_rfl) (HWX0.out) (fun hHeld => ?_)
  generalize B.drew = X0 at hHeld  HWX0 ⊢
  refine wpAnyH_ready (rs := [0]) (by kernel_rfl) (by simp) ?_
  refine AllReadyH.cons rfl (fun K hK => ?_) AllReadyH.nil
  refine step_call rfl 21 #[] #[] rfl #[] (by simp) (by go_simp) (awake4_any X0 (Lib.hid (HTB.out X0 HWX0.out))) ?_
  rintro e X1 ⟨rfl, hB⟩
  have HWX1 := Lib.hid (HWX0.out.trans (hB.mono HWX0.out.size))
  clear hB HWX0  
  refine ⟨_, rfl, hK.out _ _ (HWX1.out) (fun hHeld => ?_)⟩
  clear hK K
  show wpAnyH _ _ _ _ _ _ _ (Act.put _ (some 13) _) _
  simp only [Act.put, List.setIfInBounds_toArray, List.set_cons_zero, List.set_cons_succ]
  refine wpAnyH_take (i := 1) (v := .bool true) rfl (by kernel_rfl) (by kernel_rfl) (by kernel_rfl) (fun _ _ _ h => h) (Or.inl ⟨by rfl, fun w _ => by rfl⟩) hHeld ?_
  show wpAnyH _ _ _ _ _ _ _ (Act.put _ (some 14) _) _
  simp only [Act.put, List.setIfInBounds_toArray, List.set_cons_zero, List.set_cons_succ]
  refine wpAnyH_take (i := 2) (v := .agg (keyC seed n).toArray) rfl (by kernel_rfl) (by kernel_rfl) (by kernel_rfl) (fun _ _ _ h => h) (yieldsIf_load_mid (by rfl) 43 (.tmp 8) rfl gK 0 rfl (keyC seed n) _ (fun w' h => (HK.out.below h HK.out.lt).all) Tryd.underlying43 rfl HKS.out) hHeld ?_
  show wpAnyH _ _ _ _ _ _ _ (Act.put _ (some 15) _) _
  simp only [Act.put, List.setIfInBounds_toArray, List.set_cons_zero, List.set_cons_succ]
  refine wpAnyH_take (i := 4) (v := .agg #[.string f, .string r]) rfl (by kernel_rfl) (by kernel_rfl) (by kernel_rfl) (fun _ _ _ h => h) (yieldsIf_load_mid (by rfl) 40 (.tmp 7) rfl gT 0 rfl [.string f, .string r] _ (fun w' h => (HT.out.below h HT.out.lt).all) Tryd.underlying40 rfl info40) hHeld ?_
  show wpAnyH _ _ _ _ _ _ _ (Act.put _ (some 17) _) _
  simp only [Act.put, List.setIfInBounds_toArray, List.set_cons_zero, List.set_cons_succ]
  refine wpAnyH_take (i := 5) (v := .agg (w8 seed).toArray) rfl (by kernel_rfl) (by kernel_rfl) (by kernel_rfl) (fun _ _ _ h => h) (yieldsIf_load_mid (by rfl) 29 (.tmp 3) rfl w.heap.size 0 rfl (w8 seed) _ (fun w' h => (HA.out.below h HA.out.lt).all) Tryd.underlying29 rfl HAS.out) hHeld ?_
  show wpAnyH _ _ _ _ _ _ _ (Act.put _ (some 18) _) _
  simp only [Act.put, List.setIfInBounds_toArray, List.set_cons_zero, List.set_cons_succ]
  refine wpAnyH_take (i := 6) (v := .int .u32 (n : Int)) rfl (by kernel_rfl) (by kernel_rfl) (by kernel_rfl) (fun _ _ _ h => h) (Or.inl ⟨by rfl, fun w _ => by rfl⟩) hHeld ?_
  show wpAnyH _ _ _ _ _ _ _ (Act.put _ (some 19) _) _
  simp only [Act.put, List.setIfInBounds_toArray, List.set_cons_zero, List.set_cons_succ]
  refine wpAnyH_ready (rs := [3]) (by kernel_rfl) (by simp) ?_
  refine AllReadyH.cons rfl (fun K hK => ?_) AllReadyH.nil
  refine step_call rfl 22 #[.tmp 15] #[43] rfl #[.agg (keyC seed n).toArray] (by simp [Act.eval]) (by go_simp) (leaf_any seed n X1 (Lib.hid (HTB.out X1 HWX1.out)) HL HP hn) ?_
  rintro e X2 ⟨rfl, hB⟩
  have HWX2 := Lib.hid (HWX1.out.trans (hB.mono HWX1.out.size))
  clear hB HWX1  
  refine ⟨_, rfl, hK.out _ _ (HWX2.out) (fun hHeld => ?_)⟩
  clear hK K
  show wpAnyH _ _ _ _ _ _ _ (Act.put _ (some 16) _) _
  simp only [Act.put, List.setIfInBounds_toArray, List.set_cons_zero, List.set_cons_succ]
  refine wpAnyH_ready (rs := [7]) (by kernel_rfl) (by simp) ?_
  refine AllReadyH.cons rfl (fun K hK => ?_) AllReadyH.nil
  refine step_call rfl 23 #[.tmp 17, .tmp 18, .tmp 19] #[40, 29, 38] rfl #[.agg #[.string f, .string r], .agg (w8 seed).toArray, .int .u32 (n : Int)] (by simp [Act.eval]) (by go_simp) (rleaf_any f r seed n X2 HX HL HP hn) ?_
  rintro e X3 ⟨rfl, hB⟩
  have HWX3 := Lib.hid (HWX2.out.trans (hB.mono HWX2.out.size))
  clear hB HWX2  
  refine ⟨_, rfl, hK.out _ _ (HWX3.out) (fun hHeld => ?_)⟩
  clear hK K
  show wpAnyH _ _ _ _ _ _ _ (Act.put _ (some 20) _) _
  simp only [Act.put, List.setIfInBounds_toArray, List.set_cons_zero, List.set_cons_succ]
  refine wpAnyH_take (i := 8) (v := .bool true) rfl (by kernel_rfl) (by kernel_rfl) (by kernel_rfl) (fun _ _ _ h => h) (Or.inl ⟨by rfl, by intro w' _; go_simp⟩) hHeld ?_
  show wpAnyH _ _ _ _ _ _ _ (Act.put _ (some 21) _) _
  simp only [Act.put, List.setIfInBounds_toArray, List.set_cons_zero, List.set_cons_succ]
  refine wpAnyH_take (i := 9) (v := .bool true) rfl (by kernel_rfl) (by kernel_rfl) (by kernel_rfl) (fun _ _ _ h => h) (Or.inl ⟨by rfl, by intro w' _; first | rfl | go_simp⟩) hHeld ?_
  show wpAnyH _ _ _ _ _ _ _ (Act.put _ (some 22) _) _
  simp only [Act.put, List.setIfInBounds_toArray, List.set_cons_zero, List.set_cons_succ]
  refine wpAnyH_take (i := 10) (v := .bool true) rfl (by kernel_rfl) (by kernel_rfl) (by kernel_rfl) (fun _ _ _ h => h) (Or.inl ⟨by rfl, fun w _ => by rfl⟩) hHeld ?_
  show wpAnyH _ _ _ _ _ _ _ (Act.put _ (some 23) _) _
  simp only [Act.put, List.setIfInBounds_toArray, List.set_cons_zero, List.set_cons_succ]
  refine wpAnyH_take (i := 11) (v := .agg (keyC seed n).toArray) rfl (by kernel_rfl) (by kernel_rfl) (by kernel_rfl) (fun _ _ _ h => h) (yieldsIf_load_mid (by rfl) 43 (.tmp 8) rfl gK 0 rfl (keyC seed n) _ (fun w' h => (HK.out.below h HK.out.lt).all) Tryd.underlying43 rfl HKS.out) hHeld ?_
  show wpAnyH _ _ _ _ _ _ _ (Act.put _ (some 24) _) _
  simp only [Act.put, List.setIfInBounds_toArray, List.set_cons_zero, List.set_cons_succ]
  refine wpAnyH_take (i := 12) (v := .agg (w8 d).toArray) rfl (by kernel_rfl) (by kernel_rfl) (by kernel_rfl) (fun _ _ _ h => h) (yieldsIf_load_mid (by rfl) 29 (.tmp 5) rfl (w.heap.size + 1) 0 rfl (w8 d) _ (fun w' h => (HD.out.below h HD.out.lt).all) Tryd.underlying29 rfl HDS.out) hHeld ?_
  show wpAnyH _ _ _ _ _ _ _ (Act.put _ (some 25) _) _
  simp only [Act.put, List.setIfInBounds_toArray, List.set_cons_zero, List.set_cons_succ]
  refine wpAnyH_take (i := 15) (v := .agg #[.string f, .string r]) rfl (by kernel_rfl) (by kernel_rfl) (by kernel_rfl) (fun _ _ _ h => h) (yieldsIf_load_mid (by rfl) 40 (.tmp 7) rfl gT 0 rfl [.string f, .string r] _ (fun w' h => (HT.out.below h HT.out.lt).all) Tryd.underlying40 rfl info40) hHeld ?_
  show wpAnyH _ _ _ _ _ _ _ (Act.put _ (some 28) _) _
  simp only [Act.put, List.setIfInBounds_toArray, List.set_cons_zero, List.set_cons_succ]
  refine wpAnyH_take (i := 16) (v := .agg (w8 seed).toArray) rfl (by kernel_rfl) (by kernel_rfl) (by kernel_rfl) (fun _ _ _ h => h) (yieldsIf_load_mid (by rfl) 29 (.tmp 3) rfl w.heap.size 0 rfl (w8 seed) _ (fun w' h => (HA.out.below h HA.out.lt).all) Tryd.underlying29 rfl HAS.out) hHeld ?_
  show wpAnyH _ _ _ _ _ _ _ (Act.put _ (some 29) _) _
  simp only [Act.put, List.setIfInBounds_toArray, List.set_cons_zero, List.set_cons_succ]
  refine wpAnyH_take (i := 17) (v := .int .u32 (n : Int)) rfl (by kernel_rfl) (by kernel_rfl) (by kernel_rfl) (fun _ _ _ h => h) (Or.inl ⟨by rfl, fun w _ => by rfl⟩) hHeld ?_
  show wpAnyH _ _ _ _ _ _ _ (Act.put _ (some 30) _) _
  simp only [Act.put, List.setIfInBounds_toArray, List.set_cons_zero, List.set_cons_succ]
  refine wpAnyH_take (i := 18) (v := .agg (w8 d).toArray) rfl (by kernel_rfl) (by kernel_rfl) (by kernel_rfl) (fun _ _ _ h => h) (yieldsIf_load_mid (by rfl) 29 (.tmp 5) rfl (w.heap.size + 1) 0 rfl (w8 d) _ (fun w' h => (HD.out.below h HD.out.lt).all) Tryd.underlying29 rfl HDS.out) hHeld ?_
  show wpAnyH _ _ _ _ _ _ _ (Act.put _ (some 31) _) _
  simp only [Act.put, List.setIfInBounds_toArray, List.set_cons_zero, List.set_cons_succ]
  refine wpAnyH_ready (rs := [13]) (by kernel_rfl) (by simp) ?_
  refine AllReadyH.cons rfl (fun K hK => ?_) AllReadyH.nil
  refine step_call rfl 25 #[.tmp 24, .tmp 25] #[43, 36] rfl #[.agg (keyC seed n).toArray, .agg (w8 d).toArray] (by simp [Act.eval]) (by go_simp) (sign_any seed n d X3 (Lib.hid (HTB.out X3 HWX3.out)) HL HP hn HDL HDP) ?_
  rintro e X4 ⟨rfl, hB⟩
  have HWX4 := Lib.hid (HWX3.out.trans (hB.mono HWX3.out.size))
  clear hB HWX3  
  refine ⟨_, rfl, hK.out _ _ (HWX4.out) (fun hHeld => ?_)⟩
  clear hK K
  show wpAnyH _ _ _ _ _ _ _ (Act.put _ (some 26) _) _
  simp only [Act.put, List.setIfInBounds_toArray, List.set_cons_zero, List.set_cons_succ]
  refine wpAnyH_ready (rs := [14]) (by kernel_rfl) (by simp) ?_
  refine AllReadyH.cons rfl (fun K hK => ?_) AllReadyH.nil
  refine step_call rfl 24 #[.tmp 26] #[56] rfl #[.agg (w8 (signN seed n d)).toArray] (by simp [Act.eval]) (by go_simp) (lfrom_any _ X4 (Lib.hid (signN_length seed n d))) ?_
  rintro e X5 ⟨rfl, hB⟩
  have HWX5 := Lib.hid (HWX4.out.trans (hB.mono HWX4.out.size))
  clear hB HWX4  
  refine ⟨_, rfl, hK.out _ _ (HWX5.out) (fun hHeld => ?_)⟩
  clear hK K
  show wpAnyH _ _ _ _ _ _ _ (Act.put _ (some 27) _) _
  simp only [Act.put, List.setIfInBounds_toArray, List.set_cons_zero, List.set_cons_succ]
  refine wpAnyH_ready (rs := [19]) (by kernel_rfl) (by simp) ?_
  refine AllReadyH.cons rfl (fun K hK => ?_) AllReadyH.nil
  refine step_call rfl 26 #[.tmp 28, .tmp 29, .tmp 30, .tmp 31] #[40, 29, 38, 29] rfl #[.agg #[.string f, .string r], .agg (w8 seed).toArray, .int .u32 (n : Int), .agg (w8 d).toArray] (by simp [Act.eval]) (by go_simp) (rsign_any f r seed n d X5 HX HL HP hn HDL HDP) ?_
  rintro e X6 ⟨rfl, hB⟩
  have HWX6 := Lib.hid (HWX5.out.trans (hB.mono HWX5.out.size))
  clear hB HWX5  
  refine ⟨_, rfl, hK.out _ _ (HWX6.out) (fun hHeld => ?_)⟩
  clear hK K
  show wpAnyH _ _ _ _ _ _ _ (Act.put _ (some 32) _) _
  simp only [Act.put, List.setIfInBounds_toArray, List.set_cons_zero, List.set_cons_succ]
  refine wpAnyH_take (i := 20) (v := .bool true) rfl (by kernel_rfl) (by kernel_rfl) (by kernel_rfl) (fun _ _ _ h => h) (Or.inl ⟨by rfl, by intro w' _; go_simp⟩) hHeld ?_
  show wpAnyH _ _ _ _ _ _ _ (Act.put _ (some 33) _) _
  simp only [Act.put, List.setIfInBounds_toArray, List.set_cons_zero, List.set_cons_succ]
  refine wpAnyH_take (i := 21) (v := .bool true) rfl (by kernel_rfl) (by kernel_rfl) (by kernel_rfl) (fun _ _ _ h => h) (Or.inl ⟨by rfl, by intro w' _; first | rfl | go_simp⟩) hHeld ?_
  show wpAnyH _ _ _ _ _ _ _ (Act.put _ (some 34) _) _
  simp only [Act.put, List.setIfInBounds_toArray, List.set_cons_zero, List.set_cons_succ]
  refine wpAnyH_take (i := 22) (v := .bool true) rfl (by kernel_rfl) (by kernel_rfl) (by kernel_rfl) (fun _ _ _ h => h) (Or.inl ⟨by rfl, fun w _ => by rfl⟩) hHeld ?_
  show wpAnyH _ _ _ _ _ _ _ (Act.put _ (some 6) _) _
  simp only [Act.put, List.setIfInBounds_toArray, List.set_cons_zero, List.set_cons_succ]
  refine wpAnyH_done (by kernel_rfl) ?_ _
  go_wp2
  go_ret
  exact ⟨rfl, HWB.out.trans (HWX6.out.mono HWB.out.size)⟩
end Go.Proofs.YtkonokjhpddbfaaDoor
