/-
  tollhouselaw04.awake (function 21): the document's example answers true (the leaf of zero's seed isn't zero: worked out); nothing that was there is written.
-/
import Derived.Test.YtkonokjhpddbfaaDoorLampD
import Derived.Test.YtkonokjhpddbfaaDoorLampE
namespace Go.Proofs.YtkonokjhpddbfaaDoor
open Go.RowKit
set_option linter.unusedVariables false

def zseed : List Nat := List.replicate 32 0
def dig5 : List Nat := 5 :: List.replicate 31 0
theorem zseed_len : zseed.length = 32 := by simp [zseed]
theorem zseed_lt : ∀ x ∈ zseed, x < 256 := by intro x hx; rw [List.eq_of_mem_replicate hx]; omega
theorem dig5_len : dig5.length = 32 := by simp [dig5]
theorem dig5_lt : ∀ x ∈ dig5, x < 256 := by
  intro x hx
  rcases List.mem_cons.1 hx with rfl | hx
  · omega
  · rw [List.eq_of_mem_replicate hx]; omega
theorem leaf_nonzero : ¬ leafN zseed 0 = List.replicate 32 0 := by
  intro h
  have h1 := leaf_zero
  rw [show List.replicate 32 0 = zseed from rfl, h] at h1
  simp at h1
def zdig5 : Array Value := #[.int .u8 5, .int .u8 0, .int .u8 0, .int .u8 0, .int .u8 0, .int .u8 0, .int .u8 0, .int .u8 0, .int .u8 0, .int .u8 0, .int .u8 0, .int .u8 0, .int .u8 0, .int .u8 0, .int .u8 0, .int .u8 0, .int .u8 0, .int .u8 0, .int .u8 0, .int .u8 0, .int .u8 0, .int .u8 0, .int .u8 0, .int .u8 0, .int .u8 0, .int .u8 0, .int .u8 0, .int .u8 0, .int .u8 0, .int .u8 0, .int .u8 0, .int .u8 0]
theorem zdig5_eq : (w8 dig5).toArray = zdig5 := by kernel_rfl
theorem build5 (w : World) : (Instr.build 36 #[(0, .int .u8 5)]).run Tryd.prog w = .ok (.agg zdig5) w := run_build w 36 _ _ (by kernel_rfl)
theorem zs_ex : ∃ zs : List Nat, (w8 zs).toArray = zsum ∧ zs.length = 32 ∧ (∀ x ∈ zs, x < 256) ∧ ¬ leafN zs 0 = List.replicate 32 0 := ⟨zseed, zsum_eq, zseed_len, zseed_lt, leaf_nonzero⟩
theorem ds_ex : ∃ ds : List Nat, (w8 ds).toArray = zdig5 ∧ ds.length = 32 ∧ (∀ x ∈ ds, x < 256) := ⟨dig5, zdig5_eq, dig5_len, dig5_lt⟩
theorem from_own (s : List Nat) (n : Nat) (d : List Nat) (W : World) (hT : Tab W) (HDL : Hid (d.length = 32)) (HDP : Hid (∀ x ∈ d, x < 256)) : Calls Tryd.prog 28 #[.agg (w8 (signN s n d)).toArray, .agg (w8 d).toArray] W fun e w' => e = .returned (.agg (w8 (leafN s n)).toArray) ∧ Below W.heap.size W w' := by
  have h := from_any (signN s n d) d W (Lib.hid hT) (Lib.hid (signN_length _ _ _)) (Lib.hid (signN_lt _ _ _)) HDL HDP
  rw [from_sign] at h
  exact h


set_option maxRecDepth 100000 in
set_option maxHeartbeats 1000000 in
theorem awake4_any (w : World) (HT : Hid (Tab w)) : Calls Tryd.prog 21 #[] w fun e w' => e = .returned (.bool true) ∧ Below w.heap.size w w' := by
  obtain ⟨zs, hz0, hz1, hz2, hz3⟩ := zs_ex
  obtain ⟨ds, hd0, hd1, hd2⟩ := ds_ex
  have HZ0 := Lib.hid hz0
  have HZ1 := Lib.hid hz1
  have HZ2 := Lib.hid hz2
  have HZ3 := Lib.hid hz3
  have HD0 := Lib.hid hd0
  have HD1 := Lib.hid hd1
  have HD2 := Lib.hid hd2
  clear hz0 hz1 hz2 hz3 hd0 hd1 hd2
  have heq : ∀ W : World, (binOp .eql 36 (.agg (w8 (leafN zs 0)).toArray) (.agg (w8 (leafN zs 0)).toArray)).run Tryd.prog W = .ok (.bool true) W := fun W => eql_same _ (leafN_length _ _) W
  have hne : ∀ W : World, (binOp .neq 36 (.agg (w8 (leafN zs 0)).toArray) (.agg #[.int .u8 0, .int .u8 0, .int .u8 0, .int .u8 0, .int .u8 0, .int .u8 0, .int .u8 0, .int .u8 0, .int .u8 0, .int .u8 0, .int .u8 0, .int .u8 0, .int .u8 0, .int .u8 0, .int .u8 0, .int .u8 0, .int .u8 0, .int .u8 0, .int .u8 0, .int .u8 0, .int .u8 0, .int .u8 0, .int .u8 0, .int .u8 0, .int .u8 0, .int .u8 0, .int .u8 0, .int .u8 0, .int .u8 0, .int .u8 0, .int .u8 0, .int .u8 0])).run Tryd.prog W = .ok (.bool true) W := fun W => by
    have h := neq_row Tryd.underlying36 (leafN zs 0) (List.replicate 32 0) (leafN_length _ _) (by simp) W
    rw [zsum_eq] at h
    unfold zsum at h
    rw [h, decide_eq_false HZ3.out]
    rfl
  have HFR : Hid (∀ X : World, Tab X → Calls Tryd.prog 28 #[.agg (w8 (signN zs 0 ds)).toArray, .agg (w8 ds).toArray] X fun e w' => e = .returned (.agg (w8 (leafN zs 0)).toArray) ∧ Below X.heap.size X w') := Lib.hid fun X hX => from_own zs 0 ds X hX HD1 HD2
  have HIK : Hid ((Tryd.prog.info? 43).map (·.size) = some (keyC zs 0).length) := Lib.hid (by rw [keyC_length _ _ HZ1.out]; exact info43)
  have HID : Hid ((Tryd.prog.info? 36).map (·.size) = some (w8 ds).length) := Lib.hid (by rw [w8_length, HD1.out]; exact info36)
  go_enter Tryd.func21, Tryd.ntmps21
  go_wp2_with fail
  have hc := lampnew_any zs 0 w HZ1 (by omega)
  rw [HZ0.out] at hc
  unfold zsum at hc
  refine hc.mono ?_
  clear hc
  rintro e w1 ⟨rfl, hB1⟩
  have HB1 := Lib.hid hB1
  clear hB1
  have HL1 := Lib.hid (heap_alloc_last w1 (.cells zkey 43))
  have HS1 : Hid ((Tryd.prog.info? 43).map (·.size) = some (keyC zs 0).toArray.size) := Lib.hid (by rw [List.size_toArray]; exact HIK.out)
  have HZK : Hid (zkey.size = (keyC zs 0).toArray.size) := Lib.hid (Eq.trans (b := 33) rfl (by rw [List.size_toArray, keyC_length _ _ HZ1.out]))
  have HO1 := Lib.hid (all_oneCell_toArray (keyC_one zs 0))
  go_upto_region 2 with (first | (refine wpList_store_row rfl 43 (.tmp 1) (.tmp 4) rfl w1.heap.size (keyC zs 0).toArray rfl rfl 43 _ HL1.out HS1.out HZK.out HO1.out ?_; rw [World.setRow_alloc_new]))
  have HK2 : Hid (Blk (w1.alloc (.cells (keyC zs 0).toArray 43)) w1.heap.size 43 (keyC zs 0)) := Lib.hid (Blk.new _ _ _)
  have HW2 : Hid (Below w.heap.size w (w1.alloc (.cells (keyC zs 0).toArray 43))) := Lib.hid (HB1.out.alloc HB1.out.size _)
  generalize w1.alloc (.cells (keyC zs 0).toArray 43) = V2 at HK2 HW2 ⊢
  generalize w1.heap.size = gk at HK2 ⊢
  have HL2 := Lib.hid (heap_alloc_last V2 (.cells zsum 36))
  have HS2 : Hid ((Tryd.prog.info? 36).map (·.size) = some zdig5.size) := Lib.hid (by rw [← HD0.out, List.size_toArray]; exact HID.out)
  have HZ2b : Hid (zsum.size = zdig5.size) := Lib.hid rfl
  have HO2 : Hid (zdig5.all (·.oneCell') = true) := Lib.hid (by rw [← HD0.out]; exact all_oneCell_toArray (w8_one ds))
  go_upto_region 3 with (first | (refine wpList_built rfl 36 #[(0, .const (.int .u8 5))] rfl #[(0, .int .u8 5)] (by simp [Act.eval]) _ (build5 _) ?_) | (refine wpList_store_row rfl 36 (.tmp 2) (.tmp 5) rfl V2.heap.size zdig5 rfl rfl 36 _ HL2.out HS2.out HZ2b.out HO2.out ?_; rw [World.setRow_alloc_new]))
  have HKV3 : Hid (Blk (V2.alloc (.cells zdig5 36)) gk 43 (keyC zs 0)) := Lib.hid (HK2.out.alloc _)
  have HDV3 : Hid (Blk (V2.alloc (.cells zdig5 36)) V2.heap.size 36 (w8 ds)) := Lib.hid (by rw [← HD0.out]; exact Blk.new _ _ _)
  have HWV3 : Hid (Below w.heap.size w (V2.alloc (.cells zdig5 36))) := Lib.hid (HW2.out.alloc HW2.out.size _)
  generalize V2.alloc (.cells zdig5 36) = V3 at HKV3 HDV3 HWV3 ⊢
  refine wp_region_held_drew (S := fun w' => Blk w' gk 43 (keyC zs 0) ∧ Blk w' V2.heap.size 36 (w8 ds)) (by kernel_rfl) (⟨HKV3.out.drewN 1, HDV3.out.drewN 1⟩) (fun hHeld => ?_)
  have HKX0 : Hid (Blk V3.drew gk 43 (keyC zs 0)) := Lib.hid (HKV3.out.drewN 1)
  have HDX0 : Hid (Blk V3.drew V2.heap.size 36 (w8 ds)) := Lib.hid (HDV3.out.drewN 1)
  have HWX0 : Hid (Below w.heap.size w V3.drew) := Lib.hid (below_drewN HWV3.out 1)
  generalize V3.drew = X0 at hHeld HKX0 HDX0 HWX0  ⊢
  refine wpAnyH_take (i := 0) (v := .agg (keyC zs 0).toArray) rfl (by kernel_rfl) (by kernel_rfl) (by kernel_rfl) (fun _ _ _ h => h) (yieldsIf_load_mid (by rfl) 43 (.tmp 1) rfl gk 0 rfl (keyC zs 0) _ (fun w' h => Blk.all h.1) Tryd.underlying43 rfl HIK.out) hHeld ?_
  show wpAnyH _ _ _ _ _ _ _ (Act.put _ (some 6) _) _
  simp only [Act.put, List.setIfInBounds_toArray, List.set_cons_zero, List.set_cons_succ]
  refine wpAnyH_take (i := 1) (v := .agg (w8 ds).toArray) rfl (by kernel_rfl) (by kernel_rfl) (by kernel_rfl) (fun _ _ _ h => h) (yieldsIf_load_mid (by rfl) 36 (.tmp 2) rfl V2.heap.size 0 rfl (w8 ds) _ (fun w' h => Blk.all h.2) Tryd.underlying36 rfl HID.out) hHeld ?_
  show wpAnyH _ _ _ _ _ _ _ (Act.put _ (some 7) _) _
  simp only [Act.put, List.setIfInBounds_toArray, List.set_cons_zero, List.set_cons_succ]
  refine wpAnyH_take (i := 3) (v := .agg (w8 ds).toArray) rfl (by kernel_rfl) (by kernel_rfl) (by kernel_rfl) (fun _ _ _ h => h) (yieldsIf_load_mid (by rfl) 36 (.tmp 2) rfl V2.heap.size 0 rfl (w8 ds) _ (fun w' h => Blk.all h.2) Tryd.underlying36 rfl HID.out) hHeld ?_
  show wpAnyH _ _ _ _ _ _ _ (Act.put _ (some 9) _) _
  simp only [Act.put, List.setIfInBounds_toArray, List.set_cons_zero, List.set_cons_succ]
  refine wpAnyH_take (i := 5) (v := .agg (keyC zs 0).toArray) rfl (by kernel_rfl) (by kernel_rfl) (by kernel_rfl) (fun _ _ _ h => h) (yieldsIf_load_mid (by rfl) 43 (.tmp 1) rfl gk 0 rfl (keyC zs 0) _ (fun w' h => Blk.all h.1) Tryd.underlying43 rfl HIK.out) hHeld ?_
  show wpAnyH _ _ _ _ _ _ _ (Act.put _ (some 11) _) _
  simp only [Act.put, List.setIfInBounds_toArray, List.set_cons_zero, List.set_cons_succ]
  refine wpAnyH_ready (rs := [2]) (by kernel_rfl) (by simp) ?_
  refine AllReadyH.cons rfl (fun K hK => ?_) AllReadyH.nil
  refine step_call rfl 25 #[.tmp 6, .tmp 7] #[43, 36] rfl #[.agg (keyC zs 0).toArray, .agg (w8 ds).toArray] (by simp [Act.eval]) (by go_simp) (sign_any zs 0 ds X0 (Lib.hid (HT.out.below HWX0.out HT.out.lt)) HZ1 HZ2 (by omega) HD1 HD2) ?_
  rintro e X1 ⟨rfl, hBX1⟩
  have HWX1 := Lib.hid (HWX0.out.trans (hBX1.mono HWX0.out.size))
  have HKX1 := Lib.hid (HKX0.out.below hBX1 HKX0.out.lt)
  have HDX1 := Lib.hid (HDX0.out.below hBX1 HDX0.out.lt)
  clear hBX1 HWX0 HKX0 HDX0 
  refine ⟨_, rfl, hK.out _ _ (⟨HKX1.out, HDX1.out⟩) (fun hHeld => ?_)⟩
  clear hK K
  show wpAnyH _ _ _ _ _ _ _ (Act.put _ (some 8) _) _
  simp only [Act.put, List.setIfInBounds_toArray, List.set_cons_zero, List.set_cons_succ]
  refine wpAnyH_ready (rs := [4]) (by kernel_rfl) (by simp) ?_
  refine AllReadyH.cons rfl (fun K hK => ?_) AllReadyH.nil
  refine step_call rfl 28 #[.tmp 8, .tmp 9] #[56, 36] rfl #[.agg (w8 (signN zs 0 ds)).toArray, .agg (w8 ds).toArray] (by simp [Act.eval]) (by go_simp) (HFR.out X1 (HT.out.below HWX1.out HT.out.lt)) ?_
  rintro e X2 ⟨rfl, hBX2⟩
  have HWX2 := Lib.hid (HWX1.out.trans (hBX2.mono HWX1.out.size))
  have HKX2 := Lib.hid (HKX1.out.below hBX2 HKX1.out.lt)
  have HDX2 := Lib.hid (HDX1.out.below hBX2 HDX1.out.lt)
  clear hBX2 HWX1 HKX1 HDX1 
  refine ⟨_, rfl, hK.out _ _ (⟨HKX2.out, HDX2.out⟩) (fun hHeld => ?_)⟩
  clear hK K
  show wpAnyH _ _ _ _ _ _ _ (Act.put _ (some 10) _) _
  simp only [Act.put, List.setIfInBounds_toArray, List.set_cons_zero, List.set_cons_succ]
  refine wpAnyH_ready (rs := [6]) (by kernel_rfl) (by simp) ?_
  refine AllReadyH.cons rfl (fun K hK => ?_) AllReadyH.nil
  refine step_call rfl 22 #[.tmp 11] #[43] rfl #[.agg (keyC zs 0).toArray] (by simp [Act.eval]) (by go_simp) (leaf_any zs 0 X2 (Lib.hid (HT.out.below HWX2.out HT.out.lt)) HZ1 HZ2 (by omega)) ?_
  rintro e X3 ⟨rfl, hBX3⟩
  have HWX3 := Lib.hid (HWX2.out.trans (hBX3.mono HWX2.out.size))
  have HKX3 := Lib.hid (HKX2.out.below hBX3 HKX2.out.lt)
  have HDX3 := Lib.hid (HDX2.out.below hBX3 HDX2.out.lt)
  clear hBX3 HWX2 HKX2 HDX2 
  refine ⟨_, rfl, hK.out _ _ (⟨HKX3.out, HDX3.out⟩) (fun hHeld => ?_)⟩
  clear hK K
  show wpAnyH _ _ _ _ _ _ _ (Act.put _ (some 12) _) _
  simp only [Act.put, List.setIfInBounds_toArray, List.set_cons_zero, List.set_cons_succ]
  refine wpAnyH_take (i := 7) (v := .bool true) rfl (by kernel_rfl) (by kernel_rfl) (by kernel_rfl) (fun _ _ _ h => h) (Or.inl ⟨by rfl, by intro w' _; go_simp⟩) hHeld ?_
  show wpAnyH _ _ _ _ _ _ _ (Act.put _ (some 13) _) _
  simp only [Act.put, List.setIfInBounds_toArray, List.set_cons_zero, List.set_cons_succ]
  refine wpAnyH_take (i := 8) (v := .bool true) rfl (by kernel_rfl) (by kernel_rfl) (by kernel_rfl) (fun _ _ _ h => h) (Or.inl ⟨by rfl, fun w _ => by rfl⟩) hHeld ?_
  show wpAnyH _ _ _ _ _ _ _ (Act.put _ (some 14) _) _
  simp only [Act.put, List.setIfInBounds_toArray, List.set_cons_zero, List.set_cons_succ]
  refine wpAnyH_take (i := 9) (v := .agg (keyC zs 0).toArray) rfl (by kernel_rfl) (by kernel_rfl) (by kernel_rfl) (fun _ _ _ h => h) (yieldsIf_load_mid (by rfl) 43 (.tmp 1) rfl gk 0 rfl (keyC zs 0) _ (fun w' h => Blk.all h.1) Tryd.underlying43 rfl HIK.out) hHeld ?_
  show wpAnyH _ _ _ _ _ _ _ (Act.put _ (some 15) _) _
  simp only [Act.put, List.setIfInBounds_toArray, List.set_cons_zero, List.set_cons_succ]
  refine wpAnyH_take (i := 11) (v := .agg #[.int .u8 0, .int .u8 0, .int .u8 0, .int .u8 0, .int .u8 0, .int .u8 0, .int .u8 0, .int .u8 0, .int .u8 0, .int .u8 0, .int .u8 0, .int .u8 0, .int .u8 0, .int .u8 0, .int .u8 0, .int .u8 0, .int .u8 0, .int .u8 0, .int .u8 0, .int .u8 0, .int .u8 0, .int .u8 0, .int .u8 0, .int .u8 0, .int .u8 0, .int .u8 0, .int .u8 0, .int .u8 0, .int .u8 0, .int .u8 0, .int .u8 0, .int .u8 0]) rfl (by kernel_rfl) (by kernel_rfl) (by kernel_rfl) (fun _ _ _ h => h) (Or.inl ⟨by rfl, by intro w' _; go_simp⟩) hHeld ?_
  show wpAnyH _ _ _ _ _ _ _ (Act.put _ (some 17) _) _
  simp only [Act.put, List.setIfInBounds_toArray, List.set_cons_zero, List.set_cons_succ]
  refine wpAnyH_ready (rs := [10]) (by kernel_rfl) (by simp) ?_
  refine AllReadyH.cons rfl (fun K hK => ?_) AllReadyH.nil
  refine step_call rfl 22 #[.tmp 15] #[43] rfl #[.agg (keyC zs 0).toArray] (by simp [Act.eval]) (by go_simp) (leaf_any zs 0 X3 (Lib.hid (HT.out.below HWX3.out HT.out.lt)) HZ1 HZ2 (by omega)) ?_
  rintro e X4 ⟨rfl, hBX4⟩
  have HWX4 := Lib.hid (HWX3.out.trans (hBX4.mono HWX3.out.size))
  have HKX4 := Lib.hid (HKX3.out.below hBX4 HKX3.out.lt)
  have HDX4 := Lib.hid (HDX3.out.below hBX4 HDX3.out.lt)
  clear hBX4 HWX3 HKX3 HDX3 
  refine ⟨_, rfl, hK.out _ _ (⟨HKX4.out, HDX4.out⟩) (fun hHeld => ?_)⟩
  clear hK K
  show wpAnyH _ _ _ _ _ _ _ (Act.put _ (some 16) _) _
  simp only [Act.put, List.setIfInBounds_toArray, List.set_cons_zero, List.set_cons_succ]
  refine wpAnyH_take (i := 12) (v := .bool true) rfl (by kernel_rfl) (by kernel_rfl) (by kernel_rfl) (fun _ _ _ h => h) (Or.inl ⟨by rfl, by intro w' _; go_simp⟩) hHeld ?_
  show wpAnyH _ _ _ _ _ _ _ (Act.put _ (some 18) _) _
  simp only [Act.put, List.setIfInBounds_toArray, List.set_cons_zero, List.set_cons_succ]
  refine wpAnyH_take (i := 13) (v := .bool true) rfl (by kernel_rfl) (by kernel_rfl) (by kernel_rfl) (fun _ _ _ h => h) (Or.inl ⟨by rfl, by intro w' _; first | rfl | go_simp⟩) hHeld ?_
  show wpAnyH _ _ _ _ _ _ _ (Act.put _ (some 19) _) _
  simp only [Act.put, List.setIfInBounds_toArray, List.set_cons_zero, List.set_cons_succ]
  refine wpAnyH_take (i := 14) (v := .bool true) rfl (by kernel_rfl) (by kernel_rfl) (by kernel_rfl) (fun _ _ _ h => h) (Or.inl ⟨by rfl, fun w _ => by rfl⟩) hHeld ?_
  show wpAnyH _ _ _ _ _ _ _ (Act.put _ (some 0) _) _
  simp only [Act.put, List.setIfInBounds_toArray, List.set_cons_zero]
  refine wpAnyH_done (by kernel_rfl) ?_ _
  go_wp2
  go_ret
  exact ⟨rfl, HWX4.out⟩
end Go.Proofs.YtkonokjhpddbfaaDoor
