/-
  The document's Sign (function 26): what it answers; nothing that was there is written.
-/
import Derived.Test.YtkonokjhpddbfaaDoorLampI
namespace Go.Proofs.YtkonokjhpddbfaaDoor
open Go.RowKit
set_option linter.unusedVariables false

set_option maxRecDepth 100000 in
set_option maxHeartbeats 1000000 in
theorem rsign_any (f r : ByteArray) (seed : List Nat) (n : Nat) (d : List Nat) (w : World) (HX : Hid (Texts f r)) (HL : Hid (seed.length = 32)) (HPB : Hid (∀ x ∈ seed, x < 256)) (hn : n < 4294967296) (HDL : Hid (d.length = 32)) (HDP : Hid (∀ x ∈ d, x < 256)) :
    Calls Tryd.prog 26 #[.agg #[.string f, .string r], .agg (w8 seed).toArray, .int .u32 (n : Int), .agg (w8 d).toArray] w fun e w' => e = .returned (.agg (w8 (signN seed n d)).toArray) ∧ Below w.heap.size w w' := by
  have HPS : Hid ((Tryd.prog.info? 29).map (·.size) = some (w8 seed).length) := Lib.hid (by rw [w8_length, HL.out]; exact info29)
  have HDS : Hid ((Tryd.prog.info? 29).map (·.size) = some (w8 d).length) := Lib.hid (by rw [w8_length, HDL.out]; exact info29)
  go_enter Tryd.func26, Tryd.ntmps26
  go_upto_region 2 with fail
  have HT : Hid (Blk (((((w.alloc (.cells #[.string f, .string r] 40)).alloc (.cells (w8 seed).toArray 29)).alloc (.cells (w8 d).toArray 29)).alloc (.cells Tryd.zeroCells51 51)).alloc (.cells Tryd.zeroCells51 51)) w.heap.size 40 ([.string f, .string r])) := Lib.hid (by
    have h := ((((Blk.new w 40 ([.string f, .string r])).alloc (.cells (w8 seed).toArray 29)).alloc (.cells (w8 d).toArray 29)).alloc (.cells Tryd.zeroCells51 51)).alloc (.cells Tryd.zeroCells51 51)
    exact h)
  have HP : Hid (Blk (((((w.alloc (.cells #[.string f, .string r] 40)).alloc (.cells (w8 seed).toArray 29)).alloc (.cells (w8 d).toArray 29)).alloc (.cells Tryd.zeroCells51 51)).alloc (.cells Tryd.zeroCells51 51)) (w.heap.size + 1) 29 (w8 seed)) := Lib.hid (by
    have h := (((Blk.new (w.alloc (.cells #[.string f, .string r] 40)) 29 (w8 seed)).alloc (.cells (w8 d).toArray 29)).alloc (.cells Tryd.zeroCells51 51)).alloc (.cells Tryd.zeroCells51 51)
    rw [World.size_alloc] at h
    exact h)
  have HD : Hid (Blk (((((w.alloc (.cells #[.string f, .string r] 40)).alloc (.cells (w8 seed).toArray 29)).alloc (.cells (w8 d).toArray 29)).alloc (.cells Tryd.zeroCells51 51)).alloc (.cells Tryd.zeroCells51 51)) (w.heap.size + 1 + 1) 29 (w8 d)) := Lib.hid (by
    have h := ((Blk.new ((w.alloc (.cells #[.string f, .string r] 40)).alloc (.cells (w8 seed).toArray 29)) 29 (w8 d)).alloc (.cells Tryd.zeroCells51 51)).alloc (.cells Tryd.zeroCells51 51)
    rw [World.size_alloc, World.size_alloc] at h
    exact h)
  have HR : Hid (Blk (((((w.alloc (.cells #[.string f, .string r] 40)).alloc (.cells (w8 seed).toArray 29)).alloc (.cells (w8 d).toArray 29)).alloc (.cells Tryd.zeroCells51 51)).alloc (.cells Tryd.zeroCells51 51)) (w.heap.size + 1 + 1 + 1) 51 (w8 (List.replicate 1024 0))) := Lib.hid (by
    have h := (Blk.new (((w.alloc (.cells #[.string f, .string r] 40)).alloc (.cells (w8 seed).toArray 29)).alloc (.cells (w8 d).toArray 29)) 51 (w8 (List.replicate 1024 0))).alloc (.cells Tryd.zeroCells51 51)
    rw [zc51, World.size_alloc, World.size_alloc, World.size_alloc] at h
    exact h)
  have HC : Hid (Blk (((((w.alloc (.cells #[.string f, .string r] 40)).alloc (.cells (w8 seed).toArray 29)).alloc (.cells (w8 d).toArray 29)).alloc (.cells Tryd.zeroCells51 51)).alloc (.cells Tryd.zeroCells51 51)) (w.heap.size + 1 + 1 + 1 + 1) 51 (w8 (List.replicate 1024 0))) := Lib.hid (by
    have h := Blk.new ((((w.alloc (.cells #[.string f, .string r] 40)).alloc (.cells (w8 seed).toArray 29)).alloc (.cells (w8 d).toArray 29)).alloc (.cells Tryd.zeroCells51 51)) 51 (w8 (List.replicate 1024 0))
    rw [zc51, World.size_alloc, World.size_alloc, World.size_alloc, World.size_alloc] at h
    exact h)
  have HW : Hid (Below w.heap.size w (((((w.alloc (.cells #[.string f, .string r] 40)).alloc (.cells (w8 seed).toArray 29)).alloc (.cells (w8 d).toArray 29)).alloc (.cells Tryd.zeroCells51 51)).alloc (.cells Tryd.zeroCells51 51))) := Lib.hid ((((((Below.refl _ _).alloc (Nat.le_refl _) _).alloc (by simp) _).alloc (by simp; omega) _).alloc (by simp; omega) _).alloc (by simp; omega) _)
  generalize (((((w.alloc (.cells #[.string f, .string r] 40)).alloc (.cells (w8 seed).toArray 29)).alloc (.cells (w8 d).toArray 29)).alloc (.cells Tryd.zeroCells51 51)).alloc (.cells Tryd.zeroCells51 51)) = V at HT HP HD HR HC HW ⊢
  have HOL : Hid (∀ a, (opnN seed n d a).length = 16) := Lib.hid (opnN_length seed n d)
  have HTL : Hid (∀ a, (othN seed n d a).length = 16) := Lib.hid (othN_length seed n d)
  have HI : Hid (∀ a v : Nat, a < 32 → v < 2 → ∀ X : World, Calls Tryd.prog 69 #[.agg #[.string f, .string r], .agg (w8 seed).toArray, .int .u32 (n : Int), .int .i64 (a : Int), .int .i64 (v : Int)] X fun e w' => e = .returned (.agg (w8 (secN seed n a v)).toArray) ∧ Below X.heap.size X w') := Lib.hid fun a v ha hv X => rsecret_any f r seed n a v X HX HL HPB hn ha hv
  have HI2 : Hid (∀ a v : Nat, ∀ X : World, Calls Tryd.prog 68 #[.agg #[.string f, .string r], .agg (w8 (secN seed n a v)).toArray] X fun e w' => e = .returned (.agg (w8 (covN (secN seed n a v))).toArray) ∧ Below X.heap.size X w') := Lib.hid fun a v X => cover_any f r _ X HX (Lib.hid (secN_length _ _ _ _)) (Lib.hid (secN_lt _ _ _ _))
  rw [← sigC_zero (opnN seed n d) (othN seed n d)] at HC
  go_wp2_with fail
  go_loopw [10, 11] (fun i _ wr => ∃ (k : Nat), k ≤ 32 ∧ i = .int .i64 k ∧ Hid (Blk wr w.heap.size 40 [.string f, .string r]) ∧ Hid (Blk wr (w.heap.size + 1) 29 (w8 seed)) ∧ Hid (Blk wr (w.heap.size + 1 + 1) 29 (w8 d)) ∧ Hid (Blk wr (w.heap.size + 1 + 1 + 1) 51 (w8 (List.replicate 1024 0))) ∧ Hid (Blk wr (w.heap.size + 1 + 1 + 1 + 1) 51 (w8 (sigC (opnN seed n d) (othN seed n d) k k))) ∧ Hid (Below w.heap.size w wr)) (fun i _ _ => 32 - (intOf i).toNat)
  case atStart => exact ⟨0, Nat.zero_le _, rfl, HT, HP, HD, HR, HC, HW⟩
  case round =>
    clear HT HP HD HR HC HW
    obtain ⟨k, hk, rfl, HT, HP, HD, HR, HC, HW⟩ := hrel
    by_cases hlt : k < 32
    · have k1 : (k : Int) < 32 := by omega
      have HDR := Lib.hid HD.out.all
      go_wp2_with (first | (refine wpList_load_mid rfl 29 (.tmp 7) rfl (w.heap.size + 1 + 1) 0 rfl (w8 d) _ HDR.out Tryd.underlying29 rfl HDS.out ?_))
      refine (rbit_any d k wr HDL HDP hlt).mono ?_
      rintro e X5 ⟨hE5, hB5⟩
      have HWX5 := Lib.hid (HW.out.trans (hB5.mono HW.out.size))
      have HTX5 := Lib.hid (HT.out.below hB5 HT.out.lt)
      have HPX5 := Lib.hid (HP.out.below hB5 HP.out.lt)
      have HDX5 := Lib.hid (HD.out.below hB5 HD.out.lt)
      have HRX5 := Lib.hid (HR.out.below hB5 HR.out.lt)
      have HCX5 := Lib.hid (HC.out.below hB5 HC.out.lt)
      have HTK := Lib.hid HTX5.out.all
      have HPK := Lib.hid HPX5.out.all
      clear hB5 HDR HT HP HD HR HC HW
      rcases bitN_two d k with h0 | h0
      · have HO1 : Hid (opnN seed n d k = secN seed n k 0) := Lib.hid (by unfold opnN; rw [h0])
        have HO2 : Hid (othN seed n d k = covN (secN seed n k 1)) := Lib.hid (by unfold othN; rw [h0])
        rw [h0] at hE5
        subst hE5
        clear h0
        go_wp2_with (first | (refine wpList_load_mid rfl 40 (.tmp 4) rfl w.heap.size 0 rfl [.string f, .string r] _ HTK.out Tryd.underlying40 rfl info40 ?_) | (refine wpList_load_mid rfl 29 (.tmp 5) rfl (w.heap.size + 1) 0 rfl (w8 seed) _ HPK.out Tryd.underlying29 rfl HPS.out ?_))
        refine (HI.out k 0 hlt (by omega) X5).mono ?_
        rintro e X6 ⟨rfl, hB6⟩
        have HW6 := Lib.hid (HWX5.out.trans (hB6.mono HWX5.out.size))
        have HT6 := Lib.hid (HTX5.out.below hB6 HTX5.out.lt)
        have HP6 := Lib.hid (HPX5.out.below hB6 HPX5.out.lt)
        have HD6 := Lib.hid (HDX5.out.below hB6 HDX5.out.lt)
        have HR6 := Lib.hid (HRX5.out.below hB6 HRX5.out.lt)
        have HC6 := Lib.hid (HCX5.out.below hB6 HCX5.out.lt)
        clear hB6
        have HL6 : Hid ((w8 (secN seed n k 0)).length = 16) := Lib.hid (by rw [w8_length, secN_length])
        have HI6 : Hid ((Tryd.prog.info? 48).map (·.size) = some (w8 (secN seed n k 0)).length) := Lib.hid (by rw [HL6.out]; exact info48)
        have HI48y : Hid ((Tryd.prog.info? 48).map (·.size) = some (w8 (covN (secN seed n k 1))).length) := Lib.hid (by rw [w8_length, covN_length]; exact info48)
        have HT6a : Hid (X6.there (w.heap.size + 1 + 1 + 1 + 1) (k * 16) (w8 (secN seed n k 0)).length) := Lib.hid (HC6.out.there _ _ (by rw [HL6.out, w8_length, sigC_length _ _ HOL.out HTL.out k k (by omega) (by omega)]; omega))
        have H16 := Lib.hid (w8_one (secN seed n k 0))
        go_upto_region 7 with (first | (refine wpList_put_mid rfl 48 (.tmp 27) (.tmp 25) rfl (w.heap.size + 1 + 1 + 1 + 1) (k * 16) (w8 (secN seed n k 0)) rfl rfl HT6a.out HI6.out H16.out ?_))
        have HT7 := Lib.hid (HT6.out.farCells (b := (w.heap.size + 1 + 1 + 1 + 1)) (o := k * 16) (by omega) (w8 (secN seed n k 0)))
        have HP7 := Lib.hid (HP6.out.farCells (b := (w.heap.size + 1 + 1 + 1 + 1)) (o := k * 16) (by omega) (w8 (secN seed n k 0)))
        have HD7 := Lib.hid (HD6.out.farCells (b := (w.heap.size + 1 + 1 + 1 + 1)) (o := k * 16) (by omega) (w8 (secN seed n k 0)))
        have HR7 := Lib.hid (HR6.out.farCells (b := (w.heap.size + 1 + 1 + 1 + 1)) (o := k * 16) (by omega) (w8 (secN seed n k 0)))
        have HC7 := Lib.hid (sigC_open _ _ HOL.out HTL.out k k hlt _ HO1.out HC6.out)
        have HW7 := Lib.hid (below_cells (g := (w.heap.size + 1 + 1 + 1 + 1)) (w8 (secN seed n k 0)) (k * 16) X6 HW6.out (by omega))
        generalize X6.setCells (w.heap.size + 1 + 1 + 1 + 1) (k * 16) (w8 (secN seed n k 0)) = X7 at HT7 HP7 HD7 HR7 HC7 HW7 ⊢
        clear HT6 HP6 HD6 HR6 HC6 HW6 HL6 HI6 HT6a H16 HTX5 HPX5 HDX5 HRX5 HCX5 HWX5
        have HTX0 : Hid (Blk X7.drew w.heap.size 40 [.string f, .string r]) := Lib.hid (HT7.out.below (below_drewN (Below.refl _ _) 1) HT7.out.lt)
        have HPX0 : Hid (Blk X7.drew (w.heap.size + 1) 29 (w8 seed)) := Lib.hid (HP7.out.below (below_drewN (Below.refl _ _) 1) HP7.out.lt)
        have HDX0 : Hid (Blk X7.drew (w.heap.size + 1 + 1) 29 (w8 d)) := Lib.hid (HD7.out.below (below_drewN (Below.refl _ _) 1) HD7.out.lt)
        have HRX0 : Hid (Blk X7.drew (w.heap.size + 1 + 1 + 1) 51 (w8 (List.replicate 1024 0))) := Lib.hid (HR7.out.below (below_drewN (Below.refl _ _) 1) HR7.out.lt)
        have HCX0 : Hid (Blk X7.drew (w.heap.size + 1 + 1 + 1 + 1) 51 (w8 (sigC (opnN seed n d) (othN seed n d) (k + 1) k))) := Lib.hid (HC7.out.below (below_drewN (Below.refl _ _) 1) HC7.out.lt)
        have HWX0 : Hid (Below w.heap.size w X7.drew) := Lib.hid (below_drewN HW7.out 1)
        refine wp_region_held_drew (S := fun w' => Blk w' w.heap.size 40 [.string f, .string r] ∧ Blk w' (w.heap.size + 1) 29 (w8 seed)) (by kernel_rfl) (⟨HTX0.out, HPX0.out⟩) (fun hHeld => ?_)
        generalize X7.drew = X0 at hHeld HTX0 HPX0 HDX0 HRX0 HCX0 HWX0 ⊢
        refine wpAnyH_take (i := 0) (v := .int .i64 (k : Int)) rfl (by kernel_rfl) (by kernel_rfl) (by kernel_rfl) (fun _ _ _ h => h) (Or.inl ⟨by rfl, fun w _ => by rfl⟩) hHeld ?_
        show wpAnyH _ _ _ _ _ _ _ (Act.put _ (some 28) _) _
        simp only [Act.put, List.setIfInBounds_toArray, List.set_cons_zero, List.set_cons_succ]
        refine wpAnyH_take (i := 1) (v := .agg #[.string f, .string r]) rfl (by kernel_rfl) (by kernel_rfl) (by kernel_rfl) (fun _ _ _ h => h) (yieldsIf_load_mid (by rfl) 40 (.tmp 4) rfl w.heap.size 0 rfl [.string f, .string r] _ (fun w' h => Blk.all h.1) Tryd.underlying40 rfl info40) hHeld ?_
        show wpAnyH _ _ _ _ _ _ _ (Act.put _ (some 29) _) _
        simp only [Act.put, List.setIfInBounds_toArray, List.set_cons_zero, List.set_cons_succ]
        refine wpAnyH_take (i := 2) (v := .agg #[.string f, .string r]) rfl (by kernel_rfl) (by kernel_rfl) (by kernel_rfl) (fun _ _ _ h => h) (yieldsIf_load_mid (by rfl) 40 (.tmp 4) rfl w.heap.size 0 rfl [.string f, .string r] _ (fun w' h => Blk.all h.1) Tryd.underlying40 rfl info40) hHeld ?_
        show wpAnyH _ _ _ _ _ _ _ (Act.put _ (some 30) _) _
        simp only [Act.put, List.setIfInBounds_toArray, List.set_cons_zero, List.set_cons_succ]
        refine wpAnyH_take (i := 3) (v := .agg (w8 seed).toArray) rfl (by kernel_rfl) (by kernel_rfl) (by kernel_rfl) (fun _ _ _ h => h) (yieldsIf_load_mid (by rfl) 29 (.tmp 5) rfl (w.heap.size + 1) 0 rfl (w8 seed) _ (fun w' h => Blk.all h.2) Tryd.underlying29 rfl HPS.out) hHeld ?_
        show wpAnyH _ _ _ _ _ _ _ (Act.put _ (some 31) _) _
        simp only [Act.put, List.setIfInBounds_toArray, List.set_cons_zero, List.set_cons_succ]
        refine wpAnyH_take (i := 4) (v := .int .u32 (n : Int)) rfl (by kernel_rfl) (by kernel_rfl) (by kernel_rfl) (fun _ _ _ h => h) (Or.inl ⟨by rfl, fun w _ => by rfl⟩) hHeld ?_
        show wpAnyH _ _ _ _ _ _ _ (Act.put _ (some 32) _) _
        simp only [Act.put, List.setIfInBounds_toArray, List.set_cons_zero, List.set_cons_succ]
        refine wpAnyH_take (i := 5) (v := .int .i64 (k : Int)) rfl (by kernel_rfl) (by kernel_rfl) (by kernel_rfl) (fun _ _ _ h => h) (Or.inl ⟨by rfl, fun w _ => by rfl⟩) hHeld ?_
        show wpAnyH _ _ _ _ _ _ _ (Act.put _ (some 33) _) _
        simp only [Act.put, List.setIfInBounds_toArray, List.set_cons_zero, List.set_cons_succ]
        refine wpAnyH_take (i := 6) (v := .int .i64 0) rfl (by kernel_rfl) (by kernel_rfl) (by kernel_rfl) (fun _ _ _ h => h) (Or.inl ⟨by rfl, fun w _ => by rfl⟩) hHeld ?_
        show wpAnyH _ _ _ _ _ _ _ (Act.put _ (some 34) _) _
        simp only [Act.put, List.setIfInBounds_toArray, List.set_cons_zero, List.set_cons_succ]
        refine wpAnyH_take (i := 7) (v := .int .i64 1) rfl (by kernel_rfl) (by kernel_rfl) (by kernel_rfl) (fun _ _ _ h => h) (Or.inl ⟨by rfl, by intro w' _; go_simp <;> rfl⟩) hHeld ?_
        show wpAnyH _ _ _ _ _ _ _ (Act.put _ (some 35) _) _
        simp only [Act.put, List.setIfInBounds_toArray, List.set_cons_zero, List.set_cons_succ]
        refine wpAnyH_take (i := 10) (v := .pointer (some ⟨w.heap.size + 1 + 1 + 1 + 1, 512, none⟩)) rfl (by kernel_rfl) (by kernel_rfl) (by kernel_rfl) (fun _ _ _ h => h) (Or.inl ⟨by rfl, by intro w' _; go_simp⟩) hHeld ?_
        show wpAnyH _ _ _ _ _ _ _ (Act.put _ (some 38) _) _
        simp only [Act.put, List.setIfInBounds_toArray, List.set_cons_zero, List.set_cons_succ]
        refine wpAnyH_ready (rs := [8]) (by kernel_rfl) (by simp) ?_
        refine AllReadyH.cons rfl (fun K hK => ?_) AllReadyH.nil
        refine step_call rfl 69 #[.tmp 30, .tmp 31, .tmp 32, .tmp 33, .tmp 35] #[40, 29, 38, 3, 3] rfl #[.agg #[.string f, .string r], .agg (w8 seed).toArray, .int .u32 (n : Int), .int .i64 (k : Int), .int .i64 1] (by simp [Act.eval]) (by go_simp) (HI.out k 1 hlt (by omega) X0) ?_
        rintro e X1 ⟨rfl, hB⟩
        have HWX1 := Lib.hid (HWX0.out.trans (hB.mono HWX0.out.size))
        have HTX1 := Lib.hid (HTX0.out.below hB HTX0.out.lt)
        have HPX1 := Lib.hid (HPX0.out.below hB HPX0.out.lt)
        have HDX1 := Lib.hid (HDX0.out.below hB HDX0.out.lt)
        have HRX1 := Lib.hid (HRX0.out.below hB HRX0.out.lt)
        have HCX1 := Lib.hid (HCX0.out.below hB HCX0.out.lt)
        clear hB HWX0 HTX0 HPX0 HDX0 HRX0 HCX0 
        refine ⟨_, rfl, hK.out _ _ (⟨HTX1.out, HPX1.out⟩) (fun hHeld => ?_)⟩
        clear hK K
        show wpAnyH _ _ _ _ _ _ _ (Act.put _ (some 36) _) _
        simp only [Act.put, List.setIfInBounds_toArray, List.set_cons_zero, List.set_cons_succ]
        refine wpAnyH_ready (rs := [9]) (by kernel_rfl) (by simp) ?_
        refine AllReadyH.cons rfl (fun K hK => ?_) AllReadyH.nil
        refine step_call rfl 68 #[.tmp 29, .tmp 36] #[40, 48] rfl #[.agg #[.string f, .string r], .agg (w8 (secN seed n k 1)).toArray] (by simp [Act.eval]) (by go_simp) (HI2.out k 1 X1) ?_
        rintro e X2 ⟨rfl, hB⟩
        have HWX2 := Lib.hid (HWX1.out.trans (hB.mono HWX1.out.size))
        have HTX2 := Lib.hid (HTX1.out.below hB HTX1.out.lt)
        have HPX2 := Lib.hid (HPX1.out.below hB HPX1.out.lt)
        have HDX2 := Lib.hid (HDX1.out.below hB HDX1.out.lt)
        have HRX2 := Lib.hid (HRX1.out.below hB HRX1.out.lt)
        have HCX2 := Lib.hid (HCX1.out.below hB HCX1.out.lt)
        have HTH : Hid (X2.there (w.heap.size + 1 + 1 + 1 + 1) (512 + k * 16) (w8 (covN (secN seed n k 1))).length) := Lib.hid (HCX2.out.there _ _ (by rw [w8_length, w8_length, covN_length, sigC_length _ _ HOL.out HTL.out (k + 1) k (by omega) (by omega)]; omega))
        clear hB HWX1 HTX1 HPX1 HDX1 HRX1 HCX1 
        refine ⟨_, rfl, hK.out _ _ (⟨HTX2.out, HPX2.out⟩) (fun hHeld => ?_)⟩
        clear hK K
        show wpAnyH _ _ _ _ _ _ _ (Act.put _ (some 37) _) _
        simp only [Act.put, List.setIfInBounds_toArray, List.set_cons_zero, List.set_cons_succ]
        refine wpAnyH_take (i := 11) (v := .pointer (some ⟨w.heap.size + 1 + 1 + 1 + 1, 512 + k * 16, none⟩)) rfl (by kernel_rfl) (by kernel_rfl) (by kernel_rfl) (fun _ _ _ h => h) (Or.inl ⟨by rfl, by intro w' _; go_simp⟩) hHeld ?_
        show wpAnyH _ _ _ _ _ _ _ (Act.put _ (some 39) _) _
        simp only [Act.put, List.setIfInBounds_toArray, List.set_cons_zero, List.set_cons_succ]
        refine wpAnyH_ready (rs := [12]) (by kernel_rfl) (by simp) ?_
        refine AllReadyH.cons rfl (fun K hK => ?_) AllReadyH.nil
        refine step_store_mid rfl 48 (.tmp 39) (.tmp 37) rfl (w.heap.size + 1 + 1 + 1 + 1) (512 + k * 16) (w8 (covN (secN seed n k 1))) rfl rfl HTH.out HI48y.out (w8_one _) ?_
        refine hK.out _ _ (⟨HTX2.out.farCells (by omega) _, HPX2.out.farCells (by omega) _⟩) (fun hHeld => ?_)
        have HTX3 := Lib.hid (HTX2.out.farCells (b := (w.heap.size + 1 + 1 + 1 + 1)) (o := 512 + k * 16) (by omega) (w8 (covN (secN seed n k 1))))
        have HPX3 := Lib.hid (HPX2.out.farCells (b := (w.heap.size + 1 + 1 + 1 + 1)) (o := 512 + k * 16) (by omega) (w8 (covN (secN seed n k 1))))
        have HDX3 := Lib.hid (HDX2.out.farCells (b := (w.heap.size + 1 + 1 + 1 + 1)) (o := 512 + k * 16) (by omega) (w8 (covN (secN seed n k 1))))
        have HRX3 := Lib.hid (HRX2.out.farCells (b := (w.heap.size + 1 + 1 + 1 + 1)) (o := 512 + k * 16) (by omega) (w8 (covN (secN seed n k 1))))
        have HCX3 := Lib.hid (sigC_other _ _ HOL.out HTL.out (k + 1) k hlt (by omega) _ HO2.out HCX2.out)
        have HWX3 := Lib.hid (below_cells (g := (w.heap.size + 1 + 1 + 1 + 1)) (w8 (covN (secN seed n k 1))) (512 + k * 16) X2 HWX2.out (by omega))
        clear HTH HCX2 HWX2 HTX2 HPX2 HDX2 HRX2
        generalize X2.setCells (w.heap.size + 1 + 1 + 1 + 1) (512 + k * 16) (w8 (covN (secN seed n k 1))) = X3 at hHeld HTX3 HPX3 HDX3 HRX3 HCX3 HWX3 ⊢
        clear hK K
        show wpAnyH _ _ _ _ _ _ _ (Act.put _ none _) _
        simp only [Act.put]
        refine wpAnyH_done (by kernel_rfl) ?_ _
        clear hHeld
        go_wp2
        go_roundw
        case rel => exact ⟨k + 1, by omega, by go_num, HTX3, HPX3, HDX3, HRX3, HCX3, HWX3⟩
        case measure => simp [intOf]; omega
      · have HO1 : Hid (opnN seed n d k = secN seed n k 1) := Lib.hid (by unfold opnN; rw [h0])
        have HO2 : Hid (othN seed n d k = covN (secN seed n k 0)) := Lib.hid (by unfold othN; rw [h0])
        rw [h0] at hE5
        subst hE5
        clear h0
        go_wp2_with (first | (refine wpList_load_mid rfl 40 (.tmp 4) rfl w.heap.size 0 rfl [.string f, .string r] _ HTK.out Tryd.underlying40 rfl info40 ?_) | (refine wpList_load_mid rfl 29 (.tmp 5) rfl (w.heap.size + 1) 0 rfl (w8 seed) _ HPK.out Tryd.underlying29 rfl HPS.out ?_))
        refine (HI.out k 1 hlt (by omega) X5).mono ?_
        rintro e X6 ⟨rfl, hB6⟩
        have HW6 := Lib.hid (HWX5.out.trans (hB6.mono HWX5.out.size))
        have HT6 := Lib.hid (HTX5.out.below hB6 HTX5.out.lt)
        have HP6 := Lib.hid (HPX5.out.below hB6 HPX5.out.lt)
        have HD6 := Lib.hid (HDX5.out.below hB6 HDX5.out.lt)
        have HR6 := Lib.hid (HRX5.out.below hB6 HRX5.out.lt)
        have HC6 := Lib.hid (HCX5.out.below hB6 HCX5.out.lt)
        clear hB6
        have HL6 : Hid ((w8 (secN seed n k 1)).length = 16) := Lib.hid (by rw [w8_length, secN_length])
        have HI6 : Hid ((Tryd.prog.info? 48).map (·.size) = some (w8 (secN seed n k 1)).length) := Lib.hid (by rw [HL6.out]; exact info48)
        have HI48y : Hid ((Tryd.prog.info? 48).map (·.size) = some (w8 (covN (secN seed n k 0))).length) := Lib.hid (by rw [w8_length, covN_length]; exact info48)
        have HT6a : Hid (X6.there (w.heap.size + 1 + 1 + 1 + 1) (k * 16) (w8 (secN seed n k 1)).length) := Lib.hid (HC6.out.there _ _ (by rw [HL6.out, w8_length, sigC_length _ _ HOL.out HTL.out k k (by omega) (by omega)]; omega))
        have H16 := Lib.hid (w8_one (secN seed n k 1))
        go_upto_region 7 with (first | (refine wpList_put_mid rfl 48 (.tmp 27) (.tmp 25) rfl (w.heap.size + 1 + 1 + 1 + 1) (k * 16) (w8 (secN seed n k 1)) rfl rfl HT6a.out HI6.out H16.out ?_))
        have HT7 := Lib.hid (HT6.out.farCells (b := (w.heap.size + 1 + 1 + 1 + 1)) (o := k * 16) (by omega) (w8 (secN seed n k 1)))
        have HP7 := Lib.hid (HP6.out.farCells (b := (w.heap.size + 1 + 1 + 1 + 1)) (o := k * 16) (by omega) (w8 (secN seed n k 1)))
        have HD7 := Lib.hid (HD6.out.farCells (b := (w.heap.size + 1 + 1 + 1 + 1)) (o := k * 16) (by omega) (w8 (secN seed n k 1)))
        have HR7 := Lib.hid (HR6.out.farCells (b := (w.heap.size + 1 + 1 + 1 + 1)) (o := k * 16) (by omega) (w8 (secN seed n k 1)))
        have HC7 := Lib.hid (sigC_open _ _ HOL.out HTL.out k k hlt _ HO1.out HC6.out)
        have HW7 := Lib.hid (below_cells (g := (w.heap.size + 1 + 1 + 1 + 1)) (w8 (secN seed n k 1)) (k * 16) X6 HW6.out (by omega))
        generalize X6.setCells (w.heap.size + 1 + 1 + 1 + 1) (k * 16) (w8 (secN seed n k 1)) = X7 at HT7 HP7 HD7 HR7 HC7 HW7 ⊢
        clear HT6 HP6 HD6 HR6 HC6 HW6 HL6 HI6 HT6a H16 HTX5 HPX5 HDX5 HRX5 HCX5 HWX5
        have HTX0 : Hid (Blk X7.drew w.heap.size 40 [.string f, .string r]) := Lib.hid (HT7.out.below (below_drewN (Below.refl _ _) 1) HT7.out.lt)
        have HPX0 : Hid (Blk X7.drew (w.heap.size + 1) 29 (w8 seed)) := Lib.hid (HP7.out.below (below_drewN (Below.refl _ _) 1) HP7.out.lt)
        have HDX0 : Hid (Blk X7.drew (w.heap.size + 1 + 1) 29 (w8 d)) := Lib.hid (HD7.out.below (below_drewN (Below.refl _ _) 1) HD7.out.lt)
        have HRX0 : Hid (Blk X7.drew (w.heap.size + 1 + 1 + 1) 51 (w8 (List.replicate 1024 0))) := Lib.hid (HR7.out.below (below_drewN (Below.refl _ _) 1) HR7.out.lt)
        have HCX0 : Hid (Blk X7.drew (w.heap.size + 1 + 1 + 1 + 1) 51 (w8 (sigC (opnN seed n d) (othN seed n d) (k + 1) k))) := Lib.hid (HC7.out.below (below_drewN (Below.refl _ _) 1) HC7.out.lt)
        have HWX0 : Hid (Below w.heap.size w X7.drew) := Lib.hid (below_drewN HW7.out 1)
        refine wp_region_held_drew (S := fun w' => Blk w' w.heap.size 40 [.string f, .string r] ∧ Blk w' (w.heap.size + 1) 29 (w8 seed)) (by kernel_rfl) (⟨HTX0.out, HPX0.out⟩) (fun hHeld => ?_)
        generalize X7.drew = X0 at hHeld HTX0 HPX0 HDX0 HRX0 HCX0 HWX0 ⊢
        refine wpAnyH_take (i := 0) (v := .int .i64 (k : Int)) rfl (by kernel_rfl) (by kernel_rfl) (by kernel_rfl) (fun _ _ _ h => h) (Or.inl ⟨by rfl, fun w _ => by rfl⟩) hHeld ?_
        show wpAnyH _ _ _ _ _ _ _ (Act.put _ (some 28) _) _
        simp only [Act.put, List.setIfInBounds_toArray, List.set_cons_zero, List.set_cons_succ]
        refine wpAnyH_take (i := 1) (v := .agg #[.string f, .string r]) rfl (by kernel_rfl) (by kernel_rfl) (by kernel_rfl) (fun _ _ _ h => h) (yieldsIf_load_mid (by rfl) 40 (.tmp 4) rfl w.heap.size 0 rfl [.string f, .string r] _ (fun w' h => Blk.all h.1) Tryd.underlying40 rfl info40) hHeld ?_
        show wpAnyH _ _ _ _ _ _ _ (Act.put _ (some 29) _) _
        simp only [Act.put, List.setIfInBounds_toArray, List.set_cons_zero, List.set_cons_succ]
        refine wpAnyH_take (i := 2) (v := .agg #[.string f, .string r]) rfl (by kernel_rfl) (by kernel_rfl) (by kernel_rfl) (fun _ _ _ h => h) (yieldsIf_load_mid (by rfl) 40 (.tmp 4) rfl w.heap.size 0 rfl [.string f, .string r] _ (fun w' h => Blk.all h.1) Tryd.underlying40 rfl info40) hHeld ?_
        show wpAnyH _ _ _ _ _ _ _ (Act.put _ (some 30) _) _
        simp only [Act.put, List.setIfInBounds_toArray, List.set_cons_zero, List.set_cons_succ]
        refine wpAnyH_take (i := 3) (v := .agg (w8 seed).toArray) rfl (by kernel_rfl) (by kernel_rfl) (by kernel_rfl) (fun _ _ _ h => h) (yieldsIf_load_mid (by rfl) 29 (.tmp 5) rfl (w.heap.size + 1) 0 rfl (w8 seed) _ (fun w' h => Blk.all h.2) Tryd.underlying29 rfl HPS.out) hHeld ?_
        show wpAnyH _ _ _ _ _ _ _ (Act.put _ (some 31) _) _
        simp only [Act.put, List.setIfInBounds_toArray, List.set_cons_zero, List.set_cons_succ]
        refine wpAnyH_take (i := 4) (v := .int .u32 (n : Int)) rfl (by kernel_rfl) (by kernel_rfl) (by kernel_rfl) (fun _ _ _ h => h) (Or.inl ⟨by rfl, fun w _ => by rfl⟩) hHeld ?_
        show wpAnyH _ _ _ _ _ _ _ (Act.put _ (some 32) _) _
        simp only [Act.put, List.setIfInBounds_toArray, List.set_cons_zero, List.set_cons_succ]
        refine wpAnyH_take (i := 5) (v := .int .i64 (k : Int)) rfl (by kernel_rfl) (by kernel_rfl) (by kernel_rfl) (fun _ _ _ h => h) (Or.inl ⟨by rfl, fun w _ => by rfl⟩) hHeld ?_
        show wpAnyH _ _ _ _ _ _ _ (Act.put _ (some 33) _) _
        simp only [Act.put, List.setIfInBounds_toArray, List.set_cons_zero, List.set_cons_succ]
        refine wpAnyH_take (i := 6) (v := .int .i64 1) rfl (by kernel_rfl) (by kernel_rfl) (by kernel_rfl) (fun _ _ _ h => h) (Or.inl ⟨by rfl, fun w _ => by rfl⟩) hHeld ?_
        show wpAnyH _ _ _ _ _ _ _ (Act.put _ (some 34) _) _
        simp only [Act.put, List.setIfInBounds_toArray, List.set_cons_zero, List.set_cons_succ]
        refine wpAnyH_take (i := 7) (v := .int .i64 0) rfl (by kernel_rfl) (by kernel_rfl) (by kernel_rfl) (fun _ _ _ h => h) (Or.inl ⟨by rfl, by intro w' _; go_simp <;> rfl⟩) hHeld ?_
        show wpAnyH _ _ _ _ _ _ _ (Act.put _ (some 35) _) _
        simp only [Act.put, List.setIfInBounds_toArray, List.set_cons_zero, List.set_cons_succ]
        refine wpAnyH_take (i := 10) (v := .pointer (some ⟨w.heap.size + 1 + 1 + 1 + 1, 512, none⟩)) rfl (by kernel_rfl) (by kernel_rfl) (by kernel_rfl) (fun _ _ _ h => h) (Or.inl ⟨by rfl, by intro w' _; go_simp⟩) hHeld ?_
        show wpAnyH _ _ _ _ _ _ _ (Act.put _ (some 38) _) _
        simp only [Act.put, List.setIfInBounds_toArray, List.set_cons_zero, List.set_cons_succ]
        refine wpAnyH_ready (rs := [8]) (by kernel_rfl) (by simp) ?_
        refine AllReadyH.cons rfl (fun K hK => ?_) AllReadyH.nil
        refine step_call rfl 69 #[.tmp 30, .tmp 31, .tmp 32, .tmp 33, .tmp 35] #[40, 29, 38, 3, 3] rfl #[.agg #[.string f, .string r], .agg (w8 seed).toArray, .int .u32 (n : Int), .int .i64 (k : Int), .int .i64 0] (by simp [Act.eval]) (by go_simp) (HI.out k 0 hlt (by omega) X0) ?_
        rintro e X1 ⟨rfl, hB⟩
        have HWX1 := Lib.hid (HWX0.out.trans (hB.mono HWX0.out.size))
        have HTX1 := Lib.hid (HTX0.out.below hB HTX0.out.lt)
        have HPX1 := Lib.hid (HPX0.out.below hB HPX0.out.lt)
        have HDX1 := Lib.hid (HDX0.out.below hB HDX0.out.lt)
        have HRX1 := Lib.hid (HRX0.out.below hB HRX0.out.lt)
        have HCX1 := Lib.hid (HCX0.out.below hB HCX0.out.lt)
        clear hB HWX0 HTX0 HPX0 HDX0 HRX0 HCX0 
        refine ⟨_, rfl, hK.out _ _ (⟨HTX1.out, HPX1.out⟩) (fun hHeld => ?_)⟩
        clear hK K
        show wpAnyH _ _ _ _ _ _ _ (Act.put _ (some 36) _) _
        simp only [Act.put, List.setIfInBounds_toArray, List.set_cons_zero, List.set_cons_succ]
        refine wpAnyH_ready (rs := [9]) (by kernel_rfl) (by simp) ?_
        refine AllReadyH.cons rfl (fun K hK => ?_) AllReadyH.nil
        refine step_call rfl 68 #[.tmp 29, .tmp 36] #[40, 48] rfl #[.agg #[.string f, .string r], .agg (w8 (secN seed n k 0)).toArray] (by simp [Act.eval]) (by go_simp) (HI2.out k 0 X1) ?_
        rintro e X2 ⟨rfl, hB⟩
        have HWX2 := Lib.hid (HWX1.out.trans (hB.mono HWX1.out.size))
        have HTX2 := Lib.hid (HTX1.out.below hB HTX1.out.lt)
        have HPX2 := Lib.hid (HPX1.out.below hB HPX1.out.lt)
        have HDX2 := Lib.hid (HDX1.out.below hB HDX1.out.lt)
        have HRX2 := Lib.hid (HRX1.out.below hB HRX1.out.lt)
        have HCX2 := Lib.hid (HCX1.out.below hB HCX1.out.lt)
        have HTH : Hid (X2.there (w.heap.size + 1 + 1 + 1 + 1) (512 + k * 16) (w8 (covN (secN seed n k 0))).length) := Lib.hid (HCX2.out.there _ _ (by rw [w8_length, w8_length, covN_length, sigC_length _ _ HOL.out HTL.out (k + 1) k (by omega) (by omega)]; omega))
        clear hB HWX1 HTX1 HPX1 HDX1 HRX1 HCX1 
        refine ⟨_, rfl, hK.out _ _ (⟨HTX2.out, HPX2.out⟩) (fun hHeld => ?_)⟩
        clear hK K
        show wpAnyH _ _ _ _ _ _ _ (Act.put _ (some 37) _) _
        simp only [Act.put, List.setIfInBounds_toArray, List.set_cons_zero, List.set_cons_succ]
        refine wpAnyH_take (i := 11) (v := .pointer (some ⟨w.heap.size + 1 + 1 + 1 + 1, 512 + k * 16, none⟩)) rfl (by kernel_rfl) (by kernel_rfl) (by kernel_rfl) (fun _ _ _ h => h) (Or.inl ⟨by rfl, by intro w' _; go_simp⟩) hHeld ?_
        show wpAnyH _ _ _ _ _ _ _ (Act.put _ (some 39) _) _
        simp only [Act.put, List.setIfInBounds_toArray, List.set_cons_zero, List.set_cons_succ]
        refine wpAnyH_ready (rs := [12]) (by kernel_rfl) (by simp) ?_
        refine AllReadyH.cons rfl (fun K hK => ?_) AllReadyH.nil
        refine step_store_mid rfl 48 (.tmp 39) (.tmp 37) rfl (w.heap.size + 1 + 1 + 1 + 1) (512 + k * 16) (w8 (covN (secN seed n k 0))) rfl rfl HTH.out HI48y.out (w8_one _) ?_
        refine hK.out _ _ (⟨HTX2.out.farCells (by omega) _, HPX2.out.farCells (by omega) _⟩) (fun hHeld => ?_)
        have HTX3 := Lib.hid (HTX2.out.farCells (b := (w.heap.size + 1 + 1 + 1 + 1)) (o := 512 + k * 16) (by omega) (w8 (covN (secN seed n k 0))))
        have HPX3 := Lib.hid (HPX2.out.farCells (b := (w.heap.size + 1 + 1 + 1 + 1)) (o := 512 + k * 16) (by omega) (w8 (covN (secN seed n k 0))))
        have HDX3 := Lib.hid (HDX2.out.farCells (b := (w.heap.size + 1 + 1 + 1 + 1)) (o := 512 + k * 16) (by omega) (w8 (covN (secN seed n k 0))))
        have HRX3 := Lib.hid (HRX2.out.farCells (b := (w.heap.size + 1 + 1 + 1 + 1)) (o := 512 + k * 16) (by omega) (w8 (covN (secN seed n k 0))))
        have HCX3 := Lib.hid (sigC_other _ _ HOL.out HTL.out (k + 1) k hlt (by omega) _ HO2.out HCX2.out)
        have HWX3 := Lib.hid (below_cells (g := (w.heap.size + 1 + 1 + 1 + 1)) (w8 (covN (secN seed n k 0))) (512 + k * 16) X2 HWX2.out (by omega))
        clear HTH HCX2 HWX2 HTX2 HPX2 HDX2 HRX2
        generalize X2.setCells (w.heap.size + 1 + 1 + 1 + 1) (512 + k * 16) (w8 (covN (secN seed n k 0))) = X3 at hHeld HTX3 HPX3 HDX3 HRX3 HCX3 HWX3 ⊢
        clear hK K
        show wpAnyH _ _ _ _ _ _ _ (Act.put _ none _) _
        simp only [Act.put]
        refine wpAnyH_done (by kernel_rfl) ?_ _
        clear hHeld
        go_wp2
        go_roundw
        case rel => exact ⟨k + 1, by omega, by go_num, HTX3, HPX3, HDX3, HRX3, HCX3, HWX3⟩
        case measure => simp [intOf]; omega
    · obtain rfl : k = 32 := by omega
      rw [sigC_end, show rows (opnN seed n d) 32 ++ rows (othN seed n d) 32 = signN seed n d from rfl] at HC
      have HRG := Lib.hid HC.out.all
      have HS5 : Hid ((Tryd.prog.info? 51).map (·.size) = some (w8 (signN seed n d)).length) := Lib.hid (by rw [w8_length, signN_length]; exact info51)
      have HS6 : Hid ((Tryd.prog.info? 51).map (·.size) = some (w8 (signN seed n d)).toArray.size) := Lib.hid (by rw [List.size_toArray, w8_length, signN_length]; exact info51)
      have HZ6 : Hid ((w8 (List.replicate 1024 0)).toArray.size = (w8 (signN seed n d)).toArray.size) := Lib.hid (by rw [List.size_toArray, List.size_toArray, w8_length, w8_length, signN_length]; simp)
      have HO6 := Lib.hid (all_oneCell_toArray (w8_one (signN seed n d)))
      go_wp2_with (first | (refine wpList_load_mid rfl 51 (.tmp 9) rfl (w.heap.size + 1 + 1 + 1 + 1) 0 rfl (w8 (signN seed n d)) _ HRG.out Tryd.underlying51 rfl HS5.out ?_) | (refine wpList_store_row rfl 51 (.tmp 8) (.tmp 40) rfl (w.heap.size + 1 + 1 + 1) (w8 (signN seed n d)).toArray rfl rfl 51 _ HR.out HS6.out HZ6.out HO6.out ?_))
      exact bodyPost_ret (v := .agg (w8 (signN seed n d)).toArray) (results_cell_row Tryd.results26 _ _ (w.heap.size + 1 + 1 + 1) 51 (w8 (signN seed n d)).toArray (0, 0) _ rfl (HR.out.setRow _) Tryd.underlying51 rfl HS6.out) rfl ⟨rfl, below_setRow HW.out (by omega) _⟩

end Go.Proofs.YtkonokjhpddbfaaDoor
