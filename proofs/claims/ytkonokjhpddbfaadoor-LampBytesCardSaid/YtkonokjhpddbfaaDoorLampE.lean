/-
  lamp's From (function 28): what it answers; nothing that was there is written.
-/
import Derived.Test.YtkonokjhpddbfaaDoorLampC
namespace Go.Proofs.YtkonokjhpddbfaaDoor
open Go.RowKit
set_option linter.unusedVariables false

theorem rows_length' {f : Nat → List Nat} {m : Nat} : ∀ k, (∀ a, a < k → (f a).length = m) → (rows f k).length = m * k
  | 0, _ => rfl
  | k + 1, h => by rw [rows_succ, List.length_append, rows_length' k (fun a ha => h a (by omega)), h k (by omega), Nat.mul_succ]
theorem Blk.piece {w : World} {g : Nat} {t : TypeId} {S : List Nat} (h : Blk w g t (w8 S)) (a o : Nat) (ho : 16 * a = o) : w.rangeAt g o (w8 (pcs S a)) := by
  have h1 := h.range o 16
  rw [w8_drop, w8_take] at h1
  unfold pcs
  rw [ho]
  exact h1

set_option maxRecDepth 100000 in
set_option maxHeartbeats 1000000 in
theorem from_any (S d : List Nat) (w : World) (HT : Hid (Tab w)) (HL : Hid (S.length = 1024)) (HP : Hid (∀ x ∈ S, x < 256)) (HDL : Hid (d.length = 32)) (HDP : Hid (∀ x ∈ d, x < 256)) :
    Calls Tryd.prog 28 #[.agg (w8 S).toArray, .agg (w8 d).toArray] w fun e w' => e = .returned (.agg (w8 (fromN S d)).toArray) ∧ Below w.heap.size w w' := by
  have HDS : Hid ((Tryd.prog.info? 36).map (·.size) = some (w8 d).length) := Lib.hid (by rw [w8_length, HDL.out]; exact info36)
  go_enter Tryd.func28, Tryd.ntmps28
  go_upto_region 2 with fail
  have HA : Hid (Blk ((((w.alloc (.cells (w8 S).toArray 56)).alloc (.cells (w8 d).toArray 36)).alloc (.cells zsum 36)).alloc (.cells Tryd.zeroCells122 122)) w.heap.size 56 (w8 S)) := Lib.hid (by
    have h := (((Blk.new w 56 (w8 S)).alloc (.cells (w8 d).toArray 36)).alloc (.cells zsum 36)).alloc (.cells Tryd.zeroCells122 122)
    exact h)
  have HD : Hid (Blk ((((w.alloc (.cells (w8 S).toArray 56)).alloc (.cells (w8 d).toArray 36)).alloc (.cells zsum 36)).alloc (.cells Tryd.zeroCells122 122)) (w.heap.size + 1) 36 (w8 d)) := Lib.hid (by
    have h := ((Blk.new (w.alloc (.cells (w8 S).toArray 56)) 36 (w8 d)).alloc (.cells zsum 36)).alloc (.cells Tryd.zeroCells122 122)
    rw [World.size_alloc] at h
    exact h)
  have HB : Hid (Blk ((((w.alloc (.cells (w8 S).toArray 56)).alloc (.cells (w8 d).toArray 36)).alloc (.cells zsum 36)).alloc (.cells Tryd.zeroCells122 122)) (w.heap.size + 1 + 1) 36 (w8 (List.replicate 32 0))) := Lib.hid (by
    have h := (Blk.new ((w.alloc (.cells (w8 S).toArray 56)).alloc (.cells (w8 d).toArray 36)) 36 (w8 (List.replicate 32 0))).alloc (.cells Tryd.zeroCells122 122)
    rw [zsum_eq, World.size_alloc, World.size_alloc] at h
    exact h)
  have HC : Hid (Blk ((((w.alloc (.cells (w8 S).toArray 56)).alloc (.cells (w8 d).toArray 36)).alloc (.cells zsum 36)).alloc (.cells Tryd.zeroCells122 122)) (w.heap.size + 1 + 1 + 1) 122 (w8 (List.replicate 1024 0))) := Lib.hid (by
    have h := Blk.new (((w.alloc (.cells (w8 S).toArray 56)).alloc (.cells (w8 d).toArray 36)).alloc (.cells zsum 36)) 122 (w8 (List.replicate 1024 0))
    rw [zc122, World.size_alloc, World.size_alloc, World.size_alloc] at h
    exact h)
  have HW : Hid (Below w.heap.size w ((((w.alloc (.cells (w8 S).toArray 56)).alloc (.cells (w8 d).toArray 36)).alloc (.cells zsum 36)).alloc (.cells Tryd.zeroCells122 122))) := Lib.hid (((((Below.refl _ _).alloc (Nat.le_refl _) _).alloc (by simp) _).alloc (by simp; omega) _).alloc (by simp; omega) _)
  unfold zsum at HA HD HB HC HW
  generalize ((((w.alloc (.cells (w8 S).toArray 56)).alloc (.cells (w8 d).toArray 36)).alloc (.cells _ 36)).alloc (.cells Tryd.zeroCells122 122)) = V at HA HD HB HC HW ⊢
  obtain ⟨f, hf⟩ : ∃ f : Nat → List Nat, f = fun a => prN (covN (pcs S a)) (pcs S (32 + a)) (bitN d a) := ⟨_, rfl⟩
  have HF : Hid (∀ a, f a = prN (covN (pcs S a)) (pcs S (32 + a)) (bitN d a)) := Lib.hid fun a => by rw [hf]
  have HFL : Hid (∀ a, a < 32 → (f a).length = 32) := Lib.hid fun a ha => by rw [hf]; exact prN_length _ _ _ (covN_length _) (pcs_length _ _ (by rw [HL.out]; omega))
  have HFR : Hid (fromN S d = sha (text 2 [rows f 32])) := Lib.hid (by unfold fromN fromT; rw [hf])
  have HFB : Hid (∀ x ∈ rows f 32, x < 256) := Lib.hid (by rw [hf]; exact fromT_lt S d HP.out)
  clear hf
  go_wp2_with fail
  go_loopw [8, 6, 7] (fun i _ _ wr => ∃ (k : Nat), k ≤ 32 ∧ i = .int .i64 k ∧ Hid (Blk wr w.heap.size 56 (w8 S)) ∧ Hid (Blk wr (w.heap.size + 1) 36 (w8 d)) ∧ Hid (Blk wr (w.heap.size + 1 + 1) 36 (w8 (List.replicate 32 0))) ∧ Hid (Blk wr (w.heap.size + 1 + 1 + 1) 122 (w8 (pairC f k))) ∧ Hid (Below w.heap.size w wr)) (fun i _ _ _ => 32 - (intOf i).toNat)
  case atStart => exact ⟨0, Nat.zero_le _, rfl, HA, HD, HB, HC, HW⟩
  case round =>
    clear HA HD HB HC HW
    obtain ⟨k, hk, rfl, HA, HD, HB, HC, HW⟩ := hrel
    have HRL : Hid ((rows f k).length = 32 * k) := Lib.hid (rows_length' k (fun a ha => HFL.out a (by omega)))
    by_cases hlt : k < 32
    · have k1 : (k : Int) < 32 := by omega
      have HDR := Lib.hid HD.out.all
      go_wp2_with (first | (refine wpList_load_mid rfl 36 (.tmp 3) rfl (w.heap.size + 1) 0 rfl (w8 d) _ HDR.out Tryd.underlying36 rfl HDS.out ?_))
      refine (bitAt_any d k wr HDL HDP hlt).mono ?_
      rintro e X5 ⟨hE5, hB5⟩
      have HWX5 := Lib.hid (HW.out.trans (hB5.mono HW.out.size))
      have HAX5 := Lib.hid (HA.out.below hB5 HA.out.lt)
      have HDX5 := Lib.hid (HD.out.below hB5 HD.out.lt)
      have HBX5 := Lib.hid (HB.out.below hB5 HB.out.lt)
      have HCX5 := Lib.hid (HC.out.below hB5 HC.out.lt)
      clear hB5 HDR HA HD HB HC HW
      obtain ⟨c, hc⟩ : ∃ c, covN (pcs S k) = c := ⟨_, rfl⟩
      obtain ⟨o, ho⟩ : ∃ o, pcs S (32 + k) = o := ⟨_, rfl⟩
      have HCN := Lib.hid hc
      have HON := Lib.hid ho
      have HCL : Hid (c.length = 16) := Lib.hid (by rw [← hc]; exact covN_length _)
      have HOLn : Hid (o.length = 16) := Lib.hid (by rw [← ho]; exact pcs_length _ _ (by rw [HL.out]; omega))
      have HPK : Hid ((pcs S k).length = 16) := Lib.hid (pcs_length _ _ (by rw [HL.out]; omega))
      have HIC : Hid ((Tryd.prog.info? 53).map (·.size) = some (w8 c).length) := Lib.hid (by rw [w8_length, HCL.out]; exact info53)
      have HIO : Hid ((Tryd.prog.info? 53).map (·.size) = some (w8 o).length) := Lib.hid (by rw [w8_length, HOLn.out]; exact info53)
      have HI1 : Hid ((Tryd.prog.info? 53).map (·.size) = some (w8 (pcs S k)).length) := Lib.hid (by rw [w8_length, HPK.out]; exact info53)
      have HR1 : Hid (∀ w', Blk w' w.heap.size 56 (w8 S) → w'.rangeAt w.heap.size (k * 16) (w8 (pcs S k))) := Lib.hid fun w' h => h.piece k (k * 16) (by omega)
      have HR2 : Hid (∀ w', Blk w' w.heap.size 56 (w8 S) → w'.rangeAt w.heap.size (512 + k * 16) (w8 o)) := Lib.hid fun w' h => by rw [← ho]; exact h.piece (32 + k) (512 + k * 16) (by omega)
      have HPL : Hid ((pairC f k).length = 1024) := Lib.hid (by unfold pairC; rw [List.length_append, HRL.out, List.length_replicate]; omega)
      have HI2 : Hid (∀ X : World, Below w.heap.size w X → Calls Tryd.prog 65 #[.agg (w8 (pcs S k)).toArray] X fun e w' => e = .returned (.agg (w8 c).toArray) ∧ Below X.heap.size X w') := Lib.hid fun X hX => by rw [← hc]; exact knownBy_any _ X (Lib.hid (HT.out.below hX HT.out.lt)) HPK (Lib.hid (pcs_lt S k HP.out))
      clear hc ho
      rcases bitN_two d k with h0 | h0
      · have HFK : Hid (f k = c ++ o) := Lib.hid (by rw [HF.out k, h0]; show prN (covN (pcs S k)) (pcs S (32 + k)) 0 = _; rw [HCN.out, HON.out]; rfl)
        rw [h0] at hE5
        subst hE5
        clear h0
        go_upto_region 6 with fail
        refine wp_region_held_drew (S := fun w' => Blk w' w.heap.size 56 (w8 S)) (by kernel_rfl) (HAX5.out.drewN 1) (fun hHeld => ?_)
        have HSa := Lib.hid hHeld
        refine wpAnyH_take (i := 0) (v := .int .i64 (k : Int)) rfl (by kernel_rfl) (by kernel_rfl) (by kernel_rfl) (fun _ _ _ h => h) (Or.inl ⟨by rfl, fun w _ => by rfl⟩) hHeld ?_
        show wpAnyH _ _ _ _ _ _ _ (Act.put _ (some 14) _) _
        simp only [Act.put, List.setIfInBounds_toArray, List.set_cons_zero, List.set_cons_succ]
        refine wpAnyH_take (i := 1) (v := .int .i64 0) rfl (by kernel_rfl) (by kernel_rfl) (by kernel_rfl) (fun _ _ _ h => h) (Or.inl ⟨by rfl, fun w _ => by rfl⟩) hHeld ?_
        show wpAnyH _ _ _ _ _ _ _ (Act.put _ (some 15) _) _
        simp only [Act.put, List.setIfInBounds_toArray, List.set_cons_zero, List.set_cons_succ]
        refine wpAnyH_take (i := 2) (v := .int .i64 (k : Int)) rfl (by kernel_rfl) (by kernel_rfl) (by kernel_rfl) (fun _ _ _ h => h) (Or.inl ⟨by rfl, fun w _ => by rfl⟩) hHeld ?_
        show wpAnyH _ _ _ _ _ _ _ (Act.put _ (some 16) _) _
        simp only [Act.put, List.setIfInBounds_toArray, List.set_cons_zero, List.set_cons_succ]
        refine wpAnyH_take (i := 3) (v := .pointer (some ⟨w.heap.size, 0, none⟩)) rfl (by kernel_rfl) (by kernel_rfl) (by kernel_rfl) (fun _ _ _ h => h) (Or.inl ⟨by rfl, by intro w' _; go_simp⟩) hHeld ?_
        show wpAnyH _ _ _ _ _ _ _ (Act.put _ (some 17) _) _
        simp only [Act.put, List.setIfInBounds_toArray, List.set_cons_zero, List.set_cons_succ]
        refine wpAnyH_take (i := 4) (v := .pointer (some ⟨w.heap.size, k * 16, none⟩)) rfl (by kernel_rfl) (by kernel_rfl) (by kernel_rfl) (fun _ _ _ h => h) (Or.inl ⟨by rfl, by intro w' _; go_simp⟩) hHeld ?_
        show wpAnyH _ _ _ _ _ _ _ (Act.put _ (some 18) _) _
        simp only [Act.put, List.setIfInBounds_toArray, List.set_cons_zero, List.set_cons_succ]
        refine wpAnyH_take (i := 5) (v := .agg (w8 (pcs S k)).toArray) rfl (by kernel_rfl) (by kernel_rfl) (by kernel_rfl) (fun _ _ _ h => h) (yieldsIf_load_mid (by rfl) 53 (.tmp 18) rfl w.heap.size (k * 16) rfl (w8 (pcs S k)) _ (fun w' h => HR1.out w' h) Tryd.underlying53 rfl HI1.out) hHeld ?_
        show wpAnyH _ _ _ _ _ _ _ (Act.put _ (some 19) _) _
        simp only [Act.put, List.setIfInBounds_toArray, List.set_cons_zero, List.set_cons_succ]
        refine wpAnyH_take (i := 7) (v := .pointer (some ⟨w.heap.size + 1 + 1 + 1, k * 32, none⟩)) rfl (by kernel_rfl) (by kernel_rfl) (by kernel_rfl) (fun _ _ _ h => h) (Or.inl ⟨by rfl, by intro w' _; go_simp⟩) hHeld ?_
        show wpAnyH _ _ _ _ _ _ _ (Act.put _ (some 21) _) _
        simp only [Act.put, List.setIfInBounds_toArray, List.set_cons_zero, List.set_cons_succ]
        refine wpAnyH_ready (rs := [6]) (by kernel_rfl) (by simp) ?_
        refine AllReadyH.cons rfl (fun K hK => ?_) AllReadyH.nil
        refine step_call rfl 65 #[.tmp 19] #[53] rfl #[.agg (w8 (pcs S k)).toArray] (by simp [Act.eval]) (by go_simp) (HI2.out _ (below_drewN HWX5.out 1)) ?_
        rintro e X6 ⟨rfl, hB6⟩
        have HW6 := Lib.hid ((below_drewN HWX5.out 1).trans (hB6.mono (below_drewN HWX5.out 1).size))
        have HA6 := Lib.hid (Blk.below (HAX5.out.drewN 1) hB6 HAX5.out.lt)
        have HD6 := Lib.hid (Blk.below (HDX5.out.drewN 1) hB6 HDX5.out.lt)
        have HB6 := Lib.hid (Blk.below (HBX5.out.drewN 1) hB6 HBX5.out.lt)
        have HC6 := Lib.hid (Blk.below (HCX5.out.drewN 1) hB6 HCX5.out.lt)
        clear hB6
        refine ⟨_, rfl, hK.out _ _ (HA6.out) (fun hHeld => ?_)⟩
        clear hK K
        show wpAnyH _ _ _ _ _ _ _ (Act.put _ (some 20) _) _
        simp only [Act.put, List.setIfInBounds_toArray, List.set_cons_zero, List.set_cons_succ]
        refine wpAnyH_take (i := 8) (v := .pointer (some ⟨w.heap.size + 1 + 1 + 1, k * 32, none⟩)) rfl (by kernel_rfl) (by kernel_rfl) (by kernel_rfl) (fun _ _ _ h => h) (Or.inl ⟨by rfl, by intro w' _; go_simp⟩) hHeld ?_
        show wpAnyH _ _ _ _ _ _ _ (Act.put _ (some 22) _) _
        simp only [Act.put, List.setIfInBounds_toArray, List.set_cons_zero, List.set_cons_succ]
        have HT6 : Hid (X6.there (w.heap.size + 1 + 1 + 1) (k * 32) (w8 c).length) := Lib.hid (HC6.out.there _ _ (by rw [w8_length, w8_length, HCL.out, HPL.out]; omega))
        refine wpAnyH_ready (rs := [9]) (by kernel_rfl) (by simp) ?_
        refine AllReadyH.cons rfl (fun K hK => ?_) AllReadyH.nil
        refine step_store_mid rfl 53 (.tmp 22) (.tmp 20) rfl (w.heap.size + 1 + 1 + 1) (k * 32) (w8 c) rfl rfl HT6.out HIC.out (w8_one _) ?_
        refine hK.out _ _ (HA6.out.farCells (by omega) _) (fun hHeld => ?_)
        clear hK K
        show wpAnyH _ _ _ _ _ _ _ (Act.put _ none _) _
        simp only [Act.put]
        have HA7 := Lib.hid (HA6.out.farCells (b := (w.heap.size + 1 + 1 + 1)) (o := k * 32) (by omega) (w8 c))
        have HD7 := Lib.hid (HD6.out.farCells (b := (w.heap.size + 1 + 1 + 1)) (o := k * 32) (by omega) (w8 c))
        have HB7 := Lib.hid (HB6.out.farCells (b := (w.heap.size + 1 + 1 + 1)) (o := k * 32) (by omega) (w8 c))
        have HC7 := Lib.hid (Blk.put8 (rows f k) (List.replicate 16 0) (List.replicate 16 0 ++ List.replicate (1024 - 32 * (k + 1)) 0) c (by rw [← pairC_open f k hlt]; exact HC6.out) (by rw [HCL.out]; simp) (k * 32) (by rw [HRL.out]; omega))
        have HW7 := Lib.hid (below_cells (g := (w.heap.size + 1 + 1 + 1)) (w8 c) (k * 32) X6 HW6.out (by omega))
        generalize X6.setCells (w.heap.size + 1 + 1 + 1) (k * 32) (w8 c) = X7 at HA7 HD7 HB7 HC7 HW7 ⊢
        refine wpAnyH_done (by kernel_rfl) ?_ _
        clear HW6 HA6 HD6 HB6 HC6 HT6 hHeld HSa
        go_upto_region 7 with fail
        refine wp_region_held_drew (S := fun w' => Blk w' w.heap.size 56 (w8 S)) (by kernel_rfl) (HA7.out.drewN 1) (fun hHeld => ?_)
        have HSb := Lib.hid hHeld
        refine wpAnyH_take (i := 0) (v := .int .i64 (k : Int)) rfl (by kernel_rfl) (by kernel_rfl) (by kernel_rfl) (fun _ _ _ h => h) (Or.inl ⟨by rfl, fun w _ => by rfl⟩) hHeld ?_
        show wpAnyH _ _ _ _ _ _ _ (Act.put _ (some 23) _) _
        simp only [Act.put, List.setIfInBounds_toArray, List.set_cons_zero, List.set_cons_succ]
        refine wpAnyH_take (i := 1) (v := .int .i64 0) rfl (by kernel_rfl) (by kernel_rfl) (by kernel_rfl) (fun _ _ _ h => h) (Or.inl ⟨by rfl, fun w _ => by rfl⟩) hHeld ?_
        show wpAnyH _ _ _ _ _ _ _ (Act.put _ (some 24) _) _
        simp only [Act.put, List.setIfInBounds_toArray, List.set_cons_zero, List.set_cons_succ]
        refine wpAnyH_take (i := 2) (v := .int .i64 1) rfl (by kernel_rfl) (by kernel_rfl) (by kernel_rfl) (fun _ _ _ h => h) (Or.inl ⟨by rfl, by intro w' _; go_simp <;> rfl⟩) hHeld ?_
        show wpAnyH _ _ _ _ _ _ _ (Act.put _ (some 25) _) _
        simp only [Act.put, List.setIfInBounds_toArray, List.set_cons_zero, List.set_cons_succ]
        refine wpAnyH_take (i := 3) (v := .int .i64 (k : Int)) rfl (by kernel_rfl) (by kernel_rfl) (by kernel_rfl) (fun _ _ _ h => h) (Or.inl ⟨by rfl, fun w _ => by rfl⟩) hHeld ?_
        show wpAnyH _ _ _ _ _ _ _ (Act.put _ (some 26) _) _
        simp only [Act.put, List.setIfInBounds_toArray, List.set_cons_zero, List.set_cons_succ]
        refine wpAnyH_take (i := 4) (v := .pointer (some ⟨w.heap.size, 512, none⟩)) rfl (by kernel_rfl) (by kernel_rfl) (by kernel_rfl) (fun _ _ _ h => h) (Or.inl ⟨by rfl, by intro w' _; go_simp⟩) hHeld ?_
        show wpAnyH _ _ _ _ _ _ _ (Act.put _ (some 27) _) _
        simp only [Act.put, List.setIfInBounds_toArray, List.set_cons_zero, List.set_cons_succ]
        refine wpAnyH_take (i := 5) (v := .pointer (some ⟨w.heap.size, 512 + k * 16, none⟩)) rfl (by kernel_rfl) (by kernel_rfl) (by kernel_rfl) (fun _ _ _ h => h) (Or.inl ⟨by rfl, by intro w' _; go_simp⟩) hHeld ?_
        show wpAnyH _ _ _ _ _ _ _ (Act.put _ (some 28) _) _
        simp only [Act.put, List.setIfInBounds_toArray, List.set_cons_zero, List.set_cons_succ]
        refine wpAnyH_take (i := 6) (v := .agg (w8 o).toArray) rfl (by kernel_rfl) (by kernel_rfl) (by kernel_rfl) (fun _ _ _ h => h) (yieldsIf_load_mid (by rfl) 53 (.tmp 28) rfl w.heap.size (512 + k * 16) rfl (w8 o) _ (fun w' h => HR2.out w' h) Tryd.underlying53 rfl HIO.out) hHeld ?_
        show wpAnyH _ _ _ _ _ _ _ (Act.put _ (some 29) _) _
        simp only [Act.put, List.setIfInBounds_toArray, List.set_cons_zero, List.set_cons_succ]
        refine wpAnyH_take (i := 7) (v := .pointer (some ⟨w.heap.size + 1 + 1 + 1, k * 32, none⟩)) rfl (by kernel_rfl) (by kernel_rfl) (by kernel_rfl) (fun _ _ _ h => h) (Or.inl ⟨by rfl, by intro w' _; go_simp⟩) hHeld ?_
        show wpAnyH _ _ _ _ _ _ _ (Act.put _ (some 30) _) _
        simp only [Act.put, List.setIfInBounds_toArray, List.set_cons_zero, List.set_cons_succ]
        refine wpAnyH_take (i := 8) (v := .pointer (some ⟨w.heap.size + 1 + 1 + 1, k * 32 + 16, none⟩)) rfl (by kernel_rfl) (by kernel_rfl) (by kernel_rfl) (fun _ _ _ h => h) (Or.inl ⟨by rfl, by intro w' _; go_simp⟩) hHeld ?_
        show wpAnyH _ _ _ _ _ _ _ (Act.put _ (some 31) _) _
        simp only [Act.put, List.setIfInBounds_toArray, List.set_cons_zero, List.set_cons_succ]
        have HT7 : Hid (X7.drew.there (w.heap.size + 1 + 1 + 1) (k * 32 + 16) (w8 o).length) := Lib.hid ((HC7.out.drewN 1).there _ _ (by rw [w8_length, w8_length, HOLn.out]; simp only [List.length_append, List.length_replicate, HRL.out, HCL.out]; omega))
        refine wpAnyH_ready (rs := [9]) (by kernel_rfl) (by simp) ?_
        refine AllReadyH.cons rfl (fun K hK => ?_) AllReadyH.nil
        refine step_store_mid rfl 53 (.tmp 31) (.tmp 29) rfl (w.heap.size + 1 + 1 + 1) (k * 32 + 16) (w8 o) rfl rfl HT7.out HIO.out (w8_one _) ?_
        refine hK.out _ _ (Blk.farCells (HA7.out.drewN 1) (by omega) _) (fun hHeld => ?_)
        clear hK K
        show wpAnyH _ _ _ _ _ _ _ (Act.put _ none _) _
        simp only [Act.put]
        have HAE := Lib.hid (Blk.farCells (w := X7.drew) (b := (w.heap.size + 1 + 1 + 1)) (o := k * 32 + 16) (HA7.out.drewN 1) (by omega) (w8 o))
        have HDE := Lib.hid (Blk.farCells (w := X7.drew) (b := (w.heap.size + 1 + 1 + 1)) (o := k * 32 + 16) (HD7.out.drewN 1) (by omega) (w8 o))
        have HBE := Lib.hid (Blk.farCells (w := X7.drew) (b := (w.heap.size + 1 + 1 + 1)) (o := k * 32 + 16) (HB7.out.drewN 1) (by omega) (w8 o))
        have HCE : Hid (Blk (X7.drew.setCells (w.heap.size + 1 + 1 + 1) (k * 32 + 16) (w8 o)) (w.heap.size + 1 + 1 + 1) 122 (w8 (pairC f (k + 1)))) := Lib.hid (by
          have h := Blk.put8 (w := X7.drew) (rows f k ++ c) (List.replicate 16 0) (List.replicate (1024 - 32 * (k + 1)) 0) o (by rw [List.append_assoc]; exact HC7.out.drewN 1) (by rw [HOLn.out]; simp) (k * 32 + 16) (by rw [List.length_append, HRL.out, HCL.out]; omega)
          rw [List.append_assoc, pairC_shut f k _ _ HFK.out] at h
          exact h)
        have HWE := Lib.hid (below_cells (g := (w.heap.size + 1 + 1 + 1)) (w8 o) (k * 32 + 16) X7.drew (below_drewN HW7.out 1) (by omega))
        generalize X7.drew.setCells (w.heap.size + 1 + 1 + 1) (k * 32 + 16) (w8 o) = E at HAE HDE HBE HCE HWE ⊢
        refine wpAnyH_done (by kernel_rfl) ?_ _
        clear HW7 HA7 HD7 HB7 HC7 HT7 hHeld HSb
        go_wp2
        go_roundw
        case rel => exact ⟨k + 1, by omega, by go_num, HAE, HDE, HBE, HCE, HWE⟩
        case measure => simp [intOf]; omega
      · have HFK : Hid (f k = o ++ c) := Lib.hid (by rw [HF.out k, h0]; show prN (covN (pcs S k)) (pcs S (32 + k)) 1 = _; rw [HCN.out, HON.out]; rfl)
        rw [h0] at hE5
        subst hE5
        clear h0
        go_upto_region 6 with fail
        refine wp_region_held_drew (S := fun w' => Blk w' w.heap.size 56 (w8 S)) (by kernel_rfl) (HAX5.out.drewN 1) (fun hHeld => ?_)
        have HSa := Lib.hid hHeld
        refine wpAnyH_take (i := 0) (v := .int .i64 (k : Int)) rfl (by kernel_rfl) (by kernel_rfl) (by kernel_rfl) (fun _ _ _ h => h) (Or.inl ⟨by rfl, fun w _ => by rfl⟩) hHeld ?_
        show wpAnyH _ _ _ _ _ _ _ (Act.put _ (some 14) _) _
        simp only [Act.put, List.setIfInBounds_toArray, List.set_cons_zero, List.set_cons_succ]
        refine wpAnyH_take (i := 1) (v := .int .i64 1) rfl (by kernel_rfl) (by kernel_rfl) (by kernel_rfl) (fun _ _ _ h => h) (Or.inl ⟨by rfl, fun w _ => by rfl⟩) hHeld ?_
        show wpAnyH _ _ _ _ _ _ _ (Act.put _ (some 15) _) _
        simp only [Act.put, List.setIfInBounds_toArray, List.set_cons_zero, List.set_cons_succ]
        refine wpAnyH_take (i := 2) (v := .int .i64 (k : Int)) rfl (by kernel_rfl) (by kernel_rfl) (by kernel_rfl) (fun _ _ _ h => h) (Or.inl ⟨by rfl, fun w _ => by rfl⟩) hHeld ?_
        show wpAnyH _ _ _ _ _ _ _ (Act.put _ (some 16) _) _
        simp only [Act.put, List.setIfInBounds_toArray, List.set_cons_zero, List.set_cons_succ]
        refine wpAnyH_take (i := 3) (v := .pointer (some ⟨w.heap.size, 0, none⟩)) rfl (by kernel_rfl) (by kernel_rfl) (by kernel_rfl) (fun _ _ _ h => h) (Or.inl ⟨by rfl, by intro w' _; go_simp⟩) hHeld ?_
        show wpAnyH _ _ _ _ _ _ _ (Act.put _ (some 17) _) _
        simp only [Act.put, List.setIfInBounds_toArray, List.set_cons_zero, List.set_cons_succ]
        refine wpAnyH_take (i := 4) (v := .pointer (some ⟨w.heap.size, k * 16, none⟩)) rfl (by kernel_rfl) (by kernel_rfl) (by kernel_rfl) (fun _ _ _ h => h) (Or.inl ⟨by rfl, by intro w' _; go_simp⟩) hHeld ?_
        show wpAnyH _ _ _ _ _ _ _ (Act.put _ (some 18) _) _
        simp only [Act.put, List.setIfInBounds_toArray, List.set_cons_zero, List.set_cons_succ]
        refine wpAnyH_take (i := 5) (v := .agg (w8 (pcs S k)).toArray) rfl (by kernel_rfl) (by kernel_rfl) (by kernel_rfl) (fun _ _ _ h => h) (yieldsIf_load_mid (by rfl) 53 (.tmp 18) rfl w.heap.size (k * 16) rfl (w8 (pcs S k)) _ (fun w' h => HR1.out w' h) Tryd.underlying53 rfl HI1.out) hHeld ?_
        show wpAnyH _ _ _ _ _ _ _ (Act.put _ (some 19) _) _
        simp only [Act.put, List.setIfInBounds_toArray, List.set_cons_zero, List.set_cons_succ]
        refine wpAnyH_take (i := 7) (v := .pointer (some ⟨w.heap.size + 1 + 1 + 1, k * 32, none⟩)) rfl (by kernel_rfl) (by kernel_rfl) (by kernel_rfl) (fun _ _ _ h => h) (Or.inl ⟨by rfl, by intro w' _; go_simp⟩) hHeld ?_
        show wpAnyH _ _ _ _ _ _ _ (Act.put _ (some 21) _) _
        simp only [Act.put, List.setIfInBounds_toArray, List.set_cons_zero, List.set_cons_succ]
        refine wpAnyH_ready (rs := [6]) (by kernel_rfl) (by simp) ?_
        refine AllReadyH.cons rfl (fun K hK => ?_) AllReadyH.nil
        refine step_call rfl 65 #[.tmp 19] #[53] rfl #[.agg (w8 (pcs S k)).toArray] (by simp [Act.eval]) (by go_simp) (HI2.out _ (below_drewN HWX5.out 1)) ?_
        rintro e X6 ⟨rfl, hB6⟩
        have HW6 := Lib.hid ((below_drewN HWX5.out 1).trans (hB6.mono (below_drewN HWX5.out 1).size))
        have HA6 := Lib.hid (Blk.below (HAX5.out.drewN 1) hB6 HAX5.out.lt)
        have HD6 := Lib.hid (Blk.below (HDX5.out.drewN 1) hB6 HDX5.out.lt)
        have HB6 := Lib.hid (Blk.below (HBX5.out.drewN 1) hB6 HBX5.out.lt)
        have HC6 := Lib.hid (Blk.below (HCX5.out.drewN 1) hB6 HCX5.out.lt)
        clear hB6
        refine ⟨_, rfl, hK.out _ _ (HA6.out) (fun hHeld => ?_)⟩
        clear hK K
        show wpAnyH _ _ _ _ _ _ _ (Act.put _ (some 20) _) _
        simp only [Act.put, List.setIfInBounds_toArray, List.set_cons_zero, List.set_cons_succ]
        refine wpAnyH_take (i := 8) (v := .pointer (some ⟨w.heap.size + 1 + 1 + 1, k * 32 + 16, none⟩)) rfl (by kernel_rfl) (by kernel_rfl) (by kernel_rfl) (fun _ _ _ h => h) (Or.inl ⟨by rfl, by intro w' _; go_simp⟩) hHeld ?_
        show wpAnyH _ _ _ _ _ _ _ (Act.put _ (some 22) _) _
        simp only [Act.put, List.setIfInBounds_toArray, List.set_cons_zero, List.set_cons_succ]
        have HT6 : Hid (X6.there (w.heap.size + 1 + 1 + 1) (k * 32 + 16) (w8 c).length) := Lib.hid (HC6.out.there _ _ (by rw [w8_length, w8_length, HCL.out, HPL.out]; omega))
        refine wpAnyH_ready (rs := [9]) (by kernel_rfl) (by simp) ?_
        refine AllReadyH.cons rfl (fun K hK => ?_) AllReadyH.nil
        refine step_store_mid rfl 53 (.tmp 22) (.tmp 20) rfl (w.heap.size + 1 + 1 + 1) (k * 32 + 16) (w8 c) rfl rfl HT6.out HIC.out (w8_one _) ?_
        refine hK.out _ _ (HA6.out.farCells (by omega) _) (fun hHeld => ?_)
        clear hK K
        show wpAnyH _ _ _ _ _ _ _ (Act.put _ none _) _
        simp only [Act.put]
        have HA7 := Lib.hid (HA6.out.farCells (b := (w.heap.size + 1 + 1 + 1)) (o := k * 32 + 16) (by omega) (w8 c))
        have HD7 := Lib.hid (HD6.out.farCells (b := (w.heap.size + 1 + 1 + 1)) (o := k * 32 + 16) (by omega) (w8 c))
        have HB7 := Lib.hid (HB6.out.farCells (b := (w.heap.size + 1 + 1 + 1)) (o := k * 32 + 16) (by omega) (w8 c))
        have HC7 := Lib.hid (Blk.put8 (rows f k ++ List.replicate 16 0) (List.replicate 16 0) (List.replicate (1024 - 32 * (k + 1)) 0) c (by rw [List.append_assoc, ← pairC_open f k hlt]; exact HC6.out) (by rw [HCL.out]; simp) (k * 32 + 16) (by rw [List.length_append, HRL.out, List.length_replicate]; omega))
        have HW7 := Lib.hid (below_cells (g := (w.heap.size + 1 + 1 + 1)) (w8 c) (k * 32 + 16) X6 HW6.out (by omega))
        generalize X6.setCells (w.heap.size + 1 + 1 + 1) (k * 32 + 16) (w8 c) = X7 at HA7 HD7 HB7 HC7 HW7 ⊢
        refine wpAnyH_done (by kernel_rfl) ?_ _
        clear HW6 HA6 HD6 HB6 HC6 HT6 hHeld HSa
        go_upto_region 7 with fail
        refine wp_region_held_drew (S := fun w' => Blk w' w.heap.size 56 (w8 S)) (by kernel_rfl) (HA7.out.drewN 1) (fun hHeld => ?_)
        have HSb := Lib.hid hHeld
        refine wpAnyH_take (i := 0) (v := .int .i64 (k : Int)) rfl (by kernel_rfl) (by kernel_rfl) (by kernel_rfl) (fun _ _ _ h => h) (Or.inl ⟨by rfl, fun w _ => by rfl⟩) hHeld ?_
        show wpAnyH _ _ _ _ _ _ _ (Act.put _ (some 23) _) _
        simp only [Act.put, List.setIfInBounds_toArray, List.set_cons_zero, List.set_cons_succ]
        refine wpAnyH_take (i := 1) (v := .int .i64 1) rfl (by kernel_rfl) (by kernel_rfl) (by kernel_rfl) (fun _ _ _ h => h) (Or.inl ⟨by rfl, fun w _ => by rfl⟩) hHeld ?_
        show wpAnyH _ _ _ _ _ _ _ (Act.put _ (some 24) _) _
        simp only [Act.put, List.setIfInBounds_toArray, List.set_cons_zero, List.set_cons_succ]
        refine wpAnyH_take (i := 2) (v := .int .i64 0) rfl (by kernel_rfl) (by kernel_rfl) (by kernel_rfl) (fun _ _ _ h => h) (Or.inl ⟨by rfl, by intro w' _; go_simp <;> rfl⟩) hHeld ?_
        show wpAnyH _ _ _ _ _ _ _ (Act.put _ (some 25) _) _
        simp only [Act.put, List.setIfInBounds_toArray, List.set_cons_zero, List.set_cons_succ]
        refine wpAnyH_take (i := 3) (v := .int .i64 (k : Int)) rfl (by kernel_rfl) (by kernel_rfl) (by kernel_rfl) (fun _ _ _ h => h) (Or.inl ⟨by rfl, fun w _ => by rfl⟩) hHeld ?_
        show wpAnyH _ _ _ _ _ _ _ (Act.put _ (some 26) _) _
        simp only [Act.put, List.setIfInBounds_toArray, List.set_cons_zero, List.set_cons_succ]
        refine wpAnyH_take (i := 4) (v := .pointer (some ⟨w.heap.size, 512, none⟩)) rfl (by kernel_rfl) (by kernel_rfl) (by kernel_rfl) (fun _ _ _ h => h) (Or.inl ⟨by rfl, by intro w' _; go_simp⟩) hHeld ?_
        show wpAnyH _ _ _ _ _ _ _ (Act.put _ (some 27) _) _
        simp only [Act.put, List.setIfInBounds_toArray, List.set_cons_zero, List.set_cons_succ]
        refine wpAnyH_take (i := 5) (v := .pointer (some ⟨w.heap.size, 512 + k * 16, none⟩)) rfl (by kernel_rfl) (by kernel_rfl) (by kernel_rfl) (fun _ _ _ h => h) (Or.inl ⟨by rfl, by intro w' _; go_simp⟩) hHeld ?_
        show wpAnyH _ _ _ _ _ _ _ (Act.put _ (some 28) _) _
        simp only [Act.put, List.setIfInBounds_toArray, List.set_cons_zero, List.set_cons_succ]
        refine wpAnyH_take (i := 6) (v := .agg (w8 o).toArray) rfl (by kernel_rfl) (by kernel_rfl) (by kernel_rfl) (fun _ _ _ h => h) (yieldsIf_load_mid (by rfl) 53 (.tmp 28) rfl w.heap.size (512 + k * 16) rfl (w8 o) _ (fun w' h => HR2.out w' h) Tryd.underlying53 rfl HIO.out) hHeld ?_
        show wpAnyH _ _ _ _ _ _ _ (Act.put _ (some 29) _) _
        simp only [Act.put, List.setIfInBounds_toArray, List.set_cons_zero, List.set_cons_succ]
        refine wpAnyH_take (i := 7) (v := .pointer (some ⟨w.heap.size + 1 + 1 + 1, k * 32, none⟩)) rfl (by kernel_rfl) (by kernel_rfl) (by kernel_rfl) (fun _ _ _ h => h) (Or.inl ⟨by rfl, by intro w' _; go_simp⟩) hHeld ?_
        show wpAnyH _ _ _ _ _ _ _ (Act.put _ (some 30) _) _
        simp only [Act.put, List.setIfInBounds_toArray, List.set_cons_zero, List.set_cons_succ]
        refine wpAnyH_take (i := 8) (v := .pointer (some ⟨w.heap.size + 1 + 1 + 1, k * 32, none⟩)) rfl (by kernel_rfl) (by kernel_rfl) (by kernel_rfl) (fun _ _ _ h => h) (Or.inl ⟨by rfl, by intro w' _; go_simp⟩) hHeld ?_
        show wpAnyH _ _ _ _ _ _ _ (Act.put _ (some 31) _) _
        simp only [Act.put, List.setIfInBounds_toArray, List.set_cons_zero, List.set_cons_succ]
        have HT7 : Hid (X7.drew.there (w.heap.size + 1 + 1 + 1) (k * 32) (w8 o).length) := Lib.hid ((HC7.out.drewN 1).there _ _ (by rw [w8_length, w8_length, HOLn.out]; simp only [List.length_append, List.length_replicate, HRL.out, HCL.out]; omega))
        refine wpAnyH_ready (rs := [9]) (by kernel_rfl) (by simp) ?_
        refine AllReadyH.cons rfl (fun K hK => ?_) AllReadyH.nil
        refine step_store_mid rfl 53 (.tmp 31) (.tmp 29) rfl (w.heap.size + 1 + 1 + 1) (k * 32) (w8 o) rfl rfl HT7.out HIO.out (w8_one _) ?_
        refine hK.out _ _ (Blk.farCells (HA7.out.drewN 1) (by omega) _) (fun hHeld => ?_)
        clear hK K
        show wpAnyH _ _ _ _ _ _ _ (Act.put _ none _) _
        simp only [Act.put]
        have HAE := Lib.hid (Blk.farCells (w := X7.drew) (b := (w.heap.size + 1 + 1 + 1)) (o := k * 32) (HA7.out.drewN 1) (by omega) (w8 o))
        have HDE := Lib.hid (Blk.farCells (w := X7.drew) (b := (w.heap.size + 1 + 1 + 1)) (o := k * 32) (HD7.out.drewN 1) (by omega) (w8 o))
        have HBE := Lib.hid (Blk.farCells (w := X7.drew) (b := (w.heap.size + 1 + 1 + 1)) (o := k * 32) (HB7.out.drewN 1) (by omega) (w8 o))
        have HCE : Hid (Blk (X7.drew.setCells (w.heap.size + 1 + 1 + 1) (k * 32) (w8 o)) (w.heap.size + 1 + 1 + 1) 122 (w8 (pairC f (k + 1)))) := Lib.hid (by
          have h := Blk.put8 (w := X7.drew) (rows f k) (List.replicate 16 0) (c ++ List.replicate (1024 - 32 * (k + 1)) 0) o (by rw [← List.append_assoc]; exact HC7.out.drewN 1) (by rw [HOLn.out]; simp) (k * 32) (by rw [HRL.out]; omega)
          rw [pairC_shut f k _ _ HFK.out] at h
          exact h)
        have HWE := Lib.hid (below_cells (g := (w.heap.size + 1 + 1 + 1)) (w8 o) (k * 32) X7.drew (below_drewN HW7.out 1) (by omega))
        generalize X7.drew.setCells (w.heap.size + 1 + 1 + 1) (k * 32) (w8 o) = E at HAE HDE HBE HCE HWE ⊢
        refine wpAnyH_done (by kernel_rfl) ?_ _
        clear HW7 HA7 HD7 HB7 HC7 HT7 hHeld HSb
        go_wp2
        go_roundw
        case rel => exact ⟨k + 1, by omega, by go_num, HAE, HDE, HBE, HCE, HWE⟩
        case measure => simp [intOf]; omega
    · obtain rfl : k = 32 := by omega
      rw [pairC_end] at HC
      have HRG := Lib.hid HC.out.all
      have HS5 : Hid ((Tryd.prog.info? 122).map (·.size) = some (w8 (rows f 32)).length) := Lib.hid (by rw [w8_length, HRL.out]; exact info122)
      go_wp2_with (first | (refine wpList_load_mid rfl 122 (.tmp 5) rfl (w.heap.size + 1 + 1 + 1) 0 rfl (w8 (rows f 32)) _ HRG.out Tryd.underlying122 rfl HS5.out ?_))
      refine (pleaf_any (rows f 32) wr (Lib.hid (HT.out.below HW.out HT.out.lt)) HRL HFB).mono ?_
      rintro e V2 ⟨rfl, hB2⟩
      have HW3 := Lib.hid (HW.out.trans (hB2.mono HW.out.size))
      have HB3 := Lib.hid (HB.out.below hB2 HB.out.lt)
      clear hB2
      rw [← HFR.out]
      have HS6 : Hid ((Tryd.prog.info? 36).map (·.size) = some (w8 (fromN S d)).toArray.size) := Lib.hid (by rw [List.size_toArray, w8_length, fromN_length]; exact info36)
      have HZ6 : Hid ((w8 (List.replicate 32 0)).toArray.size = (w8 (fromN S d)).toArray.size) := Lib.hid (by rw [List.size_toArray, List.size_toArray, w8_length, w8_length, fromN_length]; simp)
      have HO6 := Lib.hid (all_oneCell_toArray (w8_one (fromN S d)))
      go_wp2_with (first | (refine wpList_store_row rfl 36 (.tmp 4) (.tmp 34) rfl (w.heap.size + 1 + 1) (w8 (fromN S d)).toArray rfl rfl 36 _ HB3.out HS6.out HZ6.out HO6.out ?_))
      exact bodyPost_ret (v := .agg (w8 (fromN S d)).toArray) (results_cell_row Tryd.results28 _ _ (w.heap.size + 1 + 1) 36 (w8 (fromN S d)).toArray (0, 0) _ rfl (HB3.out.setRow _) Tryd.underlying36 rfl HS6.out) rfl ⟨rfl, below_setRow HW3.out (by omega) _⟩
end Go.Proofs.YtkonokjhpddbfaaDoor
