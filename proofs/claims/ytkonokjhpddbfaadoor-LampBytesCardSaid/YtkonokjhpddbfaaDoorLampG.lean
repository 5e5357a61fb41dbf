/-
  tollhouselaw04.To (function 27) and From (24): a signature stays as it is; nothing that was there is written.
-/
import Derived.Test.YtkonokjhpddbfaaDoorLampD
import Derived.Test.YtkonokjhpddbfaaDoorLampE
namespace Go.Proofs.YtkonokjhpddbfaaDoor
open Go.RowKit
set_option linter.unusedVariables false

def fO (S : List Nat) (a : Nat) : List Nat := if a < 32 then pcs S a else List.replicate 16 0
def gO (S : List Nat) (a : Nat) : List Nat := if a < 32 then pcs S (32 + a) else List.replicate 16 0
theorem fO_length (S : List Nat) (h : S.length = 1024) (a : Nat) : (fO S a).length = 16 := by
  unfold fO
  split
  · exact pcs_length _ _ (by omega)
  · simp
theorem gO_length (S : List Nat) (h : S.length = 1024) (a : Nat) : (gO S a).length = 16 := by
  unfold gO
  split
  · exact pcs_length _ _ (by omega)
  · simp
theorem fO_eq (S : List Nat) (a : Nat) (h : a < 32) : fO S a = pcs S a := by unfold fO; rw [if_pos h]
theorem gO_eq (S : List Nat) (a : Nat) (h : a < 32) : gO S a = pcs S (32 + a) := by unfold gO; rw [if_pos h]
theorem rows_pcs (S : List Nat) (j : Nat) : ∀ k, rows (fun a => pcs S (j + a)) k = (S.drop (16 * j)).take (16 * k)
  | 0 => by simp [rows]
  | k + 1 => by
    rw [rows_succ, rows_pcs S j k, Nat.mul_succ, List.take_add, List.drop_drop]
    unfold pcs
    rw [Nat.mul_add]
theorem fgO_all (S : List Nat) (h : S.length = 1024) : rows (fO S) 32 ++ rows (gO S) 32 = S := by
  have e1 : rows (fO S) 32 = rows (fun a => pcs S (0 + a)) 32 := rows_congr 32 fun a ha => by rw [fO_eq S a ha, Nat.zero_add]
  have e2 : rows (gO S) 32 = rows (fun a => pcs S (32 + a)) 32 := rows_congr 32 fun a ha => gO_eq S a ha
  rw [e1, e2, rows_pcs, rows_pcs, Nat.mul_zero, List.drop_zero, List.take_of_length_le (l := S.drop (16 * 32)) (by rw [List.length_drop]; omega), List.take_append_drop]
theorem info48 : (Tryd.prog.info? 48).map (·.size) = some 16 := by kernel_rfl
theorem info51 : (Tryd.prog.info? 51).map (·.size) = some 1024 := by kernel_rfl
theorem zc51 : (w8 (List.replicate 1024 0)).toArray = Tryd.zeroCells51 := by kernel_rfl

set_option maxRecDepth 100000 in
set_option maxHeartbeats 1000000 in
theorem to_any (S : List Nat) (w : World) (HL : Hid (S.length = 1024)) :
    Calls Tryd.prog 27 #[.agg (w8 S).toArray] w fun e w' => e = .returned (.agg (w8 S).toArray) ∧ Below w.heap.size w w' := by
  go_enter Tryd.func27, Tryd.ntmps27
  go_upto_region 2 with fail
  have HA : Hid (Blk (((w.alloc (.cells (w8 S).toArray 51)).alloc (.cells Tryd.zeroCells56 56)).alloc (.cells Tryd.zeroCells56 56)) w.heap.size 51 (w8 S)) := Lib.hid (by
    have h := ((Blk.new w 51 (w8 S)).alloc (.cells Tryd.zeroCells56 56)).alloc (.cells Tryd.zeroCells56 56)
    exact h)
  have HB : Hid (Blk (((w.alloc (.cells (w8 S).toArray 51)).alloc (.cells Tryd.zeroCells56 56)).alloc (.cells Tryd.zeroCells56 56)) (w.heap.size + 1) 56 (w8 (List.replicate 1024 0))) := Lib.hid (by
    have h := (Blk.new (w.alloc (.cells (w8 S).toArray 51)) 56 (w8 (List.replicate 1024 0))).alloc (.cells Tryd.zeroCells56 56)
    rw [zc56, World.size_alloc] at h
    exact h)
  have HC : Hid (Blk (((w.alloc (.cells (w8 S).toArray 51)).alloc (.cells Tryd.zeroCells56 56)).alloc (.cells Tryd.zeroCells56 56)) (w.heap.size + 1 + 1) 56 (w8 (List.replicate 1024 0))) := Lib.hid (by
    have h := Blk.new ((w.alloc (.cells (w8 S).toArray 51)).alloc (.cells Tryd.zeroCells56 56)) 56 (w8 (List.replicate 1024 0))
    rw [zc56, World.size_alloc, World.size_alloc] at h
    exact h)
  have HW : Hid (Below w.heap.size w (((w.alloc (.cells (w8 S).toArray 51)).alloc (.cells Tryd.zeroCells56 56)).alloc (.cells Tryd.zeroCells56 56))) := Lib.hid ((((Below.refl _ _).alloc (Nat.le_refl _) _).alloc (by simp) _).alloc (by simp; omega) _)
  generalize (((w.alloc (.cells (w8 S).toArray 51)).alloc (.cells Tryd.zeroCells56 56)).alloc (.cells Tryd.zeroCells56 56)) = V at HA HB HC HW ⊢
  have HFO : Hid (∀ a, (fO S a).length = 16) := Lib.hid (fO_length S HL.out)
  have HGO : Hid (∀ a, (gO S a).length = 16) := Lib.hid (gO_length S HL.out)
  rw [← sigC_zero (fO S) (gO S)] at HC
  go_wp2_with fail
  go_loopw [5, 4] (fun i _ wr => ∃ (k : Nat), k ≤ 32 ∧ i = .int .i64 k ∧ Hid (Blk wr w.heap.size 51 (w8 S)) ∧ Hid (Blk wr (w.heap.size + 1) 56 (w8 (List.replicate 1024 0))) ∧ Hid (Blk wr (w.heap.size + 1 + 1) 56 (w8 (sigC (fO S) (gO S) k k))) ∧ Hid (Below w.heap.size w wr)) (fun i _ _ => 32 - (intOf i).toNat)
  case atStart => exact ⟨0, Nat.zero_le _, rfl, HA, HB, HC, HW⟩
  case round =>
    clear HA HB HC HW
    obtain ⟨k, hk, rfl, HA, HB, HC, HW⟩ := hrel
    by_cases hlt : k < 32
    · have k1 : (k : Int) < 32 := by omega
      have HP1 : Hid ((pcs S k).length = 16) := Lib.hid (pcs_length _ _ (by rw [HL.out]; omega))
      have HP2 : Hid ((pcs S (32 + k)).length = 16) := Lib.hid (pcs_length _ _ (by rw [HL.out]; omega))
      have HI1 : Hid ((Tryd.prog.info? 53).map (·.size) = some (w8 (pcs S k)).length) := Lib.hid (by rw [w8_length, HP1.out]; exact info53)
      have HI2 : Hid ((Tryd.prog.info? 53).map (·.size) = some (w8 (pcs S (32 + k))).length) := Lib.hid (by rw [w8_length, HP2.out]; exact info53)
      have HI1i : Hid ((Tryd.prog.info? 48).map (·.size) = some (w8 (pcs S k)).length) := Lib.hid (by rw [w8_length, HP1.out]; exact info48)
      have HI2i : Hid ((Tryd.prog.info? 48).map (·.size) = some (w8 (pcs S (32 + k))).length) := Lib.hid (by rw [w8_length, HP2.out]; exact info48)
      go_upto_region 5 with fail
      refine wp_region_held_drew (S := fun w' => Blk w' w.heap.size 51 (w8 S)) (by kernel_rfl) (HA.out.drewN 1) (fun hHeld => ?_)
      have HAX0 : Hid (Blk wr.drew w.heap.size 51 (w8 S)) := Lib.hid (HA.out.drewN 1)
      have HBX0 : Hid (Blk wr.drew (w.heap.size + 1) 56 (w8 (List.replicate 1024 0))) := Lib.hid (HB.out.drewN 1)
      have HCX0 : Hid (Blk wr.drew (w.heap.size + 1 + 1) 56 (w8 (sigC (fO S) (gO S) k k))) := Lib.hid (HC.out.drewN 1)
      have HWX0 : Hid (Below w.heap.size w wr.drew) := Lib.hid (below_drewN HW.out 1)
      generalize wr.drew = X0 at hHeld HAX0 HBX0 HCX0 HWX0  ⊢
      refine wpAnyH_take (i := 0) (v := .int .i64 (k : Int)) rfl (by kernel_rfl) (by kernel_rfl) (by kernel_rfl) (fun _ _ _ h => h) (Or.inl ⟨by rfl, fun w _ => by rfl⟩) hHeld ?_
      show wpAnyH _ _ _ _ _ _ _ (Act.put _ (some 8) _) _
      simp only [Act.put, List.setIfInBounds_toArray, List.set_cons_zero, List.set_cons_succ]
      refine wpAnyH_take (i := 1) (v := .int .i64 (k : Int)) rfl (by kernel_rfl) (by kernel_rfl) (by kernel_rfl) (fun _ _ _ h => h) (Or.inl ⟨by rfl, fun w _ => by rfl⟩) hHeld ?_
      show wpAnyH _ _ _ _ _ _ _ (Act.put _ (some 9) _) _
      simp only [Act.put, List.setIfInBounds_toArray, List.set_cons_zero, List.set_cons_succ]
      refine wpAnyH_take (i := 2) (v := .int .i64 (k : Int)) rfl (by kernel_rfl) (by kernel_rfl) (by kernel_rfl) (fun _ _ _ h => h) (Or.inl ⟨by rfl, fun w _ => by rfl⟩) hHeld ?_
      show wpAnyH _ _ _ _ _ _ _ (Act.put _ (some 10) _) _
      simp only [Act.put, List.setIfInBounds_toArray, List.set_cons_zero, List.set_cons_succ]
      refine wpAnyH_take (i := 3) (v := .pointer (some ⟨w.heap.size, 0, none⟩)) rfl (by kernel_rfl) (by kernel_rfl) (by kernel_rfl) (fun _ _ _ h => h) (Or.inl ⟨by rfl, by intro w' _; go_simp⟩) hHeld ?_
      show wpAnyH _ _ _ _ _ _ _ (Act.put _ (some 11) _) _
      simp only [Act.put, List.setIfInBounds_toArray, List.set_cons_zero, List.set_cons_succ]
      refine wpAnyH_take (i := 4) (v := .pointer (some ⟨w.heap.size, k * 16, none⟩)) rfl (by kernel_rfl) (by kernel_rfl) (by kernel_rfl) (fun _ _ _ h => h) (Or.inl ⟨by rfl, by intro w' _; go_simp⟩) hHeld ?_
      show wpAnyH _ _ _ _ _ _ _ (Act.put _ (some 12) _) _
      simp only [Act.put, List.setIfInBounds_toArray, List.set_cons_zero, List.set_cons_succ]
      refine wpAnyH_take (i := 5) (v := .agg (w8 (pcs S k)).toArray) rfl (by kernel_rfl) (by kernel_rfl) (by kernel_rfl) (fun _ _ _ h => h) (yieldsIf_load_mid (by rfl) 48 (.tmp 12) rfl w.heap.size (k * 16) rfl (w8 (pcs S k)) _ (fun w' h => Blk.piece h k (k * 16) (by omega)) Tryd.underlying48 rfl HI1i.out) hHeld ?_
      show wpAnyH _ _ _ _ _ _ _ (Act.put _ (some 13) _) _
      simp only [Act.put, List.setIfInBounds_toArray, List.set_cons_zero, List.set_cons_succ]
      refine wpAnyH_take (i := 6) (v := .int .i64 (k : Int)) rfl (by kernel_rfl) (by kernel_rfl) (by kernel_rfl) (fun _ _ _ h => h) (Or.inl ⟨by rfl, fun w _ => by rfl⟩) hHeld ?_
      show wpAnyH _ _ _ _ _ _ _ (Act.put _ (some 14) _) _
      simp only [Act.put, List.setIfInBounds_toArray, List.set_cons_zero, List.set_cons_succ]
      refine wpAnyH_take (i := 7) (v := .pointer (some ⟨w.heap.size, 512, none⟩)) rfl (by kernel_rfl) (by kernel_rfl) (by kernel_rfl) (fun _ _ _ h => h) (Or.inl ⟨by rfl, by intro w' _; go_simp⟩) hHeld ?_
      show wpAnyH _ _ _ _ _ _ _ (Act.put _ (some 15) _) _
      simp only [Act.put, List.setIfInBounds_toArray, List.set_cons_zero, List.set_cons_succ]
      refine wpAnyH_take (i := 8) (v := .pointer (some ⟨w.heap.size, 512 + k * 16, none⟩)) rfl (by kernel_rfl) (by kernel_rfl) (by kernel_rfl) (fun _ _ _ h => h) (Or.inl ⟨by rfl, by intro w' _; go_simp⟩) hHeld ?_
      show wpAnyH _ _ _ _ _ _ _ (Act.put _ (some 16) _) _
      simp only [Act.put, List.setIfInBounds_toArray, List.set_cons_zero, List.set_cons_succ]
      refine wpAnyH_take (i := 9) (v := .agg (w8 (pcs S (32 + k))).toArray) rfl (by kernel_rfl) (by kernel_rfl) (by kernel_rfl) (fun _ _ _ h => h) (yieldsIf_load_mid (by rfl) 48 (.tmp 16) rfl w.heap.size (512 + k * 16) rfl (w8 (pcs S (32 + k))) _ (fun w' h => Blk.piece h (32 + k) (512 + k * 16) (by omega)) Tryd.underlying48 rfl HI2i.out) hHeld ?_
      show wpAnyH _ _ _ _ _ _ _ (Act.put _ (some 17) _) _
      simp only [Act.put, List.setIfInBounds_toArray, List.set_cons_zero, List.set_cons_succ]
      refine wpAnyH_take (i := 10) (v := .pointer (some ⟨w.heap.size + 1 + 1, 0, none⟩)) rfl (by kernel_rfl) (by kernel_rfl) (by kernel_rfl) (fun _ _ _ h => h) (Or.inl ⟨by rfl, by intro w' _; go_simp⟩) hHeld ?_
      show wpAnyH _ _ _ _ _ _ _ (Act.put _ (some 18) _) _
      simp only [Act.put, List.setIfInBounds_toArray, List.set_cons_zero, List.set_cons_succ]
      refine wpAnyH_take (i := 11) (v := .pointer (some ⟨w.heap.size + 1 + 1, k * 16, none⟩)) rfl (by kernel_rfl) (by kernel_rfl) (by kernel_rfl) (fun _ _ _ h => h) (Or.inl ⟨by rfl, by intro w' _; go_simp⟩) hHeld ?_
      show wpAnyH _ _ _ _ _ _ _ (Act.put _ (some 19) _) _
      simp only [Act.put, List.setIfInBounds_toArray, List.set_cons_zero, List.set_cons_succ]
      refine wpAnyH_take (i := 13) (v := .pointer (some ⟨w.heap.size + 1 + 1, 512, none⟩)) rfl (by kernel_rfl) (by kernel_rfl) (by kernel_rfl) (fun _ _ _ h => h) (Or.inl ⟨by rfl, by intro w' _; go_simp⟩) hHeld ?_
      show wpAnyH _ _ _ _ _ _ _ (Act.put _ (some 20) _) _
      simp only [Act.put, List.setIfInBounds_toArray, List.set_cons_zero, List.set_cons_succ]
      have HTH : Hid (X0.there (w.heap.size + 1 + 1) (k * 16) (w8 (pcs S k)).length) := Lib.hid (HCX0.out.there _ _ (by rw [w8_length, w8_length, HP1.out, sigC_length _ _ HFO.out HGO.out k k (by omega) (by omega)]; omega))
      refine wpAnyH_ready (rs := [12]) (by kernel_rfl) (by simp) ?_
      refine AllReadyH.cons rfl (fun K hK => ?_) AllReadyH.nil
      refine step_store_mid rfl 53 (.tmp 19) (.tmp 13) rfl (w.heap.size + 1 + 1) (k * 16) (w8 (pcs S k)) rfl rfl HTH.out HI1.out (w8_one _) ?_
      refine hK.out _ _ (HAX0.out.farCells (by omega) _) (fun hHeld => ?_)
      clear hK K
      show wpAnyH _ _ _ _ _ _ _ (Act.put _ none _) _
      simp only [Act.put]
      have HAX1 := Lib.hid (HAX0.out.farCells (b := (w.heap.size + 1 + 1)) (o := k * 16) (by omega) (w8 (pcs S k)))
      have HBX1 := Lib.hid (HBX0.out.farCells (b := (w.heap.size + 1 + 1)) (o := k * 16) (by omega) (w8 (pcs S k)))
      have HCX1 := Lib.hid (sigC_open _ _ HFO.out HGO.out k k hlt _ (fO_eq S k hlt) HCX0.out)
      have HWX1 := Lib.hid (below_cells (g := (w.heap.size + 1 + 1)) (w8 (pcs S k)) (k * 16) X0 HWX0.out (by omega))
      clear HTH HAX0 HBX0 HCX0 HWX0
      generalize X0.setCells (w.heap.size + 1 + 1) (k * 16) (w8 (pcs S k)) = X1 at hHeld HAX1 HBX1 HCX1 HWX1 ⊢
      refine wpAnyH_take (i := 14) (v := .pointer (some ⟨w.heap.size + 1 + 1, 512 + k * 16, none⟩)) rfl (by kernel_rfl) (by kernel_rfl) (by kernel_rfl) (fun _ _ _ h => h) (Or.inl ⟨by rfl, by intro w' _; go_simp⟩) hHeld ?_
      show wpAnyH _ _ _ _ _ _ _ (Act.put _ (some 21) _) _
      simp only [Act.put, List.setIfInBounds_toArray, List.set_cons_zero, List.set_cons_succ]
      have HTH : Hid (X1.there (w.heap.size + 1 + 1) (512 + k * 16) (w8 (pcs S (32 + k))).length) := Lib.hid (HCX1.out.there _ _ (by rw [w8_length, w8_length, HP2.out, sigC_length _ _ HFO.out HGO.out (k + 1) k (by omega) (by omega)]; omega))
      refine wpAnyH_ready (rs := [15]) (by kernel_rfl) (by simp) ?_
      refine AllReadyH.cons rfl (fun K hK => ?_) AllReadyH.nil
      refine step_store_mid rfl 53 (.tmp 21) (.tmp 17) rfl (w.heap.size + 1 + 1) (512 + k * 16) (w8 (pcs S (32 + k))) rfl rfl HTH.out HI2.out (w8_one _) ?_
      refine hK.out _ _ (HAX1.out.farCells (by omega) _) (fun hHeld => ?_)
      clear hK K
      show wpAnyH _ _ _ _ _ _ _ (Act.put _ none _) _
      simp only [Act.put]
      have HAX2 := Lib.hid (HAX1.out.farCells (b := (w.heap.size + 1 + 1)) (o := 512 + k * 16) (by omega) (w8 (pcs S (32 + k))))
      have HBX2 := Lib.hid (HBX1.out.farCells (b := (w.heap.size + 1 + 1)) (o := 512 + k * 16) (by omega) (w8 (pcs S (32 + k))))
      have HCX2 := Lib.hid (sigC_other _ _ HFO.out HGO.out (k + 1) k hlt (by omega) _ (gO_eq S k hlt) HCX1.out)
      have HWX2 := Lib.hid (below_cells (g := (w.heap.size + 1 + 1)) (w8 (pcs S (32 + k))) (512 + k * 16) X1 HWX1.out (by omega))
      clear HTH HAX1 HBX1 HCX1 HWX1
      generalize X1.setCells (w.heap.size + 1 + 1) (512 + k * 16) (w8 (pcs S (32 + k))) = X2 at hHeld HAX2 HBX2 HCX2 HWX2 ⊢
      refine wpAnyH_done (by kernel_rfl) ?_ _
      clear hHeld
      go_wp2
      go_roundw
      case rel => exact ⟨k + 1, by omega, by go_num, HAX2, HBX2, HCX2, HWX2⟩
      case measure => simp [intOf]; omega
    · obtain rfl : k = 32 := by omega
      rw [sigC_end, fgO_all S HL.out] at HC
      have HRG := Lib.hid HC.out.all
      have HS5 : Hid ((Tryd.prog.info? 56).map (·.size) = some (w8 S).length) := Lib.hid (by rw [w8_length, HL.out]; exact info56)
      have HS6 : Hid ((Tryd.prog.info? 56).map (·.size) = some (w8 S).toArray.size) := Lib.hid (by rw [List.size_toArray, w8_length, HL.out]; exact info56)
      have HZ6 : Hid ((w8 (List.replicate 1024 0)).toArray.size = (w8 S).toArray.size) := Lib.hid (by rw [List.size_toArray, List.size_toArray, w8_length, w8_length, HL.out]; simp)
      have HO6 := Lib.hid (all_oneCell_toArray (w8_one S))
      go_wp2_with (first | (refine wpList_load_mid rfl 56 (.tmp 3) rfl (w.heap.size + 1 + 1) 0 rfl (w8 S) _ HRG.out Tryd.underlying56 rfl HS5.out ?_) | (refine wpList_store_row rfl 56 (.tmp 2) (.tmp 23) rfl (w.heap.size + 1) (w8 S).toArray rfl rfl 56 _ HB.out HS6.out HZ6.out HO6.out ?_))
      exact bodyPost_ret (v := .agg (w8 S).toArray) (results_cell_row Tryd.results27 _ _ (w.heap.size + 1) 56 (w8 S).toArray (0, 0) _ rfl (HB.out.setRow _) Tryd.underlying56 rfl HS6.out) rfl ⟨rfl, below_setRow HW.out (by omega) _⟩

set_option maxRecDepth 100000 in
set_option maxHeartbeats 1000000 in
theorem lfrom_any (S : List Nat) (w : World) (HL : Hid (S.length = 1024)) :
    Calls Tryd.prog 24 #[.agg (w8 S).toArray] w fun e w' => e = .returned (.agg (w8 S).toArray) ∧ Below w.heap.size w w' := by
  go_enter Tryd.func24, Tryd.ntmps24
  go_upto_region 2 with fail
  have HA : Hid (Blk (((w.alloc (.cells (w8 S).toArray 56)).alloc (.cells Tryd.zeroCells51 51)).alloc (.cells Tryd.zeroCells51 51)) w.heap.size 56 (w8 S)) := Lib.hid (by
    have h := ((Blk.new w 56 (w8 S)).alloc (.cells Tryd.zeroCells51 51)).alloc (.cells Tryd.zeroCells51 51)
    exact h)
  have HB : Hid (Blk (((w.alloc (.cells (w8 S).toArray 56)).alloc (.cells Tryd.zeroCells51 51)).alloc (.cells Tryd.zeroCells51 51)) (w.heap.size + 1) 51 (w8 (List.replicate 1024 0))) := Lib.hid (by
    have h := (Blk.new (w.alloc (.cells (w8 S).toArray 56)) 51 (w8 (List.replicate 1024 0))).alloc (.cells Tryd.zeroCells51 51)
    rw [zc51, World.size_alloc] at h
    exact h)
  have HC : Hid (Blk (((w.alloc (.cells (w8 S).toArray 56)).alloc (.cells Tryd.zeroCells51 51)).alloc (.cells Tryd.zeroCells51 51)) (w.heap.size + 1 + 1) 51 (w8 (List.replicate 1024 0))) := Lib.hid (by
    have h := Blk.new ((w.alloc (.cells (w8 S).toArray 56)).alloc (.cells Tryd.zeroCells51 51)) 51 (w8 (List.replicate 1024 0))
    rw [zc51, World.size_alloc, World.size_alloc] at h
    exact h)
  have HW : Hid (Below w.heap.size w (((w.alloc (.cells (w8 S).toArray 56)).alloc (.cells Tryd.zeroCells51 51)).alloc (.cells Tryd.zeroCells51 51))) := Lib.hid ((((Below.refl _ _).alloc (Nat.le_refl _) _).alloc (by simp) _).alloc (by simp; omega) _)
  generalize (((w.alloc (.cells (w8 S).toArray 56)).alloc (.cells Tryd.zeroCells51 51)).alloc (.cells Tryd.zeroCells51 51)) = V at HA HB HC HW ⊢
  have HFO : Hid (∀ a, (fO S a).length = 16) := Lib.hid (fO_length S HL.out)
  have HGO : Hid (∀ a, (gO S a).length = 16) := Lib.hid (gO_length S HL.out)
  rw [← sigC_zero (fO S) (gO S)] at HC
  go_wp2_with fail
  go_loopw [5, 4] (fun i _ wr => ∃ (k : Nat), k ≤ 32 ∧ i = .int .i64 k ∧ Hid (Blk wr w.heap.size 56 (w8 S)) ∧ Hid (Blk wr (w.heap.size + 1) 51 (w8 (List.replicate 1024 0))) ∧ Hid (Blk wr (w.heap.size + 1 + 1) 51 (w8 (sigC (fO S) (gO S) k k))) ∧ Hid (Below w.heap.size w wr)) (fun i _ _ => 32 - (intOf i).toNat)
  case atStart => exact ⟨0, Nat.zero_le _, rfl, HA, HB, HC, HW⟩
  case round =>
    clear HA HB HC HW
    obtain ⟨k, hk, rfl, HA, HB, HC, HW⟩ := hrel
    by_cases hlt : k < 32
    · have k1 : (k : Int) < 32 := by omega
      have HP1 : Hid ((pcs S k).length = 16) := Lib.hid (pcs_length _ _ (by rw [HL.out]; omega))
      have HP2 : Hid ((pcs S (32 + k)).length = 16) := Lib.hid (pcs_length _ _ (by rw [HL.out]; omega))
      have HI1 : Hid ((Tryd.prog.info? 48).map (·.size) = some (w8 (pcs S k)).length) := Lib.hid (by rw [w8_length, HP1.out]; exact info48)
      have HI2 : Hid ((Tryd.prog.info? 48).map (·.size) = some (w8 (pcs S (32 + k))).length) := Lib.hid (by rw [w8_length, HP2.out]; exact info48)
      have HI1i : Hid ((Tryd.prog.info? 53).map (·.size) = some (w8 (pcs S k)).length) := Lib.hid (by rw [w8_length, HP1.out]; exact info53)
      have HI2i : Hid ((Tryd.prog.info? 53).map (·.size) = some (w8 (pcs S (32 + k))).length) := Lib.hid (by rw [w8_length, HP2.out]; exact info53)
      go_upto_region 5 with fail
      refine wp_region_held_drew (S := fun w' => Blk w' w.heap.size 56 (w8 S)) (by kernel_rfl) (HA.out.drewN 1) (fun hHeld => ?_)
      have HAX0 : Hid (Blk wr.drew w.heap.size 56 (w8 S)) := Lib.hid (HA.out.drewN 1)
      have HBX0 : Hid (Blk wr.drew (w.heap.size + 1) 51 (w8 (List.replicate 1024 0))) := Lib.hid (HB.out.drewN 1)
      have HCX0 : Hid (Blk wr.drew (w.heap.size + 1 + 1) 51 (w8 (sigC (fO S) (gO S) k k))) := Lib.hid (HC.out.drewN 1)
      have HWX0 : Hid (Below w.heap.size w wr.drew) := Lib.hid (below_drewN HW.out 1)
      generalize wr.drew = X0 at hHeld HAX0 HBX0 HCX0 HWX0  ⊢
      refine wpAnyH_take (i := 0) (v := .int .i64 (k : Int)) rfl (by kernel_rfl) (by kernel_rfl) (by kernel_rfl) (fun _ _ _ h => h) (Or.inl ⟨by rfl, fun w _ => by rfl⟩) hHeld ?_
      show wpAnyH _ _ _ _ _ _ _ (Act.put _ (some 8) _) _
      simp only [Act.put, List.setIfInBounds_toArray, List.set_cons_zero, List.set_cons_succ]
      refine wpAnyH_take (i := 1) (v := .int .i64 (k : Int)) rfl (by kernel_rfl) (by kernel_rfl) (by kernel_rfl) (fun _ _ _ h => h) (Or.inl ⟨by rfl, fun w _ => by rfl⟩) hHeld ?_
      show wpAnyH _ _ _ _ _ _ _ (Act.put _ (some 9) _) _
      simp only [Act.put, List.setIfInBounds_toArray, List.set_cons_zero, List.set_cons_succ]
      refine wpAnyH_take (i := 2) (v := .int .i64 (k : Int)) rfl (by kernel_rfl) (by kernel_rfl) (by kernel_rfl) (fun _ _ _ h => h) (Or.inl ⟨by rfl, fun w _ => by rfl⟩) hHeld ?_
      show wpAnyH _ _ _ _ _ _ _ (Act.put _ (some 10) _) _
      simp only [Act.put, List.setIfInBounds_toArray, List.set_cons_zero, List.set_cons_succ]
      refine wpAnyH_take (i := 3) (v := .pointer (some ⟨w.heap.size, 0, none⟩)) rfl (by kernel_rfl) (by kernel_rfl) (by kernel_rfl) (fun _ _ _ h => h) (Or.inl ⟨by rfl, by intro w' _; go_simp⟩) hHeld ?_
      show wpAnyH _ _ _ _ _ _ _ (Act.put _ (some 11) _) _
      simp only [Act.put, List.setIfInBounds_toArray, List.set_cons_zero, List.set_cons_succ]
      refine wpAnyH_take (i := 4) (v := .pointer (some ⟨w.heap.size, k * 16, none⟩)) rfl (by kernel_rfl) (by kernel_rfl) (by kernel_rfl) (fun _ _ _ h => h) (Or.inl ⟨by rfl, by intro w' _; go_simp⟩) hHeld ?_
      show wpAnyH _ _ _ _ _ _ _ (Act.put _ (some 12) _) _
      simp only [Act.put, List.setIfInBounds_toArray, List.set_cons_zero, List.set_cons_succ]
      refine wpAnyH_take (i := 5) (v := .agg (w8 (pcs S k)).toArray) rfl (by kernel_rfl) (by kernel_rfl) (by kernel_rfl) (fun _ _ _ h => h) (yieldsIf_load_mid (by rfl) 53 (.tmp 12) rfl w.heap.size (k * 16) rfl (w8 (pcs S k)) _ (fun w' h => Blk.piece h k (k * 16) (by omega)) Tryd.underlying53 rfl HI1i.out) hHeld ?_
      show wpAnyH _ _ _ _ _ _ _ (Act.put _ (some 13) _) _
      simp only [Act.put, List.setIfInBounds_toArray, List.set_cons_zero, List.set_cons_succ]
      refine wpAnyH_take (i := 6) (v := .int .i64 (k : Int)) rfl (by kernel_rfl) (by kernel_rfl) (by kernel_rfl) (fun _ _ _ h => h) (Or.inl ⟨by rfl, fun w _ => by rfl⟩) hHeld ?_
      show wpAnyH _ _ _ _ _ _ _ (Act.put _ (some 14) _) _
      simp only [Act.put, List.setIfInBounds_toArray, List.set_cons_zero, List.set_cons_succ]
      refine wpAnyH_take (i := 7) (v := .pointer (some ⟨w.heap.size, 512, none⟩)) rfl (by kernel_rfl) (by kernel_rfl) (by kernel_rfl) (fun _ _ _ h => h) (Or.inl ⟨by rfl, by intro w' _; go_simp⟩) hHeld ?_
      show wpAnyH _ _ _ _ _ _ _ (Act.put _ (some 15) _) _
      simp only [Act.put, List.setIfInBounds_toArray, List.set_cons_zero, List.set_cons_succ]
      refine wpAnyH_take (i := 8) (v := .pointer (some ⟨w.heap.size, 512 + k * 16, none⟩)) rfl (by kernel_rfl) (by kernel_rfl) (by kernel_rfl) (fun _ _ _ h => h) (Or.inl ⟨by rfl, by intro w' _; go_simp⟩) hHeld ?_
      show wpAnyH _ _ _ _ _ _ _ (Act.put _ (some 16) _) _
      simp only [Act.put, List.setIfInBounds_toArray, List.set_cons_zero, List.set_cons_succ]
      refine wpAnyH_take (i := 9) (v := .agg (w8 (pcs S (32 + k))).toArray) rfl (by kernel_rfl) (by kernel_rfl) (by kernel_rfl) (fun _ _ _ h => h) (yieldsIf_load_mid (by rfl) 53 (.tmp 16) rfl w.heap.size (512 + k * 16) rfl (w8 (pcs S (32 + k))) _ (fun w' h => Blk.piece h (32 + k) (512 + k * 16) (by omega)) Tryd.underlying53 rfl HI2i.out) hHeld ?_
      show wpAnyH _ _ _ _ _ _ _ (Act.put _ (some 17) _) _
      simp only [Act.put, List.setIfInBounds_toArray, List.set_cons_zero, List.set_cons_succ]
      refine wpAnyH_take (i := 10) (v := .pointer (some ⟨w.heap.size + 1 + 1, 0, none⟩)) rfl (by kernel_rfl) (by kernel_rfl) (by kernel_rfl) (fun _ _ _ h => h) (Or.inl ⟨by rfl, by intro w' _; go_simp⟩) hHeld ?_
      show wpAnyH _ _ _ _ _ _ _ (Act.put _ (some 18) _) _
      simp only [Act.put, List.setIfInBounds_toArray, List.set_cons_zero, List.set_cons_succ]
      refine wpAnyH_take (i := 11) (v := .pointer (some ⟨w.heap.size + 1 + 1, k * 16, none⟩)) rfl (by kernel_rfl) (by kernel_rfl) (by kernel_rfl) (fun _ _ _ h => h) (Or.inl ⟨by rfl, by intro w' _; go_simp⟩) hHeld ?_
      show wpAnyH _ _ _ _ _ _ _ (Act.put _ (some 19) _) _
      simp only [Act.put, List.setIfInBounds_toArray, List.set_cons_zero, List.set_cons_succ]
      refine wpAnyH_take (i := 13) (v := .pointer (some ⟨w.heap.size + 1 + 1, 512, none⟩)) rfl (by kernel_rfl) (by kernel_rfl) (by kernel_rfl) (fun _ _ _ h => h) (Or.inl ⟨by rfl, by intro w' _; go_simp⟩) hHeld ?_
      show wpAnyH _ _ _ _ _ _ _ (Act.put _ (some 20) _) _
      simp only [Act.put, List.setIfInBounds_toArray, List.set_cons_zero, List.set_cons_succ]
      have HTH : Hid (X0.there (w.heap.size + 1 + 1) (k * 16) (w8 (pcs S k)).length) := Lib.hid (HCX0.out.there _ _ (by rw [w8_length, w8_length, HP1.out, sigC_length _ _ HFO.out HGO.out k k (by omega) (by omega)]; omega))
      refine wpAnyH_ready (rs := [12]) (by kernel_rfl) (by simp) ?_
      refine AllReadyH.cons rfl (fun K hK => ?_) AllReadyH.nil
      refine step_store_mid rfl 48 (.tmp 19) (.tmp 13) rfl (w.heap.size + 1 + 1) (k * 16) (w8 (pcs S k)) rfl rfl HTH.out HI1.out (w8_one _) ?_
      refine hK.out _ _ (HAX0.out.farCells (by omega) _) (fun hHeld => ?_)
      clear hK K
      show wpAnyH _ _ _ _ _ _ _ (Act.put _ none _) _
      simp only [Act.put]
      have HAX1 := Lib.hid (HAX0.out.farCells (b := (w.heap.size + 1 + 1)) (o := k * 16) (by omega) (w8 (pcs S k)))
      have HBX1 := Lib.hid (HBX0.out.farCells (b := (w.heap.size + 1 + 1)) (o := k * 16) (by omega) (w8 (pcs S k)))
      have HCX1 := Lib.hid (sigC_open _ _ HFO.out HGO.out k k hlt _ (fO_eq S k hlt) HCX0.out)
      have HWX1 := Lib.hid (below_cells (g := (w.heap.size + 1 + 1)) (w8 (pcs S k)) (k * 16) X0 HWX0.out (by omega))
      clear HTH HAX0 HBX0 HCX0 HWX0
      generalize X0.setCells (w.heap.size + 1 + 1) (k * 16) (w8 (pcs S k)) = X1 at hHeld HAX1 HBX1 HCX1 HWX1 ⊢
      refine wpAnyH_take (i := 14) (v := .pointer (some ⟨w.heap.size + 1 + 1, 512 + k * 16, none⟩)) rfl (by kernel_rfl) (by kernel_rfl) (by kernel_rfl) (fun _ _ _ h => h) (Or.inl ⟨by rfl, by intro w' _; go_simp⟩) hHeld ?_
      show wpAnyH _ _ _ _ _ _ _ (Act.put _ (some 21) _) _
      simp only [Act.put, List.setIfInBounds_toArray, List.set_cons_zero, List.set_cons_succ]
      have HTH : Hid (X1.there (w.heap.size + 1 + 1) (512 + k * 16) (w8 (pcs S (32 + k))).length) := Lib.hid (HCX1.out.there _ _ (by rw [w8_length, w8_length, HP2.out, sigC_length _ _ HFO.out HGO.out (k + 1) k (by omega) (by omega)]; omega))
      refine wpAnyH_ready (rs := [15]) (by kernel_rfl) (by simp) ?_
      refine AllReadyH.cons rfl (fun K hK => ?_) AllReadyH.nil
      refine step_store_mid rfl 48 (.tmp 21) (.tmp 17) rfl (w.heap.size + 1 + 1) (512 + k * 16) (w8 (pcs S (32 + k))) rfl rfl HTH.out HI2.out (w8_one _) ?_
      refine hK.out _ _ (HAX1.out.farCells (by omega) _) (fun hHeld => ?_)
      clear hK K
      show wpAnyH _ _ _ _ _ _ _ (Act.put _ none _) _
      simp only [Act.put]
      have HAX2 := Lib.hid (HAX1.out.farCells (b := (w.heap.size + 1 + 1)) (o := 512 + k * 16) (by omega) (w8 (pcs S (32 + k))))
      have HBX2 := Lib.hid (HBX1.out.farCells (b := (w.heap.size + 1 + 1)) (o := 512 + k * 16) (by omega) (w8 (pcs S (32 + k))))
      have HCX2 := Lib.hid (sigC_other _ _ HFO.out HGO.out (k + 1) k hlt (by omega) _ (gO_eq S k hlt) HCX1.out)
      have HWX2 := Lib.hid (below_cells (g := (w.heap.size + 1 + 1)) (w8 (pcs S (32 + k))) (512 + k * 16) X1 HWX1.out (by omega))
      clear HTH HAX1 HBX1 HCX1 HWX1
      generalize X1.setCells (w.heap.size + 1 + 1) (512 + k * 16) (w8 (pcs S (32 + k))) = X2 at hHeld HAX2 HBX2 HCX2 HWX2 ⊢
      refine wpAnyH_done (by kernel_rfl) ?_ _
      clear hHeld
      go_wp2
      go_roundw
      case rel => exact ⟨k + 1, by omega, by go_num, HAX2, HBX2, HCX2, HWX2⟩
      case measure => simp [intOf]; omega
    · obtain rfl : k = 32 := by omega
      rw [sigC_end, fgO_all S HL.out] at HC
      have HRG := Lib.hid HC.out.all
      have HS5 : Hid ((Tryd.prog.info? 51).map (·.size) = some (w8 S).length) := Lib.hid (by rw [w8_length, HL.out]; exact info51)
      have HS6 : Hid ((Tryd.prog.info? 51).map (·.size) = some (w8 S).toArray.size) := Lib.hid (by rw [List.size_toArray, w8_length, HL.out]; exact info51)
      have HZ6 : Hid ((w8 (List.replicate 1024 0)).toArray.size = (w8 S).toArray.size) := Lib.hid (by rw [List.size_toArray, List.size_toArray, w8_length, w8_length, HL.out]; simp)
      have HO6 := Lib.hid (all_oneCell_toArray (w8_one S))
      go_wp2_with (first | (refine wpList_load_mid rfl 51 (.tmp 3) rfl (w.heap.size + 1 + 1) 0 rfl (w8 S) _ HRG.out Tryd.underlying51 rfl HS5.out ?_) | (refine wpList_store_row rfl 51 (.tmp 2) (.tmp 23) rfl (w.heap.size + 1) (w8 S).toArray rfl rfl 51 _ HB.out HS6.out HZ6.out HO6.out ?_))
      exact bodyPost_ret (v := .agg (w8 S).toArray) (results_cell_row Tryd.results24 _ _ (w.heap.size + 1) 51 (w8 S).toArray (0, 0) _ rfl (HB.out.setRow _) Tryd.underlying51 rfl HS6.out) rfl ⟨rfl, below_setRow HW.out (by omega) _⟩

end Go.Proofs.YtkonokjhpddbfaaDoor
