/-
  The document's lamp, its small functions: first (function 95), Bit (39): what they answer; nothing that was there is written.
-/
import Derived.Test.YtkonokjhpddbfaaDoorLampG
namespace Go.Proofs.YtkonokjhpddbfaaDoor
open Go.RowKit
set_option linter.unusedVariables false

theorem w8_set (l : List Nat) (k x : Nat) : (w8 l).set k (.int .u8 (x : Int)) = w8 (l.set k x) := by simp [w8, List.map_set]
theorem take_set (d : List Nat) (k x : Nat) (hk : k < 16) (hd : d.length = 32) (hx : d.getD k 0 = x) : (d.take k ++ List.replicate (16 - k) 0).set k x = d.take (k + 1) ++ List.replicate (16 - (k + 1)) 0 := by
  have e : d[k]'(by omega) = x := by rw [← hx]; simp [List.getD, show k < d.length by omega]
  have hl : (d.take k).length = k := by simp; omega
  rw [List.set_append_right _ _ (by omega), hl, Nat.sub_self, show 16 - k = (16 - (k + 1)) + 1 by omega, List.replicate_succ, List.set_cons_zero, List.take_succ_eq_append_getElem (by omega), e]
  simp

set_option maxRecDepth 100000 in
set_option maxHeartbeats 1000000 in
theorem first_any (d : List Nat) (w : World) (HD : Hid (d.length = 32)) :
    Calls Tryd.prog 95 #[.agg (w8 d).toArray] w fun e w' => e = .returned (.agg (w8 (d.take 16)).toArray) ∧ Below w.heap.size w w' := by
  go_enter Tryd.func95, Tryd.ntmps95
  go_upto_region 2 with fail
  have HA : Hid (Blk (((w.alloc (.cells (w8 d).toArray 29)).alloc (.cells z16 48)).alloc (.cells z16 48)) w.heap.size 29 (w8 d)) := Lib.hid (by
    have h := ((Blk.new w 29 (w8 d)).alloc (.cells z16 48)).alloc (.cells z16 48)
    exact h)
  have HB : Hid (Blk (((w.alloc (.cells (w8 d).toArray 29)).alloc (.cells z16 48)).alloc (.cells z16 48)) (w.heap.size + 1) 48 (w8 (List.replicate 16 0))) := Lib.hid (by
    have h := (Blk.new (w.alloc (.cells (w8 d).toArray 29)) 48 (w8 (List.replicate 16 0))).alloc (.cells z16 48)
    rw [z16_eq, World.size_alloc] at h
    exact h)
  have HC : Hid (Blk (((w.alloc (.cells (w8 d).toArray 29)).alloc (.cells z16 48)).alloc (.cells z16 48)) (w.heap.size + 1 + 1) 48 (w8 (List.replicate 16 0))) := Lib.hid (by
    have h := Blk.new ((w.alloc (.cells (w8 d).toArray 29)).alloc (.cells z16 48)) 48 (w8 (List.replicate 16 0))
    rw [z16_eq, World.size_alloc, World.size_alloc] at h
    exact h)
  have HW : Hid (Below w.heap.size w (((w.alloc (.cells (w8 d).toArray 29)).alloc (.cells z16 48)).alloc (.cells z16 48))) := Lib.hid ((((Below.refl _ _).alloc (Nat.le_refl _) _).alloc (by simp) _).alloc (by simp; omega) _)
  unfold z16 at HA HB HC HW
  generalize (((w.alloc (.cells (w8 d).toArray 29)).alloc (.cells _ 48)).alloc (.cells _ 48)) = V at HA HB HC HW ⊢
  go_wp2_with fail
  go_loopw [4] (fun i wr => ∃ (k : Nat), k ≤ 16 ∧ i = .int .i64 k ∧ Hid (Blk wr w.heap.size 29 (w8 d)) ∧ Hid (Blk wr (w.heap.size + 1) 48 (w8 (List.replicate 16 0))) ∧ Hid (Blk wr (w.heap.size + 1 + 1) 48 (w8 (d.take k ++ List.replicate (16 - k) 0))) ∧ Hid (Below w.heap.size w wr)) (fun i _ => 16 - (intOf i).toNat)
  case atStart => exact ⟨0, Nat.zero_le _, rfl, HA, HB, HC, HW⟩
  case round =>
    clear HA HB HC HW
    obtain ⟨k, hk, rfl, HA, HB, HC, HW⟩ := hrel
    by_cases hlt : k < 16
    · have k1 : (k : Int) < 16 := by omega
      have k2 : (k : Int) < 32 := by omega
      obtain ⟨x, hx⟩ : ∃ x, d.getD k 0 = x := ⟨_, rfl⟩
      have hc1 : wr.cell? ⟨w.heap.size, k, none⟩ = some (.int .u8 (x : Int)) := by rw [HA.out.cell, w8_get d k (by rw [HD.out]; omega), hx]
      obtain ⟨u, hu⟩ : ∃ u, wr.cell? ⟨w.heap.size + 1 + 1, k, none⟩ = some u := by
        rw [HC.out.cell]
        exact ⟨_, List.getElem?_eq_getElem (by rw [w8_length]; simp [HD.out]; omega)⟩
      have hf2 := HC.out.frozen k
      have HE := Lib.hid (HC.out.set_ k (.int .u8 (x : Int)))
      rw [w8_set, take_set d k x hlt HD.out hx] at HE
      have HAE := Lib.hid (HA.out.far (p := ⟨w.heap.size + 1 + 1, k, none⟩) (by show w.heap.size ≠ w.heap.size + 1 + 1; omega) (.int .u8 (x : Int)))
      have HBE := Lib.hid (HB.out.far (p := ⟨w.heap.size + 1 + 1, k, none⟩) (by show w.heap.size + 1 ≠ w.heap.size + 1 + 1; omega) (.int .u8 (x : Int)))
      have HWE := Lib.hid (HW.out.setCell (p := ⟨w.heap.size + 1 + 1, k, none⟩) (by show w.heap.size ≤ w.heap.size + 1 + 1; omega) (.int .u8 (x : Int)))
      clear hx
      go_wp2
      go_roundw
      case rel => exact ⟨k + 1, by omega, by go_num, HAE, HBE, HE, HWE⟩
      case measure => simp [intOf]; omega
    · obtain rfl : k = 16 := by omega
      have HC2 : Hid (Blk wr (w.heap.size + 1 + 1) 48 (w8 (d.take 16))) := Lib.hid (by have h := HC.out; rw [Nat.sub_self, List.replicate_zero, List.append_nil] at h; exact h)
      have HL : Hid ((d.take 16).length = 16) := Lib.hid (by rw [List.length_take, HD.out]; rfl)
      have HRG := Lib.hid HC2.out.all
      have HS5 : Hid ((Tryd.prog.info? 48).map (·.size) = some (w8 (d.take 16)).length) := Lib.hid (by rw [w8_length, HL.out]; exact info48)
      have HS6 : Hid ((Tryd.prog.info? 48).map (·.size) = some (w8 (d.take 16)).toArray.size) := Lib.hid (by rw [List.size_toArray, w8_length, HL.out]; exact info48)
      have HZ6 : Hid ((w8 (List.replicate 16 0)).toArray.size = (w8 (d.take 16)).toArray.size) := Lib.hid (by rw [List.size_toArray, List.size_toArray, w8_length, w8_length, HL.out]; simp)
      have HO6 := Lib.hid (all_oneCell_toArray (w8_one (d.take 16)))
      go_wp2_with (first | (refine wpList_load_mid rfl 48 (.tmp 3) rfl (w.heap.size + 1 + 1) 0 rfl (w8 (d.take 16)) _ HRG.out Tryd.underlying48 rfl HS5.out ?_) | (refine wpList_store_row rfl 48 (.tmp 2) (.tmp 14) rfl (w.heap.size + 1) (w8 (d.take 16)).toArray rfl rfl 48 _ HB.out HS6.out HZ6.out HO6.out ?_))
      exact bodyPost_ret (v := .agg (w8 (d.take 16)).toArray) (results_cell_row Tryd.results95 _ _ (w.heap.size + 1) 48 (w8 (d.take 16)).toArray (0, 0) _ rfl (HB.out.setRow _) Tryd.underlying48 rfl HS6.out) rfl ⟨rfl, below_setRow HW.out (by omega) _⟩

set_option maxRecDepth 100000 in
set_option maxHeartbeats 1000000 in
theorem rbit_any (d : List Nat) (a : Nat) (w : World) (HL : Hid (d.length = 32)) (HP : Hid (∀ x ∈ d, x < 256)) (ha : a < 32) :
    Calls Tryd.prog 39 #[.agg (w8 d).toArray, .int .i64 (a : Int)] w fun e w' => e = .returned (.int .i64 ((bitN d a : Nat) : Int)) ∧ Below w.heap.size w w' := by
  have a1 : (a : Int) < 32 := by omega
  obtain ⟨q, hq⟩ : ∃ q, a / 8 = q := ⟨_, rfl⟩
  obtain ⟨r, hr⟩ : ∃ r, a % 8 = r := ⟨_, rfl⟩
  have q1 : (a : Int).tdiv 8 = (q : Int) := by rw [Int.tdiv_eq_ediv_of_nonneg (by omega)]; omega
  have r1 : (a : Int).tmod 8 = (r : Int) := by rw [Int.tmod_eq_emod_of_nonneg (by omega)]; omega
  have q2 : q < 4 := by omega
  have r2 : r < 8 := by omega
  obtain ⟨x, hx⟩ : ∃ x, d.getD q 0 = x := ⟨_, rfl⟩
  have hxl : x < 256 := by rw [← hx]; exact getD_lt (by omega) HP.out q
  have HA : Hid (Blk (w.alloc (.cells (w8 d).toArray 29)) w.heap.size 29 (w8 d)) := Lib.hid (Blk.new w 29 (w8 d))
  have HW : Hid (Below w.heap.size w (w.alloc (.cells (w8 d).toArray 29))) := Lib.hid ((Below.refl _ _).alloc (Nat.le_refl _) _)
  have hc : (w.alloc (.cells (w8 d).toArray 29)).cell? ⟨w.heap.size, q, none⟩ = some (.int .u8 (x : Int)) := by
    rw [HA.out.cell, w8_get d q (by rw [HL.out]; omega), hx]
  have HE : Hid (bitN d a = x / 2 ^ (7 - r) % 2) := Lib.hid (by unfold bitN; rw [hq, hr, hx])
  clear hq hr hx
  go_enter Tryd.func39, Tryd.ntmps39
  go_upto_region 1 with fail
  generalize w.alloc (.cells (w8 d).toArray 29) = V at HA HW hc ⊢
  go_wp2_with fail
  go_loop [5, 6] (fun n i => ∃ (j y : Nat), j ≤ 7 - r ∧ i = .int .i64 j ∧ n = .int .i64 y ∧ Hid (y = x / 2 ^ j) ∧ y < 256) (fun _ i => 7 - r - (intOf i).toNat)
  case atStart => exact ⟨0, x, Nat.zero_le _, rfl, rfl, Lib.hid (by simp), hxl⟩
  case round =>
    obtain ⟨j, y, hj, rfl, rfl, HY, hy⟩ := hrel
    have y1 : (y : Int) < 256 := by omega
    by_cases hlt : j < 7 - r
    · obtain ⟨z, hz⟩ : ∃ z, y / 2 = z := ⟨_, rfl⟩
      have z1 : (y : Int).tdiv 2 = (z : Int) := by rw [Int.tdiv_eq_ediv_of_nonneg (by omega)]; omega
      have hcmp : decide ((j : Int) < 7 - (r : Int)) = true := by simp; omega
      have HZ : Hid (z = x / 2 ^ (j + 1)) := Lib.hid (by rw [← hz, HY.out, Nat.div_div_eq_div_mul, Nat.pow_succ])
      have hz2 : z < 256 := by omega
      clear hz
      go_wp2
      go_round
      case rel => exact ⟨j + 1, z, by omega, by go_num, rfl, HZ, hz2⟩
      case measure => simp [intOf]; omega
    · obtain rfl : j = 7 - r := by omega
      have hcmp : decide (((7 - r : Nat) : Int) < 7 - (r : Int)) = false := by simp; omega
      obtain ⟨z, hz⟩ : ∃ z, y % 2 = z := ⟨_, rfl⟩
      have z1 : (y : Int).tmod 2 = (z : Int) := by rw [Int.tmod_eq_emod_of_nonneg (by omega)]; omega
      have HZ : Hid (bitN d a = z) := Lib.hid (by rw [HE.out, ← HY.out, hz])
      clear hz
      go_wp2
      go_ret
      exact ⟨by rw [HZ.out]; rfl, HW.out⟩
end Go.Proofs.YtkonokjhpddbfaaDoor
