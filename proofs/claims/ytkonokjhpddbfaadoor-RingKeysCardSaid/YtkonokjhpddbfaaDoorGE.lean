/-
  The document's lamp, its small functions: first (function 95), Bit (39): what they answer; nothing that was there is written.
  The document's Cover (function 68) and Secret (69): what they answer; nothing that was there is written.
  The document's Sign (function 26): what it answers; nothing that was there is written.
  The document's Leaf (function 23): what it answers; nothing that was there is written.
  The document's From (function 29): what it answers; nothing that was there is written.
-/
import Derived.Test.YtkonokjhpddbfaaDoorGD
import Derived.Test.YtkonokjhpddbfaaDoorGB
import Derived.Test.YtkonokjhpddbfaaDoorGC
namespace Go.Proofs.YtkonokjhpddbfaaDoor
open Go.RowKit
set_option linter.unusedVariables false

theorem take_set (d : List Nat) (k x : Nat) (hk : k < 16) (hd : d.length = 32) (hx : d.getD k 0 = x) : (d.take k ++ List.replicate (16 - k) 0).set k x = d.take (k + 1) ++ List.replicate (16 - (k + 1)) 0 := by
  have e : d[k]'(by omega) = x := by rw [← hx]; simp [List.getD, show k < d.length by omega]
  have hl : (d.take k).length = k := by simp; omega
  rw [List.set_append_right _ _ (by omega), hl, Nat.sub_self, show 16 - k = (16 - (k + 1)) + 1 by omega, List.replicate_succ, List.set_cons_zero, List.take_succ_eq_append_getElem (by omega), e]
  simp

set_option maxRecDepth 100000 in
set_option maxHeartbeats 1000000 in
theorem first_any (d : List Nat) (w : World) (HD : Hid (d.length = 32)) :
    Calls Tryd.prog 95 #[.agg (w8 d).toArray] w fun e w' => e = .returned (.agg (w8 (d.take 16)).toArray) ∧ Below w.heap.size w w' := by
  go_enter Tryd.func95, Tryd.ntmps95
  go_upto_region 2 with fail
  have HA : Hid (Blk (((w.alloc (.cells (w8 d).toArray 29)).alloc (.cells z16 48)).alloc (.cells z16 48)) w.heap.size 29 (w8 d)) := Lib.hid (by
    have h := ((Blk.new w 29 (w8 d)).alloc (.cells z16 48)).alloc (.cells z16 48)
    exact h)
  have HB : Hid (Blk (((w.alloc (.cells (w8 d).toArray 29)).alloc (.cells z16 48)).alloc (.cells z16 48)) (w.heap.size + 1) 48 (w8 (List.replicate 16 0))) := Lib.hid (by
    have h := (Blk.new (w.alloc (.cells (w8 d).toArray 29)) 48 (w8 (List.replicate 16 0))).alloc (.cells z16 48)
    rw [z16_eq, World.size_alloc] at h
    exact h)
  have HC : Hid (Blk (((w.alloc (.cells (w8 d).toArray 29)).alloc (.cells z16 48)).alloc (.cells z16 48)) (w.heap.size + 1 + 1) 48 (w8 (List.replicate 16 0))) := Lib.hid (by
    have h := Blk.new ((w.alloc (.cells (w8 d).toArray 29)).alloc (.cells z16 48)) 48 (w8 (List.replicate 16 0))
    rw [z16_eq, World.size_alloc, World.size_alloc] at h
    exact h)
  have HW : Hid (Below w.heap.size w (((w.alloc (.cells (w8 d).toArray 29)).alloc (.cells z16 48)).alloc (.cells z16 48))) := Lib.hid ((((Below.refl _ _).alloc (Nat.le_refl _) _).alloc (by simp) _).alloc (by simp; omega) _)
  unfold z16 at HA HB HC HW
  generalize (((w.alloc (.cells (w8 d).toArray 29)).alloc (.cells _ 48)).alloc (.cells _ 48)) = V at HA HB HC HW ⊢
  go_wp2_with fail
  go_loopw [4] (fun i wr => ∃ (k : Nat), k ≤ 16 ∧ i = .int .i64 k ∧ Hid (Blk wr w.heap.size 29 (w8 d)) ∧ Hid (Blk wr (w.heap.size + 1) 48 (w8 (List.replicate 16 0))) ∧ Hid (Blk wr (w.heap.size + 1 + 1) 48 (w8 (d.take k ++ List.replicate (16 - k) 0))) ∧ Hid (Below w.heap.size w wr)) (fun i _ => 16 - (intOf i).toNat)
  case atStart => exact ⟨0, Nat.zero_le _, rfl, HA, HB, HC, HW⟩
  case round =>
    clear HA HB HC HW
    obtain ⟨k, hk, rfl, HA, HB, HC, HW⟩ := hrel
    by_cases hlt : k < 16
    · have k1 : (k : Int) < 16 := by omega
      have k2 : (k : Int) < 32 := by omega
      obtain ⟨x, hx⟩ : ∃ x, d.getD k 0 = x := ⟨_, rfl⟩
      have hc1 : wr.cell? ⟨w.heap.size, k, none⟩ = some (.int .u8 (x : Int)) := by rw [HA.out.cell, w8_get d k (by rw [HD.out]; omega), hx]
      obtain ⟨u, hu⟩ : ∃ u, wr.cell? ⟨w.heap.size + 1 + 1, k, none⟩ = some u := by
        rw [HC.out.cell]
        exact ⟨_, List.getElem?_eq_getElem (by rw [w8_length]; simp [HD.out]; omega)⟩
      have hf2 := HC.out.frozen k
      have HE := Lib.hid (HC.out.set_ k (.int .u8 (x : Int)))
      rw [w8_set, take_set d k x hlt HD.out hx] at HE
      have HAE := Lib.hid (HA.out.far (p := ⟨w.heap.size + 1 + 1, k, none⟩) (by show w.heap.size ≠ w.heap.size + 1 + 1; omega) (.int .u8 (x : Int)))
      have HBE := Lib.hid (HB.out.far (p := ⟨w.heap.size + 1 + 1, k, none⟩) (by show w.heap.size + 1 ≠ w.heap.size + 1 + 1; omega) (.int .u8 (x : Int)))
      have HWE := Lib.hid (HW.out.setCell (p := ⟨w.heap.size + 1 + 1, k, none⟩) (by show w.heap.size ≤ w.heap.size + 1 + 1; omega) (.int .u8 (x : Int)))
      clear hx
      go_wp2
      go_roundw
      case rel => exact ⟨k + 1, by omega, by go_num, HAE, HBE, HE, HWE⟩
      case measure => simp [intOf]; omega
    · obtain rfl : k = 16 := by omega
      have HC2 : Hid (Blk wr (w.heap.size + 1 + 1) 48 (w8 (d.take 16))) := Lib.hid (by have h := HC.out; rw [Nat.sub_self, List.replicate_zero, List.append_nil] at h; exact h)
      have HL : Hid ((d.take 16).length = 16) := Lib.hid (by rw [List.length_take, HD.out]; rfl)
      have HRG := Lib.hid HC2.out.all
      have HS5 : Hid ((Tryd.prog.info? 48).map (·.size) = some (w8 (d.take 16)).length) := Lib.hid (by rw [w8_length, HL.out]; exact info48)
      have HS6 : Hid ((Tryd.prog.info? 48).map (·.size) = some (w8 (d.take 16)).toArray.size) := Lib.hid (by rw [List.size_toArray, w8_length, HL.out]; exact info48)
      have HZ6 : Hid ((w8 (List.replicate 16 0)).toArray.size = (w8 (d.take 16)).toArray.size) := Lib.hid (by rw [List.size_toArray, List.size_toArray, w8_length, w8_length, HL.out]; simp)
      have HO6 := Lib.hid (all_oneCell_toArray (w8_one (d.take 16)))
      go_wp2_with (first | (refine wpList_load_mid rfl 48 (.tmp 3) rfl (w.heap.size + 1 + 1) 0 rfl (w8 (d.take 16)) _ HRG.out Tryd.underlying48 rfl HS5.out ?_) | (refine wpList_store_row rfl 48 (.tmp 2) (.tmp 14) rfl (w.heap.size + 1) (w8 (d.take 16)).toArray rfl rfl 48 _ HB.out HS6.out HZ6.out HO6.out ?_))
      exact bodyPost_ret (v := .agg (w8 (d.take 16)).toArray) (results_cell_row Tryd.results95 _ _ (w.heap.size + 1) 48 (w8 (d.take 16)).toArray (0, 0) _ rfl (HB.out.setRow _) Tryd.underlying48 rfl HS6.out) rfl ⟨rfl, below_setRow HW.out (by omega) _⟩

set_option maxRecDepth 100000 in
set_option maxHeartbeats 1000000 in
theorem rbit_any (d : List Nat) (a : Nat) (w : World) (HL : Hid (d.length = 32)) (HP : Hid (∀ x ∈ d, x < 256)) (ha : a < 32) :
    Calls Tryd.prog 39 #[.agg (w8 d).toArray, .int .i64 (a : Int)] w fun e w' => e = .returned (.int .i64 ((bitN d a : Nat) : Int)) ∧ Below w.heap.size w w' := by
  have a1 : (a : Int) < 32 := by omega
  obtain ⟨q, hq⟩ : ∃ q, a / 8 = q := ⟨_, rfl⟩
  obtain ⟨r, hr⟩ : ∃ r, a % 8 = r := ⟨_, rfl⟩
  have q1 : (a : Int).tdiv 8 = (q : Int) := by rw [Int.tdiv_eq_ediv_of_nonneg (by omega)]; omega
  have r1 : (a : Int).tmod 8 = (r : Int) := by rw [Int.tmod_eq_emod_of_nonneg (by omega)]; omega
  have q2 : q < 4 := by omega
  have r2 : r < 8 := by omega
  obtain ⟨x, hx⟩ : ∃ x, d.getD q 0 = x := ⟨_, rfl⟩
  have hxl : x < 256 := by rw [← hx]; exact getD_lt (by omega) HP.out q
  have HA : Hid (Blk (w.alloc (.cells (w8 d).toArray 29)) w.heap.size 29 (w8 d)) := Lib.hid (Blk.new w 29 (w8 d))
  have HW : Hid (Below w.heap.size w (w.alloc (.cells (w8 d).toArray 29))) := Lib.hid ((Below.refl _ _).alloc (Nat.le_refl _) _)
  have hc : (w.alloc (.cells (w8 d).toArray 29)).cell? ⟨w.heap.size, q, none⟩ = some (.int .u8 (x : Int)) := by
    rw [HA.out.cell, w8_get d q (by rw [HL.out]; omega), hx]
  have HE : Hid (bitN d a = x / 2 ^ (7 - r) % 2) := Lib.hid (by unfold bitN; rw [hq, hr, hx])
  clear hq hr hx
  go_enter Tryd.func39, Tryd.ntmps39
  go_upto_region 1 with fail
  generalize w.alloc (.cells (w8 d).toArray 29) = V at HA HW hc ⊢
  go_wp2_with fail
  go_loop [5, 6] (fun n i => ∃ (j y : Nat), j ≤ 7 - r ∧ i = .int .i64 j ∧ n = .int .i64 y ∧ Hid (y = x / 2 ^ j) ∧ y < 256) (fun _ i => 7 - r - (intOf i).toNat)
  case atStart => exact ⟨0, x, Nat.zero_le _, rfl, rfl, Lib.hid (by simp), hxl⟩
  case round =>
    obtain ⟨j, y, hj, rfl, rfl, HY, hy⟩ := hrel
    have y1 : (y : Int) < 256 := by omega
    by_cases hlt : j < 7 - r
    · obtain ⟨z, hz⟩ : ∃ z, y / 2 = z := ⟨_, rfl⟩
      have z1 : (y : Int).tdiv 2 = (z : Int) := by rw [Int.tdiv_eq_ediv_of_nonneg (by omega)]; omega
      have hcmp : decide ((j : Int) < 7 - (r : Int)) = true := by simp; omega
      have HZ : Hid (z = x / 2 ^ (j + 1)) := Lib.hid (by rw [← hz, HY.out, Nat.div_div_eq_div_mul, Nat.pow_succ])
      have hz2 : z < 256 := by omega
      clear hz
      go_wp2
      go_round
      case rel => exact ⟨j + 1, z, by omega, by go_num, rfl, HZ, hz2⟩
      case measure => simp [intOf]; omega
    · obtain rfl : j = 7 - r := by omega
      have hcmp : decide (((7 - r : Nat) : Int) < 7 - (r : Int)) = false := by simp; omega
      obtain ⟨z, hz⟩ : ∃ z, y % 2 = z := ⟨_, rfl⟩
      have z1 : (y : Int).tmod 2 = (z : Int) := by rw [Int.tmod_eq_emod_of_nonneg (by omega)]; omega
      have HZ : Hid (bitN d a = z) := Lib.hid (by rw [HE.out, ← HY.out, hz])
      clear hz
      go_wp2
      go_ret
      exact ⟨by rw [HZ.out]; rfl, HW.out⟩
end Go.Proofs.YtkonokjhpddbfaaDoor
namespace Go.Proofs.YtkonokjhpddbfaaDoor
open Go.RowKit
set_option linter.unusedVariables false

theorem slice16r (g o : Nat) (W : World) : (Instr.sliceAt 48 (.pointer (some ⟨g, o, none⟩)) none none none).run Tryd.prog W = .ok (.slice (some ⟨g, o, none⟩) 16 16) W := by
  have h := run_sliceAt_array_all (P := Tryd.prog) W 48 ⟨g, o, none⟩ (by kernel_rfl)
  rw [h, show Tryd.prog.arrayLen 48 = 16 by kernel_rfl, show Tryd.prog.elem 48 = 5 by kernel_rfl]
  obtain ⟨i0, hi, hz0, hz1, hz2⟩ := info_parts byte_info
  simp [sizeOf, typeInfo, hi, slicedAt, Addr.add_mid]
theorem info40 : (Tryd.prog.info? 40).map (·.size) = some 2 := by kernel_rfl
/-- A slice literal, at a step of a region that draws its order. -/
theorem step_lay {ops : Array Oper} {o : Oper} {a : Act} {w : World} {K : Act → World → Prop} {Q : Exit → Act → World → Prop} {E : Prop} (hw : Region.wanted o (yielded ops a.tmps) = true) (t len : Nat) (parts : Array (Nat × Operand)) (ho : o.op = .buildSlice t len parts)
    (vals : Array (Nat × Value)) (hv : (parts.map fun (i, x) => (i, a.eval x)) = vals) (cells : Array Value) (e : TypeId) (hb : (Instr.buildSlice t len vals).run Tryd.prog w = .ok (.slice (some ⟨w.heap.size, 0, none⟩) len len) (w.alloc (.cells cells e)))
    (h : K (a.put o.dst (.slice (some ⟨w.heap.size, 0, none⟩) len len)) (w.alloc (.cells cells e))) :
    if Region.wanted o (yielded ops a.tmps) = true then Oper.wp Tryd.prog o a w K Q else E := by
  rw [if_pos hw]
  have e : (execOp a.eval o).run Tryd.prog w = .ok (.value (.slice (some ⟨w.heap.size, 0, none⟩) len len)) (w.alloc (.cells cells e)) := by
    unfold execOp
    simp only [ho, hv, Sem.run_bind, hb, Result.andThen_ok, Sem.run_pure]
  unfold Oper.wp
  rw [e]
  exact h

set_option maxRecDepth 100000 in
set_option maxHeartbeats 1000000 in
theorem cover_any (f r : ByteArray) (p : List Nat) (w : World) (HX : Hid (Texts f r)) (HL : Hid (p.length = 16)) (HPB : Hid (∀ x ∈ p, x < 256)) :
    Calls Tryd.prog 68 #[.agg #[.string f, .string r], .agg (w8 p).toArray] w fun e w' => e = .returned (.agg (w8 (covN p)).toArray) ∧ Below w.heap.size w w' := by
  have hsl := slice16r (w.heap.size + 1) 0
  go_enter Tryd.func68, Tryd.ntmps68
  go_upto_region 1 with fail
  have HT : Hid (Blk (((w.alloc (.cells #[.string f, .string r] 40)).alloc (.cells (w8 p).toArray 48)).alloc (.cells z16 48)) w.heap.size 40 ([.string f, .string r])) := Lib.hid (by
    have h := ((Blk.new w 40 ([.string f, .string r])).alloc (.cells (w8 p).toArray 48)).alloc (.cells z16 48)
    exact h)
  have HP : Hid (Blk (((w.alloc (.cells #[.string f, .string r] 40)).alloc (.cells (w8 p).toArray 48)).alloc (.cells z16 48)) (w.heap.size + 1) 48 (w8 p)) := Lib.hid (by
    have h := (Blk.new (w.alloc (.cells #[.string f, .string r] 40)) 48 (w8 p)).alloc (.cells z16 48)
    rw [World.size_alloc] at h
    exact h)
  have HR : Hid (Blk (((w.alloc (.cells #[.string f, .string r] 40)).alloc (.cells (w8 p).toArray 48)).alloc (.cells z16 48)) (w.heap.size + 1 + 1) 48 (w8 (List.replicate 16 0))) := Lib.hid (by
    have h := Blk.new ((w.alloc (.cells #[.string f, .string r] 40)).alloc (.cells (w8 p).toArray 48)) 48 (w8 (List.replicate 16 0))
    rw [z16_eq, World.size_alloc, World.size_alloc] at h
    exact h)
  have HW : Hid (Below w.heap.size w (((w.alloc (.cells #[.string f, .string r] 40)).alloc (.cells (w8 p).toArray 48)).alloc (.cells z16 48))) := Lib.hid ((((Below.refl _ _).alloc (Nat.le_refl _) _).alloc (by simp) _).alloc (by simp; omega) _)
  unfold z16 at HT HP HR HW
  generalize (((w.alloc (.cells #[.string f, .string r] 40)).alloc (.cells (w8 p).toArray 48)).alloc (.cells _ 48)) = V at HT HP HR HW ⊢
  have HLX : Hid ((covN p).length = 16) := Lib.hid (covN_length p)
  have HS6 : Hid ((Tryd.prog.info? 48).map (·.size) = some (w8 (covN p)).toArray.size) := Lib.hid (by rw [List.size_toArray, w8_length, HLX.out]; exact info48)
  have HS7 : Hid ((Tryd.prog.info? 48).map (·.size) = some (w8 (covN p)).length) := Lib.hid (by rw [w8_length, HLX.out]; exact info48)
  have HRF : Hid (∀ (X : World) (g : Nat), Blk X (w.heap.size + 1) 48 (w8 p) → Blk X g 30 [.slice (some ⟨w.heap.size + 1, 0, none⟩) 16 16] → Calls Tryd.prog 70 #[.agg #[.string f, .string r], .int .u8 5, .slice (some ⟨g, 0, none⟩) 1 1] X fun e w' => e = .returned (.agg (w8 (sha (text 5 [p]))).toArray) ∧ Below X.heap.size X w') := Lib.hid fun X g h1 h2 => by
    have hp := Parts.one (b := X.heap.size) (x := p) h2 HL.out.symm (by have := h2.lt; omega) (by omega) (Src.blk (rest := []) (by rw [List.append_nil]; exact h1) (by have := h1.lt; omega) HPB.out 16 (by rw [HL.out]; omega))
    exact reffor_any f r 5 1 1 _ _ [p] X HX (by omega) (Lib.hid hp) (Lib.hid rfl) (by omega) (Lib.hid (by simp [HL.out])) (Lib.hid (by simpa using HPB.out))
  have HFI : Hid (∀ X : World, Calls Tryd.prog 95 #[.agg (w8 (sha (text 5 [p]))).toArray] X fun e w' => e = .returned (.agg (w8 (covN p)).toArray) ∧ Below X.heap.size X w') := Lib.hid fun X => first_any _ X (Lib.hid (sha_length _))
  have HTX0 : Hid (Blk V.drew w.heap.size 40 [.string f, .string r]) := Lib.hid (HT.out.below (below_drewN (Below.refl _ _) 1) HT.out.lt)
  have HPX0 : Hid (Blk V.drew (w.heap.size + 1) 48 (w8 p)) := Lib.hid (HP.out.below (below_drewN (Below.refl _ _) 1) HP.out.lt)
  have HRX0 : Hid (Blk V.drew (w.heap.size + 1 + 1) 48 (w8 (List.replicate 16 0))) := Lib.hid (HR.out.below (below_drewN (Below.refl _ _) 1) HR.out.lt)
  have HWX0 : Hid (Below w.heap.size w V.drew) := Lib.hid (below_drewN HW.out 1)
  refine wp_region_held_drew (S := fun w' => Blk w' w.heap.size 40 [.string f, .string r] ∧ Blk w' (w.heap.size + 1) 48 (w8 p)) (by kernel_rfl) (⟨HTX0.out, HPX0.out⟩) (fun hHeld => ?_)
  generalize V.drew = X0 at hHeld HTX0 HPX0 HRX0 HWX0 ⊢
  refine wpAnyH_take (i := 0) (v := .agg #[.string f, .string r]) rfl (by kernel_rfl) (by kernel_rfl) (by kernel_rfl) (fun _ _ _ h => h) (yieldsIf_load_mid (by rfl) 40 (.tmp 2) rfl w.heap.size 0 rfl [.string f, .string r] _ (fun w' h => Blk.all h.1) Tryd.underlying40 rfl info40) hHeld ?_
  show wpAnyH _ _ _ _ _ _ _ (Act.put _ (some 5) _) _
  simp only [Act.put, List.setIfInBounds_toArray, List.set_cons_zero, List.set_cons_succ]
  refine wpAnyH_take (i := 1) (v := .slice (some ⟨w.heap.size + 1, 0, none⟩) 16 16) rfl (by kernel_rfl) (by kernel_rfl) (by kernel_rfl) (fun _ _ _ h => h) (Or.inl ⟨by rfl, by intro w' _; go_simp⟩) hHeld ?_
  show wpAnyH _ _ _ _ _ _ _ (Act.put _ (some 6) _) _
  simp only [Act.put, List.setIfInBounds_toArray, List.set_cons_zero, List.set_cons_succ]
  refine wpAnyH_ready (rs := [2]) (by kernel_rfl) (by simp) ?_
  refine AllReadyH.cons rfl (fun K hK => ?_) AllReadyH.nil
  refine step_lay rfl 23 1 #[(0, .tmp 6)] rfl #[(0, .slice (some ⟨w.heap.size + 1, 0, none⟩) 16 16)] (by simp [Act.eval]) #[.slice (some ⟨w.heap.size + 1, 0, none⟩) 16 16] 30 (by kernel_rfl) ?_
  have hB : Below X0.heap.size X0 (X0.alloc (.cells #[.slice (some ⟨w.heap.size + 1, 0, none⟩) 16 16] 30)) := (Below.refl _ _).alloc (Nat.le_refl _) _
  have HWX1 := Lib.hid (HWX0.out.trans (hB.mono HWX0.out.size))
  have HTX1 := Lib.hid (HTX0.out.below hB HTX0.out.lt)
  have HPX1 := Lib.hid (HPX0.out.below hB HPX0.out.lt)
  have HRX1 := Lib.hid (HRX0.out.below hB HRX0.out.lt)
  have HLX1 : Hid (Blk (X0.alloc (.cells #[.slice (some ⟨w.heap.size + 1, 0, none⟩) 16 16] 30)) X0.heap.size 30 [.slice (some ⟨w.heap.size + 1, 0, none⟩) 16 16]) := Lib.hid (Blk.new _ _ _)
  clear hB
  refine hK.out _ _ (⟨HTX1.out, HPX1.out⟩) (fun hHeld => ?_)
  generalize (X0.alloc (.cells #[.slice (some ⟨w.heap.size + 1, 0, none⟩) 16 16] 30)) = X1 at hHeld HWX1 HTX1 HPX1 HRX1 HLX1  ⊢
  clear hK K
  show wpAnyH _ _ _ _ _ _ _ (Act.put _ (some 7) _) _
  simp only [Act.put, List.setIfInBounds_toArray, List.set_cons_zero, List.set_cons_succ]
  refine wpAnyH_ready (rs := [3]) (by kernel_rfl) (by simp) ?_
  refine AllReadyH.cons rfl (fun K hK => ?_) AllReadyH.nil
  refine step_call rfl 70 #[.tmp 5, .const (.int .u8 5), .tmp 7] #[40, 5, 23] rfl #[.agg #[.string f, .string r], .int .u8 5, .slice (some ⟨X0.heap.size, 0, none⟩) 1 1] (by simp [Act.eval]) (by go_simp) (HRF.out X1 _ HPX1.out HLX1.out) ?_
  rintro e X2 ⟨rfl, hB⟩
  have HWX2 := Lib.hid (HWX1.out.trans (hB.mono HWX1.out.size))
  have HTX2 := Lib.hid (HTX1.out.below hB HTX1.out.lt)
  have HPX2 := Lib.hid (HPX1.out.below hB HPX1.out.lt)
  have HRX2 := Lib.hid (HRX1.out.below hB HRX1.out.lt)
  have HLX2 := Lib.hid (HLX1.out.below hB HLX1.out.lt)
  clear hB HWX1 HTX1 HPX1 HRX1 HLX1 
  refine ⟨_, rfl, hK.out _ _ (⟨HTX2.out, HPX2.out⟩) (fun hHeld => ?_)⟩
  clear hK K
  show wpAnyH _ _ _ _ _ _ _ (Act.put _ (some 8) _) _
  simp only [Act.put, List.setIfInBounds_toArray, List.set_cons_zero, List.set_cons_succ]
  refine wpAnyH_ready (rs := [4]) (by kernel_rfl) (by simp) ?_
  refine AllReadyH.cons rfl (fun K hK => ?_) AllReadyH.nil
  refine step_call rfl 95 #[.tmp 8] #[29] rfl #[.agg (w8 (sha (text 5 [p]))).toArray] (by simp [Act.eval]) (by go_simp) (HFI.out X2) ?_
  rintro e X3 ⟨rfl, hB⟩
  have HWX3 := Lib.hid (HWX2.out.trans (hB.mono HWX2.out.size))
  have HTX3 := Lib.hid (HTX2.out.below hB HTX2.out.lt)
  have HPX3 := Lib.hid (HPX2.out.below hB HPX2.out.lt)
  have HRX3 := Lib.hid (HRX2.out.below hB HRX2.out.lt)
  have HLX3 := Lib.hid (HLX2.out.below hB HLX2.out.lt)
  have HTH : Hid (X3.there (w.heap.size + 1 + 1) 0 (w8 (covN p)).length) := Lib.hid (HRX3.out.there _ _ (by rw [w8_length, w8_length, HLX.out]; simp))
  clear hB HWX2 HTX2 HPX2 HRX2 HLX2 
  refine ⟨_, rfl, hK.out _ _ (⟨HTX3.out, HPX3.out⟩) (fun hHeld => ?_)⟩
  clear hK K
  show wpAnyH _ _ _ _ _ _ _ (Act.put _ (some 9) _) _
  simp only [Act.put, List.setIfInBounds_toArray, List.set_cons_zero, List.set_cons_succ]
  refine wpAnyH_ready (rs := [5]) (by kernel_rfl) (by simp) ?_
  refine AllReadyH.cons rfl (fun K hK => ?_) AllReadyH.nil
  refine step_store_mid rfl 48 (.tmp 4) (.tmp 9) rfl (w.heap.size + 1 + 1) 0 (w8 (covN p)) rfl rfl HTH.out HS7.out (w8_one _) ?_
  refine hK.out _ _ (⟨HTX3.out.farCells (by omega) _, HPX3.out.farCells (by omega) _⟩) (fun hHeld => ?_)
  have HTX4 := Lib.hid (HTX3.out.farCells (b := (w.heap.size + 1 + 1)) (o := 0) (by omega) (w8 (covN p)))
  have HRX4 : Hid (Blk (X3.setCells (w.heap.size + 1 + 1) 0 (w8 (covN p))) (w.heap.size + 1 + 1) 48 (w8 (covN p))) := Lib.hid (by
    have h := Blk.put8 [] (List.replicate 16 0) [] (covN p) (by rw [List.nil_append, List.append_nil]; exact HRX3.out) (by rw [HLX.out]; simp) 0 rfl
    rw [List.nil_append, List.append_nil] at h
    exact h)
  have HWX4 := Lib.hid (below_cells (g := (w.heap.size + 1 + 1)) (w8 (covN p)) 0 X3 HWX3.out (by omega))
  generalize X3.setCells (w.heap.size + 1 + 1) 0 (w8 (covN p)) = X4 at hHeld HTX4 HRX4 HWX4 ⊢
  clear hK K
  show wpAnyH _ _ _ _ _ _ _ (Act.put _ none _) _
  simp only [Act.put]
  refine wpAnyH_done (by kernel_rfl) ?_ _
  go_wp2
  exact bodyPost_ret (v := .agg (w8 (covN p)).toArray) (results_cell_row Tryd.results68 _ _ (w.heap.size + 1 + 1) 48 (w8 (covN p)).toArray (0, 0) _ rfl HRX4.out Tryd.underlying48 rfl HS6.out) rfl ⟨rfl, HWX4.out⟩

theorem numV_four (n : Nat) (hn : n < 4294967296) : Oct.numV 4 (n : Int) = ints (four n) := by
  simp only [Oct.numV, ints, four, List.nil_append, List.cons_append, List.map_cons, List.map_nil, List.cons.injEq, and_true]
  omega
theorem num_src (n : Nat) (hn : n < 4294967296) (base : Nat) (w : World) (hb : base < w.heap.size) : Calls Tryd.prog 89 #[.slice none 0 0, .int .u64 (n : Int), .int .i64 4] w fun e w' => ∃ A c, e = .returned (.slice A 4 c) ∧ c ≤ 9223372036854775807 ∧ Src w' base A c (four n) ∧ Below w.heap.size w w' := by
  have h := Oct.num_any none 0 0 [] (n : Int) 4 (by omega) w ⟨fun _ => rfl, .inl rfl⟩ rfl (by omega) (by omega) (by omega)
  refine h.mono ?_
  rintro e w' ⟨v', rfl, hO, hB⟩
  rw [List.nil_append, numV_four n hn] at hO
  have hO2 := Own.ofOct hO
  obtain ⟨A, c, rfl, hc, hs⟩ := hO2.src (b := base) (by
    intro he
    have := (World.ownsRow.lt hO2 base he).1
    omega) (four_lt n hn)
  exact ⟨A, c, rfl, hc, hs, hB⟩
set_option maxRecDepth 100000 in
set_option maxHeartbeats 1000000 in
theorem rsecret_any (f r : ByteArray) (seed : List Nat) (n a v : Nat) (w : World) (HX : Hid (Texts f r)) (HL : Hid (seed.length = 32)) (HPB : Hid (∀ x ∈ seed, x < 256)) (hn : n < 4294967296) (ha : a < 32) (hv : v < 2) :
    Calls Tryd.prog 69 #[.agg #[.string f, .string r], .agg (w8 seed).toArray, .int .u32 (n : Int), .int .i64 (a : Int), .int .i64 (v : Int)] w fun e w' => e = .returned (.agg (w8 (secN seed n a v)).toArray) ∧ Below w.heap.size w w' := by
  have hsl := slice32p (w.heap.size + 1) 0
  have n1 : (n : Int) ≤ 4294967295 := by omega
  have a1 : (a : Int) ≤ 255 := by omega
  have v1 : (v : Int) ≤ 255 := by omega
  have u1 : IntKind.u64.wrap (n : Int) = (n : Int) := IntWalk.u64_in _ (by omega)
  have u2 : IntKind.u8.wrap (a : Int) = (a : Int) := IntWalk.u8_in _ (by omega)
  have u3 : IntKind.u8.wrap (v : Int) = (v : Int) := IntWalk.u8_in _ (by omega)
  go_enter Tryd.func69, Tryd.ntmps69
  go_upto_region 1 with fail
  have HT : Hid (Blk (((w.alloc (.cells #[.string f, .string r] 40)).alloc (.cells (w8 seed).toArray 29)).alloc (.cells z16 48)) w.heap.size 40 ([.string f, .string r])) := Lib.hid (by
    have h := ((Blk.new w 40 ([.string f, .string r])).alloc (.cells (w8 seed).toArray 29)).alloc (.cells z16 48)
    exact h)
  have HP : Hid (Blk (((w.alloc (.cells #[.string f, .string r] 40)).alloc (.cells (w8 seed).toArray 29)).alloc (.cells z16 48)) (w.heap.size + 1) 29 (w8 seed)) := Lib.hid (by
    have h := (Blk.new (w.alloc (.cells #[.string f, .string r] 40)) 29 (w8 seed)).alloc (.cells z16 48)
    rw [World.size_alloc] at h
    exact h)
  have HR : Hid (Blk (((w.alloc (.cells #[.string f, .string r] 40)).alloc (.cells (w8 seed).toArray 29)).alloc (.cells z16 48)) (w.heap.size + 1 + 1) 48 (w8 (List.replicate 16 0))) := Lib.hid (by
    have h := Blk.new ((w.alloc (.cells #[.string f, .string r] 40)).alloc (.cells (w8 seed).toArray 29)) 48 (w8 (List.replicate 16 0))
    rw [z16_eq, World.size_alloc, World.size_alloc] at h
    exact h)
  have HW : Hid (Below w.heap.size w (((w.alloc (.cells #[.string f, .string r] 40)).alloc (.cells (w8 seed).toArray 29)).alloc (.cells z16 48))) := Lib.hid ((((Below.refl _ _).alloc (Nat.le_refl _) _).alloc (by simp) _).alloc (by simp; omega) _)
  unfold z16 at HT HP HR HW
  generalize (((w.alloc (.cells #[.string f, .string r] 40)).alloc (.cells (w8 seed).toArray 29)).alloc (.cells _ 48)) = V at HT HP HR HW ⊢
  have HLX : Hid ((secN seed n a v).length = 16) := Lib.hid (secN_length _ _ _ _)
  have HS6 : Hid ((Tryd.prog.info? 48).map (·.size) = some (w8 (secN seed n a v)).toArray.size) := Lib.hid (by rw [List.size_toArray, w8_length, HLX.out]; exact info48)
  have HS7 : Hid ((Tryd.prog.info? 48).map (·.size) = some (w8 (secN seed n a v)).length) := Lib.hid (by rw [w8_length, HLX.out]; exact info48)
  have HNU : Hid (∀ X : World, Blk X (w.heap.size + 1) 29 (w8 seed) → Calls Tryd.prog 89 #[.slice none 0 0, .int .u64 (n : Int), .int .i64 4] X fun e w' => ∃ A c, e = .returned (.slice A 4 c) ∧ c ≤ 9223372036854775807 ∧ Src w' w.heap.size A c (four n) ∧ Below X.heap.size X w') := Lib.hid fun X hX => num_src n hn w.heap.size X (by have := hX.lt; omega)
  have HRF : Hid (∀ (X : World) (A4 : Option Addr) (c4 g2 g : Nat), c4 ≤ 9223372036854775807 → Blk X (w.heap.size + 1) 29 (w8 seed) → Src X w.heap.size A4 c4 (four n) → Blk X g2 5 [.int .u8 (a : Int), .int .u8 (v : Int)] → Blk X g 30 [.slice (some ⟨w.heap.size + 1, 0, none⟩) 32 32, .slice A4 4 c4, .slice (some ⟨g2, 0, none⟩) 2 2] → Calls Tryd.prog 70 #[.agg #[.string f, .string r], .int .u8 1, .slice (some ⟨g, 0, none⟩) 3 3] X fun e w' => e = .returned (.agg (w8 (sha (text 1 [seed, four n, [a, v]]))).toArray) ∧ Below X.heap.size X w') := Lib.hid fun X A4 c4 g2 g hc h1 h2 h3 h4 => by
    have l2 := h3.lt
    have l1 := h1.lt
    have l4 := h4.lt
    have hp := Parts.three (b := X.heap.size) (x1 := seed) (x2 := four n) (x3 := [a, v]) h4 HL.out.symm rfl rfl (by omega) (by omega) hc (by omega) (Src.blk (rest := []) (by rw [List.append_nil]; exact h1) (by omega) HPB.out 32 (by rw [HL.out]; omega)) (h2.new (Nat.le_refl _)) (Src.blk (rest := []) (l := [a, v]) (by rw [List.append_nil]; exact h3) (by omega) (by intro x hx; simp at hx; omega) 2 (by simp))
    exact reffor_any f r 1 3 3 _ _ [seed, four n, [a, v]] X HX (by omega) (Lib.hid hp) (Lib.hid rfl) (by omega) (Lib.hid (by simp [HL.out, four])) (Lib.hid (by
      intro p hp x hx
      simp at hp
      rcases hp with rfl | rfl | rfl
      · exact HPB.out x hx
      · exact four_lt n hn x hx
      · simp at hx; omega))
  have HFI : Hid (∀ X : World, Calls Tryd.prog 95 #[.agg (w8 (sha (text 1 [seed, four n, [a, v]]))).toArray] X fun e w' => e = .returned (.agg (w8 (secN seed n a v)).toArray) ∧ Below X.heap.size X w') := Lib.hid fun X => first_any _ X (Lib.hid (sha_length _))
  have HTX0 : Hid (Blk V.drew w.heap.size 40 [.string f, .string r]) := Lib.hid (HT.out.below (below_drewN (Below.refl _ _) 1) HT.out.lt)
  have HPX0 : Hid (Blk V.drew (w.heap.size + 1) 29 (w8 seed)) := Lib.hid (HP.out.below (below_drewN (Below.refl _ _) 1) HP.out.lt)
  have HRX0 : Hid (Blk V.drew (w.heap.size + 1 + 1) 48 (w8 (List.replicate 16 0))) := Lib.hid (HR.out.below (below_drewN (Below.refl _ _) 1) HR.out.lt)
  have HWX0 : Hid (Below w.heap.size w V.drew) := Lib.hid (below_drewN HW.out 1)
  refine wp_region_held_drew (S := fun w' => Blk w' w.heap.size 40 [.string f, .string r] ∧ Blk w' (w.heap.size + 1) 29 (w8 seed)) (by kernel_rfl) (⟨HTX0.out, HPX0.out⟩) (fun hHeld => ?_)
  generalize V.drew = X0 at hHeld HTX0 HPX0 HRX0 HWX0 ⊢
  refine wpAnyH_take (i := 0) (v := .agg #[.string f, .string r]) rfl (by kernel_rfl) (by kernel_rfl) (by kernel_rfl) (fun _ _ _ h => h) (yieldsIf_load_mid (by rfl) 40 (.tmp 5) rfl w.heap.size 0 rfl [.string f, .string r] _ (fun w' h => Blk.all h.1) Tryd.underlying40 rfl info40) hHeld ?_
  show wpAnyH _ _ _ _ _ _ _ (Act.put _ (some 11) _) _
  simp only [Act.put, List.setIfInBounds_toArray, List.set_cons_zero, List.set_cons_succ]
  refine wpAnyH_take (i := 1) (v := .slice (some ⟨w.heap.size + 1, 0, none⟩) 32 32) rfl (by kernel_rfl) (by kernel_rfl) (by kernel_rfl) (fun _ _ _ h => h) (Or.inl ⟨by rfl, by intro w' _; go_simp⟩) hHeld ?_
  show wpAnyH _ _ _ _ _ _ _ (Act.put _ (some 12) _) _
  simp only [Act.put, List.setIfInBounds_toArray, List.set_cons_zero, List.set_cons_succ]
  refine wpAnyH_take (i := 2) (v := .int .u32 (n : Int)) rfl (by kernel_rfl) (by kernel_rfl) (by kernel_rfl) (fun _ _ _ h => h) (Or.inl ⟨by rfl, fun w _ => by rfl⟩) hHeld ?_
  show wpAnyH _ _ _ _ _ _ _ (Act.put _ (some 13) _) _
  simp only [Act.put, List.setIfInBounds_toArray, List.set_cons_zero, List.set_cons_succ]
  refine wpAnyH_take (i := 3) (v := .int .u64 (n : Int)) rfl (by kernel_rfl) (by kernel_rfl) (by kernel_rfl) (fun _ _ _ h => h) (Or.inl ⟨by rfl, by intro w' _; go_simp⟩) hHeld ?_
  show wpAnyH _ _ _ _ _ _ _ (Act.put _ (some 14) _) _
  simp only [Act.put, List.setIfInBounds_toArray, List.set_cons_zero, List.set_cons_succ]
  refine wpAnyH_take (i := 5) (v := .int .i64 (a : Int)) rfl (by kernel_rfl) (by kernel_rfl) (by kernel_rfl) (fun _ _ _ h => h) (Or.inl ⟨by rfl, fun w _ => by rfl⟩) hHeld ?_
  show wpAnyH _ _ _ _ _ _ _ (Act.put _ (some 16) _) _
  simp only [Act.put, List.setIfInBounds_toArray, List.set_cons_zero, List.set_cons_succ]
  refine wpAnyH_take (i := 6) (v := .int .u8 (a : Int)) rfl (by kernel_rfl) (by kernel_rfl) (by kernel_rfl) (fun _ _ _ h => h) (Or.inl ⟨by rfl, by intro w' _; go_simp⟩) hHeld ?_
  show wpAnyH _ _ _ _ _ _ _ (Act.put _ (some 17) _) _
  simp only [Act.put, List.setIfInBounds_toArray, List.set_cons_zero, List.set_cons_succ]
  refine wpAnyH_take (i := 7) (v := .int .i64 (v : Int)) rfl (by kernel_rfl) (by kernel_rfl) (by kernel_rfl) (fun _ _ _ h => h) (Or.inl ⟨by rfl, fun w _ => by rfl⟩) hHeld ?_
  show wpAnyH _ _ _ _ _ _ _ (Act.put _ (some 18) _) _
  simp only [Act.put, List.setIfInBounds_toArray, List.set_cons_zero, List.set_cons_succ]
  refine wpAnyH_take (i := 8) (v := .int .u8 (v : Int)) rfl (by kernel_rfl) (by kernel_rfl) (by kernel_rfl) (fun _ _ _ h => h) (Or.inl ⟨by rfl, by intro w' _; go_simp⟩) hHeld ?_
  show wpAnyH _ _ _ _ _ _ _ (Act.put _ (some 19) _) _
  simp only [Act.put, List.setIfInBounds_toArray, List.set_cons_zero, List.set_cons_succ]
  refine wpAnyH_ready (rs := [4, 9]) (by kernel_rfl) (by simp) ?_
  refine AllReadyH.cons rfl (fun K hK => ?_) (AllReadyH.cons rfl (fun K hK => ?_) AllReadyH.nil)
  · refine step_call rfl 89 #[.const (.slice none 0 0), .tmp 14, .const (.int .i64 4)] #[30, 91, 3] rfl #[.slice none 0 0, .int .u64 (n : Int), .int .i64 4] (by simp [Act.eval]) (by go_simp) (HNU.out X0 HPX0.out) ?_
    rintro e X1 ⟨A4, c4, rfl, hc4, hs4, hB⟩
    have HWX1 := Lib.hid (HWX0.out.trans (hB.mono HWX0.out.size))
    have HTX1 := Lib.hid (HTX0.out.below hB HTX0.out.lt)
    have HPX1 := Lib.hid (HPX0.out.below hB HPX0.out.lt)
    have HRX1 := Lib.hid (HRX0.out.below hB HRX0.out.lt)
    have HNX1 : Hid (Src X1 w.heap.size A4 c4 (four n)) := Lib.hid (hs4)
    clear hB HWX0 HTX0 HPX0 HRX0 
    refine ⟨_, rfl, hK.out _ _ (⟨HTX1.out, HPX1.out⟩) (fun hHeld => ?_)⟩
    clear hK K
    show wpAnyH _ _ _ _ _ _ _ (Act.put _ (some 15) _) _
    simp only [Act.put, List.setIfInBounds_toArray, List.set_cons_zero, List.set_cons_succ]
    refine wpAnyH_ready (rs := [9]) (by kernel_rfl) (by simp) ?_
    refine AllReadyH.cons rfl (fun K hK => ?_) AllReadyH.nil
    refine step_lay rfl 30 2 #[(0, .tmp 17), (1, .tmp 19)] rfl #[(0, .int .u8 (a : Int)), (1, .int .u8 (v : Int))] (by simp [Act.eval]) #[.int .u8 (a : Int), .int .u8 (v : Int)] 5 (by kernel_rfl) ?_
    have hB : Below X1.heap.size X1 (X1.alloc (.cells #[.int .u8 (a : Int), .int .u8 (v : Int)] 5)) := (Below.refl _ _).alloc (Nat.le_refl _) _
    have HWX2 := Lib.hid (HWX1.out.trans (hB.mono HWX1.out.size))
    have HTX2 := Lib.hid (HTX1.out.below hB HTX1.out.lt)
    have HPX2 := Lib.hid (HPX1.out.below hB HPX1.out.lt)
    have HRX2 := Lib.hid (HRX1.out.below hB HRX1.out.lt)
    have HNX2 := Lib.hid (HNX1.out.below hB)
    have HBX2 : Hid (Blk (X1.alloc (.cells #[.int .u8 (a : Int), .int .u8 (v : Int)] 5)) X1.heap.size 5 [.int .u8 (a : Int), .int .u8 (v : Int)]) := Lib.hid (Blk.new _ _ _)
    clear hB
    refine hK.out _ _ (⟨HTX2.out, HPX2.out⟩) (fun hHeld => ?_)
    generalize (X1.alloc (.cells #[.int .u8 (a : Int), .int .u8 (v : Int)] 5)) = X2 at hHeld HWX2 HTX2 HPX2 HRX2 HNX2 HBX2  ⊢
    clear hK K
    show wpAnyH _ _ _ _ _ _ _ (Act.put _ (some 20) _) _
    simp only [Act.put, List.setIfInBounds_toArray, List.set_cons_zero, List.set_cons_succ]
    refine wpAnyH_ready (rs := [10]) (by kernel_rfl) (by simp) ?_
    refine AllReadyH.cons rfl (fun K hK => ?_) AllReadyH.nil
    refine step_lay rfl 23 3 #[(0, .tmp 12), (1, .tmp 15), (2, .tmp 20)] rfl #[(0, .slice (some ⟨w.heap.size + 1, 0, none⟩) 32 32), (1, .slice A4 4 c4), (2, .slice (some ⟨X1.heap.size, 0, none⟩) 2 2)] (by simp [Act.eval]) #[.slice (some ⟨w.heap.size + 1, 0, none⟩) 32 32, .slice A4 4 c4, .slice (some ⟨X1.heap.size, 0, none⟩) 2 2] 30 (by kernel_rfl) ?_
    have hB : Below X2.heap.size X2 (X2.alloc (.cells #[.slice (some ⟨w.heap.size + 1, 0, none⟩) 32 32, .slice A4 4 c4, .slice (some ⟨X1.heap.size, 0, none⟩) 2 2] 30)) := (Below.refl _ _).alloc (Nat.le_refl _) _
    have HWX3 := Lib.hid (HWX2.out.trans (hB.mono HWX2.out.size))
    have HTX3 := Lib.hid (HTX2.out.below hB HTX2.out.lt)
    have HPX3 := Lib.hid (HPX2.out.below hB HPX2.out.lt)
    have HRX3 := Lib.hid (HRX2.out.below hB HRX2.out.lt)
    have HNX3 := Lib.hid (HNX2.out.below hB)
    have HBX3 := Lib.hid (HBX2.out.below hB HBX2.out.lt)
    have HLX3 : Hid (Blk (X2.alloc (.cells #[.slice (some ⟨w.heap.size + 1, 0, none⟩) 32 32, .slice A4 4 c4, .slice (some ⟨X1.heap.size, 0, none⟩) 2 2] 30)) X2.heap.size 30 [.slice (some ⟨w.heap.size + 1, 0, none⟩) 32 32, .slice A4 4 c4, .slice (some ⟨X1.heap.size, 0, none⟩) 2 2]) := Lib.hid (Blk.new _ _ _)
    clear hB
    refine hK.out _ _ (⟨HTX3.out, HPX3.out⟩) (fun hHeld => ?_)
    generalize (X2.alloc (.cells #[.slice (some ⟨w.heap.size + 1, 0, none⟩) 32 32, .slice A4 4 c4, .slice (some ⟨X1.heap.size, 0, none⟩) 2 2] 30)) = X3 at hHeld HWX3 HTX3 HPX3 HRX3 HNX3 HBX3 HLX3  ⊢
    clear hK K
    show wpAnyH _ _ _ _ _ _ _ (Act.put _ (some 21) _) _
    simp only [Act.put, List.setIfInBounds_toArray, List.set_cons_zero, List.set_cons_succ]
    refine wpAnyH_ready (rs := [11]) (by kernel_rfl) (by simp) ?_
    refine AllReadyH.cons rfl (fun K hK => ?_) AllReadyH.nil
    refine step_call rfl 70 #[.tmp 11, .const (.int .u8 1), .tmp 21] #[40, 5, 23] rfl #[.agg #[.string f, .string r], .int .u8 1, .slice (some ⟨X2.heap.size, 0, none⟩) 3 3] (by simp [Act.eval]) (by go_simp) (HRF.out X3 _ _ _ _ hc4 HPX3.out HNX3.out HBX3.out HLX3.out) ?_
    rintro e X4 ⟨rfl, hB⟩
    have HWX4 := Lib.hid (HWX3.out.trans (hB.mono HWX3.out.size))
    have HTX4 := Lib.hid (HTX3.out.below hB HTX3.out.lt)
    have HPX4 := Lib.hid (HPX3.out.below hB HPX3.out.lt)
    have HRX4 := Lib.hid (HRX3.out.below hB HRX3.out.lt)
    have HNX4 := Lib.hid (HNX3.out.below hB)
    have HBX4 := Lib.hid (HBX3.out.below hB HBX3.out.lt)
    have HLX4 := Lib.hid (HLX3.out.below hB HLX3.out.lt)
    clear hB HWX3 HTX3 HPX3 HRX3 HNX3 HBX3 HLX3 
    refine ⟨_, rfl, hK.out _ _ (⟨HTX4.out, HPX4.out⟩) (fun hHeld => ?_)⟩
    clear hK K
    show wpAnyH _ _ _ _ _ _ _ (Act.put _ (some 22) _) _
    simp only [Act.put, List.setIfInBounds_toArray, List.set_cons_zero, List.set_cons_succ]
    refine wpAnyH_ready (rs := [12]) (by kernel_rfl) (by simp) ?_
    refine AllReadyH.cons rfl (fun K hK => ?_) AllReadyH.nil
    refine step_call rfl 95 #[.tmp 22] #[29] rfl #[.agg (w8 (sha (text 1 [seed, four n, [a, v]]))).toArray] (by simp [Act.eval]) (by go_simp) (HFI.out X4) ?_
    rintro e X5 ⟨rfl, hB⟩
    have HWX5 := Lib.hid (HWX4.out.trans (hB.mono HWX4.out.size))
    have HTX5 := Lib.hid (HTX4.out.below hB HTX4.out.lt)
    have HPX5 := Lib.hid (HPX4.out.below hB HPX4.out.lt)
    have HRX5 := Lib.hid (HRX4.out.below hB HRX4.out.lt)
    have HNX5 := Lib.hid (HNX4.out.below hB)
    have HBX5 := Lib.hid (HBX4.out.below hB HBX4.out.lt)
    have HLX5 := Lib.hid (HLX4.out.below hB HLX4.out.lt)
    have HTH : Hid (X5.there (w.heap.size + 1 + 1) 0 (w8 (secN seed n a v)).length) := Lib.hid (HRX5.out.there _ _ (by rw [w8_length, w8_length, HLX.out]; simp))
    clear hB HWX4 HTX4 HPX4 HRX4 HNX4 HBX4 HLX4 
    refine ⟨_, rfl, hK.out _ _ (⟨HTX5.out, HPX5.out⟩) (fun hHeld => ?_)⟩
    clear hK K
    show wpAnyH _ _ _ _ _ _ _ (Act.put _ (some 23) _) _
    simp only [Act.put, List.setIfInBounds_toArray, List.set_cons_zero, List.set_cons_succ]
    refine wpAnyH_ready (rs := [13]) (by kernel_rfl) (by simp) ?_
    refine AllReadyH.cons rfl (fun K hK => ?_) AllReadyH.nil
    refine step_store_mid rfl 48 (.tmp 10) (.tmp 23) rfl (w.heap.size + 1 + 1) 0 (w8 (secN seed n a v)) rfl rfl HTH.out HS7.out (w8_one _) ?_
    refine hK.out _ _ (⟨HTX5.out.farCells (by omega) _, HPX5.out.farCells (by omega) _⟩) (fun hHeld => ?_)
    have HTX6 := Lib.hid (HTX5.out.farCells (b := (w.heap.size + 1 + 1)) (o := 0) (by omega) (w8 (secN seed n a v)))
    have HRX6 : Hid (Blk (X5.setCells (w.heap.size + 1 + 1) 0 (w8 (secN seed n a v))) (w.heap.size + 1 + 1) 48 (w8 (secN seed n a v))) := Lib.hid (by
      have h := Blk.put8 [] (List.replicate 16 0) [] (secN seed n a v) (by rw [List.nil_append, List.append_nil]; exact HRX5.out) (by rw [HLX.out]; simp) 0 rfl
      rw [List.nil_append, List.append_nil] at h
      exact h)
    have HWX6 := Lib.hid (below_cells (g := (w.heap.size + 1 + 1)) (w8 (secN seed n a v)) 0 X5 HWX5.out (by omega))
    generalize X5.setCells (w.heap.size + 1 + 1) 0 (w8 (secN seed n a v)) = X6 at hHeld HTX6 HRX6 HWX6 ⊢
    clear hK K
    show wpAnyH _ _ _ _ _ _ _ (Act.put _ none _) _
    simp only [Act.put]
    refine wpAnyH_done (by kernel_rfl) ?_ _
    go_wp2
    exact bodyPost_ret (v := .agg (w8 (secN seed n a v)).toArray) (results_cell_row Tryd.results69 _ _ (w.heap.size + 1 + 1) 48 (w8 (secN seed n a v)).toArray (0, 0) _ rfl HRX6.out Tryd.underlying48 rfl HS6.out) rfl ⟨rfl, HWX6.out⟩
  · refine step_lay rfl 30 2 #[(0, .tmp 17), (1, .tmp 19)] rfl #[(0, .int .u8 (a : Int)), (1, .int .u8 (v : Int))] (by simp [Act.eval]) #[.int .u8 (a : Int), .int .u8 (v : Int)] 5 (by kernel_rfl) ?_
    have hB : Below X0.heap.size X0 (X0.alloc (.cells #[.int .u8 (a : Int), .int .u8 (v : Int)] 5)) := (Below.refl _ _).alloc (Nat.le_refl _) _
    have HWX1 := Lib.hid (HWX0.out.trans (hB.mono HWX0.out.size))
    have HTX1 := Lib.hid (HTX0.out.below hB HTX0.out.lt)
    have HPX1 := Lib.hid (HPX0.out.below hB HPX0.out.lt)
    have HRX1 := Lib.hid (HRX0.out.below hB HRX0.out.lt)
    have HBX1 : Hid (Blk (X0.alloc (.cells #[.int .u8 (a : Int), .int .u8 (v : Int)] 5)) X0.heap.size 5 [.int .u8 (a : Int), .int .u8 (v : Int)]) := Lib.hid (Blk.new _ _ _)
    clear hB
    refine hK.out _ _ (⟨HTX1.out, HPX1.out⟩) (fun hHeld => ?_)
    generalize (X0.alloc (.cells #[.int .u8 (a : Int), .int .u8 (v : Int)] 5)) = X1 at hHeld HWX1 HTX1 HPX1 HRX1 HBX1  ⊢
    clear hK K
    show wpAnyH _ _ _ _ _ _ _ (Act.put _ (some 20) _) _
    simp only [Act.put, List.setIfInBounds_toArray, List.set_cons_zero, List.set_cons_succ]
    refine wpAnyH_ready (rs := [4]) (by kernel_rfl) (by simp) ?_
    refine AllReadyH.cons rfl (fun K hK => ?_) AllReadyH.nil
    refine step_call rfl 89 #[.const (.slice none 0 0), .tmp 14, .const (.int .i64 4)] #[30, 91, 3] rfl #[.slice none 0 0, .int .u64 (n : Int), .int .i64 4] (by simp [Act.eval]) (by go_simp) (HNU.out X1 HPX1.out) ?_
    rintro e X2 ⟨A4, c4, rfl, hc4, hs4, hB⟩
    have HWX2 := Lib.hid (HWX1.out.trans (hB.mono HWX1.out.size))
    have HTX2 := Lib.hid (HTX1.out.below hB HTX1.out.lt)
    have HPX2 := Lib.hid (HPX1.out.below hB HPX1.out.lt)
    have HRX2 := Lib.hid (HRX1.out.below hB HRX1.out.lt)
    have HBX2 := Lib.hid (HBX1.out.below hB HBX1.out.lt)
    have HNX2 : Hid (Src X2 w.heap.size A4 c4 (four n)) := Lib.hid (hs4)
    clear hB HWX1 HTX1 HPX1 HRX1 HBX1 
    refine ⟨_, rfl, hK.out _ _ (⟨HTX2.out, HPX2.out⟩) (fun hHeld => ?_)⟩
    clear hK K
    show wpAnyH _ _ _ _ _ _ _ (Act.put _ (some 15) _) _
    simp only [Act.put, List.setIfInBounds_toArray, List.set_cons_zero, List.set_cons_succ]
    refine wpAnyH_ready (rs := [10]) (by kernel_rfl) (by simp) ?_
    refine AllReadyH.cons rfl (fun K hK => ?_) AllReadyH.nil
    refine step_lay rfl 23 3 #[(0, .tmp 12), (1, .tmp 15), (2, .tmp 20)] rfl #[(0, .slice (some ⟨w.heap.size + 1, 0, none⟩) 32 32), (1, .slice A4 4 c4), (2, .slice (some ⟨X0.heap.size, 0, none⟩) 2 2)] (by simp [Act.eval]) #[.slice (some ⟨w.heap.size + 1, 0, none⟩) 32 32, .slice A4 4 c4, .slice (some ⟨X0.heap.size, 0, none⟩) 2 2] 30 (by kernel_rfl) ?_
    have hB : Below X2.heap.size X2 (X2.alloc (.cells #[.slice (some ⟨w.heap.size + 1, 0, none⟩) 32 32, .slice A4 4 c4, .slice (some ⟨X0.heap.size, 0, none⟩) 2 2] 30)) := (Below.refl _ _).alloc (Nat.le_refl _) _
    have HWX3 := Lib.hid (HWX2.out.trans (hB.mono HWX2.out.size))
    have HTX3 := Lib.hid (HTX2.out.below hB HTX2.out.lt)
    have HPX3 := Lib.hid (HPX2.out.below hB HPX2.out.lt)
    have HRX3 := Lib.hid (HRX2.out.below hB HRX2.out.lt)
    have HBX3 := Lib.hid (HBX2.out.below hB HBX2.out.lt)
    have HNX3 := Lib.hid (HNX2.out.below hB)
    have HLX3 : Hid (Blk (X2.alloc (.cells #[.slice (some ⟨w.heap.size + 1, 0, none⟩) 32 32, .slice A4 4 c4, .slice (some ⟨X0.heap.size, 0, none⟩) 2 2] 30)) X2.heap.size 30 [.slice (some ⟨w.heap.size + 1, 0, none⟩) 32 32, .slice A4 4 c4, .slice (some ⟨X0.heap.size, 0, none⟩) 2 2]) := Lib.hid (Blk.new _ _ _)
    clear hB
    refine hK.out _ _ (⟨HTX3.out, HPX3.out⟩) (fun hHeld => ?_)
    generalize (X2.alloc (.cells #[.slice (some ⟨w.heap.size + 1, 0, none⟩) 32 32, .slice A4 4 c4, .slice (some ⟨X0.heap.size, 0, none⟩) 2 2] 30)) = X3 at hHeld HWX3 HTX3 HPX3 HRX3 HBX3 HNX3 HLX3  ⊢
    clear hK K
    show wpAnyH _ _ _ _ _ _ _ (Act.put _ (some 21) _) _
    simp only [Act.put, List.setIfInBounds_toArray, List.set_cons_zero, List.set_cons_succ]
    refine wpAnyH_ready (rs := [11]) (by kernel_rfl) (by simp) ?_
    refine AllReadyH.cons rfl (fun K hK => ?_) AllReadyH.nil
    refine step_call rfl 70 #[.tmp 11, .const (.int .u8 1), .tmp 21] #[40, 5, 23] rfl #[.agg #[.string f, .string r], .int .u8 1, .slice (some ⟨X2.heap.size, 0, none⟩) 3 3] (by simp [Act.eval]) (by go_simp) (HRF.out X3 _ _ _ _ hc4 HPX3.out HNX3.out HBX3.out HLX3.out) ?_
    rintro e X4 ⟨rfl, hB⟩
    have HWX4 := Lib.hid (HWX3.out.trans (hB.mono HWX3.out.size))
    have HTX4 := Lib.hid (HTX3.out.below hB HTX3.out.lt)
    have HPX4 := Lib.hid (HPX3.out.below hB HPX3.out.lt)
    have HRX4 := Lib.hid (HRX3.out.below hB HRX3.out.lt)
    have HBX4 := Lib.hid (HBX3.out.below hB HBX3.out.lt)
    have HNX4 := Lib.hid (HNX3.out.below hB)
    have HLX4 := Lib.hid (HLX3.out.below hB HLX3.out.lt)
    clear hB HWX3 HTX3 HPX3 HRX3 HBX3 HNX3 HLX3 
    refine ⟨_, rfl, hK.out _ _ (⟨HTX4.out, HPX4.out⟩) (fun hHeld => ?_)⟩
    clear hK K
    show wpAnyH _ _ _ _ _ _ _ (Act.put _ (some 22) _) _
    simp only [Act.put, List.setIfInBounds_toArray, List.set_cons_zero, List.set_cons_succ]
    refine wpAnyH_ready (rs := [12]) (by kernel_rfl) (by simp) ?_
    refine AllReadyH.cons rfl (fun K hK => ?_) AllReadyH.nil
    refine step_call rfl 95 #[.tmp 22] #[29] rfl #[.agg (w8 (sha (text 1 [seed, four n, [a, v]]))).toArray] (by simp [Act.eval]) (by go_simp) (HFI.out X4) ?_
    rintro e X5 ⟨rfl, hB⟩
    have HWX5 := Lib.hid (HWX4.out.trans (hB.mono HWX4.out.size))
    have HTX5 := Lib.hid (HTX4.out.below hB HTX4.out.lt)
    have HPX5 := Lib.hid (HPX4.out.below hB HPX4.out.lt)
    have HRX5 := Lib.hid (HRX4.out.below hB HRX4.out.lt)
    have HBX5 := Lib.hid (HBX4.out.below hB HBX4.out.lt)
    have HNX5 := Lib.hid (HNX4.out.below hB)
    have HLX5 := Lib.hid (HLX4.out.below hB HLX4.out.lt)
    have HTH : Hid (X5.there (w.heap.size + 1 + 1) 0 (w8 (secN seed n a v)).length) := Lib.hid (HRX5.out.there _ _ (by rw [w8_length, w8_length, HLX.out]; simp))
    clear hB HWX4 HTX4 HPX4 HRX4 HBX4 HNX4 HLX4 
    refine ⟨_, rfl, hK.out _ _ (⟨HTX5.out, HPX5.out⟩) (fun hHeld => ?_)⟩
    clear hK K
    show wpAnyH _ _ _ _ _ _ _ (Act.put _ (some 23) _) _
    simp only [Act.put, List.setIfInBounds_toArray, List.set_cons_zero, List.set_cons_succ]
    refine wpAnyH_ready (rs := [13]) (by kernel_rfl) (by simp) ?_
    refine AllReadyH.cons rfl (fun K hK => ?_) AllReadyH.nil
    refine step_store_mid rfl 48 (.tmp 10) (.tmp 23) rfl (w.heap.size + 1 + 1) 0 (w8 (secN seed n a v)) rfl rfl HTH.out HS7.out (w8_one _) ?_
    refine hK.out _ _ (⟨HTX5.out.farCells (by omega) _, HPX5.out.farCells (by omega) _⟩) (fun hHeld => ?_)
    have HTX6 := Lib.hid (HTX5.out.farCells (b := (w.heap.size + 1 + 1)) (o := 0) (by omega) (w8 (secN seed n a v)))
    have HRX6 : Hid (Blk (X5.setCells (w.heap.size + 1 + 1) 0 (w8 (secN seed n a v))) (w.heap.size + 1 + 1) 48 (w8 (secN seed n a v))) := Lib.hid (by
      have h := Blk.put8 [] (List.replicate 16 0) [] (secN seed n a v) (by rw [List.nil_append, List.append_nil]; exact HRX5.out) (by rw [HLX.out]; simp) 0 rfl
      rw [List.nil_append, List.append_nil] at h
      exact h)
    have HWX6 := Lib.hid (below_cells (g := (w.heap.size + 1 + 1)) (w8 (secN seed n a v)) 0 X5 HWX5.out (by omega))
    generalize X5.setCells (w.heap.size + 1 + 1) 0 (w8 (secN seed n a v)) = X6 at hHeld HTX6 HRX6 HWX6 ⊢
    clear hK K
    show wpAnyH _ _ _ _ _ _ _ (Act.put _ none _) _
    simp only [Act.put]
    refine wpAnyH_done (by kernel_rfl) ?_ _
    go_wp2
    exact bodyPost_ret (v := .agg (w8 (secN seed n a v)).toArray) (results_cell_row Tryd.results69 _ _ (w.heap.size + 1 + 1) 48 (w8 (secN seed n a v)).toArray (0, 0) _ rfl HRX6.out Tryd.underlying48 rfl HS6.out) rfl ⟨rfl, HWX6.out⟩

end Go.Proofs.YtkonokjhpddbfaaDoor
namespace Go.Proofs.YtkonokjhpddbfaaDoor
open Go.RowKit
set_option linter.unusedVariables false

set_option maxRecDepth 100000 in
set_option maxHeartbeats 1000000 in
theorem rsign_any (f r : ByteArray) (seed : List Nat) (n : Nat) (d : List Nat) (w : World) (HX : Hid (Texts f r)) (HL : Hid (seed.length = 32)) (HPB : Hid (∀ x ∈ seed, x < 256)) (hn : n < 4294967296) (HDL : Hid (d.length = 32)) (HDP : Hid (∀ x ∈ d, x < 256)) :
    Calls Tryd.prog 26 #[.agg #[.string f, .string r], .agg (w8 seed).toArray, .int .u32 (n : Int), .agg (w8 d).toArray] w fun e w' => e = .returned (.agg (w8 (signN seed n d)).toArray) ∧ Below w.heap.size w w' := by
  have HPS : Hid ((Tryd.prog.info? 29).map (·.size) = some (w8 seed).length) := Lib.hid (by rw [w8_length, HL.out]; exact info29)
  have HDS : Hid ((Tryd.prog.info? 29).map (·.size) = some (w8 d).length) := Lib.hid (by rw [w8_length, HDL.out]; exact info29)
  go_enter Tryd.func26, Tryd.ntmps26
  go_upto_region 2 with fail
  have HT : Hid (Blk (((((w.alloc (.cells #[.string f, .string r] 40)).alloc (.cells (w8 seed).toArray 29)).alloc (.cells (w8 d).toArray 29)).alloc (.cells Tryd.zeroCells51 51)).alloc (.cells Tryd.zeroCells51 51)) w.heap.size 40 ([.string f, .string r])) := Lib.hid (by
    have h := ((((Blk.new w 40 ([.string f, .string r])).alloc (.cells (w8 seed).toArray 29)).alloc (.cells (w8 d).toArray 29)).alloc (.cells Tryd.zeroCells51 51)).alloc (.cells Tryd.zeroCells51 51)
    exact h)
  have HP : Hid (Blk (((((w.alloc (.cells #[.string f, .string r] 40)).alloc (.cells (w8 seed).toArray 29)).alloc (.cells (w8 d).toArray 29)).alloc (.cells Tryd.zeroCells51 51)).alloc (.cells Tryd.zeroCells51 51)) (w.heap.size + 1) 29 (w8 seed)) := Lib.hid (by
    have h := (((Blk.new (w.alloc (.cells #[.string f, .string r] 40)) 29 (w8 seed)).alloc (.cells (w8 d).toArray 29)).alloc (.cells Tryd.zeroCells51 51)).alloc (.cells Tryd.zeroCells51 51)
    rw [World.size_alloc] at h
    exact h)
  have HD : Hid (Blk (((((w.alloc (.cells #[.string f, .string r] 40)).alloc (.cells (w8 seed).toArray 29)).alloc (.cells (w8 d).toArray 29)).alloc (.cells Tryd.zeroCells51 51)).alloc (.cells Tryd.zeroCells51 51)) (w.heap.size + 1 + 1) 29 (w8 d)) := Lib.hid (by
    have h := ((Blk.new ((w.alloc (.cells #[.string f, .string r] 40)).alloc (.cells (w8 seed).toArray 29)) 29 (w8 d)).alloc (.cells Tryd.zeroCells51 51)).alloc (.cells Tryd.zeroCells51 51)
    rw [World.size_alloc, World.size_alloc] at h
    exact h)
  have HR : Hid (Blk (((((w.alloc (.cells #[.string f, .string r] 40)).alloc (.cells (w8 seed).toArray 29)).alloc (.cells (w8 d).toArray 29)).alloc (.cells Tryd.zeroCells51 51)).alloc (.cells Tryd.zeroCells51 51)) (w.heap.size + 1 + 1 + 1) 51 (w8 (List.replicate 1024 0))) := Lib.hid (by
    have h := (Blk.new (((w.alloc (.cells #[.string f, .string r] 40)).alloc (.cells (w8 seed).toArray 29)).alloc (.cells (w8 d).toArray 29)) 51 (w8 (List.replicate 1024 0))).alloc (.cells Tryd.zeroCells51 51)
    rw [zc51, World.size_alloc, World.size_alloc, World.size_alloc] at h
    exact h)
  have HC : Hid (Blk (((((w.alloc (.cells #[.string f, .string r] 40)).alloc (.cells (w8 seed).toArray 29)).alloc (.cells (w8 d).toArray 29)).alloc (.cells Tryd.zeroCells51 51)).alloc (.cells Tryd.zeroCells51 51)) (w.heap.size + 1 + 1 + 1 + 1) 51 (w8 (List.replicate 1024 0))) := Lib.hid (by
    have h := Blk.new ((((w.alloc (.cells #[.string f, .string r] 40)).alloc (.cells (w8 seed).toArray 29)).alloc (.cells (w8 d).toArray 29)).alloc (.cells Tryd.zeroCells51 51)) 51 (w8 (List.replicate 1024 0))
    rw [zc51, World.size_alloc, World.size_alloc, World.size_alloc, World.size_alloc] at h
    exact h)
  have HW : Hid (Below w.heap.size w (((((w.alloc (.cells #[.string f, .string r] 40)).alloc (.cells (w8 seed).toArray 29)).alloc (.cells (w8 d).toArray 29)).alloc (.cells Tryd.zeroCells51 51)).alloc (.cells Tryd.zeroCells51 51))) := Lib.hid ((((((Below.refl _ _).alloc (Nat.le_refl _) _).alloc (by simp) _).alloc (by simp; omega) _).alloc (by simp; omega) _).alloc (by simp; omega) _)
  generalize (((((w.alloc (.cells #[.string f, .string r] 40)).alloc (.cells (w8 seed).toArray 29)).alloc (.cells (w8 d).toArray 29)).alloc (.cells Tryd.zeroCells51 51)).alloc (.cells Tryd.zeroCells51 51)) = V at HT HP HD HR HC HW ⊢
  have HOL : Hid (∀ a, (opnN seed n d a).length = 16) := Lib.hid (opnN_length seed n d)
  have HTL : Hid (∀ a, (othN seed n d a).length = 16) := Lib.hid (othN_length seed n d)
  have HI : Hid (∀ a v : Nat, a < 32 → v < 2 → ∀ X : World, Calls Tryd.prog 69 #[.agg #[.string f, .string r], .agg (w8 seed).toArray, .int .u32 (n : Int), .int .i64 (a : Int), .int .i64 (v : Int)] X fun e w' => e = .returned (.agg (w8 (secN seed n a v)).toArray) ∧ Below X.heap.size X w') := Lib.hid fun a v ha hv X => rsecret_any f r seed n a v X HX HL HPB hn ha hv
  have HI2 : Hid (∀ a v : Nat, ∀ X : World, Calls Tryd.prog 68 #[.agg #[.string f, .string r], .agg (w8 (secN seed n a v)).toArray] X fun e w' => e = .returned (.agg (w8 (covN (secN seed n a v))).toArray) ∧ Below X.heap.size X w') := Lib.hid fun a v X => cover_any f r _ X HX (Lib.hid (secN_length _ _ _ _)) (Lib.hid (secN_lt _ _ _ _))
  rw [← sigC_zero (opnN seed n d) (othN seed n d)] at HC
  go_wp2_with fail
  go_loopw [10, 11] (fun i _ wr => ∃ (k : Nat), k ≤ 32 ∧ i = .int .i64 k ∧ Hid (Blk wr w.heap.size 40 [.string f, .string r]) ∧ Hid (Blk wr (w.heap.size + 1) 29 (w8 seed)) ∧ Hid (Blk wr (w.heap.size + 1 + 1) 29 (w8 d)) ∧ Hid (Blk wr (w.heap.size + 1 + 1 + 1) 51 (w8 (List.replicate 1024 0))) ∧ Hid (Blk wr (w.heap.size + 1 + 1 + 1 + 1) 51 (w8 (sigC (opnN seed n d) (othN seed n d) k k))) ∧ Hid (Below w.heap.size w wr)) (fun i _ _ => 32 - (intOf i).toNat)
  case atStart => exact ⟨0, Nat.zero_le _, rfl, HT, HP, HD, HR, HC, HW⟩
  case round =>
    clear HT HP HD HR HC HW
    obtain ⟨k, hk, rfl, HT, HP, HD, HR, HC, HW⟩ := hrel
    by_cases hlt : k < 32
    · have k1 : (k : Int) < 32 := by omega
      have HDR := Lib.hid HD.out.all
      go_wp2_with (first | (refine wpList_load_mid rfl 29 (.tmp 7) rfl (w.heap.size + 1 + 1) 0 rfl (w8 d) _ HDR.out Tryd.underlying29 rfl HDS.out ?_))
      refine (rbit_any d k wr HDL HDP hlt).mono ?_
      rintro e X5 ⟨hE5, hB5⟩
      have HWX5 := Lib.hid (HW.out.trans (hB5.mono HW.out.size))
      have HTX5 := Lib.hid (HT.out.below hB5 HT.out.lt)
      have HPX5 := Lib.hid (HP.out.below hB5 HP.out.lt)
      have HDX5 := Lib.hid (HD.out.below hB5 HD.out.lt)
      have HRX5 := Lib.hid (HR.out.below hB5 HR.out.lt)
      have HCX5 := Lib.hid (HC.out.below hB5 HC.out.lt)
      have HTK := Lib.hid HTX5.out.all
      have HPK := Lib.hid HPX5.out.all
      clear hB5 HDR HT HP HD HR HC HW
      rcases bitN_two d k with h0 | h0
      · have HO1 : Hid (opnN seed n d k = secN seed n k 0) := Lib.hid (by unfold opnN; rw [h0])
        have HO2 : Hid (othN seed n d k = covN (secN seed n k 1)) := Lib.hid (by unfold othN; rw [h0])
        rw [h0] at hE5
        subst hE5
        clear h0
        go_wp2_with (first | (refine wpList_load_mid rfl 40 (.tmp 4) rfl w.heap.size 0 rfl [.string f, .string r] _ HTK.out Tryd.underlying40 rfl info40 ?_) | (refine wpList_load_mid rfl 29 (.tmp 5) rfl (w.heap.size + 1) 0 rfl (w8 seed) _ HPK.out Tryd.underlying29 rfl HPS.out ?_))
        refine (HI.out k 0 hlt (by omega) X5).mono ?_
        rintro e X6 ⟨rfl, hB6⟩
        have HW6 := Lib.hid (HWX5.out.trans (hB6.mono HWX5.out.size))
        have HT6 := Lib.hid (HTX5.out.below hB6 HTX5.out.lt)
        have HP6 := Lib.hid (HPX5.out.below hB6 HPX5.out.lt)
        have HD6 := Lib.hid (HDX5.out.below hB6 HDX5.out.lt)
        have HR6 := Lib.hid (HRX5.out.below hB6 HRX5.out.lt)
        have HC6 := Lib.hid (HCX5.out.below hB6 HCX5.out.lt)
        clear hB6
        have HL6 : Hid ((w8 (secN seed n k 0)).length = 16) := Lib.hid (by rw [w8_length, secN_length])
        have HI6 : Hid ((Tryd.prog.info? 48).map (·.size) = some (w8 (secN seed n k 0)).length) := Lib.hid (by rw [HL6.out]; exact info48)
        have HI48y : Hid ((Tryd.prog.info? 48).map (·.size) = some (w8 (covN (secN seed n k 1))).length) := Lib.hid (by rw [w8_length, covN_length]; exact info48)
        have HT6a : Hid (X6.there (w.heap.size + 1 + 1 + 1 + 1) (k * 16) (w8 (secN seed n k 0)).length) := Lib.hid (HC6.out.there _ _ (by rw [HL6.out, w8_length, sigC_length _ _ HOL.out HTL.out k k (by omega) (by omega)]; omega))
        have H16 := Lib.hid (w8_one (secN seed n k 0))
        go_upto_region 7 with (first | (refine wpList_put_mid rfl 48 (.tmp 27) (.tmp 25) rfl (w.heap.size + 1 + 1 + 1 + 1) (k * 16) (w8 (secN seed n k 0)) rfl rfl HT6a.out HI6.out H16.out ?_))
        have HT7 := Lib.hid (HT6.out.farCells (b := (w.heap.size + 1 + 1 + 1 + 1)) (o := k * 16) (by omega) (w8 (secN seed n k 0)))
        have HP7 := Lib.hid (HP6.out.farCells (b := (w.heap.size + 1 + 1 + 1 + 1)) (o := k * 16) (by omega) (w8 (secN seed n k 0)))
        have HD7 := Lib.hid (HD6.out.farCells (b := (w.heap.size + 1 + 1 + 1 + 1)) (o := k * 16) (by omega) (w8 (secN seed n k 0)))
        have HR7 := Lib.hid (HR6.out.farCells (b := (w.heap.size + 1 + 1 + 1 + 1)) (o := k * 16) (by omega) (w8 (secN seed n k 0)))
        have HC7 := Lib.hid (sigC_open _ _ HOL.out HTL.out k k hlt _ HO1.out HC6.out)
        have HW7 := Lib.hid (below_cells (g := (w.heap.size + 1 + 1 + 1 + 1)) (w8 (secN seed n k 0)) (k * 16) X6 HW6.out (by omega))
        generalize X6.setCells (w.heap.size + 1 + 1 + 1 + 1) (k * 16) (w8 (secN seed n k 0)) = X7 at HT7 HP7 HD7 HR7 HC7 HW7 ⊢
        clear HT6 HP6 HD6 HR6 HC6 HW6 HL6 HI6 HT6a H16 HTX5 HPX5 HDX5 HRX5 HCX5 HWX5
        have HTX0 : Hid (Blk X7.drew w.heap.size 40 [.string f, .string r]) := Lib.hid (HT7.out.below (below_drewN (Below.refl _ _) 1) HT7.out.lt)
        have HPX0 : Hid (Blk X7.drew (w.heap.size + 1) 29 (w8 seed)) := Lib.hid (HP7.out.below (below_drewN (Below.refl _ _) 1) HP7.out.lt)
        have HDX0 : Hid (Blk X7.drew (w.heap.size + 1 + 1) 29 (w8 d)) := Lib.hid (HD7.out.below (below_drewN (Below.refl _ _) 1) HD7.out.lt)
        have HRX0 : Hid (Blk X7.drew (w.heap.size + 1 + 1 + 1) 51 (w8 (List.replicate 1024 0))) := Lib.hid (HR7.out.below (below_drewN (Below.refl _ _) 1) HR7.out.lt)
        have HCX0 : Hid (Blk X7.drew (w.heap.size + 1 + 1 + 1 + 1) 51 (w8 (sigC (opnN seed n d) (othN seed n d) (k + 1) k))) := Lib.hid (HC7.out.below (below_drewN (Below.refl _ _) 1) HC7.out.lt)
        have HWX0 : Hid (Below w.heap.size w X7.drew) := Lib.hid (below_drewN HW7.out 1)
        refine wp_region_held_drew (S := fun w' => Blk w' w.heap.size 40 [.string f, .string r] ∧ Blk w' (w.heap.size + 1) 29 (w8 seed)) (by kernel_rfl) (⟨HTX0.out, HPX0.out⟩) (fun hHeld => ?_)
        generalize X7.drew = X0 at hHeld HTX0 HPX0 HDX0 HRX0 HCX0 HWX0 ⊢
        refine wpAnyH_take (i := 0) (v := .int .i64 (k : Int)) rfl (by kernel_rfl) (by kernel_rfl) (by kernel_rfl) (fun _ _ _ h => h) (Or.inl ⟨by rfl, fun w _ => by rfl⟩) hHeld ?_
        show wpAnyH _ _ _ _ _ _ _ (Act.put _ (some 28) _) _
        simp only [Act.put, List.setIfInBounds_toArray, List.set_cons_zero, List.set_cons_succ]
        refine wpAnyH_take (i := 1) (v := .agg #[.string f, .string r]) rfl (by kernel_rfl) (by kernel_rfl) (by kernel_rfl) (fun _ _ _ h => h) (yieldsIf_load_mid (by rfl) 40 (.tmp 4) rfl w.heap.size 0 rfl [.string f, .string r] _ (fun w' h => Blk.all h.1) Tryd.underlying40 rfl info40) hHeld ?_
        show wpAnyH _ _ _ _ _ _ _ (Act.put _ (some 29) _) _
        simp only [Act.put, List.setIfInBounds_toArray, List.set_cons_zero, List.set_cons_succ]
        refine wpAnyH_take (i := 2) (v := .agg #[.string f, .string r]) rfl (by kernel_rfl) (by kernel_rfl) (by kernel_rfl) (fun _ _ _ h => h) (yieldsIf_load_mid (by rfl) 40 (.tmp 4) rfl w.heap.size 0 rfl [.string f, .string r] _ (fun w' h => Blk.all h.1) Tryd.underlying40 rfl info40) hHeld ?_
        show wpAnyH _ _ _ _ _ _ _ (Act.put _ (some 30) _) _
        simp only [Act.put, List.setIfInBounds_toArray, List.set_cons_zero, List.set_cons_succ]
        refine wpAnyH_take (i := 3) (v := .agg (w8 seed).toArray) rfl (by kernel_rfl) (by kernel_rfl) (by kernel_rfl) (fun _ _ _ h => h) (yieldsIf_load_mid (by rfl) 29 (.tmp 5) rfl (w.heap.size + 1) 0 rfl (w8 seed) _ (fun w' h => Blk.all h.2) Tryd.underlying29 rfl HPS.out) hHeld ?_
        show wpAnyH _ _ _ _ _ _ _ (Act.put _ (some 31) _) _
        simp only [Act.put, List.setIfInBounds_toArray, List.set_cons_zero, List.set_cons_succ]
        refine wpAnyH_take (i := 4) (v := .int .u32 (n : Int)) rfl (by kernel_rfl) (by kernel_rfl) (by kernel_rfl) (fun _ _ _ h => h) (Or.inl ⟨by rfl, fun w _ => by rfl⟩) hHeld ?_
        show wpAnyH _ _ _ _ _ _ _ (Act.put _ (some 32) _) _
        simp only [Act.put, List.setIfInBounds_toArray, List.set_cons_zero, List.set_cons_succ]
        refine wpAnyH_take (i := 5) (v := .int .i64 (k : Int)) rfl (by kernel_rfl) (by kernel_rfl) (by kernel_rfl) (fun _ _ _ h => h) (Or.inl ⟨by rfl, fun w _ => by rfl⟩) hHeld ?_
        show wpAnyH _ _ _ _ _ _ _ (Act.put _ (some 33) _) _
        simp only [Act.put, List.setIfInBounds_toArray, List.set_cons_zero, List.set_cons_succ]
        refine wpAnyH_take (i := 6) (v := .int .i64 0) rfl (by kernel_rfl) (by kernel_rfl) (by kernel_rfl) (fun _ _ _ h => h) (Or.inl ⟨by rfl, fun w _ => by rfl⟩) hHeld ?_
        show wpAnyH _ _ _ _ _ _ _ (Act.put _ (some 34) _) _
        simp only [Act.put, List.setIfInBounds_toArray, List.set_cons_zero, List.set_cons_succ]
        refine wpAnyH_take (i := 7) (v := .int .i64 1) rfl (by kernel_rfl) (by kernel_rfl) (by kernel_rfl) (fun _ _ _ h => h) (Or.inl ⟨by rfl, by intro w' _; go_simp <;> rfl⟩) hHeld ?_
        show wpAnyH _ _ _ _ _ _ _ (Act.put _ (some 35) _) _
        simp only [Act.put, List.setIfInBounds_toArray, List.set_cons_zero, List.set_cons_succ]
        refine wpAnyH_take (i := 10) (v := .pointer (some ⟨w.heap.size + 1 + 1 + 1 + 1, 512, none⟩)) rfl (by kernel_rfl) (by kernel_rfl) (by kernel_rfl) (fun _ _ _ h => h) (Or.inl ⟨by rfl, by intro w' _; go_simp⟩) hHeld ?_
        show wpAnyH _ _ _ _ _ _ _ (Act.put _ (some 38) _) _
        simp only [Act.put, List.setIfInBounds_toArray, List.set_cons_zero, List.set_cons_succ]
        refine wpAnyH_ready (rs := [8]) (by kernel_rfl) (by simp) ?_
        refine AllReadyH.cons rfl (fun K hK => ?_) AllReadyH.nil
        refine step_call rfl 69 #[.tmp 30, .tmp 31, .tmp 32, .tmp 33, .tmp 35] #[40, 29, 38, 3, 3] rfl #[.agg #[.string f, .string r], .agg (w8 seed).toArray, .int .u32 (n : Int), .int .i64 (k : Int), .int .i64 1] (by simp [Act.eval]) (by go_simp) (HI.out k 1 hlt (by omega) X0) ?_
        rintro e X1 ⟨rfl, hB⟩
        have HWX1 := Lib.hid (HWX0.out.trans (hB.mono HWX0.out.size))
        have HTX1 := Lib.hid (HTX0.out.below hB HTX0.out.lt)
        have HPX1 := Lib.hid (HPX0.out.below hB HPX0.out.lt)
        have HDX1 := Lib.hid (HDX0.out.below hB HDX0.out.lt)
        have HRX1 := Lib.hid (HRX0.out.below hB HRX0.out.lt)
        have HCX1 := Lib.hid (HCX0.out.below hB HCX0.out.lt)
        clear hB HWX0 HTX0 HPX0 HDX0 HRX0 HCX0 
        refine ⟨_, rfl, hK.out _ _ (⟨HTX1.out, HPX1.out⟩) (fun hHeld => ?_)⟩
        clear hK K
        show wpAnyH _ _ _ _ _ _ _ (Act.put _ (some 36) _) _
        simp only [Act.put, List.setIfInBounds_toArray, List.set_cons_zero, List.set_cons_succ]
        refine wpAnyH_ready (rs := [9]) (by kernel_rfl) (by simp) ?_
        refine AllReadyH.cons rfl (fun K hK => ?_) AllReadyH.nil
        refine step_call rfl 68 #[.tmp 29, .tmp 36] #[40, 48] rfl #[.agg #[.string f, .string r], .agg (w8 (secN seed n k 1)).toArray] (by simp [Act.eval]) (by go_simp) (HI2.out k 1 X1) ?_
        rintro e X2 ⟨rfl, hB⟩
        have HWX2 := Lib.hid (HWX1.out.trans (hB.mono HWX1.out.size))
        have HTX2 := Lib.hid (HTX1.out.below hB HTX1.out.lt)
        have HPX2 := Lib.hid (HPX1.out.below hB HPX1.out.lt)
        have HDX2 := Lib.hid (HDX1.out.below hB HDX1.out.lt)
        have HRX2 := Lib.hid (HRX1.out.below hB HRX1.out.lt)
        have HCX2 := Lib.hid (HCX1.out.below hB HCX1.out.lt)
        have HTH : Hid (X2.there (w.heap.size + 1 + 1 + 1 + 1) (512 + k * 16) (w8 (covN (secN seed n k 1))).length) := Lib.hid (HCX2.out.there _ _ (by rw [w8_length, w8_length, covN_length, sigC_length _ _ HOL.out HTL.out (k + 1) k (by omega) (by omega)]; omega))
        clear hB HWX1 HTX1 HPX1 HDX1 HRX1 HCX1 
        refine ⟨_, rfl, hK.out _ _ (⟨HTX2.out, HPX2.out⟩) (fun hHeld => ?_)⟩
        clear hK K
        show wpAnyH _ _ _ _ _ _ _ (Act.put _ (some 37) _) _
        simp only [Act.put, List.setIfInBounds_toArray, List.set_cons_zero, List.set_cons_succ]
        refine wpAnyH_take (i := 11) (v := .pointer (some ⟨w.heap.size + 1 + 1 + 1 + 1, 512 + k * 16, none⟩)) rfl (by kernel_rfl) (by kernel_rfl) (by kernel_rfl) (fun _ _ _ h => h) (Or.inl ⟨by rfl, by intro w' _; go_simp⟩) hHeld ?_
        show wpAnyH _ _ _ _ _ _ _ (Act.put _ (some 39) _) _
        simp only [Act.put, List.setIfInBounds_toArray, List.set_cons_zero, List.set_cons_succ]
        refine wpAnyH_ready (rs := [12]) (by kernel_rfl) (by simp) ?_
        refine AllReadyH.cons rfl (fun K hK => ?_) AllReadyH.nil
        refine step_store_mid rfl 48 (.tmp 39) (.tmp 37) rfl (w.heap.size + 1 + 1 + 1 + 1) (512 + k * 16) (w8 (covN (secN seed n k 1))) rfl rfl HTH.out HI48y.out (w8_one _) ?_
        refine hK.out _ _ (⟨HTX2.out.farCells (by omega) _, HPX2.out.farCells (by omega) _⟩) (fun hHeld => ?_)
        have HTX3 := Lib.hid (HTX2.out.farCells (b := (w.heap.size + 1 + 1 + 1 + 1)) (o := 512 + k * 16) (by omega) (w8 (covN (secN seed n k 1))))
        have HPX3 := Lib.hid (HPX2.out.farCells (b := (w.heap.size + 1 + 1 + 1 + 1)) (o := 512 + k * 16) (by omega) (w8 (covN (secN seed n k 1))))
        have HDX3 := Lib.hid (HDX2.out.farCells (b := (w.heap.size + 1 + 1 + 1 + 1)) (o := 512 + k * 16) (by omega) (w8 (covN (secN seed n k 1))))
        have HRX3 := Lib.hid (HRX2.out.farCells (b := (w.heap.size + 1 + 1 + 1 + 1)) (o := 512 + k * 16) (by omega) (w8 (covN (secN seed n k 1))))
        have HCX3 := Lib.hid (sigC_other _ _ HOL.out HTL.out (k + 1) k hlt (by omega) _ HO2.out HCX2.out)
        have HWX3 := Lib.hid (below_cells (g := (w.heap.size + 1 + 1 + 1 + 1)) (w8 (covN (secN seed n k 1))) (512 + k * 16) X2 HWX2.out (by omega))
        clear HTH HCX2 HWX2 HTX2 HPX2 HDX2 HRX2
        generalize X2.setCells (w.heap.size + 1 + 1 + 1 + 1) (512 + k * 16) (w8 (covN (secN seed n k 1))) = X3 at hHeld HTX3 HPX3 HDX3 HRX3 HCX3 HWX3 ⊢
        clear hK K
        show wpAnyH _ _ _ _ _ _ _ (Act.put _ none _) _
        simp only [Act.put]
        refine wpAnyH_done (by kernel_rfl) ?_ _
        clear hHeld
        go_wp2
        go_roundw
        case rel => exact ⟨k + 1, by omega, by go_num, HTX3, HPX3, HDX3, HRX3, HCX3, HWX3⟩
        case measure => simp [intOf]; omega
      · have HO1 : Hid (opnN seed n d k = secN seed n k 1) := Lib.hid (by unfold opnN; rw [h0])
        have HO2 : Hid (othN seed n d k = covN (secN seed n k 0)) := Lib.hid (by unfold othN; rw [h0])
        rw [h0] at hE5
        subst hE5
        clear h0
        go_wp2_with (first | (refine wpList_load_mid rfl 40 (.tmp 4) rfl w.heap.size 0 rfl [.string f, .string r] _ HTK.out Tryd.underlying40 rfl info40 ?_) | (refine wpList_load_mid rfl 29 (.tmp 5) rfl (w.heap.size + 1) 0 rfl (w8 seed) _ HPK.out Tryd.underlying29 rfl HPS.out ?_))
        refine (HI.out k 1 hlt (by omega) X5).mono ?_
        rintro e X6 ⟨rfl, hB6⟩
        have HW6 := Lib.hid (HWX5.out.trans (hB6.mono HWX5.out.size))
        have HT6 := Lib.hid (HTX5.out.below hB6 HTX5.out.lt)
        have HP6 := Lib.hid (HPX5.out.below hB6 HPX5.out.lt)
        have HD6 := Lib.hid (HDX5.out.below hB6 HDX5.out.lt)
        have HR6 := Lib.hid (HRX5.out.below hB6 HRX5.out.lt)
        have HC6 := Lib.hid (HCX5.out.below hB6 HCX5.out.lt)
        clear hB6
        have HL6 : Hid ((w8 (secN seed n k 1)).length = 16) := Lib.hid (by rw [w8_length, secN_length])
        have HI6 : Hid ((Tryd.prog.info? 48).map (·.size) = some (w8 (secN seed n k 1)).length) := Lib.hid (by rw [HL6.out]; exact info48)
        have HI48y : Hid ((Tryd.prog.info? 48).map (·.size) = some (w8 (covN (secN seed n k 0))).length) := Lib.hid (by rw [w8_length, covN_length]; exact info48)
        have HT6a : Hid (X6.there (w.heap.size + 1 + 1 + 1 + 1) (k * 16) (w8 (secN seed n k 1)).length) := Lib.hid (HC6.out.there _ _ (by rw [HL6.out, w8_length, sigC_length _ _ HOL.out HTL.out k k (by omega) (by omega)]; omega))
        have H16 := Lib.hid (w8_one (secN seed n k 1))
        go_upto_region 7 with (first | (refine wpList_put_mid rfl 48 (.tmp 27) (.tmp 25) rfl (w.heap.size + 1 + 1 + 1 + 1) (k * 16) (w8 (secN seed n k 1)) rfl rfl HT6a.out HI6.out H16.out ?_))
        have HT7 := Lib.hid (HT6.out.farCells (b := (w.heap.size + 1 + 1 + 1 + 1)) (o := k * 16) (by omega) (w8 (secN seed n k 1)))
        have HP7 := Lib.hid (HP6.out.farCells (b := (w.heap.size + 1 + 1 + 1 + 1)) (o := k * 16) (by omega) (w8 (secN seed n k 1)))
        have HD7 := Lib.hid (HD6.out.farCells (b := (w.heap.size + 1 + 1 + 1 + 1)) (o := k * 16) (by omega) (w8 (secN seed n k 1)))
        have HR7 := Lib.hid (HR6.out.farCells (b := (w.heap.size + 1 + 1 + 1 + 1)) (o := k * 16) (by omega) (w8 (secN seed n k 1)))
        have HC7 := Lib.hid (sigC_open _ _ HOL.out HTL.out k k hlt _ HO1.out HC6.out)
        have HW7 := Lib.hid (below_cells (g := (w.heap.size + 1 + 1 + 1 + 1)) (w8 (secN seed n k 1)) (k * 16) X6 HW6.out (by omega))
        generalize X6.setCells (w.heap.size + 1 + 1 + 1 + 1) (k * 16) (w8 (secN seed n k 1)) = X7 at HT7 HP7 HD7 HR7 HC7 HW7 ⊢
        clear HT6 HP6 HD6 HR6 HC6 HW6 HL6 HI6 HT6a H16 HTX5 HPX5 HDX5 HRX5 HCX5 HWX5
        have HTX0 : Hid (Blk X7.drew w.heap.size 40 [.string f, .string r]) := Lib.hid (HT7.out.below (below_drewN (Below.refl _ _) 1) HT7.out.lt)
        have HPX0 : Hid (Blk X7.drew (w.heap.size + 1) 29 (w8 seed)) := Lib.hid (HP7.out.below (below_drewN (Below.refl _ _) 1) HP7.out.lt)
        have HDX0 : Hid (Blk X7.drew (w.heap.size + 1 + 1) 29 (w8 d)) := Lib.hid (HD7.out.below (below_drewN (Below.refl _ _) 1) HD7.out.lt)
        have HRX0 : Hid (Blk X7.drew (w.heap.size + 1 + 1 + 1) 51 (w8 (List.replicate 1024 0))) := Lib.hid (HR7.out.below (below_drewN (Below.refl _ _) 1) HR7.out.lt)
        have HCX0 : Hid (Blk X7.drew (w.heap.size + 1 + 1 + 1 + 1) 51 (w8 (sigC (opnN seed n d) (othN seed n d) (k + 1) k))) := Lib.hid (HC7.out.below (below_drewN (Below.refl _ _) 1) HC7.out.lt)
        have HWX0 : Hid (Below w.heap.size w X7.drew) := Lib.hid (below_drewN HW7.out 1)
        refine wp_region_held_drew (S := fun w' => Blk w' w.heap.size 40 [.string f, .string r] ∧ Blk w' (w.heap.size + 1) 29 (w8 seed)) (by kernel_rfl) (⟨HTX0.out, HPX0.out⟩) (fun hHeld => ?_)
        generalize X7.drew = X0 at hHeld HTX0 HPX0 HDX0 HRX0 HCX0 HWX0 ⊢
        refine wpAnyH_take (i := 0) (v := .int .i64 (k : Int)) rfl (by kernel_rfl) (by kernel_rfl) (by kernel_rfl) (fun _ _ _ h => h) (Or.inl ⟨by rfl, fun w _ => by rfl⟩) hHeld ?_
        show wpAnyH _ _ _ _ _ _ _ (Act.put _ (some 28) _) _
        simp only [Act.put, List.setIfInBounds_toArray, List.set_cons_zero, List.set_cons_succ]
        refine wpAnyH_take (i := 1) (v := .agg #[.string f, .string r]) rfl (by kernel_rfl) (by kernel_rfl) (by kernel_rfl) (fun _ _ _ h => h) (yieldsIf_load_mid (by rfl) 40 (.tmp 4) rfl w.heap.size 0 rfl [.string f, .string r] _ (fun w' h => Blk.all h.1) Tryd.underlying40 rfl info40) hHeld ?_
        show wpAnyH _ _ _ _ _ _ _ (Act.put _ (some 29) _) _
        simp only [Act.put, List.setIfInBounds_toArray, List.set_cons_zero, List.set_cons_succ]
        refine wpAnyH_take (i := 2) (v := .agg #[.string f, .string r]) rfl (by kernel_rfl) (by kernel_rfl) (by kernel_rfl) (fun _ _ _ h => h) (yieldsIf_load_mid (by rfl) 40 (.tmp 4) rfl w.heap.size 0 rfl [.string f, .string r] _ (fun w' h => Blk.all h.1) Tryd.underlying40 rfl info40) hHeld ?_
        show wpAnyH _ _ _ _ _ _ _ (Act.put _ (some 30) _) _
        simp only [Act.put, List.setIfInBounds_toArray, List.set_cons_zero, List.set_cons_succ]
        refine wpAnyH_take (i := 3) (v := .agg (w8 seed).toArray) rfl (by kernel_rfl) (by kernel_rfl) (by kernel_rfl) (fun _ _ _ h => h) (yieldsIf_load_mid (by rfl) 29 (.tmp 5) rfl (w.heap.size + 1) 0 rfl (w8 seed) _ (fun w' h => Blk.all h.2) Tryd.underlying29 rfl HPS.out) hHeld ?_
        show wpAnyH _ _ _ _ _ _ _ (Act.put _ (some 31) _) _
        simp only [Act.put, List.setIfInBounds_toArray, List.set_cons_zero, List.set_cons_succ]
        refine wpAnyH_take (i := 4) (v := .int .u32 (n : Int)) rfl (by kernel_rfl) (by kernel_rfl) (by kernel_rfl) (fun _ _ _ h => h) (Or.inl ⟨by rfl, fun w _ => by rfl⟩) hHeld ?_
        show wpAnyH _ _ _ _ _ _ _ (Act.put _ (some 32) _) _
        simp only [Act.put, List.setIfInBounds_toArray, List.set_cons_zero, List.set_cons_succ]
        refine wpAnyH_take (i := 5) (v := .int .i64 (k : Int)) rfl (by kernel_rfl) (by kernel_rfl) (by kernel_rfl) (fun _ _ _ h => h) (Or.inl ⟨by rfl, fun w _ => by rfl⟩) hHeld ?_
        show wpAnyH _ _ _ _ _ _ _ (Act.put _ (some 33) _) _
        simp only [Act.put, List.setIfInBounds_toArray, List.set_cons_zero, List.set_cons_succ]
        refine wpAnyH_take (i := 6) (v := .int .i64 1) rfl (by kernel_rfl) (by kernel_rfl) (by kernel_rfl) (fun _ _ _ h => h) (Or.inl ⟨by rfl, fun w _ => by rfl⟩) hHeld ?_
        show wpAnyH _ _ _ _ _ _ _ (Act.put _ (some 34) _) _
        simp only [Act.put, List.setIfInBounds_toArray, List.set_cons_zero, List.set_cons_succ]
        refine wpAnyH_take (i := 7) (v := .int .i64 0) rfl (by kernel_rfl) (by kernel_rfl) (by kernel_rfl) (fun _ _ _ h => h) (Or.inl ⟨by rfl, by intro w' _; go_simp <;> rfl⟩) hHeld ?_
        show wpAnyH _ _ _ _ _ _ _ (Act.put _ (some 35) _) _
        simp only [Act.put, List.setIfInBounds_toArray, List.set_cons_zero, List.set_cons_succ]
        refine wpAnyH_take (i := 10) (v := .pointer (some ⟨w.heap.size + 1 + 1 + 1 + 1, 512, none⟩)) rfl (by kernel_rfl) (by kernel_rfl) (by kernel_rfl) (fun _ _ _ h => h) (Or.inl ⟨by rfl, by intro w' _; go_simp⟩) hHeld ?_
        show wpAnyH _ _ _ _ _ _ _ (Act.put _ (some 38) _) _
        simp only [Act.put, List.setIfInBounds_toArray, List.set_cons_zero, List.set_cons_succ]
        refine wpAnyH_ready (rs := [8]) (by kernel_rfl) (by simp) ?_
        refine AllReadyH.cons rfl (fun K hK => ?_) AllReadyH.nil
        refine step_call rfl 69 #[.tmp 30, .tmp 31, .tmp 32, .tmp 33, .tmp 35] #[40, 29, 38, 3, 3] rfl #[.agg #[.string f, .string r], .agg (w8 seed).toArray, .int .u32 (n : Int), .int .i64 (k : Int), .int .i64 0] (by simp [Act.eval]) (by go_simp) (HI.out k 0 hlt (by omega) X0) ?_
        rintro e X1 ⟨rfl, hB⟩
        have HWX1 := Lib.hid (HWX0.out.trans (hB.mono HWX0.out.size))
        have HTX1 := Lib.hid (HTX0.out.below hB HTX0.out.lt)
        have HPX1 := Lib.hid (HPX0.out.below hB HPX0.out.lt)
        have HDX1 := Lib.hid (HDX0.out.below hB HDX0.out.lt)
        have HRX1 := Lib.hid (HRX0.out.below hB HRX0.out.lt)
        have HCX1 := Lib.hid (HCX0.out.below hB HCX0.out.lt)
        clear hB HWX0 HTX0 HPX0 HDX0 HRX0 HCX0 
        refine ⟨_, rfl, hK.out _ _ (⟨HTX1.out, HPX1.out⟩) (fun hHeld => ?_)⟩
        clear hK K
        show wpAnyH _ _ _ _ _ _ _ (Act.put _ (some 36) _) _
        simp only [Act.put, List.setIfInBounds_toArray, List.set_cons_zero, List.set_cons_succ]
        refine wpAnyH_ready (rs := [9]) (by kernel_rfl) (by simp) ?_
        refine AllReadyH.cons rfl (fun K hK => ?_) AllReadyH.nil
        refine step_call rfl 68 #[.tmp 29, .tmp 36] #[40, 48] rfl #[.agg #[.string f, .string r], .agg (w8 (secN seed n k 0)).toArray] (by simp [Act.eval]) (by go_simp) (HI2.out k 0 X1) ?_
        rintro e X2 ⟨rfl, hB⟩
        have HWX2 := Lib.hid (HWX1.out.trans (hB.mono HWX1.out.size))
        have HTX2 := Lib.hid (HTX1.out.below hB HTX1.out.lt)
        have HPX2 := Lib.hid (HPX1.out.below hB HPX1.out.lt)
        have HDX2 := Lib.hid (HDX1.out.below hB HDX1.out.lt)
        have HRX2 := Lib.hid (HRX1.out.below hB HRX1.out.lt)
        have HCX2 := Lib.hid (HCX1.out.below hB HCX1.out.lt)
        have HTH : Hid (X2.there (w.heap.size + 1 + 1 + 1 + 1) (512 + k * 16) (w8 (covN (secN seed n k 0))).length) := Lib.hid (HCX2.out.there _ _ (by rw [w8_length, w8_length, covN_length, sigC_length _ _ HOL.out HTL.out (k + 1) k (by omega) (by omega)]; omega))
        clear hB HWX1 HTX1 HPX1 HDX1 HRX1 HCX1 
        refine ⟨_, rfl, hK.out _ _ (⟨HTX2.out, HPX2.out⟩) (fun hHeld => ?_)⟩
        clear hK K
        show wpAnyH _ _ _ _ _ _ _ (Act.put _ (some 37) _) _
        simp only [Act.put, List.setIfInBounds_toArray, List.set_cons_zero, List.set_cons_succ]
        refine wpAnyH_take (i := 11) (v := .pointer (some ⟨w.heap.size + 1 + 1 + 1 + 1, 512 + k * 16, none⟩)) rfl (by kernel_rfl) (by kernel_rfl) (by kernel_rfl) (fun _ _ _ h => h) (Or.inl ⟨by rfl, by intro w' _; go_simp⟩) hHeld ?_
        show wpAnyH _ _ _ _ _ _ _ (Act.put _ (some 39) _) _
        simp only [Act.put, List.setIfInBounds_toArray, List.set_cons_zero, List.set_cons_succ]
        refine wpAnyH_ready (rs := [12]) (by kernel_rfl) (by simp) ?_
        refine AllReadyH.cons rfl (fun K hK => ?_) AllReadyH.nil
        refine step_store_mid rfl 48 (.tmp 39) (.tmp 37) rfl (w.heap.size + 1 + 1 + 1 + 1) (512 + k * 16) (w8 (covN (secN seed n k 0))) rfl rfl HTH.out HI48y.out (w8_one _) ?_
        refine hK.out _ _ (⟨HTX2.out.farCells (by omega) _, HPX2.out.farCells (by omega) _⟩) (fun hHeld => ?_)
        have HTX3 := Lib.hid (HTX2.out.farCells (b := (w.heap.size + 1 + 1 + 1 + 1)) (o := 512 + k * 16) (by omega) (w8 (covN (secN seed n k 0))))
        have HPX3 := Lib.hid (HPX2.out.farCells (b := (w.heap.size + 1 + 1 + 1 + 1)) (o := 512 + k * 16) (by omega) (w8 (covN (secN seed n k 0))))
        have HDX3 := Lib.hid (HDX2.out.farCells (b := (w.heap.size + 1 + 1 + 1 + 1)) (o := 512 + k * 16) (by omega) (w8 (covN (secN seed n k 0))))
        have HRX3 := Lib.hid (HRX2.out.farCells (b := (w.heap.size + 1 + 1 + 1 + 1)) (o := 512 + k * 16) (by omega) (w8 (covN (secN seed n k 0))))
        have HCX3 := Lib.hid (sigC_other _ _ HOL.out HTL.out (k + 1) k hlt (by omega) _ HO2.out HCX2.out)
        have HWX3 := Lib.hid (below_cells (g := (w.heap.size + 1 + 1 + 1 + 1)) (w8 (covN (secN seed n k 0))) (512 + k * 16) X2 HWX2.out (by omega))
        clear HTH HCX2 HWX2 HTX2 HPX2 HDX2 HRX2
        generalize X2.setCells (w.heap.size + 1 + 1 + 1 + 1) (512 + k * 16) (w8 (covN (secN seed n k 0))) = X3 at hHeld HTX3 HPX3 HDX3 HRX3 HCX3 HWX3 ⊢
        clear hK K
        show wpAnyH _ _ _ _ _ _ _ (Act.put _ none _) _
        simp only [Act.put]
        refine wpAnyH_done (by kernel_rfl) ?_ _
        clear hHeld
        go_wp2
        go_roundw
        case rel => exact ⟨k + 1, by omega, by go_num, HTX3, HPX3, HDX3, HRX3, HCX3, HWX3⟩
        case measure => simp [intOf]; omega
    · obtain rfl : k = 32 := by omega
      rw [sigC_end, show rows (opnN seed n d) 32 ++ rows (othN seed n d) 32 = signN seed n d from rfl] at HC
      have HRG := Lib.hid HC.out.all
      have HS5 : Hid ((Tryd.prog.info? 51).map (·.size) = some (w8 (signN seed n d)).length) := Lib.hid (by rw [w8_length, signN_length]; exact info51)
      have HS6 : Hid ((Tryd.prog.info? 51).map (·.size) = some (w8 (signN seed n d)).toArray.size) := Lib.hid (by rw [List.size_toArray, w8_length, signN_length]; exact info51)
      have HZ6 : Hid ((w8 (List.replicate 1024 0)).toArray.size = (w8 (signN seed n d)).toArray.size) := Lib.hid (by rw [List.size_toArray, List.size_toArray, w8_length, w8_length, signN_length]; simp)
      have HO6 := Lib.hid (all_oneCell_toArray (w8_one (signN seed n d)))
      go_wp2_with (first | (refine wpList_load_mid rfl 51 (.tmp 9) rfl (w.heap.size + 1 + 1 + 1 + 1) 0 rfl (w8 (signN seed n d)) _ HRG.out Tryd.underlying51 rfl HS5.out ?_) | (refine wpList_store_row rfl 51 (.tmp 8) (.tmp 40) rfl (w.heap.size + 1 + 1 + 1) (w8 (signN seed n d)).toArray rfl rfl 51 _ HR.out HS6.out HZ6.out HO6.out ?_))
      exact bodyPost_ret (v := .agg (w8 (signN seed n d)).toArray) (results_cell_row Tryd.results26 _ _ (w.heap.size + 1 + 1 + 1) 51 (w8 (signN seed n d)).toArray (0, 0) _ rfl (HR.out.setRow _) Tryd.underlying51 rfl HS6.out) rfl ⟨rfl, below_setRow HW.out (by omega) _⟩

end Go.Proofs.YtkonokjhpddbfaaDoor
namespace Go.Proofs.YtkonokjhpddbfaaDoor
open Go.RowKit
set_option linter.unusedVariables false

/-- A new variable, at a step of a region that draws its order. -/
theorem step_new {ops : Array Oper} {o : Oper} {a : Act} {w : World} {K : Act → World → Prop} {Q : Exit → Act → World → Prop} {E : Prop} (hw : Region.wanted o (yielded ops a.tmps) = true) (t : TypeId) (ho : o.op = .alloc t)
    (cells : Array Value) (hb : (Instr.alloc t true (.tuple #[])).run Tryd.prog w = .ok (.pointer (some ⟨w.heap.size, 0, none⟩)) (w.alloc (.cells cells t)))
    (h : K (a.put o.dst (.pointer (some ⟨w.heap.size, 0, none⟩))) (w.alloc (.cells cells t))) :
    if Region.wanted o (yielded ops a.tmps) = true then Oper.wp Tryd.prog o a w K Q else E := by
  rw [if_pos hw]
  have e : (execOp a.eval o).run Tryd.prog w = .ok (.value (.pointer (some ⟨w.heap.size, 0, none⟩))) (w.alloc (.cells cells t)) := by
    unfold execOp
    simp only [ho, Sem.run_bind, hb, Result.andThen_ok, Sem.run_pure]
  unfold Oper.wp
  rw [e]
  exact h

set_option maxRecDepth 100000 in
set_option maxHeartbeats 1000000 in
theorem rleaf_any (f r : ByteArray) (seed : List Nat) (n : Nat) (w : World) (HX : Hid (Texts f r)) (HL : Hid (seed.length = 32)) (HPB : Hid (∀ x ∈ seed, x < 256)) (hn : n < 4294967296) :
    Calls Tryd.prog 23 #[.agg #[.string f, .string r], .agg (w8 seed).toArray, .int .u32 (n : Int)] w fun e w' => e = .returned (.agg (w8 (leafN seed n)).toArray) ∧ Below w.heap.size w w' := by
  have HPS : Hid ((Tryd.prog.info? 29).map (·.size) = some (w8 seed).length) := Lib.hid (by rw [w8_length, HL.out]; exact info29)
  go_enter Tryd.func23, Tryd.ntmps23
  go_upto_region 1 with fail
  have HT : Hid (Blk (((w.alloc (.cells #[.string f, .string r] 40)).alloc (.cells (w8 seed).toArray 29)).alloc (.cells zsum 29)) w.heap.size 40 ([.string f, .string r])) := Lib.hid (by
    have h := ((Blk.new w 40 ([.string f, .string r])).alloc (.cells (w8 seed).toArray 29)).alloc (.cells zsum 29)
    exact h)
  have HP : Hid (Blk (((w.alloc (.cells #[.string f, .string r] 40)).alloc (.cells (w8 seed).toArray 29)).alloc (.cells zsum 29)) (w.heap.size + 1) 29 (w8 seed)) := Lib.hid (by
    have h := (Blk.new (w.alloc (.cells #[.string f, .string r] 40)) 29 (w8 seed)).alloc (.cells zsum 29)
    rw [World.size_alloc] at h
    exact h)
  have HR : Hid (Blk (((w.alloc (.cells #[.string f, .string r] 40)).alloc (.cells (w8 seed).toArray 29)).alloc (.cells zsum 29)) (w.heap.size + 1 + 1) 29 (w8 (List.replicate 32 0))) := Lib.hid (by
    have h := Blk.new ((w.alloc (.cells #[.string f, .string r] 40)).alloc (.cells (w8 seed).toArray 29)) 29 (w8 (List.replicate 32 0))
    rw [zsum_eq, World.size_alloc, World.size_alloc] at h
    exact h)
  have HW : Hid (Below w.heap.size w (((w.alloc (.cells #[.string f, .string r] 40)).alloc (.cells (w8 seed).toArray 29)).alloc (.cells zsum 29))) := Lib.hid ((((Below.refl _ _).alloc (Nat.le_refl _) _).alloc (by simp) _).alloc (by simp; omega) _)
  unfold zsum at HT HP HR HW
  generalize (((w.alloc (.cells #[.string f, .string r] 40)).alloc (.cells (w8 seed).toArray 29)).alloc (.cells _ 29)) = V at HT HP HR HW ⊢
  have hV : w.heap.size + 1 + 1 < V.heap.size := HR.out.lt
  obtain ⟨g, hg⟩ : ∃ g : Nat → List Nat, g = fun a => covN (secN seed n a 0) ++ covN (secN seed n a 1) := ⟨_, rfl⟩
  have HF : Hid (∀ a, g a = covN (secN seed n a 0) ++ covN (secN seed n a 1)) := Lib.hid fun a => by rw [hg]
  have HFL : Hid (∀ a, (g a).length = 32) := Lib.hid fun a => by rw [hg]; simp [covN_length]
  have HFR : Hid (leafN seed n = sha (text 2 [rows g 32])) := Lib.hid (by unfold leafN leafT; rw [hg])
  have HFB : Hid (∀ x ∈ rows g 32, x < 256) := Lib.hid (by rw [hg]; exact leafT_lt seed n)
  clear hg
  have HI : Hid (∀ a v : Nat, a < 32 → v < 2 → ∀ X : World, Calls Tryd.prog 69 #[.agg #[.string f, .string r], .agg (w8 seed).toArray, .int .u32 (n : Int), .int .i64 (a : Int), .int .i64 (v : Int)] X fun e w' => e = .returned (.agg (w8 (secN seed n a v)).toArray) ∧ Below X.heap.size X w') := Lib.hid fun a v ha hv X => rsecret_any f r seed n a v X HX HL HPB hn ha hv
  have HI2 : Hid (∀ a v : Nat, ∀ X : World, Calls Tryd.prog 68 #[.agg #[.string f, .string r], .agg (w8 (secN seed n a v)).toArray] X fun e w' => e = .returned (.agg (w8 (covN (secN seed n a v))).toArray) ∧ Below X.heap.size X w') := Lib.hid fun a v X => cover_any f r _ X HX (Lib.hid (secN_length _ _ _ _)) (Lib.hid (secN_lt _ _ _ _))
  go_wp2_with fail
  go_loopw [8, 7, 9, 10] (fun i t _ _ wr => ∃ (k : Nat), k ≤ 32 ∧ i = .int .i64 k ∧ Hid (Own wr V.heap.size t (rows g k)) ∧ Hid (Below V.heap.size V wr)) (fun i _ _ _ _ => 32 - (intOf i).toNat)
  case atStart => exact ⟨0, Nat.zero_le _, rfl, Lib.hid (Own.nil _ _), Lib.hid (Below.refl _ _)⟩
  case round =>
    obtain ⟨k, hk, rfl, HO0, HV0⟩ := hrel
    by_cases hlt : k < 32
    · have k1 : (k : Int) < 32 := by omega
      go_wp2_with fail
      go_loopw [9, 7, 10] (fun i t _ wr => ∃ (v : Nat), v ≤ 2 ∧ i = .int .i64 v ∧ Hid (Own wr V.heap.size t (rows g k ++ (g k).take (16 * v))) ∧ Hid (Below V.heap.size V wr)) (fun i _ _ _ => 2 - (intOf i).toNat)
      case atStart => exact ⟨0, Nat.zero_le _, rfl, Lib.hid (by rw [Nat.mul_zero, List.take_zero, List.append_nil]; exact HO0.out), HV0⟩
      case round =>
        clear HO0 HV0
        obtain ⟨v, hv, rfl, HO, HV⟩ := hrel
        by_cases hv2 : v < 2
        · have v1 : (v : Int) < 2 := by omega
          have HTr := Lib.hid (HT.out.below HV.out (by omega))
          have HPr := Lib.hid (HP.out.below HV.out (by omega))
          have HWr : Hid (Below wr.heap.size wr wr) := Lib.hid (Below.refl _ _)
          have HI48 : Hid ((Tryd.prog.info? 48).map (·.size) = some (w8 (covN (secN seed n k v))).length) := Lib.hid (by rw [w8_length, covN_length]; exact info48)
          have HTHo : Hid (∀ (X : World) {gG : Nat}, Blk X gG 48 (w8 (List.replicate 16 0)) → X.there gG 0 (w8 (covN (secN seed n k v))).length) := Lib.hid fun X gG h => h.there _ _ (by rw [w8_length, w8_length, covN_length]; simp)
          have HPT : Hid ((g k).take (16 * (v + 1)) = (g k).take (16 * v) ++ covN (secN seed n k v)) := Lib.hid (by
            rw [HF.out k]
            match v, hv2 with
            | 0, _ => simp [covN_length]
            | 1, _ => rw [List.take_of_length_le (by simp [covN_length]), List.take_append_of_le_length (by simp [covN_length]), List.take_of_length_le (by simp [covN_length])])
          have HM1 : Hid ((rows g k ++ (g k).take (16 * v)).length + (covN (secN seed n k v)).length ≤ 140737488355328) := Lib.hid (by rw [List.length_append, rows_length HFL.out k, covN_length, List.length_take, HFL.out k]; omega)
          go_upto_region 8 with fail
          have HWX0 : Hid (Below wr.heap.size wr wr.drew) := Lib.hid (below_drewN HWr.out 1)
          refine wp_region_held_drew (S := fun w' => Below wr.heap.size wr w') (by kernel_rfl) (HWX0.out) (fun hHeld => ?_)
          generalize wr.drew = X0 at hHeld  HWX0 ⊢
          refine wpAnyH_take (i := 0) (v := .agg #[.string f, .string r]) rfl (by kernel_rfl) (by kernel_rfl) (by kernel_rfl) (fun _ _ _ h => h) (yieldsIf_load_mid (by rfl) 40 (.tmp 3) rfl w.heap.size 0 rfl [.string f, .string r] _ (fun w' h => (HTr.out.below h HTr.out.lt).all) Tryd.underlying40 rfl info40) hHeld ?_
          show wpAnyH _ _ _ _ _ _ _ (Act.put _ (some 19) _) _
          simp only [Act.put, List.setIfInBounds_toArray, List.set_cons_zero, List.set_cons_succ]
          refine wpAnyH_take (i := 1) (v := .agg #[.string f, .string r]) rfl (by kernel_rfl) (by kernel_rfl) (by kernel_rfl) (fun _ _ _ h => h) (yieldsIf_load_mid (by rfl) 40 (.tmp 3) rfl w.heap.size 0 rfl [.string f, .string r] _ (fun w' h => (HTr.out.below h HTr.out.lt).all) Tryd.underlying40 rfl info40) hHeld ?_
          show wpAnyH _ _ _ _ _ _ _ (Act.put _ (some 20) _) _
          simp only [Act.put, List.setIfInBounds_toArray, List.set_cons_zero, List.set_cons_succ]
          refine wpAnyH_take (i := 2) (v := .agg (w8 seed).toArray) rfl (by kernel_rfl) (by kernel_rfl) (by kernel_rfl) (fun _ _ _ h => h) (yieldsIf_load_mid (by rfl) 29 (.tmp 4) rfl (w.heap.size + 1) 0 rfl (w8 seed) _ (fun w' h => (HPr.out.below h HPr.out.lt).all) Tryd.underlying29 rfl HPS.out) hHeld ?_
          show wpAnyH _ _ _ _ _ _ _ (Act.put _ (some 21) _) _
          simp only [Act.put, List.setIfInBounds_toArray, List.set_cons_zero, List.set_cons_succ]
          refine wpAnyH_take (i := 3) (v := .int .u32 (n : Int)) rfl (by kernel_rfl) (by kernel_rfl) (by kernel_rfl) (fun _ _ _ h => h) (Or.inl ⟨by rfl, fun w _ => by rfl⟩) hHeld ?_
          show wpAnyH _ _ _ _ _ _ _ (Act.put _ (some 22) _) _
          simp only [Act.put, List.setIfInBounds_toArray, List.set_cons_zero, List.set_cons_succ]
          refine wpAnyH_take (i := 4) (v := .int .i64 (k : Int)) rfl (by kernel_rfl) (by kernel_rfl) (by kernel_rfl) (fun _ _ _ h => h) (Or.inl ⟨by rfl, fun w _ => by rfl⟩) hHeld ?_
          show wpAnyH _ _ _ _ _ _ _ (Act.put _ (some 23) _) _
          simp only [Act.put, List.setIfInBounds_toArray, List.set_cons_zero, List.set_cons_succ]
          refine wpAnyH_take (i := 5) (v := .int .i64 (v : Int)) rfl (by kernel_rfl) (by kernel_rfl) (by kernel_rfl) (fun _ _ _ h => h) (Or.inl ⟨by rfl, fun w _ => by rfl⟩) hHeld ?_
          show wpAnyH _ _ _ _ _ _ _ (Act.put _ (some 24) _) _
          simp only [Act.put, List.setIfInBounds_toArray, List.set_cons_zero, List.set_cons_succ]
          refine wpAnyH_ready (rs := [6, 8]) (by kernel_rfl) (by simp) ?_
          refine AllReadyH.cons rfl (fun K hK => ?_) (AllReadyH.cons rfl (fun K hK => ?_) AllReadyH.nil)
          · refine step_call rfl 69 #[.tmp 20, .tmp 21, .tmp 22, .tmp 23, .tmp 24] #[40, 29, 38, 3, 3] rfl #[.agg #[.string f, .string r], .agg (w8 seed).toArray, .int .u32 (n : Int), .int .i64 (k : Int), .int .i64 (v : Int)] (by simp [Act.eval]) (by go_simp) (HI.out k v hlt hv2 X0) ?_
            rintro e X1 ⟨rfl, hB⟩
            have HWX1 := Lib.hid (HWX0.out.trans (hB.mono HWX0.out.size))
            clear hB HWX0  
            refine ⟨_, rfl, hK.out _ _ (HWX1.out) (fun hHeld => ?_)⟩
            clear hK K
            show wpAnyH _ _ _ _ _ _ _ (Act.put _ (some 25) _) _
            simp only [Act.put, List.setIfInBounds_toArray, List.set_cons_zero, List.set_cons_succ]
            refine wpAnyH_ready (rs := [7, 8]) (by kernel_rfl) (by simp) ?_
            refine AllReadyH.cons rfl (fun K hK => ?_) (AllReadyH.cons rfl (fun K hK => ?_) AllReadyH.nil)
            · refine step_call rfl 68 #[.tmp 19, .tmp 25] #[40, 48] rfl #[.agg #[.string f, .string r], .agg (w8 (secN seed n k v)).toArray] (by simp [Act.eval]) (by go_simp) (HI2.out k v X1) ?_
              rintro e X2 ⟨rfl, hB⟩
              have HWX2 := Lib.hid (HWX1.out.trans (hB.mono HWX1.out.size))
              clear hB HWX1  
              refine ⟨_, rfl, hK.out _ _ (HWX2.out) (fun hHeld => ?_)⟩
              clear hK K
              show wpAnyH _ _ _ _ _ _ _ (Act.put _ (some 26) _) _
              simp only [Act.put, List.setIfInBounds_toArray, List.set_cons_zero, List.set_cons_succ]
              refine wpAnyH_ready (rs := [8]) (by kernel_rfl) (by simp) ?_
              refine AllReadyH.cons rfl (fun K hK => ?_) AllReadyH.nil
              refine step_new rfl 48 rfl z16 (by kernel_rfl) ?_
              have hB : Below X2.heap.size X2 (X2.alloc (.cells z16 48)) := (Below.refl _ _).alloc (Nat.le_refl _) _
              have HWX3 := Lib.hid (HWX2.out.trans (hB.mono HWX2.out.size))
              have HGX3 : Hid (Blk (X2.alloc (.cells z16 48)) X2.heap.size 48 (w8 (List.replicate 16 0))) := Lib.hid (by
                have h := Blk.new X2 48 (w8 (List.replicate 16 0))
                rw [z16_eq] at h
                exact h)
              have hgG : wr.heap.size ≤ X2.heap.size := HWX2.out.size
              clear hB
              refine hK.out _ _ (HWX3.out) (fun hHeld => ?_)
              generalize (X2.alloc (.cells z16 48)) = X3 at hHeld HWX3 HGX3 ⊢
              generalize X2.heap.size = gG at HGX3 hgG ⊢
              clear hK K
              show wpAnyH _ _ _ _ _ _ _ (Act.put _ (some 10) _) _
              simp only [Act.put, List.setIfInBounds_toArray, List.set_cons_zero, List.set_cons_succ]
              refine wpAnyH_ready (rs := [9]) (by kernel_rfl) (by simp) ?_
              refine AllReadyH.cons rfl (fun K hK => ?_) AllReadyH.nil
              refine step_store_mid rfl 48 (.tmp 10) (.tmp 26) rfl gG 0 (w8 (covN (secN seed n k v))) rfl rfl (HTHo.out _ HGX3.out) HI48.out (w8_one _) ?_
              refine hK.out _ _ (below_cells _ _ _ HWX3.out hgG) (fun hHeld => ?_)
              have HGX4 : Hid (Blk (X3.setCells gG 0 (w8 (covN (secN seed n k v)))) gG 48 (w8 (covN (secN seed n k v)))) := Lib.hid (by
                have h := Blk.put8 [] (List.replicate 16 0) [] (covN (secN seed n k v)) (by rw [List.nil_append, List.append_nil]; exact HGX3.out) (by rw [covN_length]; simp) 0 rfl
                rw [List.nil_append, List.append_nil] at h
                exact h)
              have HWX4 := Lib.hid (below_cells (g := gG) (w8 (covN (secN seed n k v))) 0 X3 HWX3.out hgG)
              clear HGX3 HWX3
              generalize X3.setCells gG 0 (w8 (covN (secN seed n k v))) = X4 at hHeld HGX4 HWX4 ⊢
              clear hK K
              show wpAnyH _ _ _ _ _ _ _ (Act.put _ none _) _
              simp only [Act.put]
              refine wpAnyH_done (by kernel_rfl) ?_ _
              clear hHeld
              have HOX := Lib.hid (HO.out.below HWX4.out)
              have HVX := Lib.hid (HV.out.trans (HWX4.out.mono HV.out.size))
              have hszX := HWX4.out.size
              have HS1 : Hid (Src X4 w.heap.size (some ⟨gG, 0, none⟩) 16 (covN (secN seed n k v))) := Lib.hid (Src.blk (rest := []) (by rw [List.append_nil]; exact HGX4.out) (by have := HV.out.size; omega) (covN_lt _) 16 (by rw [covN_length]; omega))
              have HN1 : Hid (16 = (covN (secN seed n k v)).length) := Lib.hid (covN_length _).symm
              have hsl := slice16r gG 0
              go_wp2_with (at_builtin; refine wpList_app rfl (.tmp 27) (.tmp 28) rfl V.heap.size w.heap.size _ _ (covN (secN seed n k v)) rfl HOX.out (some ⟨gG, 0, none⟩) 16 16 rfl HN1.out HS1.out HM1.out HVX.out.size ?_)
              intro v3 w3 HO3 HG3 HL3
              have HV3 : Hid (Below V.heap.size V w3) := Lib.hid (HVX.out.grown HG3.out HVX.out.size fun g' hg' => (HOX.out.base_ hg').1)
              have HO4 : Hid (Own w3 V.heap.size v3 (rows g k ++ (g k).take (16 * (v + 1)))) := Lib.hid (by rw [HPT.out]; exact HO3.out)
              clear HG3 HL3 HO3 hsl
              go_wp2
              go_roundw
              case rel => exact ⟨v + 1, by omega, by go_num, HO4, HV3⟩
              case measure => simp [intOf]; omega
            · refine step_new rfl 48 rfl z16 (by kernel_rfl) ?_
              have hB : Below X1.heap.size X1 (X1.alloc (.cells z16 48)) := (Below.refl _ _).alloc (Nat.le_refl _) _
              have HWX2 := Lib.hid (HWX1.out.trans (hB.mono HWX1.out.size))
              have HGX2 : Hid (Blk (X1.alloc (.cells z16 48)) X1.heap.size 48 (w8 (List.replicate 16 0))) := Lib.hid (by
                have h := Blk.new X1 48 (w8 (List.replicate 16 0))
                rw [z16_eq] at h
                exact h)
              have hgG : wr.heap.size ≤ X1.heap.size := HWX1.out.size
              clear hB
              refine hK.out _ _ (HWX2.out) (fun hHeld => ?_)
              generalize (X1.alloc (.cells z16 48)) = X2 at hHeld HWX2 HGX2 ⊢
              generalize X1.heap.size = gG at HGX2 hgG ⊢
              clear hK K
              show wpAnyH _ _ _ _ _ _ _ (Act.put _ (some 10) _) _
              simp only [Act.put, List.setIfInBounds_toArray, List.set_cons_zero, List.set_cons_succ]
              refine wpAnyH_ready (rs := [7]) (by kernel_rfl) (by simp) ?_
              refine AllReadyH.cons rfl (fun K hK => ?_) AllReadyH.nil
              refine step_call rfl 68 #[.tmp 19, .tmp 25] #[40, 48] rfl #[.agg #[.string f, .string r], .agg (w8 (secN seed n k v)).toArray] (by simp [Act.eval]) (by go_simp) (HI2.out k v X2) ?_
              rintro e X3 ⟨rfl, hB⟩
              have HWX3 := Lib.hid (HWX2.out.trans (hB.mono HWX2.out.size))
              have HGX3 := Lib.hid (HGX2.out.below hB HGX2.out.lt)
              clear hB HWX2 HGX2 
              refine ⟨_, rfl, hK.out _ _ (HWX3.out) (fun hHeld => ?_)⟩
              clear hK K
              show wpAnyH _ _ _ _ _ _ _ (Act.put _ (some 26) _) _
              simp only [Act.put, List.setIfInBounds_toArray, List.set_cons_zero, List.set_cons_succ]
              refine wpAnyH_ready (rs := [9]) (by kernel_rfl) (by simp) ?_
              refine AllReadyH.cons rfl (fun K hK => ?_) AllReadyH.nil
              refine step_store_mid rfl 48 (.tmp 10) (.tmp 26) rfl gG 0 (w8 (covN (secN seed n k v))) rfl rfl (HTHo.out _ HGX3.out) HI48.out (w8_one _) ?_
              refine hK.out _ _ (below_cells _ _ _ HWX3.out hgG) (fun hHeld => ?_)
              have HGX4 : Hid (Blk (X3.setCells gG 0 (w8 (covN (secN seed n k v)))) gG 48 (w8 (covN (secN seed n k v)))) := Lib.hid (by
                have h := Blk.put8 [] (List.replicate 16 0) [] (covN (secN seed n k v)) (by rw [List.nil_append, List.append_nil]; exact HGX3.out) (by rw [covN_length]; simp) 0 rfl
                rw [List.nil_append, List.append_nil] at h
                exact h)
              have HWX4 := Lib.hid (below_cells (g := gG) (w8 (covN (secN seed n k v))) 0 X3 HWX3.out hgG)
              clear HGX3 HWX3
              generalize X3.setCells gG 0 (w8 (covN (secN seed n k v))) = X4 at hHeld HGX4 HWX4 ⊢
              clear hK K
              show wpAnyH _ _ _ _ _ _ _ (Act.put _ none _) _
              simp only [Act.put]
              refine wpAnyH_done (by kernel_rfl) ?_ _
              clear hHeld
              have HOX := Lib.hid (HO.out.below HWX4.out)
              have HVX := Lib.hid (HV.out.trans (HWX4.out.mono HV.out.size))
              have hszX := HWX4.out.size
              have HS1 : Hid (Src X4 w.heap.size (some ⟨gG, 0, none⟩) 16 (covN (secN seed n k v))) := Lib.hid (Src.blk (rest := []) (by rw [List.append_nil]; exact HGX4.out) (by have := HV.out.size; omega) (covN_lt _) 16 (by rw [covN_length]; omega))
              have HN1 : Hid (16 = (covN (secN seed n k v)).length) := Lib.hid (covN_length _).symm
              have hsl := slice16r gG 0
              go_wp2_with (at_builtin; refine wpList_app rfl (.tmp 27) (.tmp 28) rfl V.heap.size w.heap.size _ _ (covN (secN seed n k v)) rfl HOX.out (some ⟨gG, 0, none⟩) 16 16 rfl HN1.out HS1.out HM1.out HVX.out.size ?_)
              intro v3 w3 HO3 HG3 HL3
              have HV3 : Hid (Below V.heap.size V w3) := Lib.hid (HVX.out.grown HG3.out HVX.out.size fun g' hg' => (HOX.out.base_ hg').1)
              have HO4 : Hid (Own w3 V.heap.size v3 (rows g k ++ (g k).take (16 * (v + 1)))) := Lib.hid (by rw [HPT.out]; exact HO3.out)
              clear HG3 HL3 HO3 hsl
              go_wp2
              go_roundw
              case rel => exact ⟨v + 1, by omega, by go_num, HO4, HV3⟩
              case measure => simp [intOf]; omega
          · refine step_new rfl 48 rfl z16 (by kernel_rfl) ?_
            have hB : Below X0.heap.size X0 (X0.alloc (.cells z16 48)) := (Below.refl _ _).alloc (Nat.le_refl _) _
            have HWX1 := Lib.hid (HWX0.out.trans (hB.mono HWX0.out.size))
            have HGX1 : Hid (Blk (X0.alloc (.cells z16 48)) X0.heap.size 48 (w8 (List.replicate 16 0))) := Lib.hid (by
              have h := Blk.new X0 48 (w8 (List.replicate 16 0))
              rw [z16_eq] at h
              exact h)
            have hgG : wr.heap.size ≤ X0.heap.size := HWX0.out.size
            clear hB
            refine hK.out _ _ (HWX1.out) (fun hHeld => ?_)
            generalize (X0.alloc (.cells z16 48)) = X1 at hHeld HWX1 HGX1 ⊢
            generalize X0.heap.size = gG at HGX1 hgG ⊢
            clear hK K
            show wpAnyH _ _ _ _ _ _ _ (Act.put _ (some 10) _) _
            simp only [Act.put, List.setIfInBounds_toArray, List.set_cons_zero, List.set_cons_succ]
            refine wpAnyH_ready (rs := [6]) (by kernel_rfl) (by simp) ?_
            refine AllReadyH.cons rfl (fun K hK => ?_) AllReadyH.nil
            refine step_call rfl 69 #[.tmp 20, .tmp 21, .tmp 22, .tmp 23, .tmp 24] #[40, 29, 38, 3, 3] rfl #[.agg #[.string f, .string r], .agg (w8 seed).toArray, .int .u32 (n : Int), .int .i64 (k : Int), .int .i64 (v : Int)] (by simp [Act.eval]) (by go_simp) (HI.out k v hlt hv2 X1) ?_
            rintro e X2 ⟨rfl, hB⟩
            have HWX2 := Lib.hid (HWX1.out.trans (hB.mono HWX1.out.size))
            have HGX2 := Lib.hid (HGX1.out.below hB HGX1.out.lt)
            clear hB HWX1 HGX1 
            refine ⟨_, rfl, hK.out _ _ (HWX2.out) (fun hHeld => ?_)⟩
            clear hK K
            show wpAnyH _ _ _ _ _ _ _ (Act.put _ (some 25) _) _
            simp only [Act.put, List.setIfInBounds_toArray, List.set_cons_zero, List.set_cons_succ]
            refine wpAnyH_ready (rs := [7]) (by kernel_rfl) (by simp) ?_
            refine AllReadyH.cons rfl (fun K hK => ?_) AllReadyH.nil
            refine step_call rfl 68 #[.tmp 19, .tmp 25] #[40, 48] rfl #[.agg #[.string f, .string r], .agg (w8 (secN seed n k v)).toArray] (by simp [Act.eval]) (by go_simp) (HI2.out k v X2) ?_
            rintro e X3 ⟨rfl, hB⟩
            have HWX3 := Lib.hid (HWX2.out.trans (hB.mono HWX2.out.size))
            have HGX3 := Lib.hid (HGX2.out.below hB HGX2.out.lt)
            clear hB HWX2 HGX2 
            refine ⟨_, rfl, hK.out _ _ (HWX3.out) (fun hHeld => ?_)⟩
            clear hK K
            show wpAnyH _ _ _ _ _ _ _ (Act.put _ (some 26) _) _
            simp only [Act.put, List.setIfInBounds_toArray, List.set_cons_zero, List.set_cons_succ]
            refine wpAnyH_ready (rs := [9]) (by kernel_rfl) (by simp) ?_
            refine AllReadyH.cons rfl (fun K hK => ?_) AllReadyH.nil
            refine step_store_mid rfl 48 (.tmp 10) (.tmp 26) rfl gG 0 (w8 (covN (secN seed n k v))) rfl rfl (HTHo.out _ HGX3.out) HI48.out (w8_one _) ?_
            refine hK.out _ _ (below_cells _ _ _ HWX3.out hgG) (fun hHeld => ?_)
            have HGX4 : Hid (Blk (X3.setCells gG 0 (w8 (covN (secN seed n k v)))) gG 48 (w8 (covN (secN seed n k v)))) := Lib.hid (by
              have h := Blk.put8 [] (List.replicate 16 0) [] (covN (secN seed n k v)) (by rw [List.nil_append, List.append_nil]; exact HGX3.out) (by rw [covN_length]; simp) 0 rfl
              rw [List.nil_append, List.append_nil] at h
              exact h)
            have HWX4 := Lib.hid (below_cells (g := gG) (w8 (covN (secN seed n k v))) 0 X3 HWX3.out hgG)
            clear HGX3 HWX3
            generalize X3.setCells gG 0 (w8 (covN (secN seed n k v))) = X4 at hHeld HGX4 HWX4 ⊢
            clear hK K
            show wpAnyH _ _ _ _ _ _ _ (Act.put _ none _) _
            simp only [Act.put]
            refine wpAnyH_done (by kernel_rfl) ?_ _
            clear hHeld
            have HOX := Lib.hid (HO.out.below HWX4.out)
            have HVX := Lib.hid (HV.out.trans (HWX4.out.mono HV.out.size))
            have hszX := HWX4.out.size
            have HS1 : Hid (Src X4 w.heap.size (some ⟨gG, 0, none⟩) 16 (covN (secN seed n k v))) := Lib.hid (Src.blk (rest := []) (by rw [List.append_nil]; exact HGX4.out) (by have := HV.out.size; omega) (covN_lt _) 16 (by rw [covN_length]; omega))
            have HN1 : Hid (16 = (covN (secN seed n k v)).length) := Lib.hid (covN_length _).symm
            have hsl := slice16r gG 0
            go_wp2_with (at_builtin; refine wpList_app rfl (.tmp 27) (.tmp 28) rfl V.heap.size w.heap.size _ _ (covN (secN seed n k v)) rfl HOX.out (some ⟨gG, 0, none⟩) 16 16 rfl HN1.out HS1.out HM1.out HVX.out.size ?_)
            intro v3 w3 HO3 HG3 HL3
            have HV3 : Hid (Below V.heap.size V w3) := Lib.hid (HVX.out.grown HG3.out HVX.out.size fun g' hg' => (HOX.out.base_ hg').1)
            have HO4 : Hid (Own w3 V.heap.size v3 (rows g k ++ (g k).take (16 * (v + 1)))) := Lib.hid (by rw [HPT.out]; exact HO3.out)
            clear HG3 HL3 HO3 hsl
            go_wp2
            go_roundw
            case rel => exact ⟨v + 1, by omega, by go_num, HO4, HV3⟩
            case measure => simp [intOf]; omega
        · obtain rfl : v = 2 := by omega
          have HO5 : Hid (Own wr V.heap.size u7 (rows g (k + 1))) := Lib.hid (by
            have h := HO.out
            rw [List.take_of_length_le (by rw [HFL.out k]; omega), ← rows_succ] at h
            exact h)
          clear HO
          go_wp2
          go_roundw
          case rel => exact ⟨k + 1, by omega, by go_num, HO5, HV⟩
          case measure => simp [intOf]; omega
    · obtain rfl : k = 32 := by omega
      have HRL : Hid ((rows g 32).length = 1024) := Lib.hid (rows_length HFL.out 32)
      obtain ⟨A5, c5, hv5, hc5, hs5⟩ := HO0.out.srcB (b := wr.heap.size + 1) (by omega) HFB.out
      rw [HRL.out] at hv5
      subst hv5
      have HS5 := Lib.hid hs5
      have hw2 : V.heap.size ≤ wr.heap.size := HV0.out.size
      have HTK := Lib.hid (HT.out.below HV0.out (by omega)).all
      clear hs5
      go_wp2_with (first | (refine wpList_load_mid rfl 40 (.tmp 3) rfl w.heap.size 0 rfl [.string f, .string r] _ HTK.out Tryd.underlying40 rfl info40 ?_))
      have HC : Hid (Blk (wr.alloc (.cells #[.slice A5 1024 c5] 30)) wr.heap.size 30 ([.slice A5 1024 c5])) := Lib.hid (by
        have h := Blk.new wr 30 ([.slice A5 1024 c5])
        exact h)
      have HV1 : Hid (Below wr.heap.size wr (wr.alloc (.cells #[.slice A5 1024 c5] 30))) := Lib.hid ((Below.refl _ _).alloc (Nat.le_refl _) _)
      generalize (wr.alloc (.cells #[.slice A5 1024 c5] 30)) = V1 at HC HV1 ⊢
      have HW1 := Lib.hid (HW.out.trans ((HV0.out.trans (HV1.out.mono hw2)).mono (by omega)))
      have HP1 := Lib.hid (Parts.one (b := wr.heap.size + 1) (x := rows g 32) HC.out HRL.out.symm (by omega) hc5 (HS5.out.below HV1.out))
      have HB1 := Lib.hid ((HR.out.below HV0.out (by omega)).below HV1.out (by omega))
      refine (reffor_any f r 2 1 1 _ _ [rows g 32] V1 HX (by omega) HP1 (Lib.hid rfl) (by omega) (Lib.hid (by simp [HRL.out])) (Lib.hid (by simpa using HFB.out))).mono ?_
      rintro e V2 ⟨rfl, hB2⟩
      have HW3 := Lib.hid (HW1.out.trans (hB2.mono HW1.out.size))
      have HB3 := Lib.hid (HB1.out.below hB2 HB1.out.lt)
      clear hB2
      rw [← HFR.out]
      have HS6 : Hid ((Tryd.prog.info? 29).map (·.size) = some (w8 (leafN seed n)).toArray.size) := Lib.hid (by rw [List.size_toArray, w8_length, leafN_length]; exact info29)
      have HZ6 : Hid ((w8 (List.replicate 32 0)).toArray.size = (w8 (leafN seed n)).toArray.size) := Lib.hid (by rw [List.size_toArray, List.size_toArray, w8_length, w8_length, leafN_length]; simp)
      have HO6 := Lib.hid (all_oneCell_toArray (w8_one (leafN seed n)))
      go_wp2_with (first | (refine wpList_store_row rfl 29 (.tmp 6) (.tmp 33) rfl (w.heap.size + 1 + 1) (w8 (leafN seed n)).toArray rfl rfl 29 _ HB3.out HS6.out HZ6.out HO6.out ?_))
      exact bodyPost_ret (v := .agg (w8 (leafN seed n)).toArray) (results_cell_row Tryd.results23 _ _ (w.heap.size + 1 + 1) 29 (w8 (leafN seed n)).toArray (0, 0) _ rfl (HB3.out.setRow _) Tryd.underlying29 rfl HS6.out) rfl ⟨rfl, below_setRow HW3.out (by omega) _⟩

end Go.Proofs.YtkonokjhpddbfaaDoor
namespace Go.Proofs.YtkonokjhpddbfaaDoor
open Go.RowKit
set_option linter.unusedVariables false

set_option maxRecDepth 100000 in
set_option maxHeartbeats 1000000 in
theorem rfrom_any (f r : ByteArray) (S d : List Nat) (w : World) (HX : Hid (Texts f r)) (HL : Hid (S.length = 1024)) (HP : Hid (∀ x ∈ S, x < 256)) (HDL : Hid (d.length = 32)) (HDP : Hid (∀ x ∈ d, x < 256)) :
    Calls Tryd.prog 29 #[.agg #[.string f, .string r], .agg (w8 S).toArray, .agg (w8 d).toArray] w fun e w' => e = .returned (.agg (w8 (fromN S d)).toArray) ∧ Below w.heap.size w w' := by
  have HDS : Hid ((Tryd.prog.info? 29).map (·.size) = some (w8 d).length) := Lib.hid (by rw [w8_length, HDL.out]; exact info29)
  go_enter Tryd.func29, Tryd.ntmps29
  go_upto_region 1 with fail
  have HT : Hid (Blk ((((w.alloc (.cells #[.string f, .string r] 40)).alloc (.cells (w8 S).toArray 51)).alloc (.cells (w8 d).toArray 29)).alloc (.cells zsum 29)) w.heap.size 40 ([.string f, .string r])) := Lib.hid (by
    have h := (((Blk.new w 40 ([.string f, .string r])).alloc (.cells (w8 S).toArray 51)).alloc (.cells (w8 d).toArray 29)).alloc (.cells zsum 29)
    exact h)
  have HSg : Hid (Blk ((((w.alloc (.cells #[.string f, .string r] 40)).alloc (.cells (w8 S).toArray 51)).alloc (.cells (w8 d).toArray 29)).alloc (.cells zsum 29)) (w.heap.size + 1) 51 (w8 S)) := Lib.hid (by
    have h := ((Blk.new (w.alloc (.cells #[.string f, .string r] 40)) 51 (w8 S)).alloc (.cells (w8 d).toArray 29)).alloc (.cells zsum 29)
    rw [World.size_alloc] at h
    exact h)
  have HD : Hid (Blk ((((w.alloc (.cells #[.string f, .string r] 40)).alloc (.cells (w8 S).toArray 51)).alloc (.cells (w8 d).toArray 29)).alloc (.cells zsum 29)) (w.heap.size + 1 + 1) 29 (w8 d)) := Lib.hid (by
    have h := (Blk.new ((w.alloc (.cells #[.string f, .string r] 40)).alloc (.cells (w8 S).toArray 51)) 29 (w8 d)).alloc (.cells zsum 29)
    rw [World.size_alloc, World.size_alloc] at h
    exact h)
  have HR : Hid (Blk ((((w.alloc (.cells #[.string f, .string r] 40)).alloc (.cells (w8 S).toArray 51)).alloc (.cells (w8 d).toArray 29)).alloc (.cells zsum 29)) (w.heap.size + 1 + 1 + 1) 29 (w8 (List.replicate 32 0))) := Lib.hid (by
    have h := Blk.new (((w.alloc (.cells #[.string f, .string r] 40)).alloc (.cells (w8 S).toArray 51)).alloc (.cells (w8 d).toArray 29)) 29 (w8 (List.replicate 32 0))
    rw [zsum_eq, World.size_alloc, World.size_alloc, World.size_alloc] at h
    exact h)
  have HW : Hid (Below w.heap.size w ((((w.alloc (.cells #[.string f, .string r] 40)).alloc (.cells (w8 S).toArray 51)).alloc (.cells (w8 d).toArray 29)).alloc (.cells zsum 29))) := Lib.hid (((((Below.refl _ _).alloc (Nat.le_refl _) _).alloc (by simp) _).alloc (by simp; omega) _).alloc (by simp; omega) _)
  unfold zsum at HT HSg HD HR HW
  generalize ((((w.alloc (.cells #[.string f, .string r] 40)).alloc (.cells (w8 S).toArray 51)).alloc (.cells (w8 d).toArray 29)).alloc (.cells _ 29)) = V at HT HSg HD HR HW ⊢
  have hV : w.heap.size + 1 + 1 + 1 < V.heap.size := HR.out.lt
  obtain ⟨f', hf⟩ : ∃ f : Nat → List Nat, f = fun a => prN (covN (pcs S a)) (pcs S (32 + a)) (bitN d a) := ⟨_, rfl⟩
  have HF : Hid (∀ a, f' a = prN (covN (pcs S a)) (pcs S (32 + a)) (bitN d a)) := Lib.hid fun a => by rw [hf]
  have HFL : Hid (∀ a, a < 32 → (f' a).length = 32) := Lib.hid fun a ha => by rw [hf]; exact prN_length _ _ _ (covN_length _) (pcs_length _ _ (by rw [HL.out]; omega))
  have HFR : Hid (fromN S d = sha (text 2 [rows f' 32])) := Lib.hid (by unfold fromN fromT; rw [hf])
  have HFB : Hid (∀ x ∈ rows f' 32, x < 256) := Lib.hid (by rw [hf]; exact fromT_lt S d HP.out)
  clear hf
  go_wp2_with fail
  go_loopw [8, 7, 9, 10] (fun i t _ _ wr => ∃ (k : Nat), k ≤ 32 ∧ i = .int .i64 k ∧ Hid (Own wr V.heap.size t (rows f' k)) ∧ Hid (Below V.heap.size V wr)) (fun i _ _ _ _ => 32 - (intOf i).toNat)
  case atStart => exact ⟨0, Nat.zero_le _, rfl, Lib.hid (Own.nil _ _), Lib.hid (Below.refl _ _)⟩
  case round =>
    obtain ⟨k, hk, rfl, HO, HV⟩ := hrel
    have HRL : Hid ((rows f' k).length = 32 * k) := Lib.hid (rows_length' k (fun a ha => HFL.out a (by omega)))
    by_cases hlt : k < 32
    · have k1 : (k : Int) < 32 := by omega
      have HTr := Lib.hid (HT.out.below HV.out (by omega))
      have HSr := Lib.hid (HSg.out.below HV.out (by omega))
      have HWr : Hid (Below wr.heap.size wr wr) := Lib.hid (Below.refl _ _)
      have HOlt : Hid (∀ gg, u7.ownBlock = some gg → gg < wr.heap.size) := Lib.hid fun gg hg => (World.ownsRow.lt HO.out gg hg).2
      obtain ⟨c, hc⟩ : ∃ c, covN (pcs S k) = c := ⟨_, rfl⟩
      obtain ⟨o, ho⟩ : ∃ o, pcs S (32 + k) = o := ⟨_, rfl⟩
      have Hce := Lib.hid hc
      have Hoe := Lib.hid ho
      have HcL : Hid (c.length = 16) := Lib.hid (by rw [← hc]; exact covN_length _)
      have HoL : Hid (o.length = 16) := Lib.hid (by rw [← ho]; exact pcs_length _ _ (by rw [HL.out]; omega))
      have HcB : Hid (∀ x ∈ c, x < 256) := Lib.hid (by rw [← hc]; exact covN_lt _)
      have HoB : Hid (∀ x ∈ o, x < 256) := Lib.hid (by rw [← ho]; exact pcs_lt S _ HP.out)
      have HPK : Hid ((pcs S k).length = 16) := Lib.hid (pcs_length _ _ (by rw [HL.out]; omega))
      have HIc : Hid ((Tryd.prog.info? 48).map (·.size) = some (w8 c).length) := Lib.hid (by rw [w8_length, HcL.out]; exact info48)
      have HIo : Hid ((Tryd.prog.info? 48).map (·.size) = some (w8 o).length) := Lib.hid (by rw [w8_length, HoL.out]; exact info48)
      have HIoa : Hid ((Tryd.prog.info? 48).map (·.size) = some (w8 o).toArray.size) := Lib.hid (by rw [List.size_toArray, w8_length, HoL.out]; exact info48)
      have HZo : Hid (z16.size = (w8 o).toArray.size) := Lib.hid (Eq.trans (b := 16) rfl (by rw [List.size_toArray, w8_length, HoL.out]))
      have HOo := Lib.hid (all_oneCell_toArray (w8_one o))
      have HI1 : Hid ((Tryd.prog.info? 48).map (·.size) = some (w8 (pcs S k)).length) := Lib.hid (by rw [w8_length, HPK.out]; exact info48)
      have HI2 : Hid (∀ X : World, Calls Tryd.prog 68 #[.agg #[.string f, .string r], .agg (w8 (pcs S k)).toArray] X fun e w' => e = .returned (.agg (w8 c).toArray) ∧ Below X.heap.size X w') := Lib.hid fun X => by rw [← hc]; exact cover_any f r _ X HX HPK (Lib.hid (pcs_lt S k HP.out))
      have HTHo : Hid (∀ (X : World) {gG : Nat}, Blk X gG 48 (w8 (List.replicate 16 0)) → X.there gG 0 (w8 c).length) := Lib.hid fun X gG h => h.there _ _ (by rw [w8_length, w8_length, HcL.out]; simp)
      clear hc ho
      go_upto_region 5 with fail
      have HWX0 : Hid (Below wr.heap.size wr wr.drew) := Lib.hid (below_drewN HWr.out 1)
      refine wp_region_held_drew (S := fun w' => Below wr.heap.size wr w') (by kernel_rfl) (HWX0.out) (fun hHeld => ?_)
      generalize wr.drew = X0 at hHeld  HWX0 ⊢
      refine wpAnyH_take (i := 0) (v := .agg #[.string f, .string r]) rfl (by kernel_rfl) (by kernel_rfl) (by kernel_rfl) (fun _ _ _ h => h) (yieldsIf_load_mid (by rfl) 40 (.tmp 3) rfl w.heap.size 0 rfl [.string f, .string r] _ (fun w' h => (HTr.out.below h HTr.out.lt).all) Tryd.underlying40 rfl info40) hHeld ?_
      show wpAnyH _ _ _ _ _ _ _ (Act.put _ (some 15) _) _
      simp only [Act.put, List.setIfInBounds_toArray, List.set_cons_zero, List.set_cons_succ]
      refine wpAnyH_take (i := 1) (v := .int .i64 (k : Int)) rfl (by kernel_rfl) (by kernel_rfl) (by kernel_rfl) (fun _ _ _ h => h) (Or.inl ⟨by rfl, fun w _ => by rfl⟩) hHeld ?_
      show wpAnyH _ _ _ _ _ _ _ (Act.put _ (some 16) _) _
      simp only [Act.put, List.setIfInBounds_toArray, List.set_cons_zero, List.set_cons_succ]
      refine wpAnyH_take (i := 2) (v := .pointer (some ⟨w.heap.size + 1, 0, none⟩)) rfl (by kernel_rfl) (by kernel_rfl) (by kernel_rfl) (fun _ _ _ h => h) (Or.inl ⟨by rfl, by intro w' _; go_simp⟩) hHeld ?_
      show wpAnyH _ _ _ _ _ _ _ (Act.put _ (some 17) _) _
      simp only [Act.put, List.setIfInBounds_toArray, List.set_cons_zero, List.set_cons_succ]
      refine wpAnyH_take (i := 3) (v := .pointer (some ⟨w.heap.size + 1, k * 16, none⟩)) rfl (by kernel_rfl) (by kernel_rfl) (by kernel_rfl) (fun _ _ _ h => h) (Or.inl ⟨by rfl, by intro w' _; go_simp⟩) hHeld ?_
      show wpAnyH _ _ _ _ _ _ _ (Act.put _ (some 18) _) _
      simp only [Act.put, List.setIfInBounds_toArray, List.set_cons_zero, List.set_cons_succ]
      refine wpAnyH_take (i := 4) (v := .agg (w8 (pcs S k)).toArray) rfl (by kernel_rfl) (by kernel_rfl) (by kernel_rfl) (fun _ _ _ h => h) (yieldsIf_load_mid (by rfl) 48 (.tmp 18) rfl (w.heap.size + 1) (k * 16) rfl (w8 (pcs S k)) _ (fun w' h => (HSr.out.below h HSr.out.lt).piece k (k * 16) (by omega)) Tryd.underlying48 rfl HI1.out) hHeld ?_
      show wpAnyH _ _ _ _ _ _ _ (Act.put _ (some 19) _) _
      simp only [Act.put, List.setIfInBounds_toArray, List.set_cons_zero, List.set_cons_succ]
      refine wpAnyH_ready (rs := [5, 6]) (by kernel_rfl) (by simp) ?_
      refine AllReadyH.cons rfl (fun K hK => ?_) (AllReadyH.cons rfl (fun K hK => ?_) AllReadyH.nil)
      · refine step_call rfl 68 #[.tmp 15, .tmp 19] #[40, 48] rfl #[.agg #[.string f, .string r], .agg (w8 (pcs S k)).toArray] (by simp [Act.eval]) (by go_simp) (HI2.out X0) ?_
        rintro e X1 ⟨rfl, hB⟩
        have HWX1 := Lib.hid (HWX0.out.trans (hB.mono HWX0.out.size))
        clear hB HWX0  
        refine ⟨_, rfl, hK.out _ _ (HWX1.out) (fun hHeld => ?_)⟩
        clear hK K
        show wpAnyH _ _ _ _ _ _ _ (Act.put _ (some 20) _) _
        simp only [Act.put, List.setIfInBounds_toArray, List.set_cons_zero, List.set_cons_succ]
        refine wpAnyH_ready (rs := [6]) (by kernel_rfl) (by simp) ?_
        refine AllReadyH.cons rfl (fun K hK => ?_) AllReadyH.nil
        refine step_new rfl 48 rfl z16 (by kernel_rfl) ?_
        have hB : Below X1.heap.size X1 (X1.alloc (.cells z16 48)) := (Below.refl _ _).alloc (Nat.le_refl _) _
        have HWX2 := Lib.hid (HWX1.out.trans (hB.mono HWX1.out.size))
        have HGX2 : Hid (Blk (X1.alloc (.cells z16 48)) X1.heap.size 48 (w8 (List.replicate 16 0))) := Lib.hid (by
          have h := Blk.new X1 48 (w8 (List.replicate 16 0))
          rw [z16_eq] at h
          exact h)
        have hgG : wr.heap.size ≤ X1.heap.size := HWX1.out.size
        clear hB
        refine hK.out _ _ (HWX2.out) (fun hHeld => ?_)
        generalize (X1.alloc (.cells z16 48)) = X2 at hHeld HWX2 HGX2 ⊢
        generalize X1.heap.size = gG at HGX2 hgG ⊢
        clear hK K
        show wpAnyH _ _ _ _ _ _ _ (Act.put _ (some 9) _) _
        simp only [Act.put, List.setIfInBounds_toArray, List.set_cons_zero, List.set_cons_succ]
        refine wpAnyH_ready (rs := [7]) (by kernel_rfl) (by simp) ?_
        refine AllReadyH.cons rfl (fun K hK => ?_) AllReadyH.nil
        refine step_store_mid rfl 48 (.tmp 9) (.tmp 20) rfl gG 0 (w8 c) rfl rfl (HTHo.out _ HGX2.out) HIc.out (w8_one _) ?_
        refine hK.out _ _ (below_cells _ _ _ HWX2.out hgG) (fun hHeld => ?_)
        have HGX3 : Hid (Blk (X2.setCells gG 0 (w8 c)) gG 48 (w8 c)) := Lib.hid (by
          have h := Blk.put8 [] (List.replicate 16 0) [] c (by rw [List.nil_append, List.append_nil]; exact HGX2.out) (by rw [HcL.out]; simp) 0 rfl
          rw [List.nil_append, List.append_nil] at h
          exact h)
        have HWX3 := Lib.hid (below_cells (g := gG) (w8 c) 0 X2 HWX2.out hgG)
        clear HGX2 HWX2
        generalize X2.setCells gG 0 (w8 c) = X3 at hHeld HGX3 HWX3 ⊢
        clear hK K
        show wpAnyH _ _ _ _ _ _ _ (Act.put _ none _) _
        simp only [Act.put]
        refine wpAnyH_done (by kernel_rfl) ?_ _
        clear hHeld
        have HOX := Lib.hid (HO.out.below HWX3.out)
        have HVX := Lib.hid (HV.out.trans (HWX3.out.mono HV.out.size))
        have hszX := HWX3.out.size
        have HSX := Lib.hid ((HSg.out.below HVX.out (by omega)).piece (32 + k) (512 + k * 16) (by omega))
        rw [Hoe.out] at HSX
        have HLA := Lib.hid (heap_alloc_last X3 (.cells z16 48))
        go_upto_region 7 with (first | (refine wpList_load_mid rfl 48 (.tmp 23) rfl (w.heap.size + 1) (512 + k * 16) rfl (w8 o) _ HSX.out Tryd.underlying48 rfl HIo.out ?_) | (refine wpList_store_row rfl 48 (.tmp 10) (.tmp 24) rfl X3.heap.size (w8 o).toArray rfl rfl 48 _ HLA.out HIoa.out HZo.out HOo.out ?_; rw [World.setRow_alloc_new]))
        have HQ1 : Hid (Blk (X3.alloc (.cells (w8 o).toArray 48)) X3.heap.size 48 (w8 o)) := Lib.hid (Blk.new _ _ _)
        have HQ2 := Lib.hid (HGX3.out.alloc (.cells (w8 o).toArray 48))
        have HQ3 : Hid (Below X3.heap.size X3 (X3.alloc (.cells (w8 o).toArray 48))) := Lib.hid ((Below.refl _ _).alloc (Nat.le_refl _) _)
        generalize X3.alloc (.cells (w8 o).toArray 48) = Y6 at HQ1 HQ2 HQ3 ⊢
        have HOY := Lib.hid (HOX.out.below HQ3.out)
        have HVY := Lib.hid (HVX.out.trans (HQ3.out.mono HVX.out.size))
        generalize X3.heap.size = gO at HQ1 hszX ⊢
        have HDR := Lib.hid (HD.out.below HVY.out (by omega)).all
        clear HLA HSX HOX HVX HWX3 HGX3 HQ3
        go_wp2_with (first | (refine wpList_load_mid rfl 29 (.tmp 5) rfl (w.heap.size + 1 + 1) 0 rfl (w8 d) _ HDR.out Tryd.underlying29 rfl HDS.out ?_))
        refine (rbit_any d k Y6 HDL HDP hlt).mono ?_
        rintro e Y7 ⟨hE7, hB7⟩
        have HVZ := Lib.hid (HVY.out.trans (hB7.mono HVY.out.size))
        have HOZ := Lib.hid (HOY.out.below hB7)
        have HZ1 := Lib.hid (HQ1.out.below hB7 HQ1.out.lt)
        have HZ2 := Lib.hid (HQ2.out.below hB7 HQ2.out.lt)
        have hVw := HV.out.size
        clear hB7 HVY HOY HQ1 HQ2 HDR
        rcases bitN_two d k with h0 | h0
        · have HFK : Hid (f' k = c ++ o) := Lib.hid (by rw [HF.out k, h0, Hce.out, Hoe.out]; rfl)
          rw [h0] at hE7
          subst hE7
          clear h0
          have HSa : Hid (Src Y7 w.heap.size (some ⟨gG, 0, none⟩) 16 c) := Lib.hid (Src.blk (rest := []) (by rw [List.append_nil]; exact HZ2.out) (by omega) (HcB.out) 16 (by rw [HcL.out]; omega))
          have HNa : Hid (16 = c.length) := Lib.hid HcL.out.symm
          have HMa : Hid ((rows f' k).length + c.length ≤ 140737488355328) := Lib.hid (by rw [HRL.out, HcL.out]; omega)
          have hsl := slice16r gG 0
          go_wp2_with (at_builtin; refine wpList_app rfl (.tmp 29) (.tmp 30) rfl V.heap.size w.heap.size _ _ c rfl HOZ.out (some ⟨gG, 0, none⟩) 16 16 rfl HNa.out HSa.out HMa.out HVZ.out.size ?_)
          intro v8 Y8 HO8 HG8 HL8
          have HV8 : Hid (Below V.heap.size V Y8) := Lib.hid (HVZ.out.grown HG8.out HVZ.out.size fun g' hg' => (HOZ.out.base_ hg').1)
          have HZ8 : Hid (Blk Y8 gO 48 (w8 o)) := Lib.hid (HZ1.out.grown HG8.out (fun he => by have h1 := HOlt.out _ he.symm; omega))
          clear HG8 HL8 HSa HNa HMa hsl
          have HSa : Hid (Src Y8 w.heap.size (some ⟨gO, 0, none⟩) 16 o) := Lib.hid (Src.blk (rest := []) (by rw [List.append_nil]; exact HZ8.out) (by omega) (HoB.out) 16 (by rw [HoL.out]; omega))
          have HNa : Hid (16 = o.length) := Lib.hid HoL.out.symm
          have HMa : Hid ((rows f' k ++ c).length + o.length ≤ 140737488355328) := Lib.hid (by rw [List.length_append, HRL.out, HcL.out, HoL.out]; omega)
          have hsl := slice16r gO 0
          go_wp2_with (at_builtin; refine wpList_app rfl (.tmp 32) (.tmp 33) rfl V.heap.size w.heap.size _ _ o rfl HO8.out (some ⟨gO, 0, none⟩) 16 16 rfl HNa.out HSa.out HMa.out HV8.out.size ?_)
          intro v9 Y9 HO9 HG9 HL9
          have HV9 : Hid (Below V.heap.size V Y9) := Lib.hid (HV8.out.grown HG9.out HV8.out.size fun g' hg' => (HO8.out.base_ hg').1)
          have HOE : Hid (Own Y9 V.heap.size v9 (rows f' (k + 1))) := Lib.hid (by rw [rows_succ, HFK.out]; first | exact HO9.out | (rw [← List.append_assoc]; exact HO9.out))
          clear HG9 HL9 HO9 hsl
          go_wp2
          go_roundw
          case rel => exact ⟨k + 1, by omega, by go_num, HOE, HV9⟩
          case measure => simp [intOf]; omega
        · have HFK : Hid (f' k = o ++ c) := Lib.hid (by rw [HF.out k, h0, Hce.out, Hoe.out]; rfl)
          rw [h0] at hE7
          subst hE7
          clear h0
          have HSa : Hid (Src Y7 w.heap.size (some ⟨gO, 0, none⟩) 16 o) := Lib.hid (Src.blk (rest := []) (by rw [List.append_nil]; exact HZ1.out) (by omega) (HoB.out) 16 (by rw [HoL.out]; omega))
          have HNa : Hid (16 = o.length) := Lib.hid HoL.out.symm
          have HMa : Hid ((rows f' k).length + o.length ≤ 140737488355328) := Lib.hid (by rw [HRL.out, HoL.out]; omega)
          have hsl := slice16r gO 0
          go_wp2_with (at_builtin; refine wpList_app rfl (.tmp 35) (.tmp 36) rfl V.heap.size w.heap.size _ _ o rfl HOZ.out (some ⟨gO, 0, none⟩) 16 16 rfl HNa.out HSa.out HMa.out HVZ.out.size ?_)
          intro v8 Y8 HO8 HG8 HL8
          have HV8 : Hid (Below V.heap.size V Y8) := Lib.hid (HVZ.out.grown HG8.out HVZ.out.size fun g' hg' => (HOZ.out.base_ hg').1)
          have HZ8 : Hid (Blk Y8 gG 48 (w8 c)) := Lib.hid (HZ2.out.grown HG8.out (fun he => by have h1 := HOlt.out _ he.symm; omega))
          clear HG8 HL8 HSa HNa HMa hsl
          have HSa : Hid (Src Y8 w.heap.size (some ⟨gG, 0, none⟩) 16 c) := Lib.hid (Src.blk (rest := []) (by rw [List.append_nil]; exact HZ8.out) (by omega) (HcB.out) 16 (by rw [HcL.out]; omega))
          have HNa : Hid (16 = c.length) := Lib.hid HcL.out.symm
          have HMa : Hid ((rows f' k ++ o).length + c.length ≤ 140737488355328) := Lib.hid (by rw [List.length_append, HRL.out, HcL.out, HoL.out]; omega)
          have hsl := slice16r gG 0
          go_wp2_with (at_builtin; refine wpList_app rfl (.tmp 38) (.tmp 39) rfl V.heap.size w.heap.size _ _ c rfl HO8.out (some ⟨gG, 0, none⟩) 16 16 rfl HNa.out HSa.out HMa.out HV8.out.size ?_)
          intro v9 Y9 HO9 HG9 HL9
          have HV9 : Hid (Below V.heap.size V Y9) := Lib.hid (HV8.out.grown HG9.out HV8.out.size fun g' hg' => (HO8.out.base_ hg').1)
          have HOE : Hid (Own Y9 V.heap.size v9 (rows f' (k + 1))) := Lib.hid (by rw [rows_succ, HFK.out]; first | exact HO9.out | (rw [← List.append_assoc]; exact HO9.out))
          clear HG9 HL9 HO9 hsl
          go_wp2
          go_roundw
          case rel => exact ⟨k + 1, by omega, by go_num, HOE, HV9⟩
          case measure => simp [intOf]; omega
      · refine step_new rfl 48 rfl z16 (by kernel_rfl) ?_
        have hB : Below X0.heap.size X0 (X0.alloc (.cells z16 48)) := (Below.refl _ _).alloc (Nat.le_refl _) _
        have HWX1 := Lib.hid (HWX0.out.trans (hB.mono HWX0.out.size))
        have HGX1 : Hid (Blk (X0.alloc (.cells z16 48)) X0.heap.size 48 (w8 (List.replicate 16 0))) := Lib.hid (by
          have h := Blk.new X0 48 (w8 (List.replicate 16 0))
          rw [z16_eq] at h
          exact h)
        have hgG : wr.heap.size ≤ X0.heap.size := HWX0.out.size
        clear hB
        refine hK.out _ _ (HWX1.out) (fun hHeld => ?_)
        generalize (X0.alloc (.cells z16 48)) = X1 at hHeld HWX1 HGX1 ⊢
        generalize X0.heap.size = gG at HGX1 hgG ⊢
        clear hK K
        show wpAnyH _ _ _ _ _ _ _ (Act.put _ (some 9) _) _
        simp only [Act.put, List.setIfInBounds_toArray, List.set_cons_zero, List.set_cons_succ]
        refine wpAnyH_ready (rs := [5]) (by kernel_rfl) (by simp) ?_
        refine AllReadyH.cons rfl (fun K hK => ?_) AllReadyH.nil
        refine step_call rfl 68 #[.tmp 15, .tmp 19] #[40, 48] rfl #[.agg #[.string f, .string r], .agg (w8 (pcs S k)).toArray] (by simp [Act.eval]) (by go_simp) (HI2.out X1) ?_
        rintro e X2 ⟨rfl, hB⟩
        have HWX2 := Lib.hid (HWX1.out.trans (hB.mono HWX1.out.size))
        have HGX2 := Lib.hid (HGX1.out.below hB HGX1.out.lt)
        clear hB HWX1 HGX1 
        refine ⟨_, rfl, hK.out _ _ (HWX2.out) (fun hHeld => ?_)⟩
        clear hK K
        show wpAnyH _ _ _ _ _ _ _ (Act.put _ (some 20) _) _
        simp only [Act.put, List.setIfInBounds_toArray, List.set_cons_zero, List.set_cons_succ]
        refine wpAnyH_ready (rs := [7]) (by kernel_rfl) (by simp) ?_
        refine AllReadyH.cons rfl (fun K hK => ?_) AllReadyH.nil
        refine step_store_mid rfl 48 (.tmp 9) (.tmp 20) rfl gG 0 (w8 c) rfl rfl (HTHo.out _ HGX2.out) HIc.out (w8_one _) ?_
        refine hK.out _ _ (below_cells _ _ _ HWX2.out hgG) (fun hHeld => ?_)
        have HGX3 : Hid (Blk (X2.setCells gG 0 (w8 c)) gG 48 (w8 c)) := Lib.hid (by
          have h := Blk.put8 [] (List.replicate 16 0) [] c (by rw [List.nil_append, List.append_nil]; exact HGX2.out) (by rw [HcL.out]; simp) 0 rfl
          rw [List.nil_append, List.append_nil] at h
          exact h)
        have HWX3 := Lib.hid (below_cells (g := gG) (w8 c) 0 X2 HWX2.out hgG)
        clear HGX2 HWX2
        generalize X2.setCells gG 0 (w8 c) = X3 at hHeld HGX3 HWX3 ⊢
        clear hK K
        show wpAnyH _ _ _ _ _ _ _ (Act.put _ none _) _
        simp only [Act.put]
        refine wpAnyH_done (by kernel_rfl) ?_ _
        clear hHeld
        have HOX := Lib.hid (HO.out.below HWX3.out)
        have HVX := Lib.hid (HV.out.trans (HWX3.out.mono HV.out.size))
        have hszX := HWX3.out.size
        have HSX := Lib.hid ((HSg.out.below HVX.out (by omega)).piece (32 + k) (512 + k * 16) (by omega))
        rw [Hoe.out] at HSX
        have HLA := Lib.hid (heap_alloc_last X3 (.cells z16 48))
        go_upto_region 7 with (first | (refine wpList_load_mid rfl 48 (.tmp 23) rfl (w.heap.size + 1) (512 + k * 16) rfl (w8 o) _ HSX.out Tryd.underlying48 rfl HIo.out ?_) | (refine wpList_store_row rfl 48 (.tmp 10) (.tmp 24) rfl X3.heap.size (w8 o).toArray rfl rfl 48 _ HLA.out HIoa.out HZo.out HOo.out ?_; rw [World.setRow_alloc_new]))
        have HQ1 : Hid (Blk (X3.alloc (.cells (w8 o).toArray 48)) X3.heap.size 48 (w8 o)) := Lib.hid (Blk.new _ _ _)
        have HQ2 := Lib.hid (HGX3.out.alloc (.cells (w8 o).toArray 48))
        have HQ3 : Hid (Below X3.heap.size X3 (X3.alloc (.cells (w8 o).toArray 48))) := Lib.hid ((Below.refl _ _).alloc (Nat.le_refl _) _)
        generalize X3.alloc (.cells (w8 o).toArray 48) = Y6 at HQ1 HQ2 HQ3 ⊢
        have HOY := Lib.hid (HOX.out.below HQ3.out)
        have HVY := Lib.hid (HVX.out.trans (HQ3.out.mono HVX.out.size))
        generalize X3.heap.size = gO at HQ1 hszX ⊢
        have HDR := Lib.hid (HD.out.below HVY.out (by omega)).all
        clear HLA HSX HOX HVX HWX3 HGX3 HQ3
        go_wp2_with (first | (refine wpList_load_mid rfl 29 (.tmp 5) rfl (w.heap.size + 1 + 1) 0 rfl (w8 d) _ HDR.out Tryd.underlying29 rfl HDS.out ?_))
        refine (rbit_any d k Y6 HDL HDP hlt).mono ?_
        rintro e Y7 ⟨hE7, hB7⟩
        have HVZ := Lib.hid (HVY.out.trans (hB7.mono HVY.out.size))
        have HOZ := Lib.hid (HOY.out.below hB7)
        have HZ1 := Lib.hid (HQ1.out.below hB7 HQ1.out.lt)
        have HZ2 := Lib.hid (HQ2.out.below hB7 HQ2.out.lt)
        have hVw := HV.out.size
        clear hB7 HVY HOY HQ1 HQ2 HDR
        rcases bitN_two d k with h0 | h0
        · have HFK : Hid (f' k = c ++ o) := Lib.hid (by rw [HF.out k, h0, Hce.out, Hoe.out]; rfl)
          rw [h0] at hE7
          subst hE7
          clear h0
          have HSa : Hid (Src Y7 w.heap.size (some ⟨gG, 0, none⟩) 16 c) := Lib.hid (Src.blk (rest := []) (by rw [List.append_nil]; exact HZ2.out) (by omega) (HcB.out) 16 (by rw [HcL.out]; omega))
          have HNa : Hid (16 = c.length) := Lib.hid HcL.out.symm
          have HMa : Hid ((rows f' k).length + c.length ≤ 140737488355328) := Lib.hid (by rw [HRL.out, HcL.out]; omega)
          have hsl := slice16r gG 0
          go_wp2_with (at_builtin; refine wpList_app rfl (.tmp 29) (.tmp 30) rfl V.heap.size w.heap.size _ _ c rfl HOZ.out (some ⟨gG, 0, none⟩) 16 16 rfl HNa.out HSa.out HMa.out HVZ.out.size ?_)
          intro v8 Y8 HO8 HG8 HL8
          have HV8 : Hid (Below V.heap.size V Y8) := Lib.hid (HVZ.out.grown HG8.out HVZ.out.size fun g' hg' => (HOZ.out.base_ hg').1)
          have HZ8 : Hid (Blk Y8 gO 48 (w8 o)) := Lib.hid (HZ1.out.grown HG8.out (fun he => by have h1 := HOlt.out _ he.symm; omega))
          clear HG8 HL8 HSa HNa HMa hsl
          have HSa : Hid (Src Y8 w.heap.size (some ⟨gO, 0, none⟩) 16 o) := Lib.hid (Src.blk (rest := []) (by rw [List.append_nil]; exact HZ8.out) (by omega) (HoB.out) 16 (by rw [HoL.out]; omega))
          have HNa : Hid (16 = o.length) := Lib.hid HoL.out.symm
          have HMa : Hid ((rows f' k ++ c).length + o.length ≤ 140737488355328) := Lib.hid (by rw [List.length_append, HRL.out, HcL.out, HoL.out]; omega)
          have hsl := slice16r gO 0
          go_wp2_with (at_builtin; refine wpList_app rfl (.tmp 32) (.tmp 33) rfl V.heap.size w.heap.size _ _ o rfl HO8.out (some ⟨gO, 0, none⟩) 16 16 rfl HNa.out HSa.out HMa.out HV8.out.size ?_)
          intro v9 Y9 HO9 HG9 HL9
          have HV9 : Hid (Below V.heap.size V Y9) := Lib.hid (HV8.out.grown HG9.out HV8.out.size fun g' hg' => (HO8.out.base_ hg').1)
          have HOE : Hid (Own Y9 V.heap.size v9 (rows f' (k + 1))) := Lib.hid (by rw [rows_succ, HFK.out]; first | exact HO9.out | (rw [← List.append_assoc]; exact HO9.out))
          clear HG9 HL9 HO9 hsl
          go_wp2
          go_roundw
          case rel => exact ⟨k + 1, by omega, by go_num, HOE, HV9⟩
          case measure => simp [intOf]; omega
        · have HFK : Hid (f' k = o ++ c) := Lib.hid (by rw [HF.out k, h0, Hce.out, Hoe.out]; rfl)
          rw [h0] at hE7
          subst hE7
          clear h0
          have HSa : Hid (Src Y7 w.heap.size (some ⟨gO, 0, none⟩) 16 o) := Lib.hid (Src.blk (rest := []) (by rw [List.append_nil]; exact HZ1.out) (by omega) (HoB.out) 16 (by rw [HoL.out]; omega))
          have HNa : Hid (16 = o.length) := Lib.hid HoL.out.symm
          have HMa : Hid ((rows f' k).length + o.length ≤ 140737488355328) := Lib.hid (by rw [HRL.out, HoL.out]; omega)
          have hsl := slice16r gO 0
          go_wp2_with (at_builtin; refine wpList_app rfl (.tmp 35) (.tmp 36) rfl V.heap.size w.heap.size _ _ o rfl HOZ.out (some ⟨gO, 0, none⟩) 16 16 rfl HNa.out HSa.out HMa.out HVZ.out.size ?_)
          intro v8 Y8 HO8 HG8 HL8
          have HV8 : Hid (Below V.heap.size V Y8) := Lib.hid (HVZ.out.grown HG8.out HVZ.out.size fun g' hg' => (HOZ.out.base_ hg').1)
          have HZ8 : Hid (Blk Y8 gG 48 (w8 c)) := Lib.hid (HZ2.out.grown HG8.out (fun he => by have h1 := HOlt.out _ he.symm; omega))
          clear HG8 HL8 HSa HNa HMa hsl
          have HSa : Hid (Src Y8 w.heap.size (some ⟨gG, 0, none⟩) 16 c) := Lib.hid (Src.blk (rest := []) (by rw [List.append_nil]; exact HZ8.out) (by omega) (HcB.out) 16 (by rw [HcL.out]; omega))
          have HNa : Hid (16 = c.length) := Lib.hid HcL.out.symm
          have HMa : Hid ((rows f' k ++ o).length + c.length ≤ 140737488355328) := Lib.hid (by rw [List.length_append, HRL.out, HcL.out, HoL.out]; omega)
          have hsl := slice16r gG 0
          go_wp2_with (at_builtin; refine wpList_app rfl (.tmp 38) (.tmp 39) rfl V.heap.size w.heap.size _ _ c rfl HO8.out (some ⟨gG, 0, none⟩) 16 16 rfl HNa.out HSa.out HMa.out HV8.out.size ?_)
          intro v9 Y9 HO9 HG9 HL9
          have HV9 : Hid (Below V.heap.size V Y9) := Lib.hid (HV8.out.grown HG9.out HV8.out.size fun g' hg' => (HO8.out.base_ hg').1)
          have HOE : Hid (Own Y9 V.heap.size v9 (rows f' (k + 1))) := Lib.hid (by rw [rows_succ, HFK.out]; first | exact HO9.out | (rw [← List.append_assoc]; exact HO9.out))
          clear HG9 HL9 HO9 hsl
          go_wp2
          go_roundw
          case rel => exact ⟨k + 1, by omega, by go_num, HOE, HV9⟩
          case measure => simp [intOf]; omega
    · obtain rfl : k = 32 := by omega
      obtain ⟨A5, c5, hv5, hc5, hs5⟩ := HO.out.srcB (b := wr.heap.size + 1) (by omega) HFB.out
      rw [HRL.out] at hv5
      subst hv5
      have HS5 := Lib.hid hs5
      have hw2 : V.heap.size ≤ wr.heap.size := HV.out.size
      have HTK := Lib.hid (HT.out.below HV.out (by omega)).all
      clear hs5
      go_wp2_with (first | (refine wpList_load_mid rfl 40 (.tmp 3) rfl w.heap.size 0 rfl [.string f, .string r] _ HTK.out Tryd.underlying40 rfl info40 ?_))
      have HC : Hid (Blk (wr.alloc (.cells #[.slice A5 (32 * 32) c5] 30)) wr.heap.size 30 ([.slice A5 (32 * 32) c5])) := Lib.hid (by
        have h := Blk.new wr 30 ([.slice A5 (32 * 32) c5])
        exact h)
      have HV1 : Hid (Below wr.heap.size wr (wr.alloc (.cells #[.slice A5 (32 * 32) c5] 30))) := Lib.hid ((Below.refl _ _).alloc (Nat.le_refl _) _)
      generalize (wr.alloc (.cells #[.slice A5 (32 * 32) c5] 30)) = V1 at HC HV1 ⊢
      have HW1 := Lib.hid (HW.out.trans ((HV.out.trans (HV1.out.mono hw2)).mono (by omega)))
      have HP1 := Lib.hid (Parts.one (b := wr.heap.size + 1) (x := rows f' 32) HC.out HRL.out.symm (by omega) hc5 (HS5.out.below HV1.out))
      have HB1 := Lib.hid ((HR.out.below HV.out (by omega)).below HV1.out (by omega))
      refine (reffor_any f r 2 1 1 _ _ [rows f' 32] V1 HX (by omega) HP1 (Lib.hid rfl) (by omega) (Lib.hid (by simp [HRL.out])) (Lib.hid (by simpa using HFB.out))).mono ?_
      rintro e V2 ⟨rfl, hB2⟩
      have HW3 := Lib.hid (HW1.out.trans (hB2.mono HW1.out.size))
      have HB3 := Lib.hid (HB1.out.below hB2 HB1.out.lt)
      clear hB2
      rw [← HFR.out]
      have HS6 : Hid ((Tryd.prog.info? 29).map (·.size) = some (w8 (fromN S d)).toArray.size) := Lib.hid (by rw [List.size_toArray, w8_length, fromN_length]; exact info29)
      have HZ6 : Hid ((w8 (List.replicate 32 0)).toArray.size = (w8 (fromN S d)).toArray.size) := Lib.hid (by rw [List.size_toArray, List.size_toArray, w8_length, w8_length, fromN_length]; simp)
      have HO6 := Lib.hid (all_oneCell_toArray (w8_one (fromN S d)))
      go_wp2_with (first | (refine wpList_store_row rfl 29 (.tmp 6) (.tmp 44) rfl (w.heap.size + 1 + 1 + 1) (w8 (fromN S d)).toArray rfl rfl 29 _ HB3.out HS6.out HZ6.out HO6.out ?_))
      exact bodyPost_ret (v := .agg (w8 (fromN S d)).toArray) (results_cell_row Tryd.results29 _ _ (w.heap.size + 1 + 1 + 1) 29 (w8 (fromN S d)).toArray (0, 0) _ rfl (HB3.out.setRow _) Tryd.underlying29 rfl HS6.out) rfl ⟨rfl, below_setRow HW3.out (by omega) _⟩

end Go.Proofs.YtkonokjhpddbfaaDoor
