/-
  lamp's small functions: begin (function 93), knownBy (65), secret (66), bitAt (71), New (20): what they answer; nothing that was there is written.
-/
import Derived.Test.YtkonokjhpddbfaaDoorLampNum
import Derived.Test.YtkonokjhpddbfaaDoorOctDig
import Derived.Deep.RegionHeld3
namespace Go.Proofs.YtkonokjhpddbfaaDoor
open Go.RowKit
set_option linter.unusedVariables false

theorem slice16 (g o : Nat) (W : World) : (Instr.sliceAt 53 (.pointer (some ⟨g, o, none⟩)) none none none).run Tryd.prog W = .ok (.slice (some ⟨g, o, none⟩) 16 16) W := by
  have h := run_sliceAt_array_all (P := Tryd.prog) W 53 ⟨g, o, none⟩ (by kernel_rfl)
  rw [h, show Tryd.prog.arrayLen 53 = 16 by kernel_rfl, show Tryd.prog.elem 53 = 5 by kernel_rfl]
  obtain ⟨i0, hi, hz0, hz1, hz2⟩ := info_parts byte_info
  simp [sizeOf, typeInfo, hi, slicedAt, Addr.add_mid]
theorem slice32 (g o : Nat) (W : World) : (Instr.sliceAt 36 (.pointer (some ⟨g, o, none⟩)) none none none).run Tryd.prog W = .ok (.slice (some ⟨g, o, none⟩) 32 32) W := by
  have h := run_sliceAt_array_all (P := Tryd.prog) W 36 ⟨g, o, none⟩ (by kernel_rfl)
  rw [h, show Tryd.prog.arrayLen 36 = 32 by kernel_rfl, show Tryd.prog.elem 36 = 5 by kernel_rfl]
  obtain ⟨i0, hi, hz0, hz1, hz2⟩ := info_parts byte_info
  simp [sizeOf, typeInfo, hi, slicedAt, Addr.add_mid]
theorem slice32p (g o : Nat) (W : World) : (Instr.sliceAt 29 (.pointer (some ⟨g, o, none⟩)) none none none).run Tryd.prog W = .ok (.slice (some ⟨g, o, none⟩) 32 32) W := by
  have h := run_sliceAt_array_all (P := Tryd.prog) W 29 ⟨g, o, none⟩ (by kernel_rfl)
  rw [h, show Tryd.prog.arrayLen 29 = 32 by kernel_rfl, show Tryd.prog.elem 29 = 5 by kernel_rfl]
  obtain ⟨i0, hi, hz0, hz1, hz2⟩ := info_parts byte_info
  simp [sizeOf, typeInfo, hi, slicedAt, Addr.add_mid]
theorem info53 : (Tryd.prog.info? 53).map (·.size) = some 16 := by kernel_rfl
theorem info36 : (Tryd.prog.info? 36).map (·.size) = some 32 := by kernel_rfl
theorem info29 : (Tryd.prog.info? 29).map (·.size) = some 32 := by kernel_rfl
def z16 : Array Value := #[.int .u8 0, .int .u8 0, .int .u8 0, .int .u8 0, .int .u8 0, .int .u8 0, .int .u8 0, .int .u8 0, .int .u8 0, .int .u8 0, .int .u8 0, .int .u8 0, .int .u8 0, .int .u8 0, .int .u8 0, .int .u8 0]
theorem z16_eq : (w8 (List.replicate 16 0)).toArray = z16 := by kernel_rfl
theorem w8_take (l : List Nat) (n : Nat) : (w8 l).take n = w8 (l.take n) := by simp [w8]
theorem w8_drop (l : List Nat) (n : Nat) : (w8 l).drop n = w8 (l.drop n) := by simp [w8]
theorem w8_append (l m : List Nat) : w8 l ++ w8 m = w8 (l ++ m) := by simp [w8]
theorem splice_whole (cur cs : List Value) (h : cs.length = cur.length) : splice cur 0 cs = cs := by
  simp [splice, h]

set_option maxRecDepth 100000 in
set_option maxHeartbeats 2000000 in
theorem begin_any (d : List Nat) (w : World) (HD : Hid (d.length = 32)) :
    Calls Tryd.prog 93 #[.agg (w8 d).toArray] w fun e w' => e = .returned (.agg (w8 (d.take 16)).toArray) ∧ Below w.heap.size w w' := by
  have hs1 := slice16 (w.heap.size + 1 + 1) 0
  have hs2 := slice32 w.heap.size 0
  go_enter Tryd.func93, Tryd.ntmps93
  go_upto_region 2 with fail
  have HA : Hid (Blk (((w.alloc (.cells (w8 d).toArray 36)).alloc (.cells z16 53)).alloc (.cells z16 53)) w.heap.size 36 (w8 d)) := Lib.hid (((Blk.new w 36 (w8 d)).alloc _).alloc _)
  have HB : Hid (Blk (((w.alloc (.cells (w8 d).toArray 36)).alloc (.cells z16 53)).alloc (.cells z16 53)) (w.heap.size + 1) 53 (w8 (List.replicate 16 0))) := Lib.hid (by
    have h := (Blk.new (w.alloc (.cells (w8 d).toArray 36)) 53 (w8 (List.replicate 16 0))).alloc (.cells z16 53)
    rw [z16_eq, World.size_alloc] at h
    exact h)
  have HC : Hid (Blk (((w.alloc (.cells (w8 d).toArray 36)).alloc (.cells z16 53)).alloc (.cells z16 53)) (w.heap.size + 1 + 1) 53 (w8 (List.replicate 16 0))) := Lib.hid (by
    have h := Blk.new ((w.alloc (.cells (w8 d).toArray 36)).alloc (.cells z16 53)) 53 (w8 (List.replicate 16 0))
    rw [z16_eq, World.size_alloc, World.size_alloc] at h
    exact h)
  have HW : Hid (Below w.heap.size w (((w.alloc (.cells (w8 d).toArray 36)).alloc (.cells z16 53)).alloc (.cells z16 53))) := Lib.hid ((((Below.refl _ _).alloc (Nat.le_refl _) _).alloc (by simp) _).alloc (by simp; omega) _)
  unfold z16 at HA HB HC HW
  generalize ((w.alloc (.cells (w8 d).toArray 36)).alloc (.cells _ 53)).alloc (.cells _ 53) = V at HA HB HC HW ⊢
  have HSRC : Hid (∀ j v, (w8 (d.take 16))[j]? = some v → V.cell? ((⟨w.heap.size, 0, none⟩ : Addr).add j) = some v) := Lib.hid fun j v hv => by
    rw [Addr.add_mid, Nat.zero_add, HA.out.cell, ← hv, ← w8_take, List.getElem?_take, if_pos]
    have h1 := (List.getElem?_eq_some_iff.1 hv).1
    rw [w8_length, List.length_take, HD.out] at h1
    omega
  have HL : Hid ((w8 (d.take 16)).length = 16) := Lib.hid (by rw [w8_length, List.length_take, HD.out]; rfl)
  have HF : Hid (0 + 16 ≤ (w8 (List.replicate 16 0)).length) := Lib.hid (by simp [w8])
  have HO := Lib.hid (w8_one (d.take 16))
  have HCD : Hid (Blk V.drew (w.heap.size + 1 + 1) 53 (w8 (List.replicate 16 0))) := Lib.hid (HC.out.drewN 1)
  go_region_held3 (fun w' => True) (trivial)
    (first
      | (refine step_copy_at rfl (.tmp 4) (.tmp 5) 30 30 rfl 5 Tryd.underlying30 info5 (w.heap.size + 1 + 1) 0 16 16 ⟨w.heap.size, 0, none⟩ 32 32 rfl rfl (w8 (List.replicate 16 0)) 53 HCD.out (w8 (d.take 16)) 16 HL.out rfl HSRC.out HF.out HO.out ?_
         intro X HB2 HG2))
  have HX : Hid (Blk X (w.heap.size + 1 + 1) 53 (w8 (d.take 16))) := Lib.hid (by
    have h := HB2.out
    rw [splice_whole _ _ (by rw [HL.out]; simp [w8])] at h
    exact h)
  have HR : Hid (Blk X (w.heap.size + 1) 53 (w8 (List.replicate 16 0))) := Lib.hid (Blk.grown (HB.out.drewN 1) HG2.out (by intro he; injection he; omega))
  have HWX : Hid (Below w.heap.size w X) := Lib.hid ((below_drewN HW.out 1).trans (only_up HG2.out (by omega) HW.out.size))
  have HRG := Lib.hid HX.out.all
  have HS5 : Hid ((Tryd.prog.info? 53).map (·.size) = some (w8 (d.take 16)).length) := Lib.hid (by rw [HL.out]; exact info53)
  have HS6 : Hid ((Tryd.prog.info? 53).map (·.size) = some (w8 (d.take 16)).toArray.size) := Lib.hid (by rw [List.size_toArray, HL.out]; exact info53)
  have HZ6 : Hid ((w8 (List.replicate 16 0)).toArray.size = (w8 (d.take 16)).toArray.size) := Lib.hid (by rw [List.size_toArray, List.size_toArray, HL.out]; simp [w8])
  have HO6 := Lib.hid (all_oneCell_toArray (w8_one (d.take 16)))
  clear hs1 hs2 HB2 HG2 HCD
  go_wp2_with (first | (refine wpList_load_mid rfl 53 (.tmp 3) rfl (w.heap.size + 1 + 1) 0 rfl (w8 (d.take 16)) _ HRG.out Tryd.underlying53 rfl HS5.out ?_) | (refine wpList_store_row rfl 53 (.tmp 2) (.tmp 7) rfl (w.heap.size + 1) (w8 (d.take 16)).toArray rfl rfl 53 _ HR.out HS6.out HZ6.out HO6.out ?_))
  exact bodyPost_ret (v := .agg (w8 (d.take 16)).toArray) (results_cell_row Tryd.results93 _ _ (w.heap.size + 1) 53 (w8 (d.take 16)).toArray (0, 0) _ rfl (HR.out.setRow _) Tryd.underlying53 rfl HS6.out) rfl ⟨rfl, below_setRow HWX.out (by omega) _⟩
end Go.Proofs.YtkonokjhpddbfaaDoor
