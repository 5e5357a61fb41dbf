/-
  mill.Lock: the sum of the document's text; nothing that was there is written.
-/
import Derived.Test.YteoeoomdjfhmbaaDoorForOf
namespace Go.Proofs.YteoeoomdjfhmbaaDoor
open Go.RowKit
set_option linter.unusedVariables false

theorem slice68 (g : Nat) (W : World) : (Instr.sliceAt 46 (.pointer (some ⟨g, 0, none⟩)) none none none).run Tryd.prog W = .ok (.slice (some ⟨g, 0, none⟩) 32 32) W := by
  have h := run_sliceAt_array_all (P := Tryd.prog) W 46 ⟨g, 0, none⟩ (by kernel_rfl)
  rw [h, show Tryd.prog.arrayLen 46 = 32 by kernel_rfl, show Tryd.prog.elem 46 = 5 by kernel_rfl]
  obtain ⟨i0, hi, hz0, hz1, hz2⟩ := info_parts byte_info
  simp [sizeOf, typeInfo, hi, slicedAt, Addr.add_mid]
theorem info40 : (Tryd.prog.info? 53).map (·.size) = some 32 := by kernel_rfl

set_option maxRecDepth 100000 in
set_option maxHeartbeats 2000000 in
theorem lock_any (s : List Nat) (w : World) (HT : Hid (Tab w)) (HL : Hid (s.length = 32)) (HS : Hid (∀ x ∈ s, x < 256)) :
    Calls Tryd.prog 23 #[.agg (w8 s).toArray] w fun e w' => e = .returned (.agg (w8 (sha (text 6 [s]))).toArray) ∧ Below w.heap.size w w' := by
  have hsl := slice68 w.heap.size
  go_enter Tryd.func23, Tryd.ntmps23
  go_upto_region 1 with fail
  have HSB : Hid (Blk ((w.alloc (.cells (w8 s).toArray 46)).alloc (.cells zsum 53)) w.heap.size 46 (w8 s)) := Lib.hid ((Blk.new w 46 (w8 s)).alloc _)
  have H0 : Hid (Blk ((w.alloc (.cells (w8 s).toArray 46)).alloc (.cells zsum 53)) (w.heap.size + 1) 53 (w8 noSum)) := Lib.hid (by
    have h := Blk.new (w.alloc (.cells (w8 s).toArray 46)) 53 (w8 (List.replicate 32 0))
    rw [zsum_eq, World.size_alloc] at h
    exact h)
  have HB : Hid (Below w.heap.size w ((w.alloc (.cells (w8 s).toArray 46)).alloc (.cells zsum 53))) := Lib.hid (((Below.refl _ _).alloc (Nat.le_refl _) _).alloc (by simp) _)
  unfold zsum at HSB H0 HB
  generalize (w.alloc (.cells (w8 s).toArray 46)).alloc (.cells _ 53) = V at HSB H0 HB ⊢
  have hV : w.heap.size + 1 < V.heap.size := H0.out.lt
  go_wp2_with fail
  have HPB : Hid (Blk (V.alloc (.cells #[.slice (some ⟨w.heap.size, 0, none⟩) 32 32] 69)) V.heap.size 69 [.slice (some ⟨w.heap.size, 0, none⟩) 32 32]) := Lib.hid (Blk.new V 69 _)
  have HB1 : Hid (Below V.heap.size V (V.alloc (.cells #[.slice (some ⟨w.heap.size, 0, none⟩) 32 32] 69))) := Lib.hid ((Below.refl _ _).alloc (Nat.le_refl _) _)
  generalize V.alloc (.cells #[.slice (some ⟨w.heap.size, 0, none⟩) 32 32] 69) = V1 at HPB HB1 ⊢
  have HW1 := Lib.hid (HB.out.trans (HB1.out.mono (by omega)))
  have HP1 := Lib.hid (Parts.one (b := V.heap.size + V1.heap.size) (x := s) HPB.out HL.out.symm (by have := HPB.out.lt; omega) (by omega) (Src.blk (rest := []) (by rw [List.append_nil]; exact HSB.out.below HB1.out (by omega)) (by have := HPB.out.lt; omega) HS.out 32 (by rw [HL.out]; omega)))
  refine (for_any 6 1 1 _ _ [s] V1 (Lib.hid (HT.out.below HW1.out HT.out.lt)) (by omega) HP1 (Lib.hid rfl) (by omega) (Lib.hid (by simp [HL.out]))).mono ?_
  rintro e V2 ⟨rfl, hB2⟩
  have H02 := Lib.hid ((H0.out.below HB1.out (by omega)).below hB2 (by have := HB1.out.size; omega))
  have HW2 := Lib.hid (HW1.out.trans (hB2.mono HW1.out.size))
  have HS6 : Hid ((Tryd.prog.info? 53).map (·.size) = some (w8 (sha (text 6 [s]))).toArray.size) := Lib.hid (by rw [List.size_toArray, w8_length, sha_length]; exact info40)
  have HZ6 : Hid ((w8 noSum).toArray.size = (w8 (sha (text 6 [s]))).toArray.size) := Lib.hid (by rw [List.size_toArray, List.size_toArray, w8_length, w8_length, sha_length]; simp [noSum])
  have HO6 := Lib.hid (all_oneCell_toArray (w8_one (sha (text 6 [s]))))
  clear hB2 hsl
  go_wp2_with (first | (refine wpList_store_row rfl 53 (.tmp 2) (.tmp 5) rfl (w.heap.size + 1) (w8 (sha (text 6 [s]))).toArray rfl rfl 53 _ H02.out HS6.out HZ6.out HO6.out ?_))
  exact bodyPost_ret (v := .agg (w8 (sha (text 6 [s]))).toArray) (results_cell_row Tryd.results23 _ _ (w.heap.size + 1) 53 (w8 (sha (text 6 [s]))).toArray (0, 0) _ rfl (H02.out.setRow _) Tryd.underlying53 rfl HS6.out) rfl ⟨rfl, below_setRow HW2.out (by omega) _⟩

end Go.Proofs.YteoeoomdjfhmbaaDoor
