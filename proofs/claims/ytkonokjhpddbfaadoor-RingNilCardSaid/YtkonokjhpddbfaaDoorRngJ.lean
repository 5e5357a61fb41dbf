/-
  The walk of tollhouselaw05.RingNil (function 13).
-/
import Derived.Test.YtkonokjhpddbfaaDoorGI
namespace Go.Proofs.YtkonokjhpddbfaaDoor
open Go.RowKit
set_option linter.unusedVariables false

set_option maxRecDepth 100000 in
set_option maxHeartbeats 2000000 in
theorem ringNil_walk (key : Nat) (d : List Nat) (w : World) (HT : Hid (Tab w)) (hk : key < 4294967296) (HDL : Hid (d.length = 32)) (HDP : Hid (∀ x ∈ d, x < 256)) :
    Calls Tryd.prog 13 #[.int .u32 (key : Int), .agg (w8 d).toArray] w fun e w' => e = .returned (.bool true) ∧ Below w.heap.size w w' := by
  obtain ⟨zs, hz0, hz1, _, _⟩ := zs_ex
  have heq : ∀ W : World, (binOp .eql 36 (.agg zsum) (.agg zsum)).run Tryd.prog W = .ok (.bool true) W := fun W => by
    have h := eql_same zs hz1 W
    rw [hz0] at h
    exact h
  have HEQ : Hid (∀ W : World, (binOp .eql 36 (.agg zsum) (.agg zsum)).run Tryd.prog W = .ok (.bool true) W) := Lib.hid heq
  clear heq
  have HLZ : Hid (zsig.length = 1026) := Lib.hid (zsig_length)
  have HS5 : Hid ((Tryd.prog.info? 94).map (·.size) = some zsig.toArray.size) := Lib.hid (by rw [List.size_toArray, HLZ.out]; exact info94)
  have HZ5 : Hid (Tryd.zeroCells94.size = zsig.toArray.size) := Lib.hid (by rw [zsig_arr])
  have HO5 := Lib.hid (all_oneCell_toArray zsig_one)
  have HDS : Hid ((Tryd.prog.info? 29).map (·.size) = some (w8 d).length) := Lib.hid (by rw [w8_length, HDL.out]; exact info29)
  have HD0 : Hid (Blk (w.alloc (.cells (w8 d).toArray 29)) w.heap.size 29 (w8 d)) := Lib.hid (Blk.new _ _ _)
  have HW0 : Hid (Below w.heap.size w (w.alloc (.cells (w8 d).toArray 29))) := Lib.hid ((Below.refl _ _).alloc (Nat.le_refl _) _)
  have HRG := Lib.hid HD0.out.all
  go_enter Tryd.func13, Tryd.ntmps13
  go_wp2_with (first | (refine wpList_load_mid rfl 29 (.tmp 3) rfl w.heap.size 0 rfl (w8 d) _ HRG.out Tryd.underlying29 rfl HDS.out ?_))
  clear HRG
  generalize w.alloc (.cells (w8 d).toArray 29) = V at HD0 HW0 ⊢
  refine (sign_nil key d V).mono ?_
  rintro e w1 ⟨rfl, hB⟩
  have HD1 := Lib.hid (HD0.out.below hB HD0.out.lt)
  have HW1 := Lib.hid (HW0.out.trans (hB.mono HW0.out.size))
  clear hB HD0 HW0
  have HL := Lib.hid (heap_alloc_last w1 (.cells Tryd.zeroCells94 94))
  go_upto_region 3 with (first | (refine wpList_store_row rfl 94 (.tmp 6) (.tmp 15) rfl w1.heap.size zsig.toArray rfl rfl 94 _ HL.out HS5.out HZ5.out HO5.out ?_; rw [World.setRow_alloc_new]))
  have hB : Below w1.heap.size w1 (w1.alloc (.cells zsig.toArray 94)) := (Below.refl _ _).alloc (Nat.le_refl _) _
  have HD2 := Lib.hid (HD1.out.below hB HD1.out.lt)
  have HW2 := Lib.hid (HW1.out.trans (hB.mono HW1.out.size))
  clear hB HD1 HW1 HL
  generalize w1.alloc (.cells zsig.toArray 94) = V1 at HD2 HW2 ⊢
  generalize w1.heap.size = g1
  have HRG := Lib.hid HD2.out.all
  go_wp2_with (first | (refine wpList_load_mid rfl 29 (.tmp 3) rfl w.heap.size 0 rfl (w8 d) _ HRG.out Tryd.underlying29 rfl HDS.out ?_))
  clear HRG
  refine (again_nil key d V1).mono ?_
  rintro e w2 ⟨rfl, hB⟩
  have HW3 := Lib.hid (HW2.out.trans (hB.mono HW2.out.size))
  clear hB HD2 HW2
  have HL := Lib.hid (heap_alloc_last w2 (.cells Tryd.zeroCells94 94))
  go_upto_region 4 with (first | (refine wpList_store_row rfl 94 (.tmp 8) (.tmp 22) rfl w2.heap.size zsig.toArray rfl rfl 94 _ HL.out HS5.out HZ5.out HO5.out ?_; rw [World.setRow_alloc_new]))
  have hB : Below w2.heap.size w2 (w2.alloc (.cells zsig.toArray 94)) := (Below.refl _ _).alloc (Nat.le_refl _) _
  have HW4 := Lib.hid (HW3.out.trans (hB.mono HW3.out.size))
  clear hB HW3 HL
  generalize w2.alloc (.cells zsig.toArray 94) = V2 at HW4 ⊢
  generalize w2.heap.size = g2
  go_wp2_with fail
  refine (awake5_any V2 (Lib.hid (HT.out.below HW4.out HT.out.lt))).mono ?_
  rintro e w3 ⟨rfl, hB⟩
  have HW5 := Lib.hid (HW4.out.trans (hB.mono HW4.out.size))
  clear hB HW4
  go_wp2_with fail
  refine (spend_nil key w3).mono ?_
  rintro e w4 ⟨rfl, hB⟩
  have HW6 := Lib.hid (HW5.out.trans (hB.mono HW5.out.size))
  clear hB HW5
  go_wp2_with fail
  refine (root_nil w4).mono ?_
  rintro e w5 ⟨rfl, hB⟩
  have HW7 := Lib.hid (HW6.out.trans (hB.mono HW6.out.size))
  clear hB HW6
  have heq := HEQ.out
  unfold zsum at heq ⊢
  go_wp2_with fail
  clear heq
  refine (tall_nil w5).mono ?_
  rintro e w6 ⟨rfl, hB⟩
  have HW8 := Lib.hid (HW7.out.trans (hB.mono HW7.out.size))
  clear hB HW7
  go_wp2_with fail
  refine (taken_nil key w6).mono ?_
  rintro e w7 ⟨rfl, hB⟩
  have HW9 := Lib.hid (HW8.out.trans (hB.mono HW8.out.size))
  clear hB HW8
  go_wp2
  go_ret
  exact ⟨rfl, HW9.out⟩
end Go.Proofs.YtkonokjhpddbfaaDoor
