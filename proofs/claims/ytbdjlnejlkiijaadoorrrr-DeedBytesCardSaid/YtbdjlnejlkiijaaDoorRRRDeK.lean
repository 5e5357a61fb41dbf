/-
  deed.Bytes (25) of the first deed; the law's awake (6).
-/
import Derived.Test.YtbdjlnejlkiijaaDoorRRRDeJ
import Derived.Test.YtbdjlnejlkiijaaDoorRRRDeE
namespace Go.Proofs.YtbdjlnejlkiijaaDoorRRR
open Go.RowKit
set_option linter.unusedVariables false
set_option linter.unusedSimpArgs false

theorem stL_first (ch : Int) : (stL ch 0 0 0 0 0 []).length = 45 := stL_len ch 0 0 0 0 0 [] (by simp)
set_option maxRecDepth 100000 in
set_option maxHeartbeats 4000000 in
theorem bytes_first (ch : Int) (hc : 0 ≤ ch ∧ ch ≤ 4294967295) (w : World) : Calls Tryd.prog 25 #[.agg (fstC ch).toArray] w fun e w' => (∃ A c, e = .returned (.slice A 45 c)) ∧ Below w.heap.size w w' := by
  go_enter Tryd.func25, Tryd.ntmps25
  go_upto_region 1 with fail
  have HD : Hid (Blk (w.alloc (.cells (fstC ch).toArray 75)) w.heap.size 75 (fstC ch)) := Lib.hid (Blk.new w 75 (fstC ch))
  have HB : Hid (Below w.heap.size w (w.alloc (.cells (fstC ch).toArray 75))) := Lib.hid ((Below.refl _ _).alloc (Nat.le_refl _) _)
  generalize w.alloc (.cells (fstC ch).toArray 75) = V at HD HB ⊢
  obtain ⟨g, hg⟩ : ∃ x, w.heap.size = x := ⟨_, rfl⟩
  rw [hg] at HD ⊢
  have HRW := Lib.hid (fst_row HD.out)
  have HG := Lib.hid hg
  clear hg
  go_wp2_with (first | (refine wpList_load_mid rfl 40 (.tmp 6) rfl g 0 rfl (stC ch) _ HRW.out Tryd.underlying40 rfl info40j ?_) | fail)
  refine (deedlay_any ch 0 0 0 0 0 none 0 0 [] (.slice none 0 0) w.heap.size [] V (Lib.hid (CRow.nil V none)) (Lib.hid rfl) (by omega) (Lib.hid (by simp)) (Lib.hid ⟨hc, by omega, by omega, by omega, by omega, by omega⟩) (Lib.hid (Oct.Own.nil _ _)) (Lib.hid HB.out.size) (Lib.hid (by simp))).mono ?_
  rintro e V2 ⟨v, rfl, hO, hG, hL⟩
  have hB : Below V.heap.size V V2 := Oct.grown_below hG (Nat.le_refl _) (by simp [Value.ownBlock])
  rw [List.nil_append] at hO
  obtain ⟨A, c, hv, _⟩ := Oct.Own.src hO
  rw [stL_first] at hv
  subst hv
  have HD2 := Lib.hid (HD.out.below hB HD.out.lt)
  have HB2 := Lib.hid (HB.out.trans (hB.mono HB.out.size))
  clear hO hG hL hB HD HB HRW
  have c1 : V2.cell? ⟨g, 1, none⟩ = some (.int .u64 0) := by rw [HD2.out.cell]; exact fst_1 ch
  go_wp2
  go_ret
  exact ⟨⟨A, c, rfl⟩, HB2.out⟩

def zroots : List Value := List.replicate 64 (.int .u8 0) ++ [.int .i64 0]
theorem built79 (W : World) : (Instr.build 79 #[]).run Tryd.prog W = .ok (.agg zroots.toArray) W := run_build W 79 _ _ (by kernel_rfl)
theorem info75' : (Tryd.prog.info? 75).map (·.size) = some (fstC 3).length := by rw [fst_length]; exact info75
set_option maxRecDepth 100000 in
set_option maxHeartbeats 4000000 in
theorem awake_any (w : World) : Calls Tryd.prog 6 #[] w fun e w' => e = .returned (.bool true) ∧ Below w.heap.size w w' := by
  have HI : Hid ((Tryd.prog.info? 75).map (·.size) = some (fstC 3).toArray.size) := Lib.hid (by rw [List.size_toArray, fst_length]; exact info75)
  have HZ : Hid (Tryd.zeroCells75.size = (fstC 3).toArray.size) := Lib.hid (by rw [← zc75, List.size_toArray, List.size_toArray, fst_length, fst_length])
  have HO := Lib.hid (all_oneCell_toArray (fst_one 3))
  go_enter Tryd.func6, Tryd.ntmps6
  go_wp2_with fail
  refine (first_any 3 _).mono ?_
  rintro e V ⟨rfl, hB⟩
  have HB := Lib.hid hB
  clear hB
  go_upto_region 2 with (first | (refine wpList_store_row rfl 75 (.tmp 1) (.tmp 2) rfl V.heap.size (fstC 3).toArray rfl rfl 75 _ (heap_alloc_last V _) HI.out HZ.out HO.out ?_; rw [World.setRow_alloc_new]) | fail)
  have HD : Hid (Blk (V.alloc (.cells (fstC 3).toArray 75)) V.heap.size 75 (fstC 3)) := Lib.hid (Blk.new V 75 (fstC 3))
  have HB3 : Hid (Below w.heap.size w (V.alloc (.cells (fstC 3).toArray 75))) := Lib.hid (HB.out.alloc HB.out.size _)
  have HG : Hid (w.heap.size ≤ V.heap.size) := Lib.hid HB.out.size
  clear HB HI HZ HO
  generalize V.alloc (.cells (fstC 3).toArray 75) = X at HD HB3 ⊢
  generalize V.heap.size = g at HD HG ⊢
  have HRG : Hid (X.rangeAt g 0 (fstC 3)) := Lib.hid (Blk.all HD.out)
  have HIN := Lib.hid info75'
  have hb := fun W => built79 W
  go_wp2_with (first | (refine wpList_build_v rfl 79 _ rfl #[] (by simp) _ (hb _) ?_) | (refine wpList_load_mid rfl 75 (.tmp 1) rfl g 0 rfl (fstC 3) _ HRG.out Tryd.underlying75 rfl HIN.out ?_) | fail)
  refine (whole_first zroots.toArray 3 3 X).mono ?_
  rintro e Y ⟨rfl, hB⟩
  have HRY : Hid (Y.rangeAt g 0 (fstC 3)) := Lib.hid (Blk.all (HD.out.below hB HD.out.lt))
  rw [show decide ((3 : Int) = 3) = true from rfl]
  have HB4 := Lib.hid (HB3.out.trans (hB.mono HB3.out.size))
  have HDY := Lib.hid (HD.out.below hB HD.out.lt)
  clear hB HD HRG HB3
  go_wp2_with fail
  refine wp_load_mid 75 (.tmp 1) rfl g 0 rfl (fstC 3) _ HRY.out Tryd.underlying75 rfl HIN.out ?_
  go_wp2_with fail
  refine (whole_first _ 3 4 Y).mono ?_
  rintro e Z ⟨rfl, hB⟩
  have HRZ : Hid (Z.rangeAt g 0 (fstC 3)) := Lib.hid (Blk.all (HDY.out.below hB HDY.out.lt))
  have HB5 := Lib.hid (HB4.out.trans (hB.mono HB4.out.size))
  rw [show decide ((3 : Int) = 4) = false from rfl]
  clear hB HDY HRY HB4
  go_wp2_with fail
  refine wp_load_mid 75 (.tmp 1) rfl g 0 rfl (fstC 3) _ HRZ.out Tryd.underlying75 rfl HIN.out ?_
  go_wp2_with fail
  refine (bytes_first 3 (by omega) Z).mono ?_
  rintro e U ⟨⟨A, c, rfl⟩, hB⟩
  have HB6 := Lib.hid (HB5.out.trans (hB.mono HB5.out.size))
  clear hB HRZ HB5
  go_wp2
  go_ret
  exact ⟨rfl, HB6.out⟩
end Go.Proofs.YtbdjlnejlkiijaaDoorRRR
