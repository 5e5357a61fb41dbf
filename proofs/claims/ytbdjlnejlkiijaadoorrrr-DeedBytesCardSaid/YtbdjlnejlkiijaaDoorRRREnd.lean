/-
  mill.end (function 27): a mill into which some bytes came has taken in what the standard puts behind them, too; only its own block is written.
-/
import Derived.Test.YtbdjlnejlkiijaaDoorRRRTake
import Derived.Deep.Cut
namespace Go.Proofs.YtbdjlnejlkiijaaDoorRRR
open Go.RowKit
set_option linter.unusedVariables false

def zfour : Array Value := #[.int .u8 0, .int .u8 0, .int .u8 0, .int .u8 0]
theorem info52 : (Tryd.prog.info? 126).map (·.size) = some 4 := by kernel_rfl
def ztail : Array Value := #[.int .u8 128, .int .u8 0, .int .u8 0, .int .u8 0, .int .u8 0, .int .u8 0, .int .u8 0, .int .u8 0, .int .u8 0, .int .u8 0, .int .u8 0, .int .u8 0, .int .u8 0, .int .u8 0, .int .u8 0, .int .u8 0, .int .u8 0, .int .u8 0, .int .u8 0, .int .u8 0, .int .u8 0, .int .u8 0, .int .u8 0, .int .u8 0, .int .u8 0, .int .u8 0, .int .u8 0, .int .u8 0, .int .u8 0, .int .u8 0, .int .u8 0, .int .u8 0, .int .u8 0, .int .u8 0, .int .u8 0, .int .u8 0, .int .u8 0, .int .u8 0, .int .u8 0, .int .u8 0, .int .u8 0, .int .u8 0, .int .u8 0, .int .u8 0, .int .u8 0, .int .u8 0, .int .u8 0, .int .u8 0, .int .u8 0, .int .u8 0, .int .u8 0, .int .u8 0, .int .u8 0, .int .u8 0, .int .u8 0, .int .u8 0, .int .u8 0, .int .u8 0, .int .u8 0, .int .u8 0, .int .u8 0, .int .u8 0, .int .u8 0, .int .u8 0]
theorem ztail_eq : (w8 (128 :: List.replicate 63 0)).toArray = ztail := by kernel_rfl
theorem tail_length (n : Nat) : (tail n).length = 64 - (n + 8) % 64 := by simp [tail]; omega
theorem tail_lt (n : Nat) : ∀ x ∈ tail n, x < 256 := by
  intro x hx
  simp [tail] at hx
  omega
theorem tail_whole (n : Nat) : w8 (tail n) ++ w8 (List.replicate ((n + 8) % 64) 0) = w8 (128 :: List.replicate 63 0) := by
  unfold tail w8
  rw [← List.map_append, List.cons_append, List.replicate_append_replicate]
  congr 3
  omega

set_option maxRecDepth 100000 in
set_option maxHeartbeats 4000000 in
theorem end_any (b L : Nat) (l bs : List Nat) (w : World) (HR : Hid (Rep w b l bs)) (HT : Hid (Tab w)) (hb : b ≠ 0) (HL : Hid (l.length = L)) (hL : L ≤ 100000000000) :
    Calls Tryd.prog 65 #[.pointer (some ⟨b, 0, none⟩)] w (Took w b (pad l)) := by
  have hc72 := HR.out.blk.cell 72
  rw [mill_many _ _ _ (wordsAt_length _ _) HR.out.len, HL.out] at hc72
  obtain ⟨q1, hq1⟩ : ∃ q, 8 * L / 4294967296 = q := ⟨_, rfl⟩
  obtain ⟨q2, hq2⟩ : ∃ q, 8 * L % 4294967296 = q := ⟨_, rfl⟩
  have i1 : (L : Int) * 8 / 4294967296 = (q1 : Int) := by omega
  have i2 : (L : Int) * 8 % 4294967296 = (q2 : Int) := by omega
  have l1 : q1 < 4294967296 := by omega
  have l2 : q2 < 4294967296 := by omega
  have j1 : (q1 : Int) ≤ 4294967295 := by omega
  have HQ := Lib.hid (And.intro hq1 hq2)
  clear hq1 hq2
  go_enter Tryd.func65, Tryd.ntmps65
  go_wp2_with fail
  refine (bytesOf_any q1 _ l1).mono ?_
  rintro e w1 ⟨rfl, hB1⟩
  have HB1 := Lib.hid hB1
  clear hB1
  go_wp2_with fail
  refine (bytesOf_any q2 _ l2).mono ?_
  rintro e w2 ⟨rfl, hB2⟩
  have HB2 := Lib.hid (HB1.out.trans (hB2.mono HB1.out.size))
  clear hB2
  have HS1 : Hid ((Tryd.prog.info? 126).map (·.size) = some (w8 (four q1)).toArray.size) := Lib.hid info52
  have HS2 : Hid ((Tryd.prog.info? 126).map (·.size) = some (w8 (four q2)).toArray.size) := Lib.hid info52
  have HO1 := Lib.hid (all_oneCell_toArray (w8_one (four q1)))
  have HO2 := Lib.hid (all_oneCell_toArray (w8_one (four q2)))
  have HA1 : Hid (Blk ((w2.alloc (.cells zfour 126)).alloc (.cells zfour 126)) w2.heap.size 126 zfour.toList) := Lib.hid ((Blk.new w2 126 zfour.toList).alloc _)
  have HA2 : Hid (Blk (((w2.alloc (.cells zfour 126)).alloc (.cells zfour 126)).setRow w2.heap.size (w8 (four q1)).toArray) (w2.heap.size + 1) 126 zfour.toList) := Lib.hid (by
    have h := Blk.new (w2.alloc (.cells zfour 126)) 126 zfour.toList
    rw [World.size_alloc] at h
    exact (setRow_other _ _ _ _ (by omega)).trans h)
  go_upto_region 2 with (first | (refine wpList_store_row rfl 126 (.tmp 3) (.tmp 14) rfl w2.heap.size (w8 (four q1)).toArray rfl rfl 126 _ HA1.out HS1.out rfl HO1.out ?_) | (refine wpList_store_row rfl 126 (.tmp 4) (.tmp 17) rfl (w2.heap.size + 1) (w8 (four q2)).toArray rfl rfl 126 _ HA2.out HS2.out rfl HO2.out ?_))
  have HX1 : Hid (Blk ((((w2.alloc (.cells #[.int .u8 0, .int .u8 0, .int .u8 0, .int .u8 0] 126)).alloc (.cells #[.int .u8 0, .int .u8 0, .int .u8 0, .int .u8 0] 126)).setRow w2.heap.size (w8 (four q1)).toArray).setRow (w2.heap.size + 1) (w8 (four q2)).toArray) w2.heap.size 126 (w8 (four q1))) := Lib.hid ((setRow_other _ _ _ _ (by omega)).trans (HA1.out.setRow _))
  have HX2 : Hid (Blk ((((w2.alloc (.cells #[.int .u8 0, .int .u8 0, .int .u8 0, .int .u8 0] 126)).alloc (.cells #[.int .u8 0, .int .u8 0, .int .u8 0, .int .u8 0] 126)).setRow w2.heap.size (w8 (four q1)).toArray).setRow (w2.heap.size + 1) (w8 (four q2)).toArray) (w2.heap.size + 1) 126 (w8 (four q2))) := Lib.hid (HA2.out.setRow _)
  have HX3 : Hid (Below w.heap.size w ((((w2.alloc (.cells #[.int .u8 0, .int .u8 0, .int .u8 0, .int .u8 0] 126)).alloc (.cells #[.int .u8 0, .int .u8 0, .int .u8 0, .int .u8 0] 126)).setRow w2.heap.size (w8 (four q1)).toArray).setRow (w2.heap.size + 1) (w8 (four q2)).toArray)) := Lib.hid (below_setRow (below_setRow ((HB2.out.alloc HB2.out.size _).alloc (by have := HB2.out.size; simp; omega) _) HB2.out.size _) (by have := HB2.out.size; omega) _)
  clear HA1 HA2
  generalize (((w2.alloc (.cells #[.int .u8 0, .int .u8 0, .int .u8 0, .int .u8 0] 126)).alloc (.cells #[.int .u8 0, .int .u8 0, .int .u8 0, .int .u8 0] 126)).setRow w2.heap.size (w8 (four q1)).toArray).setRow (w2.heap.size + 1) (w8 (four q2)).toArray = W at HX1 HX2 HX3 ⊢
  clear hc72
  go_upto_region 4 with fail
  have HV : Hid (Blk (W.alloc (.cells #[.int .u8 128, .int .u8 0, .int .u8 0, .int .u8 0, .int .u8 0, .int .u8 0, .int .u8 0, .int .u8 0, .int .u8 0, .int .u8 0, .int .u8 0, .int .u8 0, .int .u8 0, .int .u8 0, .int .u8 0, .int .u8 0, .int .u8 0, .int .u8 0, .int .u8 0, .int .u8 0, .int .u8 0, .int .u8 0, .int .u8 0, .int .u8 0, .int .u8 0, .int .u8 0, .int .u8 0, .int .u8 0, .int .u8 0, .int .u8 0, .int .u8 0, .int .u8 0, .int .u8 0, .int .u8 0, .int .u8 0, .int .u8 0, .int .u8 0, .int .u8 0, .int .u8 0, .int .u8 0, .int .u8 0, .int .u8 0, .int .u8 0, .int .u8 0, .int .u8 0, .int .u8 0, .int .u8 0, .int .u8 0, .int .u8 0, .int .u8 0, .int .u8 0, .int .u8 0, .int .u8 0, .int .u8 0, .int .u8 0, .int .u8 0, .int .u8 0, .int .u8 0, .int .u8 0, .int .u8 0, .int .u8 0, .int .u8 0, .int .u8 0, .int .u8 0] 141)) W.heap.size 141 (w8 (128 :: List.replicate 63 0))) := Lib.hid (by
    have h := Blk.new W 141 (w8 (128 :: List.replicate 63 0))
    rw [ztail_eq] at h
    exact h)
  have HV1 : Hid (Below w.heap.size w (W.alloc (.cells #[.int .u8 128, .int .u8 0, .int .u8 0, .int .u8 0, .int .u8 0, .int .u8 0, .int .u8 0, .int .u8 0, .int .u8 0, .int .u8 0, .int .u8 0, .int .u8 0, .int .u8 0, .int .u8 0, .int .u8 0, .int .u8 0, .int .u8 0, .int .u8 0, .int .u8 0, .int .u8 0, .int .u8 0, .int .u8 0, .int .u8 0, .int .u8 0, .int .u8 0, .int .u8 0, .int .u8 0, .int .u8 0, .int .u8 0, .int .u8 0, .int .u8 0, .int .u8 0, .int .u8 0, .int .u8 0, .int .u8 0, .int .u8 0, .int .u8 0, .int .u8 0, .int .u8 0, .int .u8 0, .int .u8 0, .int .u8 0, .int .u8 0, .int .u8 0, .int .u8 0, .int .u8 0, .int .u8 0, .int .u8 0, .int .u8 0, .int .u8 0, .int .u8 0, .int .u8 0, .int .u8 0, .int .u8 0, .int .u8 0, .int .u8 0, .int .u8 0, .int .u8 0, .int .u8 0, .int .u8 0, .int .u8 0, .int .u8 0, .int .u8 0, .int .u8 0] 141))) := Lib.hid (HX3.out.alloc HX3.out.size _)
  have HV2 : Hid (Below W.heap.size W (W.alloc (.cells #[.int .u8 128, .int .u8 0, .int .u8 0, .int .u8 0, .int .u8 0, .int .u8 0, .int .u8 0, .int .u8 0, .int .u8 0, .int .u8 0, .int .u8 0, .int .u8 0, .int .u8 0, .int .u8 0, .int .u8 0, .int .u8 0, .int .u8 0, .int .u8 0, .int .u8 0, .int .u8 0, .int .u8 0, .int .u8 0, .int .u8 0, .int .u8 0, .int .u8 0, .int .u8 0, .int .u8 0, .int .u8 0, .int .u8 0, .int .u8 0, .int .u8 0, .int .u8 0, .int .u8 0, .int .u8 0, .int .u8 0, .int .u8 0, .int .u8 0, .int .u8 0, .int .u8 0, .int .u8 0, .int .u8 0, .int .u8 0, .int .u8 0, .int .u8 0, .int .u8 0, .int .u8 0, .int .u8 0, .int .u8 0, .int .u8 0, .int .u8 0, .int .u8 0, .int .u8 0, .int .u8 0, .int .u8 0, .int .u8 0, .int .u8 0, .int .u8 0, .int .u8 0, .int .u8 0, .int .u8 0, .int .u8 0, .int .u8 0, .int .u8 0, .int .u8 0] 141))) := Lib.hid ((Below.refl _ _).alloc (Nat.le_refl _) _)
  generalize W.alloc (.cells #[.int .u8 128, .int .u8 0, .int .u8 0, .int .u8 0, .int .u8 0, .int .u8 0, .int .u8 0, .int .u8 0, .int .u8 0, .int .u8 0, .int .u8 0, .int .u8 0, .int .u8 0, .int .u8 0, .int .u8 0, .int .u8 0, .int .u8 0, .int .u8 0, .int .u8 0, .int .u8 0, .int .u8 0, .int .u8 0, .int .u8 0, .int .u8 0, .int .u8 0, .int .u8 0, .int .u8 0, .int .u8 0, .int .u8 0, .int .u8 0, .int .u8 0, .int .u8 0, .int .u8 0, .int .u8 0, .int .u8 0, .int .u8 0, .int .u8 0, .int .u8 0, .int .u8 0, .int .u8 0, .int .u8 0, .int .u8 0, .int .u8 0, .int .u8 0, .int .u8 0, .int .u8 0, .int .u8 0, .int .u8 0, .int .u8 0, .int .u8 0, .int .u8 0, .int .u8 0, .int .u8 0, .int .u8 0, .int .u8 0, .int .u8 0, .int .u8 0, .int .u8 0, .int .u8 0, .int .u8 0, .int .u8 0, .int .u8 0, .int .u8 0, .int .u8 0] 141) = V at HV HV1 HV2 ⊢
  have hbw : b < w.heap.size := HR.out.blk.lt
  have hw2 : w.heap.size ≤ w2.heap.size := HB2.out.size
  have HRV : Hid (Rep V b l bs) := Lib.hid ⟨HR.out.blk.below HV1.out hbw, HR.out.len, HR.out.lt, HR.out.rest⟩
  have hc72 := HRV.out.blk.cell 72
  rw [mill_many _ _ _ (wordsAt_length _ _) HR.out.len, HL.out] at hc72
  obtain ⟨k, hk⟩ : ∃ k, 64 - (L + 8) % 64 = k := ⟨_, rfl⟩
  have i3 : 64 - ((L : Int) + 8) % 64 = (k : Int) := by omega
  have k1 : (0 : Int) ≤ (k : Int) := by omega
  have k2 : (k : Int) ≤ 64 := by omega
  have HK : Hid ((tail l.length).length = k) := Lib.hid (by rw [tail_length, HL.out]; exact hk)
  have hk64 : k ≤ 64 := by omega
  have HS1 : Hid (Src V b (some ⟨W.heap.size, 0, none⟩) 64 (tail l.length)) := Lib.hid (Src.blk (rest := w8 (List.replicate ((l.length + 8) % 64) 0)) (by rw [tail_whole]; exact HV.out) (by have := HX3.out.size; omega) (tail_lt _) 64 (by rw [HK.out]; omega))
  have HS2 : Hid (Src V b (some ⟨w2.heap.size, 0, none⟩) 4 (four q1)) := Lib.hid (Src.blk (rest := []) (by rw [List.append_nil]; exact HX1.out.below HV2.out HX1.out.lt) (by omega) (four_lt _ l1) 4 (by simp [four]))
  have HS3 : Hid (Src V b (some ⟨w2.heap.size + 1, 0, none⟩) 4 (four q2)) := Lib.hid (Src.blk (rest := []) (by rw [List.append_nil]; exact HX2.out.below HV2.out HX2.out.lt) (by omega) (four_lt _ l2) 4 (by simp [four]))
  have HTV := Lib.hid (HT.out.below HV1.out HT.out.lt)
  have HGV : Hid (w.grownBy V (some b)) := Lib.hid (only_below (only_refl _ _) HV1.out)
  have HLN : Hid (l.length + (tail l.length).length ≤ 1000000000000) := Lib.hid (by rw [HK.out, HL.out]; omega)
  clear hk
  go_wp2_with fail
  refine (take_any b 64 _ l bs (tail l.length) V HRV HTV hb HS1 HLN (by omega) k HK).mono ?_
  rintro e V1 ⟨rfl, ⟨bs1, hr1⟩, hg1⟩
  have HR1 := Lib.hid hr1
  have HG1 := Lib.hid (only_trans HGV.out hg1)
  have HT1 := Lib.hid (HTV.out.grown hg1 hb)
  have HS21 := Lib.hid (HS2.out.grown hg1)
  have HS31 := Lib.hid (HS3.out.grown hg1)
  have HLN1 : Hid ((l ++ tail l.length).length + (four q1).length ≤ 1000000000000) := Lib.hid (by rw [List.length_append, HK.out, HL.out]; simp [four]; omega)
  clear hr1 hg1 hc72
  go_wp2_with fail
  refine (take_any b 4 _ _ bs1 (four q1) V1 HR1 HT1 hb HS21 HLN1 (by omega) 4 (Lib.hid rfl)).mono ?_
  rintro e V2 ⟨rfl, ⟨bs2, hr1⟩, hg1⟩
  have HR2 := Lib.hid hr1
  have HG2 := Lib.hid (only_trans HG1.out hg1)
  have HT2 := Lib.hid (HT1.out.grown hg1 hb)
  have HS32 := Lib.hid (HS31.out.grown hg1)
  have HLN2 : Hid ((l ++ tail l.length ++ four q1).length + (four q2).length ≤ 1000000000000) := Lib.hid (by rw [List.length_append, List.length_append, HK.out, HL.out]; simp [four]; omega)
  clear hr1 hg1
  go_wp2_with fail
  refine (take_any b 4 _ _ bs2 (four q2) V2 HR2 HT2 hb HS32 HLN2 (by omega) 4 (Lib.hid rfl)).mono ?_
  rintro e V3 ⟨rfl, ⟨bs3, hr1⟩, hg1⟩
  have HR3 := Lib.hid hr1
  have HG3 := Lib.hid (only_trans HG2.out hg1)
  clear hr1 hg1
  go_wp2
  go_end0
  refine ⟨rfl, ⟨bs3, ?_⟩, HG3.out⟩
  have h := HR3.out
  rw [← HQ.out.1, ← HQ.out.2, ← HL.out] at h
  exact h
end Go.Proofs.YtbdjlnejlkiijaaDoorRRR
