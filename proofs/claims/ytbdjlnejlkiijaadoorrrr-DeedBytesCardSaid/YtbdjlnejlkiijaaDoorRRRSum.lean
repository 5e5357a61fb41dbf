/-
  (*Mill).Sum (function 15): of a mill into which some bytes came the answer is their sum; nothing that was there is written.
-/
import Derived.Test.YtbdjlnejlkiijaaDoorRRREnd
namespace Go.Proofs.YtbdjlnejlkiijaaDoorRRR
open Go.RowKit
set_option linter.unusedVariables false

theorem info25 : (Tryd.prog.info? 52).map (·.size) = some 32 := by kernel_rfl
theorem info65 : (Tryd.prog.info? 143).map (·.size) = some 73 := by kernel_rfl
theorem info62 : (Tryd.prog.info? 140).map (·.size) = some 8 := by kernel_rfl

def zsum : Array Value := #[.int .u8 0, .int .u8 0, .int .u8 0, .int .u8 0, .int .u8 0, .int .u8 0, .int .u8 0, .int .u8 0, .int .u8 0, .int .u8 0, .int .u8 0, .int .u8 0, .int .u8 0, .int .u8 0, .int .u8 0, .int .u8 0, .int .u8 0, .int .u8 0, .int .u8 0, .int .u8 0, .int .u8 0, .int .u8 0, .int .u8 0, .int .u8 0, .int .u8 0, .int .u8 0, .int .u8 0, .int .u8 0, .int .u8 0, .int .u8 0, .int .u8 0, .int .u8 0]
theorem zsum_eq : (w8 (List.replicate 32 0)).toArray = zsum := by kernel_rfl
def zmill : Array Value := #[.int .u32 0, .int .u32 0, .int .u32 0, .int .u32 0, .int .u32 0, .int .u32 0, .int .u32 0, .int .u32 0, .int .u8 0, .int .u8 0, .int .u8 0, .int .u8 0, .int .u8 0, .int .u8 0, .int .u8 0, .int .u8 0, .int .u8 0, .int .u8 0, .int .u8 0, .int .u8 0, .int .u8 0, .int .u8 0, .int .u8 0, .int .u8 0, .int .u8 0, .int .u8 0, .int .u8 0, .int .u8 0, .int .u8 0, .int .u8 0, .int .u8 0, .int .u8 0, .int .u8 0, .int .u8 0, .int .u8 0, .int .u8 0, .int .u8 0, .int .u8 0, .int .u8 0, .int .u8 0, .int .u8 0, .int .u8 0, .int .u8 0, .int .u8 0, .int .u8 0, .int .u8 0, .int .u8 0, .int .u8 0, .int .u8 0, .int .u8 0, .int .u8 0, .int .u8 0, .int .u8 0, .int .u8 0, .int .u8 0, .int .u8 0, .int .u8 0, .int .u8 0, .int .u8 0, .int .u8 0, .int .u8 0, .int .u8 0, .int .u8 0, .int .u8 0, .int .u8 0, .int .u8 0, .int .u8 0, .int .u8 0, .int .u8 0, .int .u8 0, .int .u8 0, .int .u8 0, .int .u64 0]
theorem zero65 (w : World) : (zeroValue 143).run Tryd.prog w = .ok (.agg zmill) w := by
  have h : (Tryd.prog.info? 143).map (·.zero) = some (some (.agg zmill)) := by kernel_rfl
  cases hq : Tryd.prog.info? 143 with
  | none => simp [hq] at h
  | some i =>
    have hz : i.zero = some (.agg zmill) := by simpa [hq] using h
    simp [zeroValue, typeInfo, hq, hz]
theorem mill_one (ws bs : List Nat) (n : Nat) : ∀ v ∈ millCells ws bs n, v.oneCell' = true := by
  intro v hv
  simp only [millCells, List.mem_append, List.mem_singleton] at hv
  rcases hv with hv | hv | rfl
  · exact w32_one _ v hv
  · exact w8_one _ v hv
  · rfl
theorem mill_words (ws bs : List Nat) (n : Nat) (h : ws.length = 8) : (millCells ws bs n).take 8 = w32 ws := by
  unfold millCells
  rw [List.take_left' (by rw [w32_length, h])]

theorem slice_sum (g k : Nat) (hk : k < 8) (W : World) : (Instr.sliceAt 52 (.pointer (some ⟨g, 0, none⟩)) (some (.int .i64 (4 * (k : Int)))) none none).run Tryd.prog W = .ok (.slice (some ⟨g, 4 * k, none⟩) (32 - 4 * k) (32 - 4 * k)) W := by
  have h := run_sliceAt_array_l (P := Tryd.prog) W 52 ⟨g, 0, none⟩ (by kernel_rfl) .i64 (4 * (k : Int)) (by omega) (by rw [show Tryd.prog.arrayLen 52 = 32 by kernel_rfl]; omega)
  rw [h, show Tryd.prog.arrayLen 52 = 32 by kernel_rfl, show Tryd.prog.elem 52 = 5 by kernel_rfl]
  obtain ⟨i0, hi, hz0, hz1, hz2⟩ := info_parts (show (Tryd.prog.info? 5).map (fun i => (i.zero, i.size, i.bytes)) = some (some (.int .u8 0), 1, 1) by kernel_rfl)
  have e : ¬ (32 = 4 * k) := by omega
  have e2 : (4 * (k : Int)).toNat = 4 * k := by omega
  simp [sizeOf, typeInfo, hi, hz1, slicedAt, e, e2, Addr.add_mid]

/-- A sum so far. -/
def sumCells (ws : List Nat) (k : Nat) : List Value := w8 ((ws.take k).flatMap four ++ List.replicate (32 - 4 * k) 0)
theorem fours_length (ws : List Nat) : (ws.flatMap four).length = 4 * ws.length := by
  induction ws with
  | nil => rfl
  | cons a r ih => simp [four] at ih ⊢; omega
theorem sumCells_length (ws : List Nat) (k : Nat) (h : ws.length = 8) (hk : k ≤ 8) : (sumCells ws k).length = 32 := by
  unfold sumCells
  rw [w8_length, List.length_append, fours_length, List.length_take, List.length_replicate]
  omega
theorem sumCells_next (ws : List Nat) (k x : Nat) (h : ws.length = 8) (hk : k < 8) (hx : ws.getD k 0 = x) : splice (sumCells ws k) (4 * k) (w8 (four x)) = sumCells ws (k + 1) := by
  unfold splice sumCells
  have e1 : ws.take (k + 1) = ws.take k ++ [x] := by
    rw [List.take_succ_eq_append_getElem (by omega), ← hx]
    simp [List.getD, h, hk]
  have e2 : ((ws.take k).flatMap four).length = 4 * k := by rw [fours_length, List.length_take]; omega
  have e3 : (w8 (four x)).length = 4 := rfl
  rw [e1, e3]
  unfold w8
  rw [← List.map_take, ← List.map_drop, ← List.map_append, ← List.map_append, List.take_left' e2, List.drop_append, List.drop_eq_nil_of_le (by omega), e2, List.drop_replicate, List.flatMap_append]
  congr 1
  simp
  omega
theorem sumCells_end (ws : List Nat) (h : ws.length = 8) : sumCells ws 8 = w8 (ws.flatMap four) := by
  unfold sumCells
  rw [List.take_of_length_le (by omega)]
  simp

set_option maxRecDepth 100000 in
set_option maxHeartbeats 4000000 in
theorem sum_any (b : Nat) (l bs : List Nat) (w : World) (HR : Hid (Rep w b l bs)) (HT : Hid (Tab w)) (hb : b ≠ 0) (HL : Hid (l.length ≤ 100000000000)) :
    Calls Tryd.prog 51 #[.pointer (some ⟨b, 0, none⟩)] w fun e w' => e = .returned (.agg (w8 (sha l)).toArray) ∧ Below w.heap.size w w' := by
  go_enter Tryd.func51, Tryd.ntmps51
  go_upto_region 4 with fail
  have H0 : Hid (Blk ((w.alloc (.cells #[.int .u8 0, .int .u8 0, .int .u8 0, .int .u8 0, .int .u8 0, .int .u8 0, .int .u8 0, .int .u8 0, .int .u8 0, .int .u8 0, .int .u8 0, .int .u8 0, .int .u8 0, .int .u8 0, .int .u8 0, .int .u8 0, .int .u8 0, .int .u8 0, .int .u8 0, .int .u8 0, .int .u8 0, .int .u8 0, .int .u8 0, .int .u8 0, .int .u8 0, .int .u8 0, .int .u8 0, .int .u8 0, .int .u8 0, .int .u8 0, .int .u8 0, .int .u8 0] 52)).alloc (.cells #[.int .u8 0, .int .u8 0, .int .u8 0, .int .u8 0, .int .u8 0, .int .u8 0, .int .u8 0, .int .u8 0, .int .u8 0, .int .u8 0, .int .u8 0, .int .u8 0, .int .u8 0, .int .u8 0, .int .u8 0, .int .u8 0, .int .u8 0, .int .u8 0, .int .u8 0, .int .u8 0, .int .u8 0, .int .u8 0, .int .u8 0, .int .u8 0, .int .u8 0, .int .u8 0, .int .u8 0, .int .u8 0, .int .u8 0, .int .u8 0, .int .u8 0, .int .u8 0] 52)) w.heap.size 52 (w8 (List.replicate 32 0))) := Lib.hid (by
    have h := (Blk.new w 52 (w8 (List.replicate 32 0))).alloc (.cells (w8 (List.replicate 32 0)).toArray 52)
    rw [zsum_eq] at h
    exact h)
  have H1 : Hid (Blk ((w.alloc (.cells #[.int .u8 0, .int .u8 0, .int .u8 0, .int .u8 0, .int .u8 0, .int .u8 0, .int .u8 0, .int .u8 0, .int .u8 0, .int .u8 0, .int .u8 0, .int .u8 0, .int .u8 0, .int .u8 0, .int .u8 0, .int .u8 0, .int .u8 0, .int .u8 0, .int .u8 0, .int .u8 0, .int .u8 0, .int .u8 0, .int .u8 0, .int .u8 0, .int .u8 0, .int .u8 0, .int .u8 0, .int .u8 0, .int .u8 0, .int .u8 0, .int .u8 0, .int .u8 0] 52)).alloc (.cells #[.int .u8 0, .int .u8 0, .int .u8 0, .int .u8 0, .int .u8 0, .int .u8 0, .int .u8 0, .int .u8 0, .int .u8 0, .int .u8 0, .int .u8 0, .int .u8 0, .int .u8 0, .int .u8 0, .int .u8 0, .int .u8 0, .int .u8 0, .int .u8 0, .int .u8 0, .int .u8 0, .int .u8 0, .int .u8 0, .int .u8 0, .int .u8 0, .int .u8 0, .int .u8 0, .int .u8 0, .int .u8 0, .int .u8 0, .int .u8 0, .int .u8 0, .int .u8 0] 52)) (w.heap.size + 1) 52 (w8 (List.replicate 32 0))) := Lib.hid (by
    have h := Blk.new (w.alloc (.cells (w8 (List.replicate 32 0)).toArray 52)) 52 (w8 (List.replicate 32 0))
    rw [zsum_eq, World.size_alloc] at h
    exact h)
  have H2 : Hid (Below w.heap.size w ((w.alloc (.cells #[.int .u8 0, .int .u8 0, .int .u8 0, .int .u8 0, .int .u8 0, .int .u8 0, .int .u8 0, .int .u8 0, .int .u8 0, .int .u8 0, .int .u8 0, .int .u8 0, .int .u8 0, .int .u8 0, .int .u8 0, .int .u8 0, .int .u8 0, .int .u8 0, .int .u8 0, .int .u8 0, .int .u8 0, .int .u8 0, .int .u8 0, .int .u8 0, .int .u8 0, .int .u8 0, .int .u8 0, .int .u8 0, .int .u8 0, .int .u8 0, .int .u8 0, .int .u8 0] 52)).alloc (.cells #[.int .u8 0, .int .u8 0, .int .u8 0, .int .u8 0, .int .u8 0, .int .u8 0, .int .u8 0, .int .u8 0, .int .u8 0, .int .u8 0, .int .u8 0, .int .u8 0, .int .u8 0, .int .u8 0, .int .u8 0, .int .u8 0, .int .u8 0, .int .u8 0, .int .u8 0, .int .u8 0, .int .u8 0, .int .u8 0, .int .u8 0, .int .u8 0, .int .u8 0, .int .u8 0, .int .u8 0, .int .u8 0, .int .u8 0, .int .u8 0, .int .u8 0, .int .u8 0] 52))) := Lib.hid (((Below.refl _ _).alloc (Nat.le_refl _) _).alloc (by simp) _)
  generalize (w.alloc (.cells #[.int .u8 0, .int .u8 0, .int .u8 0, .int .u8 0, .int .u8 0, .int .u8 0, .int .u8 0, .int .u8 0, .int .u8 0, .int .u8 0, .int .u8 0, .int .u8 0, .int .u8 0, .int .u8 0, .int .u8 0, .int .u8 0, .int .u8 0, .int .u8 0, .int .u8 0, .int .u8 0, .int .u8 0, .int .u8 0, .int .u8 0, .int .u8 0, .int .u8 0, .int .u8 0, .int .u8 0, .int .u8 0, .int .u8 0, .int .u8 0, .int .u8 0, .int .u8 0] 52)).alloc (.cells #[.int .u8 0, .int .u8 0, .int .u8 0, .int .u8 0, .int .u8 0, .int .u8 0, .int .u8 0, .int .u8 0, .int .u8 0, .int .u8 0, .int .u8 0, .int .u8 0, .int .u8 0, .int .u8 0, .int .u8 0, .int .u8 0, .int .u8 0, .int .u8 0, .int .u8 0, .int .u8 0, .int .u8 0, .int .u8 0, .int .u8 0, .int .u8 0, .int .u8 0, .int .u8 0, .int .u8 0, .int .u8 0, .int .u8 0, .int .u8 0, .int .u8 0, .int .u8 0] 52) = V at H0 H1 H2 ⊢
  have hbw : b < w.heap.size := HR.out.blk.lt
  have hV : w.heap.size + 1 < V.heap.size := H1.out.lt
  have HMB := Lib.hid (HR.out.blk.below H2.out hbw)
  have HRG := Lib.hid HMB.out.all
  have hml := mill_length (wordsAt l (l.length / 64)) bs l.length (wordsAt_length _ _) HR.out.len
  have HS1 : Hid ((Tryd.prog.info? 143).map (·.size) = some (millCells (wordsAt l (l.length / 64)) bs l.length).length) := Lib.hid (by rw [hml]; exact info65)
  have HS2 : Hid ((Tryd.prog.info? 143).map (·.size) = some (millCells (wordsAt l (l.length / 64)) bs l.length).toArray.size) := Lib.hid (by rw [List.size_toArray, hml]; exact info65)
  have HZ : Hid (zmill.size = (millCells (wordsAt l (l.length / 64)) bs l.length).toArray.size) := Lib.hid (by have hz : zmill.size = 73 := rfl; rw [hz, List.size_toArray, hml])
  have HO := Lib.hid (all_oneCell_toArray (mill_one (wordsAt l (l.length / 64)) bs l.length))
  have HLA := Lib.hid (heap_alloc_last V (.cells zmill 143))
  have hz65 := zero65
  clear hml
  go_wp2_with (first | (refine wpList_load_mid rfl 143 (.tmp 12) rfl b 0 rfl (millCells (wordsAt l (l.length / 64)) bs l.length) _ HRG.out Tryd.underlying143 rfl HS1.out ?_) | (refine wpList_store_row rfl 143 (.tmp 4) (.tmp 13) rfl V.heap.size (millCells (wordsAt l (l.length / 64)) bs l.length).toArray rfl rfl 143 _ HLA.out HS2.out HZ.out HO.out ?_; rw [World.setRow_alloc_new]))
  have HB1 := Lib.hid (Blk.new V 143 (millCells (wordsAt l (l.length / 64)) bs l.length))
  have HB2 := Lib.hid ((Below.refl V.heap.size V).alloc (Nat.le_refl _) (.cells (millCells (wordsAt l (l.length / 64)) bs l.length).toArray 143))
  generalize V.alloc (.cells (millCells (wordsAt l (l.length / 64)) bs l.length).toArray 143) = V1 at HB1 HB2 ⊢
  clear hz65
  have HR1 : Hid (Rep V1 V.heap.size l bs) := Lib.hid ⟨HB1.out, HR.out.len, HR.out.lt, HR.out.rest⟩
  have HT1 : Hid (Tab V1) := Lib.hid ((HT.out.below H2.out HT.out.lt).below HB2.out (by omega))
  refine (end_any V.heap.size l.length l bs V1 HR1 HT1 (by omega) (Lib.hid rfl) HL.out).mono ?_
  rintro e V2 ⟨rfl, ⟨bs2, hr2⟩, hg2⟩
  have HR2 := Lib.hid hr2
  have H02 := Lib.hid ((H0.out.below HB2.out (by omega)).grown hg2 (by intro he; injection he with he; omega))
  have H12 := Lib.hid ((H1.out.below HB2.out (by omega)).grown hg2 (by intro he; injection he with he; omega))
  have HW2 : Hid (Below w.heap.size w V2) := Lib.hid ((H2.out.trans (HB2.out.mono (by omega))).trans (only_up hg2 (by omega) (by have := HB2.out.size; omega)))
  obtain ⟨ws, hws⟩ : ∃ ws, wordsAt (pad l) ((pad l).length / 64) = ws := ⟨_, rfl⟩
  have HWS : Hid (ws.length = 8 ∧ (∀ x ∈ ws, x < 4294967296) ∧ sha l = ws.flatMap four) := Lib.hid ⟨by rw [← hws]; exact wordsAt_length _ _, by rw [← hws]; exact wordsAt_lt _ _, by rw [← hws]; rfl⟩
  have HRW : Hid (V2.rangeAt V.heap.size 0 (w32 ws)) := Lib.hid (by
    have h := HR2.out.blk.range 0 8
    rw [List.drop_zero, mill_words _ _ _ (wordsAt_length _ _), hws] at h
    exact h)
  have HI2 : Hid ((Tryd.prog.info? 140).map (·.size) = some (w32 ws).length) := Lib.hid (by rw [w32_length, HWS.out.1]; exact info62)
  clear hr2 hg2 hws
  go_wp2_with (first | (refine wpList_load_mid rfl 140 (.tmp 15) rfl V.heap.size 0 rfl (w32 ws) _ HRW.out Tryd.underlying140 rfl HI2.out ?_))
  go_loopw [17] (fun i wr => ∃ (k : Nat), k ≤ 8 ∧ i = .int .i64 k ∧ Hid (Blk wr w.heap.size 52 (w8 (List.replicate 32 0))) ∧ Hid (Blk wr (w.heap.size + 1) 52 (sumCells ws k)) ∧ Hid (Below w.heap.size w wr)) (fun i _ => 8 - (intOf i).toNat)
  case atStart => exact ⟨0, Nat.zero_le _, rfl, H02, H12, HW2⟩
  case round =>
    obtain ⟨k, hk, rfl, H03, H13, HW3⟩ := hrel
    by_cases hlt : k < 8
    · obtain ⟨x, hx⟩ : ∃ x, ws.getD k 0 = x := ⟨_, rfl⟩
      have hix := fun W => index_eight ws k hlt HWS.out.1 W
      simp only [hx] at hix
      have lx : x < 4294967296 := by rw [← hx]; exact getD_lt (by omega) HWS.out.2.1 k
      have HNX := Lib.hid (sumCells_next ws k x HWS.out.1 hlt hx)
      have i0 : (0 : Int) ≤ (k : Int) := by omega
      have i1 : (k : Int) < 8 := by omega
      have hs1 := slice_sum (w.heap.size + 1) k hlt
      clear hx
      go_wp2_with fail
      refine (bytesOf_any x _ lx).mono ?_
      rintro e w4 ⟨rfl, hB4⟩
      have HB4 := Lib.hid hB4
      have HLA4 := Lib.hid (heap_alloc_last w4 (.cells zfour 126))
      have HS4 : Hid ((Tryd.prog.info? 126).map (·.size) = some (w8 (four x)).toArray.size) := Lib.hid info52
      have HO4 := Lib.hid (all_oneCell_toArray (w8_one (four x)))
      have h1w : w.heap.size + 1 < wr.heap.size := H13.out.lt
      have h4w : wr.heap.size ≤ w4.heap.size := HB4.out.size
      clear hB4
      go_upto_region 10 with (first | (refine wpList_store_row rfl 126 (.tmp 7) (.tmp 22) rfl w4.heap.size (w8 (four x)).toArray rfl rfl 126 _ HLA4.out HS4.out rfl HO4.out ?_; rw [World.setRow_alloc_new]))
      have HF5 := Lib.hid (Blk.new w4 126 (w8 (four x)))
      have HB5 : Hid (Below wr.heap.size wr (w4.alloc (.cells (w8 (four x)).toArray 126))) := Lib.hid (HB4.out.alloc HB4.out.size _)
      generalize w4.alloc (.cells (w8 (four x)).toArray 126) = V5 at HF5 HB5 ⊢
      have H05 := Lib.hid (H03.out.below HB5.out (by omega))
      have H15 : Hid (Blk V5.drew (w.heap.size + 1) 52 (sumCells ws k)) := Lib.hid (H13.out.below HB5.out.drew (by omega))
      have HW5 := Lib.hid (HW3.out.trans (HB5.out.mono (by omega)))
      have HMN : Hid (4 = Nat.min 4 (32 - 4 * k)) := Lib.hid (by show 4 = min 4 (32 - 4 * k); omega)
      have HCS : Hid (∀ j v, (w8 (four x))[j]? = some v → V5.drew.cell? ((⟨w4.heap.size, 0, none⟩ : Addr).add j) = some v) := Lib.hid (by
        intro j v hv
        rw [Addr.add_mid, Nat.zero_add]
        exact (HF5.out.cell j).trans hv)
      have HFI : Hid (4 * k + 4 ≤ (sumCells ws k).length) := Lib.hid (by rw [sumCells_length ws k HWS.out.1 (by omega)]; omega)
      have HO8 := Lib.hid (w8_one (four x))
      have hwr : IntKind.i64.wrap (4 * (k : Int)) = 4 * (k : Int) := IntWalk.i64_in _ (by omega)
      go_region_law (refine step_copy_at rfl (.tmp 25) (.tmp 26) 35 35 rfl 5 Tryd.underlying35 info5 (w.heap.size + 1) (4 * k) (32 - 4 * k) (32 - 4 * k) ⟨w4.heap.size, 0, none⟩ 4 4 (by rfl) (by rfl) _ 52 H15.out (w8 (four x)) 4 rfl HMN.out HCS.out HFI.out HO8.out ?_; intro w6 HB6 HG6)
      all_goals
        have H06 := Lib.hid ((H05.out.drewN 1).grown HG6.out (by intro he; injection he with he; omega))
        have HW6 : Hid (Below w.heap.size w w6) := Lib.hid (HW5.out.drew.trans (only_up HG6.out (by omega) (by have := HW5.out.size; exact this)))
        rw [HNX.out] at HB6
        clear hs1 hix hwr
        go_wp2
        go_roundw
        case rel => exact ⟨k + 1, by omega, by go_num, H06, HB6, HW6⟩
        case measure => simp [intOf]; omega
    · obtain rfl : k = 8 := by omega
      have HD := Lib.hid (sumCells_end ws HWS.out.1)
      rw [HD.out, ← HWS.out.2.2] at H13
      have HRG2 := Lib.hid H13.out.all
      have HS5 : Hid ((Tryd.prog.info? 52).map (·.size) = some (w8 (sha l)).length) := Lib.hid (by rw [w8_length, sha_length]; exact info25)
      have HS6 : Hid ((Tryd.prog.info? 52).map (·.size) = some (w8 (sha l)).toArray.size) := Lib.hid (by rw [List.size_toArray, w8_length, sha_length]; exact info25)
      have HZ6 : Hid ((w8 (List.replicate 32 0)).toArray.size = (w8 (sha l)).toArray.size) := Lib.hid (by rw [List.size_toArray, List.size_toArray, w8_length, w8_length, sha_length]; simp)
      have HO6 := Lib.hid (all_oneCell_toArray (w8_one (sha l)))
      clear HD
      go_wp2_with (first | (refine wpList_load_mid rfl 52 (.tmp 3) rfl (w.heap.size + 1) 0 rfl (w8 (sha l)) _ HRG2.out Tryd.underlying52 rfl HS5.out ?_) | (refine wpList_store_row rfl 52 (.tmp 2) (.tmp 29) rfl w.heap.size (w8 (sha l)).toArray rfl rfl 52 _ H03.out HS6.out HZ6.out HO6.out ?_))
      exact bodyPost_ret (v := .agg (w8 (sha l)).toArray) (results_cell_row Tryd.results51 _ _ w.heap.size 52 (w8 (sha l)).toArray (0, 0) _ rfl (H03.out.setRow _) Tryd.underlying52 rfl HS6.out) rfl ⟨rfl, below_setRow HW3.out (by omega) _⟩
end Go.Proofs.YtbdjlnejlkiijaaDoorRRR
