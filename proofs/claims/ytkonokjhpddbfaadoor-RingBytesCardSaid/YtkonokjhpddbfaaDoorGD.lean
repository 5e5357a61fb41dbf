/-
  lamp's small functions: begin (function 93), knownBy (65), secret (66), bitAt (71), New (20): what they answer; nothing that was there is written.
  lamp's small functions: knownBy (function 65), secret (66), bitAt (71), New (20): what they answer; nothing that was there is written.
  lamp's leaves and signatures: pairs.leaf (function 67), Leaf (22), Sign (25), From (28): what they answer; nothing that was there is written.
  lamp.Sign (function 25): what it answers; nothing that was there is written.
  lamp's From (function 28): what it answers; nothing that was there is written.
  tollhouselaw04.awake (function 21): the document's example answers true (the leaf of zero's seed isn't zero: worked out); nothing that was there is written.
  tollhouselaw04.To (function 27) and From (24): a signature stays as it is; nothing that was there is written.
  Signatures compared: the same is the same.
-/
import Derived.Test.YtkonokjhpddbfaaDoorGA
import Derived.Test.YtkonokjhpddbfaaDoorGC
import Derived.Deep.RegionHeld3
namespace Go.Proofs.YtkonokjhpddbfaaDoor
open Go.RowKit
set_option linter.unusedVariables false

theorem slice16 (g o : Nat) (W : World) : (Instr.sliceAt 53 (.pointer (some ⟨g, o, none⟩)) none none none).run Tryd.prog W = .ok (.slice (some ⟨g, o, none⟩) 16 16) W := by
  have h := run_sliceAt_array_all (P := Tryd.prog) W 53 ⟨g, o, none⟩ (by kernel_rfl)
  rw [h, show Tryd.prog.arrayLen 53 = 16 by kernel_rfl, show Tryd.prog.elem 53 = 5 by kernel_rfl]
  obtain ⟨i0, hi, hz0, hz1, hz2⟩ := info_parts byte_info
  simp [sizeOf, typeInfo, hi, slicedAt, Addr.add_mid]
theorem slice32 (g o : Nat) (W : World) : (Instr.sliceAt 36 (.pointer (some ⟨g, o, none⟩)) none none none).run Tryd.prog W = .ok (.slice (some ⟨g, o, none⟩) 32 32) W := by
  have h := run_sliceAt_array_all (P := Tryd.prog) W 36 ⟨g, o, none⟩ (by kernel_rfl)
  rw [h, show Tryd.prog.arrayLen 36 = 32 by kernel_rfl, show Tryd.prog.elem 36 = 5 by kernel_rfl]
  obtain ⟨i0, hi, hz0, hz1, hz2⟩ := info_parts byte_info
  simp [sizeOf, typeInfo, hi, slicedAt, Addr.add_mid]
theorem slice32p (g o : Nat) (W : World) : (Instr.sliceAt 29 (.pointer (some ⟨g, o, none⟩)) none none none).run Tryd.prog W = .ok (.slice (some ⟨g, o, none⟩) 32 32) W := by
  have h := run_sliceAt_array_all (P := Tryd.prog) W 29 ⟨g, o, none⟩ (by kernel_rfl)
  rw [h, show Tryd.prog.arrayLen 29 = 32 by kernel_rfl, show Tryd.prog.elem 29 = 5 by kernel_rfl]
  obtain ⟨i0, hi, hz0, hz1, hz2⟩ := info_parts byte_info
  simp [sizeOf, typeInfo, hi, slicedAt, Addr.add_mid]
theorem info53 : (Tryd.prog.info? 53).map (·.size) = some 16 := by kernel_rfl
theorem info36 : (Tryd.prog.info? 36).map (·.size) = some 32 := by kernel_rfl
theorem info29 : (Tryd.prog.info? 29).map (·.size) = some 32 := by kernel_rfl
def z16 : Array Value := #[.int .u8 0, .int .u8 0, .int .u8 0, .int .u8 0, .int .u8 0, .int .u8 0, .int .u8 0, .int .u8 0, .int .u8 0, .int .u8 0, .int .u8 0, .int .u8 0, .int .u8 0, .int .u8 0, .int .u8 0, .int .u8 0]
theorem z16_eq : (w8 (List.replicate 16 0)).toArray = z16 := by kernel_rfl
theorem w8_take (l : List Nat) (n : Nat) : (w8 l).take n = w8 (l.take n) := by simp [w8]
theorem w8_drop (l : List Nat) (n : Nat) : (w8 l).drop n = w8 (l.drop n) := by simp [w8]
theorem w8_append (l m : List Nat) : w8 l ++ w8 m = w8 (l ++ m) := by simp [w8]
theorem splice_whole (cur cs : List Value) (h : cs.length = cur.length) : splice cur 0 cs = cs := by
  simp [splice, h]

set_option maxRecDepth 100000 in
set_option maxHeartbeats 2000000 in
theorem begin_any (d : List Nat) (w : World) (HD : Hid (d.length = 32)) :
    Calls Tryd.prog 93 #[.agg (w8 d).toArray] w fun e w' => e = .returned (.agg (w8 (d.take 16)).toArray) ∧ Below w.heap.size w w' := by
  have hs1 := slice16 (w.heap.size + 1 + 1) 0
  have hs2 := slice32 w.heap.size 0
  go_enter Tryd.func93, Tryd.ntmps93
  go_upto_region 2 with fail
  have HA : Hid (Blk (((w.alloc (.cells (w8 d).toArray 36)).alloc (.cells z16 53)).alloc (.cells z16 53)) w.heap.size 36 (w8 d)) := Lib.hid (((Blk.new w 36 (w8 d)).alloc _).alloc _)
  have HB : Hid (Blk (((w.alloc (.cells (w8 d).toArray 36)).alloc (.cells z16 53)).alloc (.cells z16 53)) (w.heap.size + 1) 53 (w8 (List.replicate 16 0))) := Lib.hid (by
    have h := (Blk.new (w.alloc (.cells (w8 d).toArray 36)) 53 (w8 (List.replicate 16 0))).alloc (.cells z16 53)
    rw [z16_eq, World.size_alloc] at h
    exact h)
  have HC : Hid (Blk (((w.alloc (.cells (w8 d).toArray 36)).alloc (.cells z16 53)).alloc (.cells z16 53)) (w.heap.size + 1 + 1) 53 (w8 (List.replicate 16 0))) := Lib.hid (by
    have h := Blk.new ((w.alloc (.cells (w8 d).toArray 36)).alloc (.cells z16 53)) 53 (w8 (List.replicate 16 0))
    rw [z16_eq, World.size_alloc, World.size_alloc] at h
    exact h)
  have HW : Hid (Below w.heap.size w (((w.alloc (.cells (w8 d).toArray 36)).alloc (.cells z16 53)).alloc (.cells z16 53))) := Lib.hid ((((Below.refl _ _).alloc (Nat.le_refl _) _).alloc (by simp) _).alloc (by simp; omega) _)
  unfold z16 at HA HB HC HW
  generalize ((w.alloc (.cells (w8 d).toArray 36)).alloc (.cells _ 53)).alloc (.cells _ 53) = V at HA HB HC HW ⊢
  have HSRC : Hid (∀ j v, (w8 (d.take 16))[j]? = some v → V.cell? ((⟨w.heap.size, 0, none⟩ : Addr).add j) = some v) := Lib.hid fun j v hv => by
    rw [Addr.add_mid, Nat.zero_add, HA.out.cell, ← hv, ← w8_take, List.getElem?_take, if_pos]
    have h1 := (List.getElem?_eq_some_iff.1 hv).1
    rw [w8_length, List.length_take, HD.out] at h1
    omega
  have HL : Hid ((w8 (d.take 16)).length = 16) := Lib.hid (by rw [w8_length, List.length_take, HD.out]; rfl)
  have HF : Hid (0 + 16 ≤ (w8 (List.replicate 16 0)).length) := Lib.hid (by simp [w8])
  have HO := Lib.hid (w8_one (d.take 16))
  have HCD : Hid (Blk V.drew (w.heap.size + 1 + 1) 53 (w8 (List.replicate 16 0))) := Lib.hid (HC.out.drewN 1)
  go_region_held3 (fun w' => True) (trivial)
    (first
      | (refine step_copy_at rfl (.tmp 4) (.tmp 5) 30 30 rfl 5 Tryd.underlying30 info5 (w.heap.size + 1 + 1) 0 16 16 ⟨w.heap.size, 0, none⟩ 32 32 rfl rfl (w8 (List.replicate 16 0)) 53 HCD.out (w8 (d.take 16)) 16 HL.out rfl HSRC.out HF.out HO.out ?_
         intro X HB2 HG2))
  have HX : Hid (Blk X (w.heap.size + 1 + 1) 53 (w8 (d.take 16))) := Lib.hid (by
    have h := HB2.out
    rw [splice_whole _ _ (by rw [HL.out]; simp [w8])] at h
    exact h)
  have HR : Hid (Blk X (w.heap.size + 1) 53 (w8 (List.replicate 16 0))) := Lib.hid (Blk.grown (HB.out.drewN 1) HG2.out (by intro he; injection he; omega))
  have HWX : Hid (Below w.heap.size w X) := Lib.hid ((below_drewN HW.out 1).trans (only_up HG2.out (by omega) HW.out.size))
  have HRG := Lib.hid HX.out.all
  have HS5 : Hid ((Tryd.prog.info? 53).map (·.size) = some (w8 (d.take 16)).length) := Lib.hid (by rw [HL.out]; exact info53)
  have HS6 : Hid ((Tryd.prog.info? 53).map (·.size) = some (w8 (d.take 16)).toArray.size) := Lib.hid (by rw [List.size_toArray, HL.out]; exact info53)
  have HZ6 : Hid ((w8 (List.replicate 16 0)).toArray.size = (w8 (d.take 16)).toArray.size) := Lib.hid (by rw [List.size_toArray, List.size_toArray, HL.out]; simp [w8])
  have HO6 := Lib.hid (all_oneCell_toArray (w8_one (d.take 16)))
  clear hs1 hs2 HB2 HG2 HCD
  go_wp2_with (first | (refine wpList_load_mid rfl 53 (.tmp 3) rfl (w.heap.size + 1 + 1) 0 rfl (w8 (d.take 16)) _ HRG.out Tryd.underlying53 rfl HS5.out ?_) | (refine wpList_store_row rfl 53 (.tmp 2) (.tmp 7) rfl (w.heap.size + 1) (w8 (d.take 16)).toArray rfl rfl 53 _ HR.out HS6.out HZ6.out HO6.out ?_))
  exact bodyPost_ret (v := .agg (w8 (d.take 16)).toArray) (results_cell_row Tryd.results93 _ _ (w.heap.size + 1) 53 (w8 (d.take 16)).toArray (0, 0) _ rfl (HR.out.setRow _) Tryd.underlying53 rfl HS6.out) rfl ⟨rfl, below_setRow HWX.out (by omega) _⟩
end Go.Proofs.YtkonokjhpddbfaaDoor
namespace Go.Proofs.YtkonokjhpddbfaaDoor
open Go.RowKit
set_option linter.unusedVariables false

set_option maxRecDepth 100000 in
set_option maxHeartbeats 2000000 in
theorem knownBy_any (p : List Nat) (w : World) (HT : Hid (Tab w)) (HL : Hid (p.length = 16)) (HP : Hid (∀ x ∈ p, x < 256)) :
    Calls Tryd.prog 65 #[.agg (w8 p).toArray] w fun e w' => e = .returned (.agg (w8 (covN p)).toArray) ∧ Below w.heap.size w w' := by
  have hsl := slice16 w.heap.size 0
  go_enter Tryd.func65, Tryd.ntmps65
  go_upto_region 1 with fail
  have HA : Hid (Blk ((w.alloc (.cells (w8 p).toArray 53)).alloc (.cells z16 53)) w.heap.size 53 (w8 p)) := Lib.hid (by
    have h := (Blk.new w 53 (w8 p)).alloc (.cells z16 53)
    exact h)
  have HB : Hid (Blk ((w.alloc (.cells (w8 p).toArray 53)).alloc (.cells z16 53)) (w.heap.size + 1) 53 (w8 (List.replicate 16 0))) := Lib.hid (by
    have h := Blk.new (w.alloc (.cells (w8 p).toArray 53)) 53 (w8 (List.replicate 16 0))
    rw [z16_eq, World.size_alloc] at h
    exact h)
  have HW : Hid (Below w.heap.size w ((w.alloc (.cells (w8 p).toArray 53)).alloc (.cells z16 53))) := Lib.hid (((Below.refl _ _).alloc (Nat.le_refl _) _).alloc (by simp) _)
  unfold z16 at HA HB HW
  generalize ((w.alloc (.cells (w8 p).toArray 53)).alloc (.cells _ 53)) = V at HA HB HW ⊢
  have hV : w.heap.size + 1 < V.heap.size := HB.out.lt
  go_wp2_with fail
  have HC : Hid (Blk (V.alloc (.cells #[.slice (some ⟨w.heap.size, 0, none⟩) 16 16] 30)) V.heap.size 30 ([.slice (some ⟨w.heap.size, 0, none⟩) 16 16])) := Lib.hid (by
    have h := Blk.new V 30 ([.slice (some ⟨w.heap.size, 0, none⟩) 16 16])
    exact h)
  have HV1 : Hid (Below V.heap.size V (V.alloc (.cells #[.slice (some ⟨w.heap.size, 0, none⟩) 16 16] 30))) := Lib.hid ((Below.refl _ _).alloc (Nat.le_refl _) _)
  generalize (V.alloc (.cells #[.slice (some ⟨w.heap.size, 0, none⟩) 16 16] 30)) = V1 at HC HV1 ⊢
  have HW1 := Lib.hid (HW.out.trans (HV1.out.mono (by omega)))
  have HP1 := Lib.hid (Parts.one (b := V.heap.size + V1.heap.size) (x := p) HC.out HL.out.symm (by have := HC.out.lt; omega) (by omega) (Src.blk (rest := []) (by rw [List.append_nil]; exact HA.out.below HV1.out (by omega)) (by have := HC.out.lt; omega) HP.out 16 (by rw [HL.out]; omega)))
  refine (for_any 5 1 1 _ _ [p] V1 (Lib.hid (HT.out.below HW1.out HT.out.lt)) (by omega) HP1 (Lib.hid rfl) (by omega) (Lib.hid (by simp [HL.out]))).mono ?_
  rintro e V2 ⟨rfl, hB2⟩
  have HW2 := Lib.hid (HW1.out.trans (hB2.mono HW1.out.size))
  have HB2 := Lib.hid ((HB.out.below HV1.out (by omega)).below hB2 (by have := HV1.out.size; omega))
  clear hB2 hsl
  go_wp2_with fail
  refine (begin_any _ V2 (Lib.hid (sha_length _))).mono ?_
  rintro e V3 ⟨rfl, hB3⟩
  have HW3 := Lib.hid (HW2.out.trans (hB3.mono HW2.out.size))
  have HB3 := Lib.hid (HB2.out.below hB3 HB2.out.lt)
  clear hB3
  rw [show (sha (text 5 [p])).take 16 = covN p from rfl]
  have HS6 : Hid ((Tryd.prog.info? 53).map (·.size) = some (w8 (covN p)).toArray.size) := Lib.hid (by rw [List.size_toArray, w8_length, covN_length]; exact info53)
  have HZ6 : Hid ((w8 (List.replicate 16 0)).toArray.size = (w8 (covN p)).toArray.size) := Lib.hid (by rw [List.size_toArray, List.size_toArray, w8_length, w8_length, covN_length]; simp)
  have HO6 := Lib.hid (all_oneCell_toArray (w8_one (covN p)))
  go_wp2_with (first | (refine wpList_store_row rfl 53 (.tmp 2) (.tmp 6) rfl (w.heap.size + 1) (w8 (covN p)).toArray rfl rfl 53 _ HB3.out HS6.out HZ6.out HO6.out ?_))
  exact bodyPost_ret (v := .agg (w8 (covN p)).toArray) (results_cell_row Tryd.results65 _ _ (w.heap.size + 1) 53 (w8 (covN p)).toArray (0, 0) _ rfl (HB3.out.setRow _) Tryd.underlying53 rfl HS6.out) rfl ⟨rfl, below_setRow HW3.out (by omega) _⟩

/-- A key. -/
def keyC (seed : List Nat) (n : Nat) : List Value := w8 seed ++ [.int .u32 (n : Int)]
def ints (l : List Nat) : List Int := l.map fun (x : Nat) => (x : Int)
theorem byt_ints (l : List Nat) : Oct.byt (ints l) = w8 l := by simp [Oct.byt, ints, w8]
theorem Own.ofOct {w : World} {base : Nat} {v : Value} {l : List Nat} (h : Oct.Own w base v (ints l)) : Own w base v l := by
  unfold Oct.Own at h
  unfold Own
  rw [byt_ints] at h
  simpa [ints] using h
theorem Own.toOct {w : World} {base : Nat} {v : Value} {l : List Nat} (h : Own w base v l) : Oct.Own w base v (ints l) := by
  unfold Own at h
  unfold Oct.Own
  rw [byt_ints]
  simpa [ints] using h
theorem ints_four (n : Nat) : Oct.be4s [(n : Int)] = ints (four n) := by
  simp [Oct.be4s, Oct.be4, ints, four]
theorem Own.srcB {w : World} {base b : Nat} {v : Value} {l : List Nat} (h : Own w base v l) (hb : w.heap.size ≤ b) (hl : ∀ x ∈ l, x < 256) : ∃ A c, v = .slice A l.length c ∧ c ≤ 9223372036854775807 ∧ Src w b A c l := by
  rcases h.2 with ⟨rfl, h0⟩ | ⟨g, c, cur, rfl, hbg, hg, hn, hc, _⟩
  · have : l = [] := List.eq_nil_of_length_eq_zero h0
    subst this
    exact ⟨none, 0, rfl, by omega, ⟨Nat.le_refl _, .inl rfl, hl⟩⟩
  · have hlt : g < w.heap.size := by
      rcases Nat.lt_or_ge g w.heap.size with h2 | h2
      · exact h2
      · rw [Array.getElem?_eq_none h2] at hg; cases hg
    exact ⟨_, c, rfl, by unfold maxLen at hc; exact hc, ⟨hn, .inr ⟨g, 0, rfl, hlt, by omega, fun i hi => by rw [Nat.zero_add, World.ownsRow.cellAt h i (by omega), w8_get l i hi]⟩, hl⟩⟩
theorem Parts.three {w : World} {b g : Nat} {t : TypeId} {A1 A2 A3 : Option Addr} {c1 c2 c3 n1 n2 n3 : Nat} {x1 x2 x3 : List Nat} (h : Blk w g t [.slice A1 n1 c1, .slice A2 n2 c2, .slice A3 n3 c3]) (hn1 : n1 = x1.length) (hn2 : n2 = x2.length) (hn3 : n3 = x3.length) (hb : g ≠ b) (hc1 : c1 ≤ 9223372036854775807) (hc2 : c2 ≤ 9223372036854775807) (hc3 : c3 ≤ 9223372036854775807) (hs1 : Src w b A1 c1 x1) (hs2 : Src w b A2 c2 x2) (hs3 : Src w b A3 c3 x3) : Parts w b (some ⟨g, 0, none⟩) [x1, x2, x3] := by
  subst hn1; subst hn2; subst hn3
  refine ⟨.inr ⟨g, 0, rfl, h.lt, hb, fun i hi => ?_⟩⟩
  match i, hi with
  | 0, _ => exact ⟨A1, c1, by rw [h.cell]; rfl, hc1, hs1⟩
  | 1, _ => exact ⟨A2, c2, by rw [h.cell]; rfl, hc2, hs2⟩
  | 2, _ => exact ⟨A3, c3, by rw [h.cell]; rfl, hc3, hs3⟩
theorem Own.none_ (w : World) : Oct.Own (w.alloc (.cells #[] 5)) w.heap.size (.slice (some ⟨w.heap.size, 0, none⟩) 0 0) [] := World.ownsRow_lit w #[] 0 (Nat.le_refl _) (by unfold maxLen; omega) rfl

set_option maxRecDepth 100000 in
set_option maxHeartbeats 4000000 in
theorem secret_any (seed : List Nat) (n a v : Nat) (w : World) (HT : Hid (Tab w)) (HL : Hid (seed.length = 32)) (HP : Hid (∀ x ∈ seed, x < 256)) (hn : n < 4294967296) (ha : a < 32) (hv : v < 2) :
    Calls Tryd.prog 66 #[.agg (keyC seed n).toArray, .int .i64 (a : Int), .int .i64 (v : Int)] w fun e w' => e = .returned (.agg (w8 (secN seed n a v)).toArray) ∧ Below w.heap.size w w' := by
  have n1 : (n : Int) ≤ 4294967295 := by omega
  have a1 : (a : Int) ≤ 255 := by omega
  have v1 : (v : Int) ≤ 255 := by omega
  go_enter Tryd.func66, Tryd.ntmps66
  go_upto_region 1 with fail
  have HA : Hid (Blk ((w.alloc (.cells (keyC seed n).toArray 43)).alloc (.cells z16 53)) w.heap.size 43 (keyC seed n)) := Lib.hid (by
    have h := (Blk.new w 43 (keyC seed n)).alloc (.cells z16 53)
    exact h)
  have HB : Hid (Blk ((w.alloc (.cells (keyC seed n).toArray 43)).alloc (.cells z16 53)) (w.heap.size + 1) 53 (w8 (List.replicate 16 0))) := Lib.hid (by
    have h := Blk.new (w.alloc (.cells (keyC seed n).toArray 43)) 53 (w8 (List.replicate 16 0))
    rw [z16_eq, World.size_alloc] at h
    exact h)
  have HW : Hid (Below w.heap.size w ((w.alloc (.cells (keyC seed n).toArray 43)).alloc (.cells z16 53))) := Lib.hid (((Below.refl _ _).alloc (Nat.le_refl _) _).alloc (by simp) _)
  unfold z16 at HA HB HW
  generalize ((w.alloc (.cells (keyC seed n).toArray 43)).alloc (.cells _ 53)) = V at HA HB HW ⊢
  have hV : w.heap.size + 1 < V.heap.size := HB.out.lt
  have hc32 : (V.alloc (.cells #[] 5)).cell? ⟨w.heap.size, 32, none⟩ = some (.int .u32 (n : Int)) := by
    rw [(HA.out.alloc _).cell]
    unfold keyC
    rw [List.getElem?_append_right (by rw [w8_length, HL.out]; omega), w8_length, HL.out]
    rfl
  go_wp2_with fail
  have HO1 : Hid (Oct.Own ((V.alloc (.cells #[] 5)).alloc (.cells #[.int .u32 (n : Int)] 38)) V.heap.size (.slice (some ⟨V.heap.size, 0, none⟩) 0 0) []) := Lib.hid (World.ownsRow.alloc (Own.none_ V) _)
  have HR1 : Hid (Oct.Rd .u32 ((V.alloc (.cells #[] 5)).alloc (.cells #[.int .u32 (n : Int)] 38)) (some ⟨V.heap.size + 1, 0, none⟩) [(n : Int)]) := Lib.hid (by
    have h := Oct.Rd.lit .u32 38 (V.alloc (.cells #[] 5)) #[.int .u32 (n : Int)] [(n : Int)] rfl
    rw [World.size_alloc] at h
    exact h)
  have HV1 : Hid (Below V.heap.size V ((V.alloc (.cells #[] 5)).alloc (.cells #[.int .u32 (n : Int)] 38))) := Lib.hid (((Below.refl _ _).alloc (Nat.le_refl _) _).alloc (by simp) _)
  generalize (V.alloc (.cells #[] 5)).alloc (.cells #[.int .u32 (n : Int)] 38) = V1 at HO1 HR1 HV1 ⊢
  have hc := Oct.four_any (.slice (some ⟨V.heap.size, 0, none⟩) 0 0) (some ⟨V.heap.size + 1, 0, none⟩) 1 V.heap.size [] [(n : Int)] V1 HO1.out HR1.out (by intro x hx; simp at hx; omega) (by simp) HV1.out.size
  rw [List.nil_append, ints_four] at hc
  refine hc.mono ?_
  clear hc hc32 HR1
  rintro e V2 ⟨v2, rfl, hO2, hG2, hL2⟩
  have HO2 := Lib.hid (Own.ofOct hO2)
  have HV2 : Hid (Below V.heap.size V V2) := Lib.hid (HV1.out.trans (Oct.grown_below hG2 HV1.out.size (fun g hg => (World.ownsRow.lt HO1.out g hg).1)))
  clear hO2 hG2 hL2 HO1 HV1 V1
  have hV2 : V.heap.size ≤ V2.heap.size := HV2.out.size
  go_wp2_with fail
  have HO3 : Hid (Oct.Own ((V2.alloc (.cells #[] 5)).alloc (.cells #[.int .u8 (a : Int), .int .u8 (v : Int)] 5)) V2.heap.size (.slice (some ⟨V2.heap.size, 0, none⟩) 0 0) []) := Lib.hid (World.ownsRow.alloc (Own.none_ V2) _)
  have HS3 : Hid (Oct.Src ((V2.alloc (.cells #[] 5)).alloc (.cells #[.int .u8 (a : Int), .int .u8 (v : Int)] 5)) (some ⟨V2.heap.size + 1, 0, none⟩) 2 (ints [a, v])) := Lib.hid (by
    have h := Oct.Src.lit (V2.alloc (.cells #[] 5)) #[.int .u8 (a : Int), .int .u8 (v : Int)] (ints [a, v]) rfl
    rw [World.size_alloc] at h
    exact h)
  have HV3 : Hid (Below V2.heap.size V2 ((V2.alloc (.cells #[] 5)).alloc (.cells #[.int .u8 (a : Int), .int .u8 (v : Int)] 5))) := Lib.hid (((Below.refl _ _).alloc (Nat.le_refl _) _).alloc (by simp) _)
  generalize (V2.alloc (.cells #[] 5)).alloc (.cells #[.int .u8 (a : Int), .int .u8 (v : Int)] 5) = V3 at HO3 HS3 HV3 ⊢
  have hc := Oct.one_any (.slice (some ⟨V2.heap.size, 0, none⟩) 0 0) (some ⟨V2.heap.size + 1, 0, none⟩) 2 V2.heap.size [] (ints [a, v]) V3 HO3.out HS3.out (by simp [ints]) HV3.out.size
  rw [List.nil_append] at hc
  refine hc.mono ?_
  clear hc HS3
  rintro e V4 ⟨v4, rfl, hO4, hG4, hL4⟩
  have HO4 := Lib.hid (Own.ofOct hO4)
  have HV4 : Hid (Below V2.heap.size V2 V4) := Lib.hid (HV3.out.trans (Oct.grown_below hG4 HV3.out.size (fun g hg => (World.ownsRow.lt HO3.out g hg).1)))
  clear hO4 hG4 hL4 HO3 HV3 V3
  have hV4 : V2.heap.size ≤ V4.heap.size := HV4.out.size
  have HO24 : Hid (Own V4 V.heap.size v2 (four n)) := Lib.hid (Own.ofOct (Oct.Own.below (Own.toOct HO2.out) HV4.out))
  obtain ⟨A2, c2, hv2, hc2, hs2⟩ := HO24.out.srcB (b := V4.heap.size) (Nat.le_refl _) (four_lt n hn)
  obtain ⟨A4, c4, hv4, hc4, hs4⟩ := HO4.out.srcB (b := V4.heap.size) (Nat.le_refl _) (by intro x hx; simp at hx; omega)
  rw [show (four n).length = 4 from rfl] at hv2
  rw [show [a, v].length = 2 from rfl] at hv4
  subst hv2
  subst hv4
  have HS2 := Lib.hid hs2
  have HS4 := Lib.hid hs4
  clear hs2 hs4 HO24 HO2 HO4
  have hsl := slice32p w.heap.size 0
  go_wp2_with fail
  have HC : Hid (Blk (V4.alloc (.cells #[.slice (some ⟨w.heap.size, 0, none⟩) 32 32, .slice A2 4 c2, .slice A4 2 c4] 30)) V4.heap.size 30 ([.slice (some ⟨w.heap.size, 0, none⟩) 32 32, .slice A2 4 c2, .slice A4 2 c4])) := Lib.hid (by
    have h := Blk.new V4 30 ([.slice (some ⟨w.heap.size, 0, none⟩) 32 32, .slice A2 4 c2, .slice A4 2 c4])
    exact h)
  have HV5 : Hid (Below V4.heap.size V4 (V4.alloc (.cells #[.slice (some ⟨w.heap.size, 0, none⟩) 32 32, .slice A2 4 c2, .slice A4 2 c4] 30))) := Lib.hid ((Below.refl _ _).alloc (Nat.le_refl _) _)
  generalize (V4.alloc (.cells #[.slice (some ⟨w.heap.size, 0, none⟩) 32 32, .slice A2 4 c2, .slice A4 2 c4] 30)) = V5 at HC HV5 ⊢
  have HW4 := Lib.hid ((HW.out.trans (HV2.out.mono (by omega))).trans (HV4.out.mono (by omega)))
  have HW5 := Lib.hid (HW4.out.trans (HV5.out.mono HW4.out.size))
  have HA5 : Hid (Blk V5 w.heap.size 43 (w8 seed ++ [.int .u32 (n : Int)])) := Lib.hid (((HA.out.below HV2.out (by omega)).below HV4.out (by omega)).below HV5.out (by omega))
  have HB5 := Lib.hid (((HB.out.below HV2.out (by omega)).below HV4.out (by omega)).below HV5.out (by omega))
  have h5 : V4.heap.size < V5.heap.size := HC.out.lt
  have HP5 := Lib.hid (Parts.three (b := V5.heap.size) (x1 := seed) (x2 := four n) (x3 := [a, v]) HC.out HL.out.symm rfl rfl (by omega) (by omega) hc2 hc4 (Src.blk HA5.out (by omega) HP.out 32 (by rw [HL.out]; omega)) ((HS2.out.below HV5.out).new (Nat.le_refl _)) ((HS4.out.below HV5.out).new (Nat.le_refl _)))
  refine (for_any 1 3 3 _ _ [seed, four n, [a, v]] V5 (Lib.hid (HT.out.below HW5.out HT.out.lt)) (by omega) HP5 (Lib.hid rfl) (by omega) (Lib.hid (by simp [HL.out, four]))).mono ?_
  rintro e V6 ⟨rfl, hB6⟩
  have HW6 := Lib.hid (HW5.out.trans (hB6.mono HW5.out.size))
  have HB6 := Lib.hid (HB5.out.below hB6 HB5.out.lt)
  clear hB6 hsl
  go_wp2_with fail
  refine (begin_any _ V6 (Lib.hid (sha_length _))).mono ?_
  rintro e V7 ⟨rfl, hB7⟩
  have HW7 := Lib.hid (HW6.out.trans (hB7.mono HW6.out.size))
  have HB7 := Lib.hid (HB6.out.below hB7 HB6.out.lt)
  clear hB7
  rw [show (sha (text 1 [seed, four n, [a, v]])).take 16 = secN seed n a v from rfl]
  have HS6 : Hid ((Tryd.prog.info? 53).map (·.size) = some (w8 (secN seed n a v)).toArray.size) := Lib.hid (by rw [List.size_toArray, w8_length, secN_length]; exact info53)
  have HZ6 : Hid ((w8 (List.replicate 16 0)).toArray.size = (w8 (secN seed n a v)).toArray.size) := Lib.hid (by rw [List.size_toArray, List.size_toArray, w8_length, w8_length, secN_length]; simp)
  have HO6 := Lib.hid (all_oneCell_toArray (w8_one (secN seed n a v)))
  go_wp2_with (first | (refine wpList_store_row rfl 53 (.tmp 6) (.tmp 27) rfl (w.heap.size + 1) (w8 (secN seed n a v)).toArray rfl rfl 53 _ HB7.out HS6.out HZ6.out HO6.out ?_))
  exact bodyPost_ret (v := .agg (w8 (secN seed n a v)).toArray) (results_cell_row Tryd.results66 _ _ (w.heap.size + 1) 53 (w8 (secN seed n a v)).toArray (0, 0) _ rfl (HB7.out.setRow _) Tryd.underlying53 rfl HS6.out) rfl ⟨rfl, below_setRow HW7.out (by omega) _⟩

theorem i64_and1 (n : Int) : bits .and .i64 n 1 = n % 2 := by
  have h1 : (BitVec.ofInt 64 1).toNat = 2 ^ 1 - 1 := by decide
  have key : (BitVec.ofInt 64 n &&& BitVec.ofInt 64 1).toNat = (n % ((2 ^ 64 : Nat) : Int)).toNat % 2 ^ 1 := by
    rw [BitVec.toNat_and, BitVec.toNat_ofInt, h1, Nat.and_two_pow_sub_one_eq_mod]
  show IntKind.i64.wrap ((BitVec.ofInt 64 n &&& BitVec.ofInt 64 1).toNat : Nat) = n % 2
  rw [key, IntKind.wrap_i64]
  omega
theorem bit_num (x r : Nat) (hx : x < 256) : bits .and .i64 (wrap64 ((x : Int) / 2 ^ (7 - r))) 1 = ((x / 2 ^ (7 - r) % 2 : Nat) : Int) := by
  have e : (x : Int) / 2 ^ (7 - r) = ((x / 2 ^ (7 - r) : Nat) : Int) := by simp
  have h := Nat.div_le_self x (2 ^ (7 - r))
  rw [e]
  generalize x / 2 ^ (7 - r) = y at *
  rw [ IntWalk.wrap64_in _ ⟨by omega, by omega⟩, i64_and1]
  omega
set_option maxRecDepth 100000 in
set_option maxHeartbeats 4000000 in
theorem bitAt_any (d : List Nat) (a : Nat) (w : World) (HL : Hid (d.length = 32)) (HP : Hid (∀ x ∈ d, x < 256)) (ha : a < 32) :
    Calls Tryd.prog 71 #[.agg (w8 d).toArray, .int .i64 (a : Int)] w fun e w' => e = .returned (.int .i64 ((bitN d a : Nat) : Int)) ∧ Below w.heap.size w w' := by
  have a1 : (a : Int) < 32 := by omega
  obtain ⟨q, hq⟩ : ∃ q, a / 8 = q := ⟨_, rfl⟩
  obtain ⟨r, hr⟩ : ∃ r, a % 8 = r := ⟨_, rfl⟩
  have q1 : (a : Int).tdiv 8 = (q : Int) := by rw [Int.tdiv_eq_ediv_of_nonneg (by omega)]; omega
  have r1 : (a : Int).tmod 8 = (r : Int) := by rw [Int.tmod_eq_emod_of_nonneg (by omega)]; omega
  have q2 : q < 4 := by omega
  have r2 : r < 8 := by omega
  obtain ⟨x, hx⟩ : ∃ x, d.getD q 0 = x := ⟨_, rfl⟩
  have hxl : x < 256 := by rw [← hx]; exact getD_lt (by omega) HP.out q
  have HA : Hid (Blk (w.alloc (.cells (w8 d).toArray 36)) w.heap.size 36 (w8 d)) := Lib.hid (Blk.new w 36 (w8 d))
  have HW : Hid (Below w.heap.size w (w.alloc (.cells (w8 d).toArray 36))) := Lib.hid ((Below.refl _ _).alloc (Nat.le_refl _) _)
  have hc : (w.alloc (.cells (w8 d).toArray 36)).cell? ⟨w.heap.size, q, none⟩ = some (.int .u8 (x : Int)) := by
    rw [HA.out.cell, w8_get d q (by rw [HL.out]; omega), hx]
  have HE : Hid (bitN d a = x / 2 ^ (7 - r) % 2) := Lib.hid (by unfold bitN; rw [hq, hr, hx])
  go_enter Tryd.func71, Tryd.ntmps71
  go_upto_region 1 with fail
  generalize w.alloc (.cells (w8 d).toArray 36) = V at HA HW hc ⊢
  go_wp2
  rw [bit_num x r hxl]
  go_ret
  exact ⟨by rw [HE.out]; rfl, HW.out⟩

theorem info43 : (Tryd.prog.info? 43).map (·.size) = some 33 := by kernel_rfl
theorem keyC_length (seed : List Nat) (n : Nat) (h : seed.length = 32) : (keyC seed n).length = 33 := by simp [keyC, w8_length, h]
theorem keyC_one (seed : List Nat) (n : Nat) : ∀ v ∈ keyC seed n, v.oneCell' = true := by
  intro v hv
  rcases List.mem_append.1 hv with h | h
  · exact w8_one seed v h
  · simp at h
    subst h
    rfl
theorem foldseg (off : Nat) (post : List Value) : ∀ (vs : List Value) (p : Nat) (pre old : List Value), pre.length = off + p → old.length = vs.length →
    (vs.zipIdx p).foldl (fun (cs : Array Value) (cj : Value × Nat) => cs.setIfInBounds (off + cj.2) cj.1) (pre ++ (old ++ post)).toArray = (pre ++ (vs ++ post)).toArray
  | [], p, pre, old, _, hl => by
    have : old = [] := List.eq_nil_of_length_eq_zero hl
    subst this
    rfl
  | v :: vs, p, pre, [], _, hl => by simp at hl
  | v :: vs, p, pre, o :: old, hp, hl => by
    rw [List.zipIdx_cons, List.foldl_cons]
    have e : (pre ++ (o :: old ++ post)).toArray.setIfInBounds (off + p) v = ((pre ++ [v]) ++ (old ++ post)).toArray := by
      rw [← hp]
      simp
    rw [e, foldseg off post vs (p + 1) (pre ++ [v]) old (by simp; omega) (by simpa using hl)]
    simp
theorem fill_part (place : Nat → Option (Nat × Nat)) (pre old post vs : List Value) (i : Nat) (v : Value) (rest : List (Nat × Value)) (hv : v.cells = vs.toArray) (hp : place i = some (pre.length, vs.length)) (hl : old.length = vs.length) :
    Instr.fill place (pre ++ (old ++ post)).toArray ((i, v) :: rest) = Instr.fill place (pre ++ (vs ++ post)).toArray rest := by
  rw [Instr.fill.eq_2, hp]
  simp only [hv, List.size_toArray]
  rw [if_neg (by simp [hl]), ← Array.foldl_toList]
  have e : vs.toArray.zipIdx.toList = vs.zipIdx 0 := by simp
  rw [e, foldseg pre.length post vs 0 pre old (by simp) hl]
theorem fill_none (place : Nat → Option (Nat × Nat)) (cs : Array Value) : Instr.fill place cs [] = some cs := rfl
theorem built43 (parts : List (Nat × Value)) : Tryd.prog.built 43 parts = Instr.fill (#[(0, 32), (32, 1)][·]?) ((w8 (List.replicate 32 0)) ++ ([Value.int .u32 0] ++ [])).toArray parts := by kernel_rfl
theorem build43 (seed : List Nat) (n : Nat) (h : seed.length = 32) (w : World) : (Instr.build 43 #[(0, .agg (w8 seed).toArray), (1, .int .u32 (n : Int))]).run Tryd.prog w = .ok (.agg (keyC seed n).toArray) w := by
  refine run_build w 43 _ _ ?_
  rw [built43]
  have h1 := fill_part (#[(0, 32), (32, 1)][·]?) [] (w8 (List.replicate 32 0)) ([.int .u32 0] ++ []) (w8 seed) 0 (.agg (w8 seed).toArray) [(1, .int .u32 (n : Int))] rfl (by simp [w8_length, h]) (by simp [w8_length, h])
  rw [List.nil_append, List.nil_append] at h1
  refine h1.trans ?_
  rw [fill_part (#[(0, 32), (32, 1)][·]?) (w8 seed) [.int .u32 0] [] [.int .u32 (n : Int)] 1 (.int .u32 (n : Int)) [] rfl (by simp [w8_length, h]) rfl, fill_none]
  rfl
def zkey : Array Value := #[.int .u8 0, .int .u8 0, .int .u8 0, .int .u8 0, .int .u8 0, .int .u8 0, .int .u8 0, .int .u8 0, .int .u8 0, .int .u8 0, .int .u8 0, .int .u8 0, .int .u8 0, .int .u8 0, .int .u8 0, .int .u8 0, .int .u8 0, .int .u8 0, .int .u8 0, .int .u8 0, .int .u8 0, .int .u8 0, .int .u8 0, .int .u8 0, .int .u8 0, .int .u8 0, .int .u8 0, .int .u8 0, .int .u8 0, .int .u8 0, .int .u8 0, .int .u8 0, .int .u32 0]
theorem zkey_eq : (keyC (List.replicate 32 0) 0).toArray = zkey := by kernel_rfl
theorem wpList_built {ops : Array Oper} {rest : List Oper} {o : Oper} {a : Act} {w : World} {Q : Exit → Act → World → Prop} (hgd : o.guard = none) (t : TypeId) (parts : Array (Nat × Operand)) (ho : o.op = .build t parts)
    (vals : Array (Nat × Value)) (hv : (parts.map fun (i, x) => (i, a.eval x)) = vals) (cells : Array Value) (hb : (Instr.build t vals).run Tryd.prog w = .ok (.agg cells) w)
    (h : wpList Tryd.prog ops Q rest (a.put o.dst (.agg cells)) w) : wpList Tryd.prog ops Q (o :: rest) a w := by
  refine wpList_plain hgd fun K hK => ?_
  have e : (execOp a.eval o).run Tryd.prog w = .ok (.value (.agg cells)) w := by
    unfold execOp
    simp only [ho, hv, Sem.run_bind, hb, Result.andThen_ok, Sem.run_pure]
  unfold Oper.wp
  rw [e]
  exact hK _ _ h
set_option maxRecDepth 100000 in
set_option maxHeartbeats 4000000 in
theorem lampnew_any (seed : List Nat) (n : Nat) (w : World) (HL : Hid (seed.length = 32)) (hn : n < 4294967296) :
    Calls Tryd.prog 20 #[.agg (w8 seed).toArray, .int .u32 (n : Int)] w fun e w' => e = .returned (.agg (keyC seed n).toArray) ∧ Below w.heap.size w w' := by
  have hb := build43 seed n HL.out
  go_enter Tryd.func20, Tryd.ntmps20
  go_upto_region 1 with fail
  have HA : Hid (Blk ((w.alloc (.cells (w8 seed).toArray 29)).alloc (.cells zkey 43)) w.heap.size 29 (w8 seed)) := Lib.hid (by
    have h := (Blk.new w 29 (w8 seed)).alloc (.cells zkey 43)
    exact h)
  have HB : Hid (Blk ((w.alloc (.cells (w8 seed).toArray 29)).alloc (.cells zkey 43)) (w.heap.size + 1) 43 (keyC (List.replicate 32 0) 0)) := Lib.hid (by
    have h := Blk.new (w.alloc (.cells (w8 seed).toArray 29)) 43 (keyC (List.replicate 32 0) 0)
    rw [zkey_eq, World.size_alloc] at h
    exact h)
  have HW : Hid (Below w.heap.size w ((w.alloc (.cells (w8 seed).toArray 29)).alloc (.cells zkey 43))) := Lib.hid (((Below.refl _ _).alloc (Nat.le_refl _) _).alloc (by simp) _)
  unfold zkey at HA HB HW
  generalize ((w.alloc (.cells (w8 seed).toArray 29)).alloc (.cells _ 43)) = V at HA HB HW ⊢
  have HRG := Lib.hid HA.out.all
  have HS5 : Hid ((Tryd.prog.info? 29).map (·.size) = some (w8 seed).length) := Lib.hid (by rw [w8_length, HL.out]; exact info29)
  have HS6 : Hid ((Tryd.prog.info? 43).map (·.size) = some (keyC seed n).toArray.size) := Lib.hid (by rw [List.size_toArray, keyC_length _ _ HL.out]; exact info43)
  have HZ6 : Hid ((keyC (List.replicate 32 0) 0).toArray.size = (keyC seed n).toArray.size) := Lib.hid (by rw [List.size_toArray, List.size_toArray, keyC_length _ _ HL.out, keyC_length _ _ (by simp)])
  have HO6 := Lib.hid (all_oneCell_toArray (keyC_one seed n))
  go_wp2_with (first | (refine wpList_load_mid rfl 29 (.tmp 2) rfl w.heap.size 0 rfl (w8 seed) _ HRG.out Tryd.underlying29 rfl HS5.out ?_) | (refine wpList_built rfl 43 #[(0, .tmp 5), (1, .tmp 6)] rfl #[(0, .agg (w8 seed).toArray), (1, .int .u32 (n : Int))] (by simp [Act.eval]) _ (hb _) ?_) | (refine wpList_store_row rfl 43 (.tmp 4) (.tmp 7) rfl (w.heap.size + 1) (keyC seed n).toArray rfl rfl 43 _ HB.out HS6.out HZ6.out HO6.out ?_))
  exact bodyPost_ret (v := .agg (keyC seed n).toArray) (results_cell_row Tryd.results20 _ _ (w.heap.size + 1) 43 (keyC seed n).toArray (0, 0) _ rfl (HB.out.setRow _) Tryd.underlying43 rfl HS6.out) rfl ⟨rfl, below_setRow HW.out (by omega) _⟩
end Go.Proofs.YtkonokjhpddbfaaDoor
namespace Go.Proofs.YtkonokjhpddbfaaDoor
open Go.RowKit
set_option linter.unusedVariables false

/-- A part of a row of bytes in a block, read as a slice. -/
theorem Src.mid {w : World} {b g : Nat} {t : TypeId} {S : List Nat} (h : Blk w g t (w8 S)) (hb : g ≠ b) (hl : ∀ x ∈ S, x < 256) (o n : Nat) (hn : o + n ≤ S.length) : Src w b (some ⟨g, o, none⟩) n ((S.drop o).take n) := by
  have e : ((S.drop o).take n).length = n := by simp; omega
  refine ⟨by omega, .inr ⟨g, o, rfl, h.lt, hb, fun i hi => ?_⟩, fun x hx => hl x (List.mem_of_mem_drop (List.mem_of_mem_take hx))⟩
  rw [e] at hi
  rw [h.cell, w8_get S (o + i) (by omega)]
  simp only [List.getD, List.getElem?_take, hi, if_true, List.getElem?_drop]
theorem pcs_two (T : List Nat) (k : Nat) : (T.take (k * 32) ++ (T.drop (k * 32)).take 16) ++ (T.drop (k * 32 + 16)).take 16 = T.take ((k + 1) * 32) := by
  rw [show (k + 1) * 32 = k * 32 + (16 + 16) by omega, List.take_add, List.take_add, List.drop_drop, List.append_assoc]

set_option maxRecDepth 100000 in
set_option maxHeartbeats 4000000 in
theorem pleaf_any (T : List Nat) (w : World) (HT : Hid (Tab w)) (HL : Hid (T.length = 1024)) (HP : Hid (∀ x ∈ T, x < 256)) :
    Calls Tryd.prog 67 #[.agg (w8 T).toArray] w fun e w' => e = .returned (.agg (w8 (sha (text 2 [T]))).toArray) ∧ Below w.heap.size w w' := by
  go_enter Tryd.func67, Tryd.ntmps67
  go_upto_region 1 with fail
  have HA : Hid (Blk ((w.alloc (.cells (w8 T).toArray 122)).alloc (.cells zsum 36)) w.heap.size 122 (w8 T)) := Lib.hid (by
    have h := (Blk.new w 122 (w8 T)).alloc (.cells zsum 36)
    exact h)
  have HB : Hid (Blk ((w.alloc (.cells (w8 T).toArray 122)).alloc (.cells zsum 36)) (w.heap.size + 1) 36 (w8 (List.replicate 32 0))) := Lib.hid (by
    have h := Blk.new (w.alloc (.cells (w8 T).toArray 122)) 36 (w8 (List.replicate 32 0))
    rw [zsum_eq, World.size_alloc] at h
    exact h)
  have HW : Hid (Below w.heap.size w ((w.alloc (.cells (w8 T).toArray 122)).alloc (.cells zsum 36))) := Lib.hid (((Below.refl _ _).alloc (Nat.le_refl _) _).alloc (by simp) _)
  unfold zsum at HA HB HW
  generalize ((w.alloc (.cells (w8 T).toArray 122)).alloc (.cells _ 36)) = V at HA HB HW ⊢
  have hV : w.heap.size + 1 < V.heap.size := HB.out.lt
  go_wp2_with fail
  go_loopw [6, 3, 4, 5] (fun i t _ _ wr => ∃ (k : Nat), k ≤ 32 ∧ i = .int .i64 k ∧ Hid (Own wr V.heap.size t (T.take (k * 32))) ∧ Hid (Below V.heap.size V wr)) (fun i _ _ _ _ => 32 - (intOf i).toNat)
  case atStart => exact ⟨0, Nat.zero_le _, rfl, Lib.hid (by rw [Nat.zero_mul, List.take_zero]; exact Own.nil _ _), Lib.hid (Below.refl _ _)⟩
  case round =>
    obtain ⟨k, hk, rfl, HO, HW2⟩ := hrel
    by_cases hlt : k < 32
    · have k1 : (k : Int) < 32 := by omega
      have hw2 : V.heap.size ≤ wr.heap.size := HW2.out.size
      have HAR := Lib.hid (HA.out.below HW2.out (by omega))
      have HS0 : Hid (Src wr V.heap.size (some ⟨w.heap.size, k * 32, none⟩) 16 ((T.drop (k * 32)).take 16)) := Lib.hid (Src.mid HAR.out (by omega) HP.out (k * 32) 16 (by rw [HL.out]; omega))
      have HN0 : Hid (16 = ((T.drop (k * 32)).take 16).length) := Lib.hid (by rw [List.length_take, List.length_drop, HL.out]; omega)
      have HM0 : Hid ((T.take (k * 32)).length + ((T.drop (k * 32)).take 16).length ≤ 140737488355328) := Lib.hid (by rw [List.length_take, List.length_take, List.length_drop, HL.out]; omega)
      go_wp2_with fail
      refine wp_loop_rounds 3 ?_
      rw [rounds_succ]
      go_wp2_with (at_builtin; refine wpList_app rfl (.tmp 12) (.tmp 17) rfl V.heap.size V.heap.size _ _ ((T.drop (k * 32)).take 16) rfl HO.out (some ⟨w.heap.size, k * 32, none⟩) 16 16 rfl HN0.out HS0.out HM0.out HW2.out.size ?_)
      intro v3 w3 HO3 HG3 HL3
      have HW3 : Hid (Below V.heap.size V w3) := Lib.hid (HW2.out.grown HG3.out HW2.out.size fun g' hg' => (HO.out.base_ hg').1)
      have HAR3 := Lib.hid (HA.out.below HW3.out (by omega))
      have HS1 : Hid (Src w3 V.heap.size (some ⟨w.heap.size, k * 32 + 16, none⟩) 16 ((T.drop (k * 32 + 16)).take 16)) := Lib.hid (Src.mid HAR3.out (by omega) HP.out (k * 32 + 16) 16 (by rw [HL.out]; omega))
      have HN1 : Hid (16 = ((T.drop (k * 32 + 16)).take 16).length) := Lib.hid (by rw [List.length_take, List.length_drop, HL.out]; omega)
      have HM1 : Hid ((T.take (k * 32) ++ (T.drop (k * 32)).take 16).length + ((T.drop (k * 32 + 16)).take 16).length ≤ 140737488355328) := Lib.hid (by rw [List.length_append, List.length_take, List.length_take, List.length_take, List.length_drop, List.length_drop, HL.out]; omega)
      clear HG3 HL3
      go_wp2_with fail
      rw [rounds_succ]
      go_wp2_with (at_builtin; refine wpList_app rfl (.tmp 12) (.tmp 17) rfl V.heap.size V.heap.size _ _ ((T.drop (k * 32 + 16)).take 16) rfl HO3.out (some ⟨w.heap.size, k * 32 + 16, none⟩) 16 16 rfl HN1.out HS1.out HM1.out HW3.out.size ?_)
      intro v4 w4 HO4 HG4 HL4
      have HW4 : Hid (Below V.heap.size V w4) := Lib.hid (HW3.out.grown HG4.out HW3.out.size fun g' hg' => (HO3.out.base_ hg').1)
      have HO5 : Hid (Own w4 V.heap.size v4 (T.take ((k + 1) * 32))) := Lib.hid (by rw [← pcs_two, List.append_assoc]; exact HO4.out)
      clear HG4 HL4 HO4 HO3 HO
      go_wp2_with fail
      rw [rounds_succ]
      go_wp2
      go_roundw
      case rel => exact ⟨k + 1, by omega, by go_num, HO5, HW4⟩
      case measure => simp [intOf]; omega
    · obtain rfl : k = 32 := by omega
      have htk : T.take (32 * 32) = T := List.take_of_length_le (by rw [HL.out]; omega)
      rw [htk] at HO
      clear htk
      obtain ⟨A5, c5, hv5, hc5, hs5⟩ := HO.out.srcB (b := wr.heap.size + 1) (by omega) HP.out
      rw [HL.out] at hv5
      subst hv5
      have HS5 := Lib.hid hs5
      have hw2 : V.heap.size ≤ wr.heap.size := HW2.out.size
      clear hs5
      go_wp2_with fail
      have HC : Hid (Blk (wr.alloc (.cells #[.slice A5 1024 c5] 30)) wr.heap.size 30 ([.slice A5 1024 c5])) := Lib.hid (by
        have h := Blk.new wr 30 ([.slice A5 1024 c5])
        exact h)
      have HV1 : Hid (Below wr.heap.size wr (wr.alloc (.cells #[.slice A5 1024 c5] 30))) := Lib.hid ((Below.refl _ _).alloc (Nat.le_refl _) _)
      generalize (wr.alloc (.cells #[.slice A5 1024 c5] 30)) = V1 at HC HV1 ⊢
      have HW1 := Lib.hid (HW.out.trans ((HW2.out.trans (HV1.out.mono hw2)).mono (by omega)))
      have HP1 := Lib.hid (Parts.one (b := wr.heap.size + 1) (x := T) HC.out HL.out.symm (by omega) hc5 (HS5.out.below HV1.out))
      have HB1 := Lib.hid ((HB.out.below HW2.out (by omega)).below HV1.out (by omega))
      refine (for_any 2 1 1 _ _ [T] V1 (Lib.hid (HT.out.below HW1.out HT.out.lt)) (by omega) HP1 (Lib.hid rfl) (by omega) (Lib.hid (by simp [HL.out]))).mono ?_
      rintro e V2 ⟨rfl, hB2⟩
      have HW3 := Lib.hid (HW1.out.trans (hB2.mono HW1.out.size))
      have HB3 := Lib.hid (HB1.out.below hB2 HB1.out.lt)
      clear hB2
      have HS6 : Hid ((Tryd.prog.info? 36).map (·.size) = some (w8 (sha (text 2 [T]))).toArray.size) := Lib.hid (by rw [List.size_toArray, w8_length, sha_length]; exact info36)
      have HZ6 : Hid ((w8 (List.replicate 32 0)).toArray.size = (w8 (sha (text 2 [T]))).toArray.size) := Lib.hid (by rw [List.size_toArray, List.size_toArray, w8_length, w8_length, sha_length]; simp)
      have HO6 := Lib.hid (all_oneCell_toArray (w8_one (sha (text 2 [T]))))
      go_wp2_with (first | (refine wpList_store_row rfl 36 (.tmp 2) (.tmp 23) rfl (w.heap.size + 1) (w8 (sha (text 2 [T]))).toArray rfl rfl 36 _ HB3.out HS6.out HZ6.out HO6.out ?_))
      exact bodyPost_ret (v := .agg (w8 (sha (text 2 [T]))).toArray) (results_cell_row Tryd.results67 _ _ (w.heap.size + 1) 36 (w8 (sha (text 2 [T]))).toArray (0, 0) _ rfl (HB3.out.setRow _) Tryd.underlying36 rfl HS6.out) rfl ⟨rfl, below_setRow HW3.out (by omega) _⟩

/-- A call at a step of a region that draws its order. -/
theorem step_call {ops : Array Oper} {o : Oper} {a : Act} {w : World} {K : Act → World → Prop} {Q : Exit → Act → World → Prop} {E : Prop} (hw : Region.wanted o (yielded ops a.tmps) = true) (f : FuncId) (args : Array Operand) (tys : Array TypeId)
    (ho : o.op = .call { callee := .value (.func f), args := args, argTypes := tys }) (vs : Array Value) (hv : args.map a.eval = vs) {R : Ending → World → Prop} (hf : (callFunc f vs).run Tryd.prog w = .ok (.enter f vs) w) (hc : Calls Tryd.prog f vs w R)
    (hR : ∀ e w', R e w' → ∃ v, e = .returned v ∧ K (a.put o.dst v) w') :
    if Region.wanted o (yielded ops a.tmps) = true then Oper.wp Tryd.prog o a w K Q else E := by
  rw [if_pos hw]
  have e : (execOp a.eval o).run Tryd.prog w = .ok (.enter f vs) w := by
    unfold execOp
    simp only [ho]
    go_simp
    first | done | (rw [hv]; exact hf)
  unfold Oper.wp
  rw [e, Oper.upon_enter]
  refine hc.mono ?_
  intro e w' hr
  obtain ⟨v, rfl, hv⟩ := hR e w' hr
  exact hv
theorem step_store_mid {ops : Array Oper} {o : Oper} {a : Act} {w : World} {K : Act → World → Prop} {Q : Exit → Act → World → Prop} {E : Prop} (hw : Region.wanted o (yielded ops a.tmps) = true) (ty : TypeId) (x y : Operand) (ho : o.op = .store ty x y)
    (b off : Nat) (vs : List Value) (hx : a.eval x = .pointer (some ⟨b, off, none⟩)) (hy : a.eval y = .agg vs.toArray) (ht : w.there b off vs.length) (hi : (Tryd.prog.info? ty).map (·.size) = some vs.length) (h1 : ∀ v ∈ vs, v.oneCell' = true)
    (h : K (a.put o.dst undef) (w.setCells b off vs)) : if Region.wanted o (yielded ops a.tmps) = true then Oper.wp Tryd.prog o a w K Q else E := by
  rw [if_pos hw]
  exact wp_store_mid ty x y ho b off vs.toArray hx hy (by simpa using ht) (by simpa using hi) (all_oneCell_toArray h1) h
theorem wpList_put_mid {ops : Array Oper} {rest : List Oper} {op : Oper} {a : Act} {w : World} {Q : Exit → Act → World → Prop} (hgd : op.guard = none) (ty : TypeId) (x y : Operand) (ho : op.op = .store ty x y)
    (b o : Nat) (vs : List Value) (hx : a.eval x = .pointer (some ⟨b, o, none⟩)) (hy : a.eval y = .agg vs.toArray)
    (ht : w.there b o vs.length) (hi : (Tryd.prog.info? ty).map (·.size) = some vs.length) (h1 : ∀ v ∈ vs, v.oneCell' = true)
    (h : wpList Tryd.prog ops Q rest (a.put op.dst undef) (w.setCells b o vs)) : wpList Tryd.prog ops Q (op :: rest) a w :=
  wpList_store_mid hgd ty x y ho b o vs.toArray hx hy (by simpa using ht) (by simpa using hi) (all_oneCell_toArray h1) h
theorem Blk.setMid {g : Nat} {t : TypeId} (post : List Value) : ∀ (vs : List Value) (w : World) (pre old : List Value), old.length = vs.length → Blk w g t (pre ++ (old ++ post)) → Blk (w.setCells g pre.length vs) g t (pre ++ (vs ++ post))
  | [], w, pre, old, hl, h => by
    have : old = [] := List.eq_nil_of_length_eq_zero (by simpa using hl)
    subst this
    exact h
  | v :: r, w, pre, [], hl, h => by simp at hl
  | v :: r, w, pre, x :: old, hl, h => by
    have h1 := h.set_ pre.length v
    rw [List.set_append_right _ _ (Nat.le_refl _), Nat.sub_self, List.cons_append, List.set_cons_zero] at h1
    have h2 := Blk.setMid post r (w.setCell ⟨g, pre.length, none⟩ v) (pre ++ [v]) old (by simpa using hl) (by simpa using h1)
    simp only [List.length_append, List.length_cons, List.length_nil, List.append_assoc, List.cons_append, List.nil_append] at h2
    exact h2
theorem Blk.put8 {w : World} {g : Nat} {t : TypeId} (pre old post x : List Nat) (h : Blk w g t (w8 (pre ++ (old ++ post)))) (hl : old.length = x.length) (o : Nat) (ho : pre.length = o) : Blk (w.setCells g o (w8 x)) g t (w8 (pre ++ (x ++ post))) := by
  rw [← w8_append, ← w8_append] at h ⊢
  have e := Blk.setMid (w8 post) (w8 x) w (w8 pre) (w8 old) (by rw [w8_length, w8_length, hl]) h
  rw [w8_length, ho] at e
  exact e
theorem Blk.farCells {w : World} {g b o : Nat} {t : TypeId} {cs : List Value} (h : Blk w g t cs) (hb : g ≠ b) : ∀ (vs : List Value), Blk (w.setCells b o vs) g t cs := by
  intro vs
  induction vs generalizing w o with
  | nil => exact h
  | cons v r ih => exact ih (w := w.setCell ⟨b, o, none⟩ v) (o := o + 1) (h.far hb v)
theorem below_cells {B g : Nat} {w0 : World} : ∀ (vs : List Value) (o : Nat) (w : World), Below B w0 w → B ≤ g → Below B w0 (w.setCells g o vs)
  | [], _, _, h, _ => h
  | v :: r, o, w, h, hg => below_cells r (o + 1) _ (h.setCell (p := ⟨g, o, none⟩) hg v) hg
theorem zc122 : (w8 (List.replicate 1024 0)).toArray = Tryd.zeroCells122 := by kernel_rfl
theorem zc56 : (w8 (List.replicate 1024 0)).toArray = Tryd.zeroCells56 := by kernel_rfl
theorem info122 : (Tryd.prog.info? 122).map (·.size) = some 1024 := by kernel_rfl
theorem info56 : (Tryd.prog.info? 56).map (·.size) = some 1024 := by kernel_rfl
theorem zeros_cut (n m : Nat) (h : m ≤ n) : List.replicate n 0 = List.replicate m 0 ++ List.replicate (n - m) 0 := by rw [List.replicate_append_replicate]; congr 1; omega

/-- The pairs so far. -/
def pairC (f : Nat → List Nat) (k : Nat) : List Nat := rows f k ++ List.replicate (1024 - 32 * k) 0
theorem pairC_open (f : Nat → List Nat) (k : Nat) (hk : k < 32) : pairC f k = rows f k ++ (List.replicate 16 0 ++ (List.replicate 16 0 ++ List.replicate (1024 - 32 * (k + 1)) 0)) := by
  unfold pairC
  rw [zeros_cut (1024 - 32 * k) 16 (by omega), zeros_cut (1024 - 32 * k - 16) 16 (by omega), show 1024 - 32 * k - 16 - 16 = 1024 - 32 * (k + 1) by omega]
theorem pairC_shut (f : Nat → List Nat) (k : Nat) (x y : List Nat) (h : f k = x ++ y) : rows f k ++ (x ++ (y ++ List.replicate (1024 - 32 * (k + 1)) 0)) = pairC f (k + 1) := by
  unfold pairC
  rw [rows_succ, h]
  simp
theorem pairC_end (f : Nat → List Nat) : pairC f 32 = rows f 32 := by simp [pairC]

set_option maxRecDepth 100000 in
set_option maxHeartbeats 1000000 in
theorem leaf_any (seed : List Nat) (n : Nat) (w : World) (HT : Hid (Tab w)) (HL : Hid (seed.length = 32)) (HP : Hid (∀ x ∈ seed, x < 256)) (hn : n < 4294967296) :
    Calls Tryd.prog 22 #[.agg (keyC seed n).toArray] w fun e w' => e = .returned (.agg (w8 (leafN seed n)).toArray) ∧ Below w.heap.size w w' := by
  have HKS : Hid ((Tryd.prog.info? 43).map (·.size) = some (keyC seed n).length) := Lib.hid (by rw [keyC_length _ _ HL.out]; exact info43)
  go_enter Tryd.func22, Tryd.ntmps22
  go_upto_region 2 with fail
  have HA : Hid (Blk (((w.alloc (.cells (keyC seed n).toArray 43)).alloc (.cells zsum 36)).alloc (.cells Tryd.zeroCells122 122)) w.heap.size 43 (keyC seed n)) := Lib.hid (by
    have h := ((Blk.new w 43 (keyC seed n)).alloc (.cells zsum 36)).alloc (.cells Tryd.zeroCells122 122)
    exact h)
  have HB : Hid (Blk (((w.alloc (.cells (keyC seed n).toArray 43)).alloc (.cells zsum 36)).alloc (.cells Tryd.zeroCells122 122)) (w.heap.size + 1) 36 (w8 (List.replicate 32 0))) := Lib.hid (by
    have h := (Blk.new (w.alloc (.cells (keyC seed n).toArray 43)) 36 (w8 (List.replicate 32 0))).alloc (.cells Tryd.zeroCells122 122)
    rw [zsum_eq, World.size_alloc] at h
    exact h)
  have HC : Hid (Blk (((w.alloc (.cells (keyC seed n).toArray 43)).alloc (.cells zsum 36)).alloc (.cells Tryd.zeroCells122 122)) (w.heap.size + 1 + 1) 122 (w8 (List.replicate 1024 0))) := Lib.hid (by
    have h := Blk.new ((w.alloc (.cells (keyC seed n).toArray 43)).alloc (.cells zsum 36)) 122 (w8 (List.replicate 1024 0))
    rw [zc122, World.size_alloc, World.size_alloc] at h
    exact h)
  have HW : Hid (Below w.heap.size w (((w.alloc (.cells (keyC seed n).toArray 43)).alloc (.cells zsum 36)).alloc (.cells Tryd.zeroCells122 122))) := Lib.hid ((((Below.refl _ _).alloc (Nat.le_refl _) _).alloc (by simp) _).alloc (by simp; omega) _)
  unfold zsum at HA HB HC HW
  generalize (((w.alloc (.cells (keyC seed n).toArray 43)).alloc (.cells _ 36)).alloc (.cells Tryd.zeroCells122 122)) = V at HA HB HC HW ⊢
  have hV : w.heap.size + 1 + 1 < V.heap.size := HC.out.lt
  obtain ⟨f, hf⟩ : ∃ f : Nat → List Nat, f = fun a => covN (secN seed n a 0) ++ covN (secN seed n a 1) := ⟨_, rfl⟩
  have HF : Hid (∀ a, f a = covN (secN seed n a 0) ++ covN (secN seed n a 1)) := Lib.hid fun a => by rw [hf]
  have HFL : Hid (∀ a, (f a).length = 32) := Lib.hid fun a => by rw [hf]; simp [covN_length]
  have HFR : Hid (leafN seed n = sha (text 2 [rows f 32])) := Lib.hid (by unfold leafN leafT; rw [hf])
  clear hf
  have HI : Hid (∀ a v : Nat, a < 32 → v < 2 → ∀ X : World, Below w.heap.size w X → Calls Tryd.prog 66 #[.agg (keyC seed n).toArray, .int .i64 (a : Int), .int .i64 (v : Int)] X fun e w' => e = .returned (.agg (w8 (secN seed n a v)).toArray) ∧ Below X.heap.size X w') := Lib.hid fun a v ha hv X hX => secret_any seed n a v X (Lib.hid (HT.out.below hX HT.out.lt)) HL HP hn ha hv
  have HI2 : Hid (∀ a v : Nat, ∀ X : World, Below w.heap.size w X → Calls Tryd.prog 65 #[.agg (w8 (secN seed n a v)).toArray] X fun e w' => e = .returned (.agg (w8 (covN (secN seed n a v))).toArray) ∧ Below X.heap.size X w') := Lib.hid fun a v X hX => knownBy_any _ X (Lib.hid (HT.out.below hX HT.out.lt)) (Lib.hid (secN_length _ _ _ _)) (Lib.hid (secN_lt _ _ _ _))
  go_wp2_with fail
  go_loopw [6, 4, 5] (fun i _ _ wr => ∃ (k : Nat), k ≤ 32 ∧ i = .int .i64 k ∧ Hid (Blk wr w.heap.size 43 (keyC seed n)) ∧ Hid (Blk wr (w.heap.size + 1) 36 (w8 (List.replicate 32 0))) ∧ Hid (Blk wr (w.heap.size + 1 + 1) 122 (w8 (pairC f k))) ∧ Hid (Below w.heap.size w wr)) (fun i _ _ _ => 32 - (intOf i).toNat)
  case atStart => exact ⟨0, Nat.zero_le _, rfl, HA, HB, HC, HW⟩
  case round =>
    clear HA HB HC HW hV
    obtain ⟨k, hk, rfl, HA, HB, HC, HW⟩ := hrel
    by_cases hlt : k < 32
    · have k1 : (k : Int) < 32 := by omega
      have HC0 : Hid (Blk wr (w.heap.size + 1 + 1) 122 (w8 (rows f k ++ (List.replicate 16 0 ++ (List.replicate 16 0 ++ List.replicate (1024 - 32 * (k + 1)) 0))))) := Lib.hid (by rw [← pairC_open f k hlt]; exact HC.out)
      have HRL : Hid ((rows f k).length = 32 * k) := Lib.hid (rows_length HFL.out k)
      clear HC
      go_wp2_with fail
      refine wp_loop_rounds 3 ?_
      rw [rounds_succ]
      go_upto_region 8 with fail
      refine wp_region_held_drew (S := fun w' => Blk w' w.heap.size 43 (keyC seed n)) (by kernel_rfl) (HA.out.drewN 1) (fun hHeld => ?_)
      have HSX0a := Lib.hid hHeld
      refine wpAnyH_take (i := 0) (v := .int .i64 (k : Int)) rfl (by kernel_rfl) (by kernel_rfl) (by kernel_rfl) (fun _ _ _ h => h) (Or.inl ⟨by rfl, fun w _ => by rfl⟩) hHeld ?_
      show wpAnyH _ _ _ _ _ _ _ (Act.put _ (some 12) _) _
      simp only [Act.put, List.setIfInBounds_toArray, List.set_cons_zero, List.set_cons_succ]
      refine wpAnyH_take (i := 1) (v := .int .i64 0) rfl (by kernel_rfl) (by kernel_rfl) (by kernel_rfl) (fun _ _ _ h => h) (Or.inl ⟨by rfl, fun w _ => by rfl⟩) hHeld ?_
      show wpAnyH _ _ _ _ _ _ _ (Act.put _ (some 13) _) _
      simp only [Act.put, List.setIfInBounds_toArray, List.set_cons_zero, List.set_cons_succ]
      refine wpAnyH_take (i := 2) (v := .agg (keyC seed n).toArray) rfl (by kernel_rfl) (by kernel_rfl) (by kernel_rfl) (fun _ _ _ h => h) (yieldsIf_load_mid (by rfl) 43 (.tmp 1) rfl w.heap.size 0 rfl (keyC seed n) _ (fun w' h => Blk.all h) Tryd.underlying43 rfl HKS.out) hHeld ?_
      show wpAnyH _ _ _ _ _ _ _ (Act.put _ (some 14) _) _
      simp only [Act.put, List.setIfInBounds_toArray, List.set_cons_zero, List.set_cons_succ]
      refine wpAnyH_take (i := 3) (v := .int .i64 (k : Int)) rfl (by kernel_rfl) (by kernel_rfl) (by kernel_rfl) (fun _ _ _ h => h) (Or.inl ⟨by rfl, fun w _ => by rfl⟩) hHeld ?_
      show wpAnyH _ _ _ _ _ _ _ (Act.put _ (some 15) _) _
      simp only [Act.put, List.setIfInBounds_toArray, List.set_cons_zero, List.set_cons_succ]
      refine wpAnyH_take (i := 4) (v := .int .i64 0) rfl (by kernel_rfl) (by kernel_rfl) (by kernel_rfl) (fun _ _ _ h => h) (Or.inl ⟨by rfl, fun w _ => by rfl⟩) hHeld ?_
      show wpAnyH _ _ _ _ _ _ _ (Act.put _ (some 16) _) _
      simp only [Act.put, List.setIfInBounds_toArray, List.set_cons_zero, List.set_cons_succ]
      refine wpAnyH_take (i := 7) (v := .pointer (some ⟨w.heap.size + 1 + 1, k * 32, none⟩)) rfl (by kernel_rfl) (by kernel_rfl) (by kernel_rfl) (fun _ _ _ h => h) (Or.inl ⟨by rfl, by intro w' _; go_simp⟩) hHeld ?_
      show wpAnyH _ _ _ _ _ _ _ (Act.put _ (some 19) _) _
      simp only [Act.put, List.setIfInBounds_toArray, List.set_cons_zero, List.set_cons_succ]
      refine wpAnyH_ready (rs := [5]) (by kernel_rfl) (by simp) ?_
      refine AllReadyH.cons rfl (fun K hK => ?_) AllReadyH.nil
      refine step_call rfl 66 #[.tmp 14, .tmp 15, .tmp 16] #[43, 3, 3] rfl #[.agg (keyC seed n).toArray, .int .i64 (k : Int), .int .i64 0] (by simp [Act.eval]) (by go_simp) (HI.out k 0 hlt (by omega) _ (below_drewN HW.out 1)) ?_
      rintro e X0 ⟨rfl, hBX0⟩
      have HWX0 := Lib.hid ((below_drewN HW.out 1).trans (hBX0.mono (below_drewN HW.out 1).size))
      have HAX0 := Lib.hid (Blk.below (HA.out.drewN 1) hBX0 HA.out.lt)
      have HBX0 := Lib.hid (Blk.below (HB.out.drewN 1) hBX0 HB.out.lt)
      have HCX0 := Lib.hid (Blk.below (HC0.out.drewN 1) hBX0 HC0.out.lt)
      clear hBX0
      refine ⟨_, rfl, hK.out _ _ (HAX0.out) (fun hHeld => ?_)⟩
      clear hK K
      show wpAnyH _ _ _ _ _ _ _ (Act.put _ (some 17) _) _
      simp only [Act.put, List.setIfInBounds_toArray, List.set_cons_zero, List.set_cons_succ]
      refine wpAnyH_ready (rs := [6]) (by kernel_rfl) (by simp) ?_
      refine AllReadyH.cons rfl (fun K hK => ?_) AllReadyH.nil
      refine step_call rfl 65 #[.tmp 17] #[53] rfl #[.agg (w8 (secN seed n k 0)).toArray] (by simp [Act.eval]) (by go_simp) (HI2.out k 0 X0 HWX0.out) ?_
      rintro e Y0 ⟨rfl, hBY0⟩
      have HWY0 := Lib.hid (HWX0.out.trans (hBY0.mono HWX0.out.size))
      have HAY0 := Lib.hid (HAX0.out.below hBY0 HAX0.out.lt)
      have HBY0 := Lib.hid (HBX0.out.below hBY0 HBX0.out.lt)
      have HCY0 := Lib.hid (HCX0.out.below hBY0 HCX0.out.lt)
      clear hBY0
      refine ⟨_, rfl, hK.out _ _ (HAY0.out) (fun hHeld => ?_)⟩
      clear hK K
      show wpAnyH _ _ _ _ _ _ _ (Act.put _ (some 18) _) _
      simp only [Act.put, List.setIfInBounds_toArray, List.set_cons_zero, List.set_cons_succ]
      refine wpAnyH_take (i := 8) (v := .pointer (some ⟨w.heap.size + 1 + 1, k * 32, none⟩)) rfl (by kernel_rfl) (by kernel_rfl) (by kernel_rfl) (fun _ _ _ h => h) (Or.inl ⟨by rfl, by intro w' _; go_simp⟩) hHeld ?_
      show wpAnyH _ _ _ _ _ _ _ (Act.put _ (some 20) _) _
      simp only [Act.put, List.setIfInBounds_toArray, List.set_cons_zero, List.set_cons_succ]
      have HLY0 : Hid ((w8 (covN (secN seed n k 0))).length = 16) := Lib.hid (by rw [w8_length, covN_length])
      have HIY0 : Hid ((Tryd.prog.info? 53).map (·.size) = some (w8 (covN (secN seed n k 0))).length) := Lib.hid (by rw [HLY0.out]; exact info53)
      have HTHY0 : Hid (Y0.there (w.heap.size + 1 + 1) (k * 32) (w8 (covN (secN seed n k 0))).length) := Lib.hid (HCY0.out.there _ _ (by rw [HLY0.out, w8_length]; simp [HRL.out]; omega))
      refine wpAnyH_ready (rs := [9]) (by kernel_rfl) (by simp) ?_
      refine AllReadyH.cons rfl (fun K hK => ?_) AllReadyH.nil
      refine step_store_mid rfl 53 (.tmp 20) (.tmp 18) rfl (w.heap.size + 1 + 1) (k * 32) (w8 (covN (secN seed n k 0))) rfl rfl HTHY0.out HIY0.out (w8_one _) ?_
      refine hK.out _ _ (HAY0.out.farCells (by omega) _) (fun hHeld => ?_)
      clear hK K
      show wpAnyH _ _ _ _ _ _ _ (Act.put _ none _) _
      simp only [Act.put]
      have HAD := Lib.hid (HAY0.out.farCells (b := w.heap.size + 1 + 1) (o := k * 32) (by omega) (w8 (covN (secN seed n k 0))))
      have HBD := Lib.hid (HBY0.out.farCells (b := w.heap.size + 1 + 1) (o := k * 32) (by omega) (w8 (covN (secN seed n k 0))))
      have HCD := Lib.hid (Blk.put8 (rows f k) (List.replicate 16 0) (List.replicate 16 0 ++ List.replicate (1024 - 32 * (k + 1)) 0) (covN (secN seed n k 0)) HCY0.out (by rw [covN_length]; simp) (k * 32) (by rw [HRL.out]; omega))
      have HWD := Lib.hid (below_cells (g := w.heap.size + 1 + 1) (w8 (covN (secN seed n k 0))) (k * 32) Y0 HWY0.out (by omega))
      generalize Y0.setCells (w.heap.size + 1 + 1) (k * 32) (w8 (covN (secN seed n k 0))) = D at HAD HBD HCD HWD ⊢
      refine wpAnyH_done (by kernel_rfl) ?_ _
      clear HWX0 HAX0 HBX0 HCX0 HWY0 HAY0 HBY0 HCY0 HLY0 HIY0 HTHY0 HSX0a hHeld
      go_wp2_with fail
      rw [rounds_succ]
      go_upto_region 8 with fail
      refine wp_region_held_drew (S := fun w' => Blk w' w.heap.size 43 (keyC seed n)) (by kernel_rfl) (HAD.out.drewN 1) (fun hHeld => ?_)
      have HSX1a := Lib.hid hHeld
      refine wpAnyH_take (i := 0) (v := .int .i64 (k : Int)) rfl (by kernel_rfl) (by kernel_rfl) (by kernel_rfl) (fun _ _ _ h => h) (Or.inl ⟨by rfl, fun w _ => by rfl⟩) hHeld ?_
      show wpAnyH _ _ _ _ _ _ _ (Act.put _ (some 12) _) _
      simp only [Act.put, List.setIfInBounds_toArray, List.set_cons_zero, List.set_cons_succ]
      refine wpAnyH_take (i := 1) (v := .int .i64 1) rfl (by kernel_rfl) (by kernel_rfl) (by kernel_rfl) (fun _ _ _ h => h) (Or.inl ⟨by rfl, fun w _ => by rfl⟩) hHeld ?_
      show wpAnyH _ _ _ _ _ _ _ (Act.put _ (some 13) _) _
      simp only [Act.put, List.setIfInBounds_toArray, List.set_cons_zero, List.set_cons_succ]
      refine wpAnyH_take (i := 2) (v := .agg (keyC seed n).toArray) rfl (by kernel_rfl) (by kernel_rfl) (by kernel_rfl) (fun _ _ _ h => h) (yieldsIf_load_mid (by rfl) 43 (.tmp 1) rfl w.heap.size 0 rfl (keyC seed n) _ (fun w' h => Blk.all h) Tryd.underlying43 rfl HKS.out) hHeld ?_
      show wpAnyH _ _ _ _ _ _ _ (Act.put _ (some 14) _) _
      simp only [Act.put, List.setIfInBounds_toArray, List.set_cons_zero, List.set_cons_succ]
      refine wpAnyH_take (i := 3) (v := .int .i64 (k : Int)) rfl (by kernel_rfl) (by kernel_rfl) (by kernel_rfl) (fun _ _ _ h => h) (Or.inl ⟨by rfl, fun w _ => by rfl⟩) hHeld ?_
      show wpAnyH _ _ _ _ _ _ _ (Act.put _ (some 15) _) _
      simp only [Act.put, List.setIfInBounds_toArray, List.set_cons_zero, List.set_cons_succ]
      refine wpAnyH_take (i := 4) (v := .int .i64 1) rfl (by kernel_rfl) (by kernel_rfl) (by kernel_rfl) (fun _ _ _ h => h) (Or.inl ⟨by rfl, fun w _ => by rfl⟩) hHeld ?_
      show wpAnyH _ _ _ _ _ _ _ (Act.put _ (some 16) _) _
      simp only [Act.put, List.setIfInBounds_toArray, List.set_cons_zero, List.set_cons_succ]
      refine wpAnyH_take (i := 7) (v := .pointer (some ⟨w.heap.size + 1 + 1, k * 32, none⟩)) rfl (by kernel_rfl) (by kernel_rfl) (by kernel_rfl) (fun _ _ _ h => h) (Or.inl ⟨by rfl, by intro w' _; go_simp⟩) hHeld ?_
      show wpAnyH _ _ _ _ _ _ _ (Act.put _ (some 19) _) _
      simp only [Act.put, List.setIfInBounds_toArray, List.set_cons_zero, List.set_cons_succ]
      refine wpAnyH_ready (rs := [5]) (by kernel_rfl) (by simp) ?_
      refine AllReadyH.cons rfl (fun K hK => ?_) AllReadyH.nil
      refine step_call rfl 66 #[.tmp 14, .tmp 15, .tmp 16] #[43, 3, 3] rfl #[.agg (keyC seed n).toArray, .int .i64 (k : Int), .int .i64 1] (by simp [Act.eval]) (by go_simp) (HI.out k 1 hlt (by omega) _ (below_drewN HWD.out 1)) ?_
      rintro e X1 ⟨rfl, hBX1⟩
      have HWX1 := Lib.hid ((below_drewN HWD.out 1).trans (hBX1.mono (below_drewN HWD.out 1).size))
      have HAX1 := Lib.hid (Blk.below (HAD.out.drewN 1) hBX1 HAD.out.lt)
      have HBX1 := Lib.hid (Blk.below (HBD.out.drewN 1) hBX1 HBD.out.lt)
      have HCX1 := Lib.hid (Blk.below (HCD.out.drewN 1) hBX1 HCD.out.lt)
      clear hBX1
      refine ⟨_, rfl, hK.out _ _ (HAX1.out) (fun hHeld => ?_)⟩
      clear hK K
      show wpAnyH _ _ _ _ _ _ _ (Act.put _ (some 17) _) _
      simp only [Act.put, List.setIfInBounds_toArray, List.set_cons_zero, List.set_cons_succ]
      refine wpAnyH_ready (rs := [6]) (by kernel_rfl) (by simp) ?_
      refine AllReadyH.cons rfl (fun K hK => ?_) AllReadyH.nil
      refine step_call rfl 65 #[.tmp 17] #[53] rfl #[.agg (w8 (secN seed n k 1)).toArray] (by simp [Act.eval]) (by go_simp) (HI2.out k 1 X1 HWX1.out) ?_
      rintro e Y1 ⟨rfl, hBY1⟩
      have HWY1 := Lib.hid (HWX1.out.trans (hBY1.mono HWX1.out.size))
      have HAY1 := Lib.hid (HAX1.out.below hBY1 HAX1.out.lt)
      have HBY1 := Lib.hid (HBX1.out.below hBY1 HBX1.out.lt)
      have HCY1 := Lib.hid (HCX1.out.below hBY1 HCX1.out.lt)
      clear hBY1
      refine ⟨_, rfl, hK.out _ _ (HAY1.out) (fun hHeld => ?_)⟩
      clear hK K
      show wpAnyH _ _ _ _ _ _ _ (Act.put _ (some 18) _) _
      simp only [Act.put, List.setIfInBounds_toArray, List.set_cons_zero, List.set_cons_succ]
      refine wpAnyH_take (i := 8) (v := .pointer (some ⟨w.heap.size + 1 + 1, k * 32 + 16, none⟩)) rfl (by kernel_rfl) (by kernel_rfl) (by kernel_rfl) (fun _ _ _ h => h) (Or.inl ⟨by rfl, by intro w' _; go_simp⟩) hHeld ?_
      show wpAnyH _ _ _ _ _ _ _ (Act.put _ (some 20) _) _
      simp only [Act.put, List.setIfInBounds_toArray, List.set_cons_zero, List.set_cons_succ]
      have HLY1 : Hid ((w8 (covN (secN seed n k 1))).length = 16) := Lib.hid (by rw [w8_length, covN_length])
      have HIY1 : Hid ((Tryd.prog.info? 53).map (·.size) = some (w8 (covN (secN seed n k 1))).length) := Lib.hid (by rw [HLY1.out]; exact info53)
      have HTHY1 : Hid (Y1.there (w.heap.size + 1 + 1) (k * 32 + 16) (w8 (covN (secN seed n k 1))).length) := Lib.hid (HCY1.out.there _ _ (by rw [HLY1.out, w8_length]; simp [HRL.out, covN_length]; omega))
      refine wpAnyH_ready (rs := [9]) (by kernel_rfl) (by simp) ?_
      refine AllReadyH.cons rfl (fun K hK => ?_) AllReadyH.nil
      refine step_store_mid rfl 53 (.tmp 20) (.tmp 18) rfl (w.heap.size + 1 + 1) (k * 32 + 16) (w8 (covN (secN seed n k 1))) rfl rfl HTHY1.out HIY1.out (w8_one _) ?_
      refine hK.out _ _ (HAY1.out.farCells (by omega) _) (fun hHeld => ?_)
      clear hK K
      show wpAnyH _ _ _ _ _ _ _ (Act.put _ none _) _
      simp only [Act.put]
      have HAE := Lib.hid (HAY1.out.farCells (b := w.heap.size + 1 + 1) (o := k * 32 + 16) (by omega) (w8 (covN (secN seed n k 1))))
      have HBE := Lib.hid (HBY1.out.farCells (b := w.heap.size + 1 + 1) (o := k * 32 + 16) (by omega) (w8 (covN (secN seed n k 1))))
      have HCE : Hid (Blk (Y1.setCells (w.heap.size + 1 + 1) (k * 32 + 16) (w8 (covN (secN seed n k 1)))) (w.heap.size + 1 + 1) 122 (w8 (pairC f (k + 1)))) := Lib.hid (by
        have h := Blk.put8 (rows f k ++ covN (secN seed n k 0)) (List.replicate 16 0) (List.replicate (1024 - 32 * (k + 1)) 0) (covN (secN seed n k 1)) (by rw [List.append_assoc]; exact HCY1.out) (by rw [covN_length]; simp) (k * 32 + 16) (by rw [List.length_append, HRL.out, covN_length]; omega)
        rw [List.append_assoc, pairC_shut f k _ _ (HF.out k)] at h
        exact h)
      have HWE := Lib.hid (below_cells (g := w.heap.size + 1 + 1) (w8 (covN (secN seed n k 1))) (k * 32 + 16) Y1 HWY1.out (by omega))
      generalize Y1.setCells (w.heap.size + 1 + 1) (k * 32 + 16) (w8 (covN (secN seed n k 1))) = E at HAE HBE HCE HWE ⊢
      refine wpAnyH_done (by kernel_rfl) ?_ _
      clear HWX1 HAX1 HBX1 HCX1 HWY1 HAY1 HBY1 HCY1 HLY1 HIY1 HTHY1 HSX1a hHeld
      go_wp2_with fail
      rw [rounds_succ]
      go_wp2
      go_roundw
      case rel => exact ⟨k + 1, by omega, by go_num, HAE, HBE, HCE, HWE⟩
      case measure => simp [intOf]; omega
    · obtain rfl : k = 32 := by omega
      rw [pairC_end] at HC
      have HRL : Hid ((rows f 32).length = 1024) := Lib.hid (rows_length HFL.out 32)
      have HRB : Hid (∀ x ∈ rows f 32, x < 256) := Lib.hid (rows_lt (fun a x hx => by
        rw [HF.out a] at hx
        rcases List.mem_append.1 hx with hx | hx
        · exact covN_lt _ x hx
        · exact covN_lt _ x hx) 32)
      have HRG := Lib.hid HC.out.all
      have HS5 : Hid ((Tryd.prog.info? 122).map (·.size) = some (w8 (rows f 32)).length) := Lib.hid (by rw [w8_length, HRL.out]; exact info122)
      go_wp2_with (first | (refine wpList_load_mid rfl 122 (.tmp 3) rfl (w.heap.size + 1 + 1) 0 rfl (w8 (rows f 32)) _ HRG.out Tryd.underlying122 rfl HS5.out ?_))
      refine (pleaf_any (rows f 32) wr (Lib.hid (HT.out.below HW.out HT.out.lt)) HRL HRB).mono ?_
      rintro e V2 ⟨rfl, hB2⟩
      have HW3 := Lib.hid (HW.out.trans (hB2.mono HW.out.size))
      have HB3 := Lib.hid (HB.out.below hB2 HB.out.lt)
      clear hB2
      rw [← HFR.out]
      have HS6 : Hid ((Tryd.prog.info? 36).map (·.size) = some (w8 (leafN seed n)).toArray.size) := Lib.hid (by rw [List.size_toArray, w8_length, leafN_length]; exact info36)
      have HZ6 : Hid ((w8 (List.replicate 32 0)).toArray.size = (w8 (leafN seed n)).toArray.size) := Lib.hid (by rw [List.size_toArray, List.size_toArray, w8_length, w8_length, leafN_length]; simp)
      have HO6 := Lib.hid (all_oneCell_toArray (w8_one (leafN seed n)))
      go_wp2_with (first | (refine wpList_store_row rfl 36 (.tmp 2) (.tmp 24) rfl (w.heap.size + 1) (w8 (leafN seed n)).toArray rfl rfl 36 _ HB3.out HS6.out HZ6.out HO6.out ?_))
      exact bodyPost_ret (v := .agg (w8 (leafN seed n)).toArray) (results_cell_row Tryd.results22 _ _ (w.heap.size + 1) 36 (w8 (leafN seed n)).toArray (0, 0) _ rfl (HB3.out.setRow _) Tryd.underlying36 rfl HS6.out) rfl ⟨rfl, below_setRow HW3.out (by omega) _⟩
end Go.Proofs.YtkonokjhpddbfaaDoor
namespace Go.Proofs.YtkonokjhpddbfaaDoor
open Go.RowKit
set_option linter.unusedVariables false

/-- A signature so far. -/
def sigC (f g : Nat → List Nat) (i j : Nat) : List Nat := rows f i ++ (List.replicate (512 - 16 * i) 0 ++ (rows g j ++ List.replicate (512 - 16 * j) 0))
theorem sigC_length (f g : Nat → List Nat) (hf : ∀ a, (f a).length = 16) (hg : ∀ a, (g a).length = 16) (i j : Nat) (hi : i ≤ 32) (hj : j ≤ 32) : (sigC f g i j).length = 1024 := by
  unfold sigC
  simp only [List.length_append, rows_length hf, rows_length hg, List.length_replicate]
  omega
theorem sigC_open {w : World} {b : Nat} {t : TypeId} (f g : Nat → List Nat) (hf : ∀ a, (f a).length = 16) (hg : ∀ a, (g a).length = 16) (k j : Nat) (hk : k < 32) (x : List Nat) (hx : f k = x) (h : Blk w b t (w8 (sigC f g k j))) : Blk (w.setCells b (k * 16) (w8 x)) b t (w8 (sigC f g (k + 1) j)) := by
  have hl := rows_length hf k
  have e : sigC f g k j = rows f k ++ (List.replicate 16 0 ++ (List.replicate (512 - 16 * (k + 1)) 0 ++ (rows g j ++ List.replicate (512 - 16 * j) 0))) := by
    unfold sigC
    rw [zeros_cut (512 - 16 * k) 16 (by omega), show 512 - 16 * k - 16 = 512 - 16 * (k + 1) by omega]
    simp only [List.append_assoc]
  rw [e] at h
  have h2 := Blk.put8 _ _ _ x h (by rw [← hx, hf k]; simp) (k * 16) (by omega)
  unfold sigC
  rw [rows_succ, hx, List.append_assoc]
  exact h2
theorem sigC_other {w : World} {b : Nat} {t : TypeId} (f g : Nat → List Nat) (hf : ∀ a, (f a).length = 16) (hg : ∀ a, (g a).length = 16) (i k : Nat) (hk : k < 32) (hi : i ≤ 32) (x : List Nat) (hx : g k = x) (h : Blk w b t (w8 (sigC f g i k))) : Blk (w.setCells b (512 + k * 16) (w8 x)) b t (w8 (sigC f g i (k + 1))) := by
  have hl := rows_length hf i
  have hm := rows_length hg k
  have e : sigC f g i k = (rows f i ++ (List.replicate (512 - 16 * i) 0 ++ rows g k)) ++ (List.replicate 16 0 ++ List.replicate (512 - 16 * (k + 1)) 0) := by
    unfold sigC
    rw [zeros_cut (512 - 16 * k) 16 (by omega), show 512 - 16 * k - 16 = 512 - 16 * (k + 1) by omega]
    simp only [List.append_assoc]
  rw [e] at h
  have h2 := Blk.put8 _ _ _ x h (by rw [← hx, hg k]; simp) (512 + k * 16) (by simp only [List.length_append, List.length_replicate, hl, hm]; omega)
  unfold sigC
  rw [rows_succ, hx]
  simp only [List.append_assoc] at h2 ⊢
  exact h2
theorem sigC_zero (f g : Nat → List Nat) : sigC f g 0 0 = List.replicate 1024 0 := by
  show [] ++ (List.replicate 512 0 ++ ([] ++ List.replicate 512 0)) = _
  rw [List.nil_append, List.nil_append, List.replicate_append_replicate]
theorem sigC_end (f g : Nat → List Nat) : sigC f g 32 32 = rows f 32 ++ rows g 32 := by simp [sigC]

set_option maxRecDepth 100000 in
set_option maxHeartbeats 1000000 in
theorem sign_any (seed : List Nat) (n : Nat) (d : List Nat) (w : World) (HT : Hid (Tab w)) (HL : Hid (seed.length = 32)) (HP : Hid (∀ x ∈ seed, x < 256)) (hn : n < 4294967296) (HDL : Hid (d.length = 32)) (HDP : Hid (∀ x ∈ d, x < 256)) :
    Calls Tryd.prog 25 #[.agg (keyC seed n).toArray, .agg (w8 d).toArray] w fun e w' => e = .returned (.agg (w8 (signN seed n d)).toArray) ∧ Below w.heap.size w w' := by
  have HKS : Hid ((Tryd.prog.info? 43).map (·.size) = some (keyC seed n).length) := Lib.hid (by rw [keyC_length _ _ HL.out]; exact info43)
  have HDS : Hid ((Tryd.prog.info? 36).map (·.size) = some (w8 d).length) := Lib.hid (by rw [w8_length, HDL.out]; exact info36)
  go_enter Tryd.func25, Tryd.ntmps25
  go_upto_region 2 with fail
  have HA : Hid (Blk ((((w.alloc (.cells (keyC seed n).toArray 43)).alloc (.cells (w8 d).toArray 36)).alloc (.cells Tryd.zeroCells56 56)).alloc (.cells Tryd.zeroCells56 56)) w.heap.size 43 (keyC seed n)) := Lib.hid (by
    have h := (((Blk.new w 43 (keyC seed n)).alloc (.cells (w8 d).toArray 36)).alloc (.cells Tryd.zeroCells56 56)).alloc (.cells Tryd.zeroCells56 56)
    exact h)
  have HD : Hid (Blk ((((w.alloc (.cells (keyC seed n).toArray 43)).alloc (.cells (w8 d).toArray 36)).alloc (.cells Tryd.zeroCells56 56)).alloc (.cells Tryd.zeroCells56 56)) (w.heap.size + 1) 36 (w8 d)) := Lib.hid (by
    have h := ((Blk.new (w.alloc (.cells (keyC seed n).toArray 43)) 36 (w8 d)).alloc (.cells Tryd.zeroCells56 56)).alloc (.cells Tryd.zeroCells56 56)
    rw [World.size_alloc] at h
    exact h)
  have HB : Hid (Blk ((((w.alloc (.cells (keyC seed n).toArray 43)).alloc (.cells (w8 d).toArray 36)).alloc (.cells Tryd.zeroCells56 56)).alloc (.cells Tryd.zeroCells56 56)) (w.heap.size + 1 + 1) 56 (w8 (List.replicate 1024 0))) := Lib.hid (by
    have h := (Blk.new ((w.alloc (.cells (keyC seed n).toArray 43)).alloc (.cells (w8 d).toArray 36)) 56 (w8 (List.replicate 1024 0))).alloc (.cells Tryd.zeroCells56 56)
    rw [zc56, World.size_alloc, World.size_alloc] at h
    exact h)
  have HC : Hid (Blk ((((w.alloc (.cells (keyC seed n).toArray 43)).alloc (.cells (w8 d).toArray 36)).alloc (.cells Tryd.zeroCells56 56)).alloc (.cells Tryd.zeroCells56 56)) (w.heap.size + 1 + 1 + 1) 56 (w8 (List.replicate 1024 0))) := Lib.hid (by
    have h := Blk.new (((w.alloc (.cells (keyC seed n).toArray 43)).alloc (.cells (w8 d).toArray 36)).alloc (.cells Tryd.zeroCells56 56)) 56 (w8 (List.replicate 1024 0))
    rw [zc56, World.size_alloc, World.size_alloc, World.size_alloc] at h
    exact h)
  have HW : Hid (Below w.heap.size w ((((w.alloc (.cells (keyC seed n).toArray 43)).alloc (.cells (w8 d).toArray 36)).alloc (.cells Tryd.zeroCells56 56)).alloc (.cells Tryd.zeroCells56 56))) := Lib.hid (((((Below.refl _ _).alloc (Nat.le_refl _) _).alloc (by simp) _).alloc (by simp; omega) _).alloc (by simp; omega) _)
  generalize ((((w.alloc (.cells (keyC seed n).toArray 43)).alloc (.cells (w8 d).toArray 36)).alloc (.cells Tryd.zeroCells56 56)).alloc (.cells Tryd.zeroCells56 56)) = V at HA HD HB HC HW ⊢
  have HOL : Hid (∀ a, (opnN seed n d a).length = 16) := Lib.hid (opnN_length seed n d)
  have HTL : Hid (∀ a, (othN seed n d a).length = 16) := Lib.hid (othN_length seed n d)
  have HI : Hid (∀ a v : Nat, a < 32 → v < 2 → ∀ X : World, Below w.heap.size w X → Calls Tryd.prog 66 #[.agg (keyC seed n).toArray, .int .i64 (a : Int), .int .i64 (v : Int)] X fun e w' => e = .returned (.agg (w8 (secN seed n a v)).toArray) ∧ Below X.heap.size X w') := Lib.hid fun a v ha hv X hX => secret_any seed n a v X (Lib.hid (HT.out.below hX HT.out.lt)) HL HP hn ha hv
  have HI2 : Hid (∀ a v : Nat, ∀ X : World, Below w.heap.size w X → Calls Tryd.prog 65 #[.agg (w8 (secN seed n a v)).toArray] X fun e w' => e = .returned (.agg (w8 (covN (secN seed n a v))).toArray) ∧ Below X.heap.size X w') := Lib.hid fun a v X hX => knownBy_any _ X (Lib.hid (HT.out.below hX HT.out.lt)) (Lib.hid (secN_length _ _ _ _)) (Lib.hid (secN_lt _ _ _ _))
  rw [← sigC_zero (opnN seed n d) (othN seed n d)] at HC
  go_wp2_with fail
  go_loopw [8, 6, 7] (fun i _ _ wr => ∃ (k : Nat), k ≤ 32 ∧ i = .int .i64 k ∧ Hid (Blk wr w.heap.size 43 (keyC seed n)) ∧ Hid (Blk wr (w.heap.size + 1) 36 (w8 d)) ∧ Hid (Blk wr (w.heap.size + 1 + 1) 56 (w8 (List.replicate 1024 0))) ∧ Hid (Blk wr (w.heap.size + 1 + 1 + 1) 56 (w8 (sigC (opnN seed n d) (othN seed n d) k k))) ∧ Hid (Below w.heap.size w wr)) (fun i _ _ _ => 32 - (intOf i).toNat)
  case atStart => exact ⟨0, Nat.zero_le _, rfl, HA, HD, HB, HC, HW⟩
  case round =>
    clear HA HD HB HC HW
    obtain ⟨k, hk, rfl, HA, HD, HB, HC, HW⟩ := hrel
    by_cases hlt : k < 32
    · have k1 : (k : Int) < 32 := by omega
      have HDR := Lib.hid HD.out.all
      go_wp2_with (first | (refine wpList_load_mid rfl 36 (.tmp 3) rfl (w.heap.size + 1) 0 rfl (w8 d) _ HDR.out Tryd.underlying36 rfl HDS.out ?_))
      refine (bitAt_any d k wr HDL HDP hlt).mono ?_
      rintro e X5 ⟨hE5, hB5⟩
      have HWX5 := Lib.hid (HW.out.trans (hB5.mono HW.out.size))
      have HAX5 := Lib.hid (HA.out.below hB5 HA.out.lt)
      have HDX5 := Lib.hid (HD.out.below hB5 HD.out.lt)
      have HBX5 := Lib.hid (HB.out.below hB5 HB.out.lt)
      have HCX5 := Lib.hid (HC.out.below hB5 HC.out.lt)
      have HAK := Lib.hid HAX5.out.all
      clear hB5 HDR HA HD HB HC HW
      rcases bitN_two d k with h0 | h0
      · have HBT : Hid (bitN d k = 0) := Lib.hid h0
        have HO1 : Hid (opnN seed n d k = secN seed n k 0) := Lib.hid (by unfold opnN; rw [h0])
        have HO2 : Hid (othN seed n d k = covN (secN seed n k 1)) := Lib.hid (by unfold othN; rw [h0])
        rw [h0] at hE5
        subst hE5
        clear h0
        go_wp2_with (first | (refine wpList_load_mid rfl 43 (.tmp 2) rfl w.heap.size 0 rfl (keyC seed n) _ HAK.out Tryd.underlying43 rfl HKS.out ?_))
        refine (HI.out k 0 hlt (by omega) X5 HWX5.out).mono ?_
        rintro e X6 ⟨rfl, hB6⟩
        have HW6 := Lib.hid (HWX5.out.trans (hB6.mono HWX5.out.size))
        have HA6 := Lib.hid (HAX5.out.below hB6 HAX5.out.lt)
        have HD6 := Lib.hid (HDX5.out.below hB6 HDX5.out.lt)
        have HB6 := Lib.hid (HBX5.out.below hB6 HBX5.out.lt)
        have HC6 := Lib.hid (HCX5.out.below hB6 HCX5.out.lt)
        clear hB6
        have HL6 : Hid ((w8 (secN seed n k 0)).length = 16) := Lib.hid (by rw [w8_length, secN_length])
        have HI6 : Hid ((Tryd.prog.info? 53).map (·.size) = some (w8 (secN seed n k 0)).length) := Lib.hid (by rw [HL6.out]; exact info53)
        have HT6 : Hid (X6.there (w.heap.size + 1 + 1 + 1) (k * 16) (w8 (secN seed n k 0)).length) := Lib.hid (HC6.out.there _ _ (by rw [HL6.out, w8_length, sigC_length _ _ HOL.out HTL.out k k (by omega) (by omega)]; omega))
        have H16 := Lib.hid (w8_one (secN seed n k 0))
        go_upto_region 7 with (first | (refine wpList_put_mid rfl 53 (.tmp 20) (.tmp 18) rfl (w.heap.size + 1 + 1 + 1) (k * 16) (w8 (secN seed n k 0)) rfl rfl HT6.out HI6.out H16.out ?_))
        have HA7 := Lib.hid (HA6.out.farCells (b := w.heap.size + 1 + 1 + 1) (o := k * 16) (by omega) (w8 (secN seed n k 0)))
        have HD7 := Lib.hid (HD6.out.farCells (b := w.heap.size + 1 + 1 + 1) (o := k * 16) (by omega) (w8 (secN seed n k 0)))
        have HB7 := Lib.hid (HB6.out.farCells (b := w.heap.size + 1 + 1 + 1) (o := k * 16) (by omega) (w8 (secN seed n k 0)))
        have HC7 := Lib.hid (sigC_open _ _ HOL.out HTL.out k k hlt _ HO1.out HC6.out)
        have HW7 := Lib.hid (below_cells (g := w.heap.size + 1 + 1 + 1) (w8 (secN seed n k 0)) (k * 16) X6 HW6.out (by omega))
        generalize X6.setCells (w.heap.size + 1 + 1 + 1) (k * 16) (w8 (secN seed n k 0)) = X7 at HA7 HD7 HB7 HC7 HW7 ⊢
        clear HA6 HD6 HB6 HC6 HW6 HL6 HI6 HT6 H16 HAK
        have HAK := Lib.hid HA7.out.all
        go_wp2_with (first | (refine wpList_load_mid rfl 43 (.tmp 2) rfl w.heap.size 0 rfl (keyC seed n) _ HAK.out Tryd.underlying43 rfl HKS.out ?_))
        refine (HI.out k 1 hlt (by omega) X7 HW7.out).mono ?_
        rintro e X8 ⟨rfl, hB8⟩
        have HW8 := Lib.hid (HW7.out.trans (hB8.mono HW7.out.size))
        have HA8 := Lib.hid (HA7.out.below hB8 HA7.out.lt)
        have HD8 := Lib.hid (HD7.out.below hB8 HD7.out.lt)
        have HB8 := Lib.hid (HB7.out.below hB8 HB7.out.lt)
        have HC8 := Lib.hid (HC7.out.below hB8 HC7.out.lt)
        clear hB8 HA7 HD7 HB7 HC7 HW7
        go_wp2_with fail
        refine (HI2.out k 1 X8 HW8.out).mono ?_
        rintro e X9 ⟨rfl, hB9⟩
        have HW9 := Lib.hid (HW8.out.trans (hB9.mono HW8.out.size))
        have HA9 := Lib.hid (HA8.out.below hB9 HA8.out.lt)
        have HD9 := Lib.hid (HD8.out.below hB9 HD8.out.lt)
        have HB9 := Lib.hid (HB8.out.below hB9 HB8.out.lt)
        have HC9 := Lib.hid (HC8.out.below hB9 HC8.out.lt)
        clear hB9 HA8 HD8 HB8 HC8 HW8
        have HL9 : Hid ((w8 (covN (secN seed n k 1))).length = 16) := Lib.hid (by rw [w8_length, covN_length])
        have HI9 : Hid ((Tryd.prog.info? 53).map (·.size) = some (w8 (covN (secN seed n k 1))).length) := Lib.hid (by rw [HL9.out]; exact info53)
        have HT9 : Hid (X9.there (w.heap.size + 1 + 1 + 1) (512 + k * 16) (w8 (covN (secN seed n k 1))).length) := Lib.hid (HC9.out.there _ _ (by rw [HL9.out, w8_length, sigC_length _ _ HOL.out HTL.out (k + 1) k (by omega) (by omega)]; omega))
        have H19 := Lib.hid (w8_one (covN (secN seed n k 1)))
        go_upto_region 8 with (first | (refine wpList_put_mid rfl 53 (.tmp 29) (.tmp 27) rfl (w.heap.size + 1 + 1 + 1) (512 + k * 16) (w8 (covN (secN seed n k 1))) rfl rfl HT9.out HI9.out H19.out ?_))
        have HAE := Lib.hid (HA9.out.farCells (b := w.heap.size + 1 + 1 + 1) (o := 512 + k * 16) (by omega) (w8 (covN (secN seed n k 1))))
        have HDE := Lib.hid (HD9.out.farCells (b := w.heap.size + 1 + 1 + 1) (o := 512 + k * 16) (by omega) (w8 (covN (secN seed n k 1))))
        have HBE := Lib.hid (HB9.out.farCells (b := w.heap.size + 1 + 1 + 1) (o := 512 + k * 16) (by omega) (w8 (covN (secN seed n k 1))))
        have HCE := Lib.hid (sigC_other _ _ HOL.out HTL.out (k + 1) k hlt (by omega) _ HO2.out HC9.out)
        have HWE := Lib.hid (below_cells (g := w.heap.size + 1 + 1 + 1) (w8 (covN (secN seed n k 1))) (512 + k * 16) X9 HW9.out (by omega))
        generalize X9.setCells (w.heap.size + 1 + 1 + 1) (512 + k * 16) (w8 (covN (secN seed n k 1))) = E at HAE HDE HBE HCE HWE ⊢
        clear HA9 HD9 HB9 HC9 HW9 HL9 HI9 HT9 H19 HAK HAX5 HDX5 HBX5 HCX5 HWX5
        go_wp2
        go_roundw
        case rel => exact ⟨k + 1, by omega, by go_num, HAE, HDE, HBE, HCE, HWE⟩
        case measure => simp [intOf]; omega
      · have HBT : Hid (bitN d k = 1) := Lib.hid h0
        have HO1 : Hid (opnN seed n d k = secN seed n k 1) := Lib.hid (by unfold opnN; rw [h0])
        have HO2 : Hid (othN seed n d k = covN (secN seed n k 0)) := Lib.hid (by unfold othN; rw [h0])
        rw [h0] at hE5
        subst hE5
        clear h0
        go_wp2_with (first | (refine wpList_load_mid rfl 43 (.tmp 2) rfl w.heap.size 0 rfl (keyC seed n) _ HAK.out Tryd.underlying43 rfl HKS.out ?_))
        refine (HI.out k 1 hlt (by omega) X5 HWX5.out).mono ?_
        rintro e X6 ⟨rfl, hB6⟩
        have HW6 := Lib.hid (HWX5.out.trans (hB6.mono HWX5.out.size))
        have HA6 := Lib.hid (HAX5.out.below hB6 HAX5.out.lt)
        have HD6 := Lib.hid (HDX5.out.below hB6 HDX5.out.lt)
        have HB6 := Lib.hid (HBX5.out.below hB6 HBX5.out.lt)
        have HC6 := Lib.hid (HCX5.out.below hB6 HCX5.out.lt)
        clear hB6
        have HL6 : Hid ((w8 (secN seed n k 1)).length = 16) := Lib.hid (by rw [w8_length, secN_length])
        have HI6 : Hid ((Tryd.prog.info? 53).map (·.size) = some (w8 (secN seed n k 1)).length) := Lib.hid (by rw [HL6.out]; exact info53)
        have HT6 : Hid (X6.there (w.heap.size + 1 + 1 + 1) (k * 16) (w8 (secN seed n k 1)).length) := Lib.hid (HC6.out.there _ _ (by rw [HL6.out, w8_length, sigC_length _ _ HOL.out HTL.out k k (by omega) (by omega)]; omega))
        have H16 := Lib.hid (w8_one (secN seed n k 1))
        go_upto_region 7 with (first | (refine wpList_put_mid rfl 53 (.tmp 20) (.tmp 18) rfl (w.heap.size + 1 + 1 + 1) (k * 16) (w8 (secN seed n k 1)) rfl rfl HT6.out HI6.out H16.out ?_))
        have HA7 := Lib.hid (HA6.out.farCells (b := w.heap.size + 1 + 1 + 1) (o := k * 16) (by omega) (w8 (secN seed n k 1)))
        have HD7 := Lib.hid (HD6.out.farCells (b := w.heap.size + 1 + 1 + 1) (o := k * 16) (by omega) (w8 (secN seed n k 1)))
        have HB7 := Lib.hid (HB6.out.farCells (b := w.heap.size + 1 + 1 + 1) (o := k * 16) (by omega) (w8 (secN seed n k 1)))
        have HC7 := Lib.hid (sigC_open _ _ HOL.out HTL.out k k hlt _ HO1.out HC6.out)
        have HW7 := Lib.hid (below_cells (g := w.heap.size + 1 + 1 + 1) (w8 (secN seed n k 1)) (k * 16) X6 HW6.out (by omega))
        generalize X6.setCells (w.heap.size + 1 + 1 + 1) (k * 16) (w8 (secN seed n k 1)) = X7 at HA7 HD7 HB7 HC7 HW7 ⊢
        clear HA6 HD6 HB6 HC6 HW6 HL6 HI6 HT6 H16 HAK
        have HAK := Lib.hid HA7.out.all
        go_wp2_with (first | (refine wpList_load_mid rfl 43 (.tmp 2) rfl w.heap.size 0 rfl (keyC seed n) _ HAK.out Tryd.underlying43 rfl HKS.out ?_))
        refine (HI.out k 0 hlt (by omega) X7 HW7.out).mono ?_
        rintro e X8 ⟨rfl, hB8⟩
        have HW8 := Lib.hid (HW7.out.trans (hB8.mono HW7.out.size))
        have HA8 := Lib.hid (HA7.out.below hB8 HA7.out.lt)
        have HD8 := Lib.hid (HD7.out.below hB8 HD7.out.lt)
        have HB8 := Lib.hid (HB7.out.below hB8 HB7.out.lt)
        have HC8 := Lib.hid (HC7.out.below hB8 HC7.out.lt)
        clear hB8 HA7 HD7 HB7 HC7 HW7
        go_wp2_with fail
        refine (HI2.out k 0 X8 HW8.out).mono ?_
        rintro e X9 ⟨rfl, hB9⟩
        have HW9 := Lib.hid (HW8.out.trans (hB9.mono HW8.out.size))
        have HA9 := Lib.hid (HA8.out.below hB9 HA8.out.lt)
        have HD9 := Lib.hid (HD8.out.below hB9 HD8.out.lt)
        have HB9 := Lib.hid (HB8.out.below hB9 HB8.out.lt)
        have HC9 := Lib.hid (HC8.out.below hB9 HC8.out.lt)
        clear hB9 HA8 HD8 HB8 HC8 HW8
        have HL9 : Hid ((w8 (covN (secN seed n k 0))).length = 16) := Lib.hid (by rw [w8_length, covN_length])
        have HI9 : Hid ((Tryd.prog.info? 53).map (·.size) = some (w8 (covN (secN seed n k 0))).length) := Lib.hid (by rw [HL9.out]; exact info53)
        have HT9 : Hid (X9.there (w.heap.size + 1 + 1 + 1) (512 + k * 16) (w8 (covN (secN seed n k 0))).length) := Lib.hid (HC9.out.there _ _ (by rw [HL9.out, w8_length, sigC_length _ _ HOL.out HTL.out (k + 1) k (by omega) (by omega)]; omega))
        have H19 := Lib.hid (w8_one (covN (secN seed n k 0)))
        go_upto_region 8 with (first | (refine wpList_put_mid rfl 53 (.tmp 29) (.tmp 27) rfl (w.heap.size + 1 + 1 + 1) (512 + k * 16) (w8 (covN (secN seed n k 0))) rfl rfl HT9.out HI9.out H19.out ?_))
        have HAE := Lib.hid (HA9.out.farCells (b := w.heap.size + 1 + 1 + 1) (o := 512 + k * 16) (by omega) (w8 (covN (secN seed n k 0))))
        have HDE := Lib.hid (HD9.out.farCells (b := w.heap.size + 1 + 1 + 1) (o := 512 + k * 16) (by omega) (w8 (covN (secN seed n k 0))))
        have HBE := Lib.hid (HB9.out.farCells (b := w.heap.size + 1 + 1 + 1) (o := 512 + k * 16) (by omega) (w8 (covN (secN seed n k 0))))
        have HCE := Lib.hid (sigC_other _ _ HOL.out HTL.out (k + 1) k hlt (by omega) _ HO2.out HC9.out)
        have HWE := Lib.hid (below_cells (g := w.heap.size + 1 + 1 + 1) (w8 (covN (secN seed n k 0))) (512 + k * 16) X9 HW9.out (by omega))
        generalize X9.setCells (w.heap.size + 1 + 1 + 1) (512 + k * 16) (w8 (covN (secN seed n k 0))) = E at HAE HDE HBE HCE HWE ⊢
        clear HA9 HD9 HB9 HC9 HW9 HL9 HI9 HT9 H19 HAK HAX5 HDX5 HBX5 HCX5 HWX5
        go_wp2
        go_roundw
        case rel => exact ⟨k + 1, by omega, by go_num, HAE, HDE, HBE, HCE, HWE⟩
        case measure => simp [intOf]; omega
    · obtain rfl : k = 32 := by omega
      rw [sigC_end, show rows (opnN seed n d) 32 ++ rows (othN seed n d) 32 = signN seed n d from rfl] at HC
      have HRG := Lib.hid HC.out.all
      have HS5 : Hid ((Tryd.prog.info? 56).map (·.size) = some (w8 (signN seed n d)).length) := Lib.hid (by rw [w8_length, signN_length]; exact info56)
      have HS6 : Hid ((Tryd.prog.info? 56).map (·.size) = some (w8 (signN seed n d)).toArray.size) := Lib.hid (by rw [List.size_toArray, w8_length, signN_length]; exact info56)
      have HZ6 : Hid ((w8 (List.replicate 1024 0)).toArray.size = (w8 (signN seed n d)).toArray.size) := Lib.hid (by rw [List.size_toArray, List.size_toArray, w8_length, w8_length, signN_length]; simp)
      have HO6 := Lib.hid (all_oneCell_toArray (w8_one (signN seed n d)))
      go_wp2_with (first | (refine wpList_load_mid rfl 56 (.tmp 5) rfl (w.heap.size + 1 + 1 + 1) 0 rfl (w8 (signN seed n d)) _ HRG.out Tryd.underlying56 rfl HS5.out ?_) | (refine wpList_store_row rfl 56 (.tmp 4) (.tmp 31) rfl (w.heap.size + 1 + 1) (w8 (signN seed n d)).toArray rfl rfl 56 _ HB.out HS6.out HZ6.out HO6.out ?_))
      exact bodyPost_ret (v := .agg (w8 (signN seed n d)).toArray) (results_cell_row Tryd.results25 _ _ (w.heap.size + 1 + 1) 56 (w8 (signN seed n d)).toArray (0, 0) _ rfl (HB.out.setRow _) Tryd.underlying56 rfl HS6.out) rfl ⟨rfl, below_setRow HW.out (by omega) _⟩
end Go.Proofs.YtkonokjhpddbfaaDoor
namespace Go.Proofs.YtkonokjhpddbfaaDoor
open Go.RowKit
set_option linter.unusedVariables false

theorem rows_length' {f : Nat → List Nat} {m : Nat} : ∀ k, (∀ a, a < k → (f a).length = m) → (rows f k).length = m * k
  | 0, _ => rfl
  | k + 1, h => by rw [rows_succ, List.length_append, rows_length' k (fun a ha => h a (by omega)), h k (by omega), Nat.mul_succ]
theorem Blk.piece {w : World} {g : Nat} {t : TypeId} {S : List Nat} (h : Blk w g t (w8 S)) (a o : Nat) (ho : 16 * a = o) : w.rangeAt g o (w8 (pcs S a)) := by
  have h1 := h.range o 16
  rw [w8_drop, w8_take] at h1
  unfold pcs
  rw [ho]
  exact h1

set_option maxRecDepth 100000 in
set_option maxHeartbeats 1000000 in
theorem from_any (S d : List Nat) (w : World) (HT : Hid (Tab w)) (HL : Hid (S.length = 1024)) (HP : Hid (∀ x ∈ S, x < 256)) (HDL : Hid (d.length = 32)) (HDP : Hid (∀ x ∈ d, x < 256)) :
    Calls Tryd.prog 28 #[.agg (w8 S).toArray, .agg (w8 d).toArray] w fun e w' => e = .returned (.agg (w8 (fromN S d)).toArray) ∧ Below w.heap.size w w' := by
  have HDS : Hid ((Tryd.prog.info? 36).map (·.size) = some (w8 d).length) := Lib.hid (by rw [w8_length, HDL.out]; exact info36)
  go_enter Tryd.func28, Tryd.ntmps28
  go_upto_region 2 with fail
  have HA : Hid (Blk ((((w.alloc (.cells (w8 S).toArray 56)).alloc (.cells (w8 d).toArray 36)).alloc (.cells zsum 36)).alloc (.cells Tryd.zeroCells122 122)) w.heap.size 56 (w8 S)) := Lib.hid (by
    have h := (((Blk.new w 56 (w8 S)).alloc (.cells (w8 d).toArray 36)).alloc (.cells zsum 36)).alloc (.cells Tryd.zeroCells122 122)
    exact h)
  have HD : Hid (Blk ((((w.alloc (.cells (w8 S).toArray 56)).alloc (.cells (w8 d).toArray 36)).alloc (.cells zsum 36)).alloc (.cells Tryd.zeroCells122 122)) (w.heap.size + 1) 36 (w8 d)) := Lib.hid (by
    have h := ((Blk.new (w.alloc (.cells (w8 S).toArray 56)) 36 (w8 d)).alloc (.cells zsum 36)).alloc (.cells Tryd.zeroCells122 122)
    rw [World.size_alloc] at h
    exact h)
  have HB : Hid (Blk ((((w.alloc (.cells (w8 S).toArray 56)).alloc (.cells (w8 d).toArray 36)).alloc (.cells zsum 36)).alloc (.cells Tryd.zeroCells122 122)) (w.heap.size + 1 + 1) 36 (w8 (List.replicate 32 0))) := Lib.hid (by
    have h := (Blk.new ((w.alloc (.cells (w8 S).toArray 56)).alloc (.cells (w8 d).toArray 36)) 36 (w8 (List.replicate 32 0))).alloc (.cells Tryd.zeroCells122 122)
    rw [zsum_eq, World.size_alloc, World.size_alloc] at h
    exact h)
  have HC : Hid (Blk ((((w.alloc (.cells (w8 S).toArray 56)).alloc (.cells (w8 d).toArray 36)).alloc (.cells zsum 36)).alloc (.cells Tryd.zeroCells122 122)) (w.heap.size + 1 + 1 + 1) 122 (w8 (List.replicate 1024 0))) := Lib.hid (by
    have h := Blk.new (((w.alloc (.cells (w8 S).toArray 56)).alloc (.cells (w8 d).toArray 36)).alloc (.cells zsum 36)) 122 (w8 (List.replicate 1024 0))
    rw [zc122, World.size_alloc, World.size_alloc, World.size_alloc] at h
    exact h)
  have HW : Hid (Below w.heap.size w ((((w.alloc (.cells (w8 S).toArray 56)).alloc (.cells (w8 d).toArray 36)).alloc (.cells zsum 36)).alloc (.cells Tryd.zeroCells122 122))) := Lib.hid (((((Below.refl _ _).alloc (Nat.le_refl _) _).alloc (by simp) _).alloc (by simp; omega) _).alloc (by simp; omega) _)
  unfold zsum at HA HD HB HC HW
  generalize ((((w.alloc (.cells (w8 S).toArray 56)).alloc (.cells (w8 d).toArray 36)).alloc (.cells _ 36)).alloc (.cells Tryd.zeroCells122 122)) = V at HA HD HB HC HW ⊢
  obtain ⟨f, hf⟩ : ∃ f : Nat → List Nat, f = fun a => prN (covN (pcs S a)) (pcs S (32 + a)) (bitN d a) := ⟨_, rfl⟩
  have HF : Hid (∀ a, f a = prN (covN (pcs S a)) (pcs S (32 + a)) (bitN d a)) := Lib.hid fun a => by rw [hf]
  have HFL : Hid (∀ a, a < 32 → (f a).length = 32) := Lib.hid fun a ha => by rw [hf]; exact prN_length _ _ _ (covN_length _) (pcs_length _ _ (by rw [HL.out]; omega))
  have HFR : Hid (fromN S d = sha (text 2 [rows f 32])) := Lib.hid (by unfold fromN fromT; rw [hf])
  have HFB : Hid (∀ x ∈ rows f 32, x < 256) := Lib.hid (by rw [hf]; exact fromT_lt S d HP.out)
  clear hf
  go_wp2_with fail
  go_loopw [8, 6, 7] (fun i _ _ wr => ∃ (k : Nat), k ≤ 32 ∧ i = .int .i64 k ∧ Hid (Blk wr w.heap.size 56 (w8 S)) ∧ Hid (Blk wr (w.heap.size + 1) 36 (w8 d)) ∧ Hid (Blk wr (w.heap.size + 1 + 1) 36 (w8 (List.replicate 32 0))) ∧ Hid (Blk wr (w.heap.size + 1 + 1 + 1) 122 (w8 (pairC f k))) ∧ Hid (Below w.heap.size w wr)) (fun i _ _ _ => 32 - (intOf i).toNat)
  case atStart => exact ⟨0, Nat.zero_le _, rfl, HA, HD, HB, HC, HW⟩
  case round =>
    clear HA HD HB HC HW
    obtain ⟨k, hk, rfl, HA, HD, HB, HC, HW⟩ := hrel
    have HRL : Hid ((rows f k).length = 32 * k) := Lib.hid (rows_length' k (fun a ha => HFL.out a (by omega)))
    by_cases hlt : k < 32
    · have k1 : (k : Int) < 32 := by omega
      have HDR := Lib.hid HD.out.all
      go_wp2_with (first | (refine wpList_load_mid rfl 36 (.tmp 3) rfl (w.heap.size + 1) 0 rfl (w8 d) _ HDR.out Tryd.underlying36 rfl HDS.out ?_))
      refine (bitAt_any d k wr HDL HDP hlt).mono ?_
      rintro e X5 ⟨hE5, hB5⟩
      have HWX5 := Lib.hid (HW.out.trans (hB5.mono HW.out.size))
      have HAX5 := Lib.hid (HA.out.below hB5 HA.out.lt)
      have HDX5 := Lib.hid (HD.out.below hB5 HD.out.lt)
      have HBX5 := Lib.hid (HB.out.below hB5 HB.out.lt)
      have HCX5 := Lib.hid (HC.out.below hB5 HC.out.lt)
      clear hB5 HDR HA HD HB HC HW
      obtain ⟨c, hc⟩ : ∃ c, covN (pcs S k) = c := ⟨_, rfl⟩
      obtain ⟨o, ho⟩ : ∃ o, pcs S (32 + k) = o := ⟨_, rfl⟩
      have HCN := Lib.hid hc
      have HON := Lib.hid ho
      have HCL : Hid (c.length = 16) := Lib.hid (by rw [← hc]; exact covN_length _)
      have HOLn : Hid (o.length = 16) := Lib.hid (by rw [← ho]; exact pcs_length _ _ (by rw [HL.out]; omega))
      have HPK : Hid ((pcs S k).length = 16) := Lib.hid (pcs_length _ _ (by rw [HL.out]; omega))
      have HIC : Hid ((Tryd.prog.info? 53).map (·.size) = some (w8 c).length) := Lib.hid (by rw [w8_length, HCL.out]; exact info53)
      have HIO : Hid ((Tryd.prog.info? 53).map (·.size) = some (w8 o).length) := Lib.hid (by rw [w8_length, HOLn.out]; exact info53)
      have HI1 : Hid ((Tryd.prog.info? 53).map (·.size) = some (w8 (pcs S k)).length) := Lib.hid (by rw [w8_length, HPK.out]; exact info53)
      have HR1 : Hid (∀ w', Blk w' w.heap.size 56 (w8 S) → w'.rangeAt w.heap.size (k * 16) (w8 (pcs S k))) := Lib.hid fun w' h => h.piece k (k * 16) (by omega)
      have HR2 : Hid (∀ w', Blk w' w.heap.size 56 (w8 S) → w'.rangeAt w.heap.size (512 + k * 16) (w8 o)) := Lib.hid fun w' h => by rw [← ho]; exact h.piece (32 + k) (512 + k * 16) (by omega)
      have HPL : Hid ((pairC f k).length = 1024) := Lib.hid (by unfold pairC; rw [List.length_append, HRL.out, List.length_replicate]; omega)
      have HI2 : Hid (∀ X : World, Below w.heap.size w X → Calls Tryd.prog 65 #[.agg (w8 (pcs S k)).toArray] X fun e w' => e = .returned (.agg (w8 c).toArray) ∧ Below X.heap.size X w') := Lib.hid fun X hX => by rw [← hc]; exact knownBy_any _ X (Lib.hid (HT.out.below hX HT.out.lt)) HPK (Lib.hid (pcs_lt S k HP.out))
      clear hc ho
      rcases bitN_two d k with h0 | h0
      · have HFK : Hid (f k = c ++ o) := Lib.hid (by rw [HF.out k, h0]; show prN (covN (pcs S k)) (pcs S (32 + k)) 0 = _; rw [HCN.out, HON.out]; rfl)
        rw [h0] at hE5
        subst hE5
        clear h0
        go_upto_region 6 with fail
        refine wp_region_held_drew (S := fun w' => Blk w' w.heap.size 56 (w8 S)) (by kernel_rfl) (HAX5.out.drewN 1) (fun hHeld => ?_)
        have HSa := Lib.hid hHeld
        refine wpAnyH_take (i := 0) (v := .int .i64 (k : Int)) rfl (by kernel_rfl) (by kernel_rfl) (by kernel_rfl) (fun _ _ _ h => h) (Or.inl ⟨by rfl, fun w _ => by rfl⟩) hHeld ?_
        show wpAnyH _ _ _ _ _ _ _ (Act.put _ (some 14) _) _
        simp only [Act.put, List.setIfInBounds_toArray, List.set_cons_zero, List.set_cons_succ]
        refine wpAnyH_take (i := 1) (v := .int .i64 0) rfl (by kernel_rfl) (by kernel_rfl) (by kernel_rfl) (fun _ _ _ h => h) (Or.inl ⟨by rfl, fun w _ => by rfl⟩) hHeld ?_
        show wpAnyH _ _ _ _ _ _ _ (Act.put _ (some 15) _) _
        simp only [Act.put, List.setIfInBounds_toArray, List.set_cons_zero, List.set_cons_succ]
        refine wpAnyH_take (i := 2) (v := .int .i64 (k : Int)) rfl (by kernel_rfl) (by kernel_rfl) (by kernel_rfl) (fun _ _ _ h => h) (Or.inl ⟨by rfl, fun w _ => by rfl⟩) hHeld ?_
        show wpAnyH _ _ _ _ _ _ _ (Act.put _ (some 16) _) _
        simp only [Act.put, List.setIfInBounds_toArray, List.set_cons_zero, List.set_cons_succ]
        refine wpAnyH_take (i := 3) (v := .pointer (some ⟨w.heap.size, 0, none⟩)) rfl (by kernel_rfl) (by kernel_rfl) (by kernel_rfl) (fun _ _ _ h => h) (Or.inl ⟨by rfl, by intro w' _; go_simp⟩) hHeld ?_
        show wpAnyH _ _ _ _ _ _ _ (Act.put _ (some 17) _) _
        simp only [Act.put, List.setIfInBounds_toArray, List.set_cons_zero, List.set_cons_succ]
        refine wpAnyH_take (i := 4) (v := .pointer (some ⟨w.heap.size, k * 16, none⟩)) rfl (by kernel_rfl) (by kernel_rfl) (by kernel_rfl) (fun _ _ _ h => h) (Or.inl ⟨by rfl, by intro w' _; go_simp⟩) hHeld ?_
        show wpAnyH _ _ _ _ _ _ _ (Act.put _ (some 18) _) _
        simp only [Act.put, List.setIfInBounds_toArray, List.set_cons_zero, List.set_cons_succ]
        refine wpAnyH_take (i := 5) (v := .agg (w8 (pcs S k)).toArray) rfl (by kernel_rfl) (by kernel_rfl) (by kernel_rfl) (fun _ _ _ h => h) (yieldsIf_load_mid (by rfl) 53 (.tmp 18) rfl w.heap.size (k * 16) rfl (w8 (pcs S k)) _ (fun w' h => HR1.out w' h) Tryd.underlying53 rfl HI1.out) hHeld ?_
        show wpAnyH _ _ _ _ _ _ _ (Act.put _ (some 19) _) _
        simp only [Act.put, List.setIfInBounds_toArray, List.set_cons_zero, List.set_cons_succ]
        refine wpAnyH_take (i := 7) (v := .pointer (some ⟨w.heap.size + 1 + 1 + 1, k * 32, none⟩)) rfl (by kernel_rfl) (by kernel_rfl) (by kernel_rfl) (fun _ _ _ h => h) (Or.inl ⟨by rfl, by intro w' _; go_simp⟩) hHeld ?_
        show wpAnyH _ _ _ _ _ _ _ (Act.put _ (some 21) _) _
        simp only [Act.put, List.setIfInBounds_toArray, List.set_cons_zero, List.set_cons_succ]
        refine wpAnyH_ready (rs := [6]) (by kernel_rfl) (by simp) ?_
        refine AllReadyH.cons rfl (fun K hK => ?_) AllReadyH.nil
        refine step_call rfl 65 #[.tmp 19] #[53] rfl #[.agg (w8 (pcs S k)).toArray] (by simp [Act.eval]) (by go_simp) (HI2.out _ (below_drewN HWX5.out 1)) ?_
        rintro e X6 ⟨rfl, hB6⟩
        have HW6 := Lib.hid ((below_drewN HWX5.out 1).trans (hB6.mono (below_drewN HWX5.out 1).size))
        have HA6 := Lib.hid (Blk.below (HAX5.out.drewN 1) hB6 HAX5.out.lt)
        have HD6 := Lib.hid (Blk.below (HDX5.out.drewN 1) hB6 HDX5.out.lt)
        have HB6 := Lib.hid (Blk.below (HBX5.out.drewN 1) hB6 HBX5.out.lt)
        have HC6 := Lib.hid (Blk.below (HCX5.out.drewN 1) hB6 HCX5.out.lt)
        clear hB6
        refine ⟨_, rfl, hK.out _ _ (HA6.out) (fun hHeld => ?_)⟩
        clear hK K
        show wpAnyH _ _ _ _ _ _ _ (Act.put _ (some 20) _) _
        simp only [Act.put, List.setIfInBounds_toArray, List.set_cons_zero, List.set_cons_succ]
        refine wpAnyH_take (i := 8) (v := .pointer (some ⟨w.heap.size + 1 + 1 + 1, k * 32, none⟩)) rfl (by kernel_rfl) (by kernel_rfl) (by kernel_rfl) (fun _ _ _ h => h) (Or.inl ⟨by rfl, by intro w' _; go_simp⟩) hHeld ?_
        show wpAnyH _ _ _ _ _ _ _ (Act.put _ (some 22) _) _
        simp only [Act.put, List.setIfInBounds_toArray, List.set_cons_zero, List.set_cons_succ]
        have HT6 : Hid (X6.there (w.heap.size + 1 + 1 + 1) (k * 32) (w8 c).length) := Lib.hid (HC6.out.there _ _ (by rw [w8_length, w8_length, HCL.out, HPL.out]; omega))
        refine wpAnyH_ready (rs := [9]) (by kernel_rfl) (by simp) ?_
        refine AllReadyH.cons rfl (fun K hK => ?_) AllReadyH.nil
        refine step_store_mid rfl 53 (.tmp 22) (.tmp 20) rfl (w.heap.size + 1 + 1 + 1) (k * 32) (w8 c) rfl rfl HT6.out HIC.out (w8_one _) ?_
        refine hK.out _ _ (HA6.out.farCells (by omega) _) (fun hHeld => ?_)
        clear hK K
        show wpAnyH _ _ _ _ _ _ _ (Act.put _ none _) _
        simp only [Act.put]
        have HA7 := Lib.hid (HA6.out.farCells (b := (w.heap.size + 1 + 1 + 1)) (o := k * 32) (by omega) (w8 c))
        have HD7 := Lib.hid (HD6.out.farCells (b := (w.heap.size + 1 + 1 + 1)) (o := k * 32) (by omega) (w8 c))
        have HB7 := Lib.hid (HB6.out.farCells (b := (w.heap.size + 1 + 1 + 1)) (o := k * 32) (by omega) (w8 c))
        have HC7 := Lib.hid (Blk.put8 (rows f k) (List.replicate 16 0) (List.replicate 16 0 ++ List.replicate (1024 - 32 * (k + 1)) 0) c (by rw [← pairC_open f k hlt]; exact HC6.out) (by rw [HCL.out]; simp) (k * 32) (by rw [HRL.out]; omega))
        have HW7 := Lib.hid (below_cells (g := (w.heap.size + 1 + 1 + 1)) (w8 c) (k * 32) X6 HW6.out (by omega))
        generalize X6.setCells (w.heap.size + 1 + 1 + 1) (k * 32) (w8 c) = X7 at HA7 HD7 HB7 HC7 HW7 ⊢
        refine wpAnyH_done (by kernel_rfl) ?_ _
        clear HW6 HA6 HD6 HB6 HC6 HT6 hHeld HSa
        go_upto_region 7 with fail
        refine wp_region_held_drew (S := fun w' => Blk w' w.heap.size 56 (w8 S)) (by kernel_rfl) (HA7.out.drewN 1) (fun hHeld => ?_)
        have HSb := Lib.hid hHeld
        refine wpAnyH_take (i := 0) (v := .int .i64 (k : Int)) rfl (by kernel_rfl) (by kernel_rfl) (by kernel_rfl) (fun _ _ _ h => h) (Or.inl ⟨by rfl, fun w _ => by rfl⟩) hHeld ?_
        show wpAnyH _ _ _ _ _ _ _ (Act.put _ (some 23) _) _
        simp only [Act.put, List.setIfInBounds_toArray, List.set_cons_zero, List.set_cons_succ]
        refine wpAnyH_take (i := 1) (v := .int .i64 0) rfl (by kernel_rfl) (by kernel_rfl) (by kernel_rfl) (fun _ _ _ h => h) (Or.inl ⟨by rfl, fun w _ => by rfl⟩) hHeld ?_
        show wpAnyH _ _ _ _ _ _ _ (Act.put _ (some 24) _) _
        simp only [Act.put, List.setIfInBounds_toArray, List.set_cons_zero, List.set_cons_succ]
        refine wpAnyH_take (i := 2) (v := .int .i64 1) rfl (by kernel_rfl) (by kernel_rfl) (by kernel_rfl) (fun _ _ _ h => h) (Or.inl ⟨by rfl, by intro w' _; go_simp <;> rfl⟩) hHeld ?_
        show wpAnyH _ _ _ _ _ _ _ (Act.put _ (some 25) _) _
        simp only [Act.put, List.setIfInBounds_toArray, List.set_cons_zero, List.set_cons_succ]
        refine wpAnyH_take (i := 3) (v := .int .i64 (k : Int)) rfl (by kernel_rfl) (by kernel_rfl) (by kernel_rfl) (fun _ _ _ h => h) (Or.inl ⟨by rfl, fun w _ => by rfl⟩) hHeld ?_
        show wpAnyH _ _ _ _ _ _ _ (Act.put _ (some 26) _) _
        simp only [Act.put, List.setIfInBounds_toArray, List.set_cons_zero, List.set_cons_succ]
        refine wpAnyH_take (i := 4) (v := .pointer (some ⟨w.heap.size, 512, none⟩)) rfl (by kernel_rfl) (by kernel_rfl) (by kernel_rfl) (fun _ _ _ h => h) (Or.inl ⟨by rfl, by intro w' _; go_simp⟩) hHeld ?_
        show wpAnyH _ _ _ _ _ _ _ (Act.put _ (some 27) _) _
        simp only [Act.put, List.setIfInBounds_toArray, List.set_cons_zero, List.set_cons_succ]
        refine wpAnyH_take (i := 5) (v := .pointer (some ⟨w.heap.size, 512 + k * 16, none⟩)) rfl (by kernel_rfl) (by kernel_rfl) (by kernel_rfl) (fun _ _ _ h => h) (Or.inl ⟨by rfl, by intro w' _; go_simp⟩) hHeld ?_
        show wpAnyH _ _ _ _ _ _ _ (Act.put _ (some 28) _) _
        simp only [Act.put, List.setIfInBounds_toArray, List.set_cons_zero, List.set_cons_succ]
        refine wpAnyH_take (i := 6) (v := .agg (w8 o).toArray) rfl (by kernel_rfl) (by kernel_rfl) (by kernel_rfl) (fun _ _ _ h => h) (yieldsIf_load_mid (by rfl) 53 (.tmp 28) rfl w.heap.size (512 + k * 16) rfl (w8 o) _ (fun w' h => HR2.out w' h) Tryd.underlying53 rfl HIO.out) hHeld ?_
        show wpAnyH _ _ _ _ _ _ _ (Act.put _ (some 29) _) _
        simp only [Act.put, List.setIfInBounds_toArray, List.set_cons_zero, List.set_cons_succ]
        refine wpAnyH_take (i := 7) (v := .pointer (some ⟨w.heap.size + 1 + 1 + 1, k * 32, none⟩)) rfl (by kernel_rfl) (by kernel_rfl) (by kernel_rfl) (fun _ _ _ h => h) (Or.inl ⟨by rfl, by intro w' _; go_simp⟩) hHeld ?_
        show wpAnyH _ _ _ _ _ _ _ (Act.put _ (some 30) _) _
        simp only [Act.put, List.setIfInBounds_toArray, List.set_cons_zero, List.set_cons_succ]
        refine wpAnyH_take (i := 8) (v := .pointer (some ⟨w.heap.size + 1 + 1 + 1, k * 32 + 16, none⟩)) rfl (by kernel_rfl) (by kernel_rfl) (by kernel_rfl) (fun _ _ _ h => h) (Or.inl ⟨by rfl, by intro w' _; go_simp⟩) hHeld ?_
        show wpAnyH _ _ _ _ _ _ _ (Act.put _ (some 31) _) _
        simp only [Act.put, List.setIfInBounds_toArray, List.set_cons_zero, List.set_cons_succ]
        have HT7 : Hid (X7.drew.there (w.heap.size + 1 + 1 + 1) (k * 32 + 16) (w8 o).length) := Lib.hid ((HC7.out.drewN 1).there _ _ (by rw [w8_length, w8_length, HOLn.out]; simp only [List.length_append, List.length_replicate, HRL.out, HCL.out]; omega))
        refine wpAnyH_ready (rs := [9]) (by kernel_rfl) (by simp) ?_
        refine AllReadyH.cons rfl (fun K hK => ?_) AllReadyH.nil
        refine step_store_mid rfl 53 (.tmp 31) (.tmp 29) rfl (w.heap.size + 1 + 1 + 1) (k * 32 + 16) (w8 o) rfl rfl HT7.out HIO.out (w8_one _) ?_
        refine hK.out _ _ (Blk.farCells (HA7.out.drewN 1) (by omega) _) (fun hHeld => ?_)
        clear hK K
        show wpAnyH _ _ _ _ _ _ _ (Act.put _ none _) _
        simp only [Act.put]
        have HAE := Lib.hid (Blk.farCells (w := X7.drew) (b := (w.heap.size + 1 + 1 + 1)) (o := k * 32 + 16) (HA7.out.drewN 1) (by omega) (w8 o))
        have HDE := Lib.hid (Blk.farCells (w := X7.drew) (b := (w.heap.size + 1 + 1 + 1)) (o := k * 32 + 16) (HD7.out.drewN 1) (by omega) (w8 o))
        have HBE := Lib.hid (Blk.farCells (w := X7.drew) (b := (w.heap.size + 1 + 1 + 1)) (o := k * 32 + 16) (HB7.out.drewN 1) (by omega) (w8 o))
        have HCE : Hid (Blk (X7.drew.setCells (w.heap.size + 1 + 1 + 1) (k * 32 + 16) (w8 o)) (w.heap.size + 1 + 1 + 1) 122 (w8 (pairC f (k + 1)))) := Lib.hid (by
          have h := Blk.put8 (w := X7.drew) (rows f k ++ c) (List.replicate 16 0) (List.replicate (1024 - 32 * (k + 1)) 0) o (by rw [List.append_assoc]; exact HC7.out.drewN 1) (by rw [HOLn.out]; simp) (k * 32 + 16) (by rw [List.length_append, HRL.out, HCL.out]; omega)
          rw [List.append_assoc, pairC_shut f k _ _ HFK.out] at h
          exact h)
        have HWE := Lib.hid (below_cells (g := (w.heap.size + 1 + 1 + 1)) (w8 o) (k * 32 + 16) X7.drew (below_drewN HW7.out 1) (by omega))
        generalize X7.drew.setCells (w.heap.size + 1 + 1 + 1) (k * 32 + 16) (w8 o) = E at HAE HDE HBE HCE HWE ⊢
        refine wpAnyH_done (by kernel_rfl) ?_ _
        clear HW7 HA7 HD7 HB7 HC7 HT7 hHeld HSb
        go_wp2
        go_roundw
        case rel => exact ⟨k + 1, by omega, by go_num, HAE, HDE, HBE, HCE, HWE⟩
        case measure => simp [intOf]; omega
      · have HFK : Hid (f k = o ++ c) := Lib.hid (by rw [HF.out k, h0]; show prN (covN (pcs S k)) (pcs S (32 + k)) 1 = _; rw [HCN.out, HON.out]; rfl)
        rw [h0] at hE5
        subst hE5
        clear h0
        go_upto_region 6 with fail
        refine wp_region_held_drew (S := fun w' => Blk w' w.heap.size 56 (w8 S)) (by kernel_rfl) (HAX5.out.drewN 1) (fun hHeld => ?_)
        have HSa := Lib.hid hHeld
        refine wpAnyH_take (i := 0) (v := .int .i64 (k : Int)) rfl (by kernel_rfl) (by kernel_rfl) (by kernel_rfl) (fun _ _ _ h => h) (Or.inl ⟨by rfl, fun w _ => by rfl⟩) hHeld ?_
        show wpAnyH _ _ _ _ _ _ _ (Act.put _ (some 14) _) _
        simp only [Act.put, List.setIfInBounds_toArray, List.set_cons_zero, List.set_cons_succ]
        refine wpAnyH_take (i := 1) (v := .int .i64 1) rfl (by kernel_rfl) (by kernel_rfl) (by kernel_rfl) (fun _ _ _ h => h) (Or.inl ⟨by rfl, fun w _ => by rfl⟩) hHeld ?_
        show wpAnyH _ _ _ _ _ _ _ (Act.put _ (some 15) _) _
        simp only [Act.put, List.setIfInBounds_toArray, List.set_cons_zero, List.set_cons_succ]
        refine wpAnyH_take (i := 2) (v := .int .i64 (k : Int)) rfl (by kernel_rfl) (by kernel_rfl) (by kernel_rfl) (fun _ _ _ h => h) (Or.inl ⟨by rfl, fun w _ => by rfl⟩) hHeld ?_
        show wpAnyH _ _ _ _ _ _ _ (Act.put _ (some 16) _) _
        simp only [Act.put, List.setIfInBounds_toArray, List.set_cons_zero, List.set_cons_succ]
        refine wpAnyH_take (i := 3) (v := .pointer (some ⟨w.heap.size, 0, none⟩)) rfl (by kernel_rfl) (by kernel_rfl) (by kernel_rfl) (fun _ _ _ h => h) (Or.inl ⟨by rfl, by intro w' _; go_simp⟩) hHeld ?_
        show wpAnyH _ _ _ _ _ _ _ (Act.put _ (some 17) _) _
        simp only [Act.put, List.setIfInBounds_toArray, List.set_cons_zero, List.set_cons_succ]
        refine wpAnyH_take (i := 4) (v := .pointer (some ⟨w.heap.size, k * 16, none⟩)) rfl (by kernel_rfl) (by kernel_rfl) (by kernel_rfl) (fun _ _ _ h => h) (Or.inl ⟨by rfl, by intro w' _; go_simp⟩) hHeld ?_
        show wpAnyH _ _ _ _ _ _ _ (Act.put _ (some 18) _) _
        simp only [Act.put, List.setIfInBounds_toArray, List.set_cons_zero, List.set_cons_succ]
        refine wpAnyH_take (i := 5) (v := .agg (w8 (pcs S k)).toArray) rfl (by kernel_rfl) (by kernel_rfl) (by kernel_rfl) (fun _ _ _ h => h) (yieldsIf_load_mid (by rfl) 53 (.tmp 18) rfl w.heap.size (k * 16) rfl (w8 (pcs S k)) _ (fun w' h => HR1.out w' h) Tryd.underlying53 rfl HI1.out) hHeld ?_
        show wpAnyH _ _ _ _ _ _ _ (Act.put _ (some 19) _) _
        simp only [Act.put, List.setIfInBounds_toArray, List.set_cons_zero, List.set_cons_succ]
        refine wpAnyH_take (i := 7) (v := .pointer (some ⟨w.heap.size + 1 + 1 + 1, k * 32, none⟩)) rfl (by kernel_rfl) (by kernel_rfl) (by kernel_rfl) (fun _ _ _ h => h) (Or.inl ⟨by rfl, by intro w' _; go_simp⟩) hHeld ?_
        show wpAnyH _ _ _ _ _ _ _ (Act.put _ (some 21) _) _
        simp only [Act.put, List.setIfInBounds_toArray, List.set_cons_zero, List.set_cons_succ]
        refine wpAnyH_ready (rs := [6]) (by kernel_rfl) (by simp) ?_
        refine AllReadyH.cons rfl (fun K hK => ?_) AllReadyH.nil
        refine step_call rfl 65 #[.tmp 19] #[53] rfl #[.agg (w8 (pcs S k)).toArray] (by simp [Act.eval]) (by go_simp) (HI2.out _ (below_drewN HWX5.out 1)) ?_
        rintro e X6 ⟨rfl, hB6⟩
        have HW6 := Lib.hid ((below_drewN HWX5.out 1).trans (hB6.mono (below_drewN HWX5.out 1).size))
        have HA6 := Lib.hid (Blk.below (HAX5.out.drewN 1) hB6 HAX5.out.lt)
        have HD6 := Lib.hid (Blk.below (HDX5.out.drewN 1) hB6 HDX5.out.lt)
        have HB6 := Lib.hid (Blk.below (HBX5.out.drewN 1) hB6 HBX5.out.lt)
        have HC6 := Lib.hid (Blk.below (HCX5.out.drewN 1) hB6 HCX5.out.lt)
        clear hB6
        refine ⟨_, rfl, hK.out _ _ (HA6.out) (fun hHeld => ?_)⟩
        clear hK K
        show wpAnyH _ _ _ _ _ _ _ (Act.put _ (some 20) _) _
        simp only [Act.put, List.setIfInBounds_toArray, List.set_cons_zero, List.set_cons_succ]
        refine wpAnyH_take (i := 8) (v := .pointer (some ⟨w.heap.size + 1 + 1 + 1, k * 32 + 16, none⟩)) rfl (by kernel_rfl) (by kernel_rfl) (by kernel_rfl) (fun _ _ _ h => h) (Or.inl ⟨by rfl, by intro w' _; go_simp⟩) hHeld ?_
        show wpAnyH _ _ _ _ _ _ _ (Act.put _ (some 22) _) _
        simp only [Act.put, List.setIfInBounds_toArray, List.set_cons_zero, List.set_cons_succ]
        have HT6 : Hid (X6.there (w.heap.size + 1 + 1 + 1) (k * 32 + 16) (w8 c).length) := Lib.hid (HC6.out.there _ _ (by rw [w8_length, w8_length, HCL.out, HPL.out]; omega))
        refine wpAnyH_ready (rs := [9]) (by kernel_rfl) (by simp) ?_
        refine AllReadyH.cons rfl (fun K hK => ?_) AllReadyH.nil
        refine step_store_mid rfl 53 (.tmp 22) (.tmp 20) rfl (w.heap.size + 1 + 1 + 1) (k * 32 + 16) (w8 c) rfl rfl HT6.out HIC.out (w8_one _) ?_
        refine hK.out _ _ (HA6.out.farCells (by omega) _) (fun hHeld => ?_)
        clear hK K
        show wpAnyH _ _ _ _ _ _ _ (Act.put _ none _) _
        simp only [Act.put]
        have HA7 := Lib.hid (HA6.out.farCells (b := (w.heap.size + 1 + 1 + 1)) (o := k * 32 + 16) (by omega) (w8 c))
        have HD7 := Lib.hid (HD6.out.farCells (b := (w.heap.size + 1 + 1 + 1)) (o := k * 32 + 16) (by omega) (w8 c))
        have HB7 := Lib.hid (HB6.out.farCells (b := (w.heap.size + 1 + 1 + 1)) (o := k * 32 + 16) (by omega) (w8 c))
        have HC7 := Lib.hid (Blk.put8 (rows f k ++ List.replicate 16 0) (List.replicate 16 0) (List.replicate (1024 - 32 * (k + 1)) 0) c (by rw [List.append_assoc, ← pairC_open f k hlt]; exact HC6.out) (by rw [HCL.out]; simp) (k * 32 + 16) (by rw [List.length_append, HRL.out, List.length_replicate]; omega))
        have HW7 := Lib.hid (below_cells (g := (w.heap.size + 1 + 1 + 1)) (w8 c) (k * 32 + 16) X6 HW6.out (by omega))
        generalize X6.setCells (w.heap.size + 1 + 1 + 1) (k * 32 + 16) (w8 c) = X7 at HA7 HD7 HB7 HC7 HW7 ⊢
        refine wpAnyH_done (by kernel_rfl) ?_ _
        clear HW6 HA6 HD6 HB6 HC6 HT6 hHeld HSa
        go_upto_region 7 with fail
        refine wp_region_held_drew (S := fun w' => Blk w' w.heap.size 56 (w8 S)) (by kernel_rfl) (HA7.out.drewN 1) (fun hHeld => ?_)
        have HSb := Lib.hid hHeld
        refine wpAnyH_take (i := 0) (v := .int .i64 (k : Int)) rfl (by kernel_rfl) (by kernel_rfl) (by kernel_rfl) (fun _ _ _ h => h) (Or.inl ⟨by rfl, fun w _ => by rfl⟩) hHeld ?_
        show wpAnyH _ _ _ _ _ _ _ (Act.put _ (some 23) _) _
        simp only [Act.put, List.setIfInBounds_toArray, List.set_cons_zero, List.set_cons_succ]
        refine wpAnyH_take (i := 1) (v := .int .i64 1) rfl (by kernel_rfl) (by kernel_rfl) (by kernel_rfl) (fun _ _ _ h => h) (Or.inl ⟨by rfl, fun w _ => by rfl⟩) hHeld ?_
        show wpAnyH _ _ _ _ _ _ _ (Act.put _ (some 24) _) _
        simp only [Act.put, List.setIfInBounds_toArray, List.set_cons_zero, List.set_cons_succ]
        refine wpAnyH_take (i := 2) (v := .int .i64 0) rfl (by kernel_rfl) (by kernel_rfl) (by kernel_rfl) (fun _ _ _ h => h) (Or.inl ⟨by rfl, by intro w' _; go_simp <;> rfl⟩) hHeld ?_
        show wpAnyH _ _ _ _ _ _ _ (Act.put _ (some 25) _) _
        simp only [Act.put, List.setIfInBounds_toArray, List.set_cons_zero, List.set_cons_succ]
        refine wpAnyH_take (i := 3) (v := .int .i64 (k : Int)) rfl (by kernel_rfl) (by kernel_rfl) (by kernel_rfl) (fun _ _ _ h => h) (Or.inl ⟨by rfl, fun w _ => by rfl⟩) hHeld ?_
        show wpAnyH _ _ _ _ _ _ _ (Act.put _ (some 26) _) _
        simp only [Act.put, List.setIfInBounds_toArray, List.set_cons_zero, List.set_cons_succ]
        refine wpAnyH_take (i := 4) (v := .pointer (some ⟨w.heap.size, 512, none⟩)) rfl (by kernel_rfl) (by kernel_rfl) (by kernel_rfl) (fun _ _ _ h => h) (Or.inl ⟨by rfl, by intro w' _; go_simp⟩) hHeld ?_
        show wpAnyH _ _ _ _ _ _ _ (Act.put _ (some 27) _) _
        simp only [Act.put, List.setIfInBounds_toArray, List.set_cons_zero, List.set_cons_succ]
        refine wpAnyH_take (i := 5) (v := .pointer (some ⟨w.heap.size, 512 + k * 16, none⟩)) rfl (by kernel_rfl) (by kernel_rfl) (by kernel_rfl) (fun _ _ _ h => h) (Or.inl ⟨by rfl, by intro w' _; go_simp⟩) hHeld ?_
        show wpAnyH _ _ _ _ _ _ _ (Act.put _ (some 28) _) _
        simp only [Act.put, List.setIfInBounds_toArray, List.set_cons_zero, List.set_cons_succ]
        refine wpAnyH_take (i := 6) (v := .agg (w8 o).toArray) rfl (by kernel_rfl) (by kernel_rfl) (by kernel_rfl) (fun _ _ _ h => h) (yieldsIf_load_mid (by rfl) 53 (.tmp 28) rfl w.heap.size (512 + k * 16) rfl (w8 o) _ (fun w' h => HR2.out w' h) Tryd.underlying53 rfl HIO.out) hHeld ?_
        show wpAnyH _ _ _ _ _ _ _ (Act.put _ (some 29) _) _
        simp only [Act.put, List.setIfInBounds_toArray, List.set_cons_zero, List.set_cons_succ]
        refine wpAnyH_take (i := 7) (v := .pointer (some ⟨w.heap.size + 1 + 1 + 1, k * 32, none⟩)) rfl (by kernel_rfl) (by kernel_rfl) (by kernel_rfl) (fun _ _ _ h => h) (Or.inl ⟨by rfl, by intro w' _; go_simp⟩) hHeld ?_
        show wpAnyH _ _ _ _ _ _ _ (Act.put _ (some 30) _) _
        simp only [Act.put, List.setIfInBounds_toArray, List.set_cons_zero, List.set_cons_succ]
        refine wpAnyH_take (i := 8) (v := .pointer (some ⟨w.heap.size + 1 + 1 + 1, k * 32, none⟩)) rfl (by kernel_rfl) (by kernel_rfl) (by kernel_rfl) (fun _ _ _ h => h) (Or.inl ⟨by rfl, by intro w' _; go_simp⟩) hHeld ?_
        show wpAnyH _ _ _ _ _ _ _ (Act.put _ (some 31) _) _
        simp only [Act.put, List.setIfInBounds_toArray, List.set_cons_zero, List.set_cons_succ]
        have HT7 : Hid (X7.drew.there (w.heap.size + 1 + 1 + 1) (k * 32) (w8 o).length) := Lib.hid ((HC7.out.drewN 1).there _ _ (by rw [w8_length, w8_length, HOLn.out]; simp only [List.length_append, List.length_replicate, HRL.out, HCL.out]; omega))
        refine wpAnyH_ready (rs := [9]) (by kernel_rfl) (by simp) ?_
        refine AllReadyH.cons rfl (fun K hK => ?_) AllReadyH.nil
        refine step_store_mid rfl 53 (.tmp 31) (.tmp 29) rfl (w.heap.size + 1 + 1 + 1) (k * 32) (w8 o) rfl rfl HT7.out HIO.out (w8_one _) ?_
        refine hK.out _ _ (Blk.farCells (HA7.out.drewN 1) (by omega) _) (fun hHeld => ?_)
        clear hK K
        show wpAnyH _ _ _ _ _ _ _ (Act.put _ none _) _
        simp only [Act.put]
        have HAE := Lib.hid (Blk.farCells (w := X7.drew) (b := (w.heap.size + 1 + 1 + 1)) (o := k * 32) (HA7.out.drewN 1) (by omega) (w8 o))
        have HDE := Lib.hid (Blk.farCells (w := X7.drew) (b := (w.heap.size + 1 + 1 + 1)) (o := k * 32) (HD7.out.drewN 1) (by omega) (w8 o))
        have HBE := Lib.hid (Blk.farCells (w := X7.drew) (b := (w.heap.size + 1 + 1 + 1)) (o := k * 32) (HB7.out.drewN 1) (by omega) (w8 o))
        have HCE : Hid (Blk (X7.drew.setCells (w.heap.size + 1 + 1 + 1) (k * 32) (w8 o)) (w.heap.size + 1 + 1 + 1) 122 (w8 (pairC f (k + 1)))) := Lib.hid (by
          have h := Blk.put8 (w := X7.drew) (rows f k) (List.replicate 16 0) (c ++ List.replicate (1024 - 32 * (k + 1)) 0) o (by rw [← List.append_assoc]; exact HC7.out.drewN 1) (by rw [HOLn.out]; simp) (k * 32) (by rw [HRL.out]; omega)
          rw [pairC_shut f k _ _ HFK.out] at h
          exact h)
        have HWE := Lib.hid (below_cells (g := (w.heap.size + 1 + 1 + 1)) (w8 o) (k * 32) X7.drew (below_drewN HW7.out 1) (by omega))
        generalize X7.drew.setCells (w.heap.size + 1 + 1 + 1) (k * 32) (w8 o) = E at HAE HDE HBE HCE HWE ⊢
        refine wpAnyH_done (by kernel_rfl) ?_ _
        clear HW7 HA7 HD7 HB7 HC7 HT7 hHeld HSb
        go_wp2
        go_roundw
        case rel => exact ⟨k + 1, by omega, by go_num, HAE, HDE, HBE, HCE, HWE⟩
        case measure => simp [intOf]; omega
    · obtain rfl : k = 32 := by omega
      rw [pairC_end] at HC
      have HRG := Lib.hid HC.out.all
      have HS5 : Hid ((Tryd.prog.info? 122).map (·.size) = some (w8 (rows f 32)).length) := Lib.hid (by rw [w8_length, HRL.out]; exact info122)
      go_wp2_with (first | (refine wpList_load_mid rfl 122 (.tmp 5) rfl (w.heap.size + 1 + 1 + 1) 0 rfl (w8 (rows f 32)) _ HRG.out Tryd.underlying122 rfl HS5.out ?_))
      refine (pleaf_any (rows f 32) wr (Lib.hid (HT.out.below HW.out HT.out.lt)) HRL HFB).mono ?_
      rintro e V2 ⟨rfl, hB2⟩
      have HW3 := Lib.hid (HW.out.trans (hB2.mono HW.out.size))
      have HB3 := Lib.hid (HB.out.below hB2 HB.out.lt)
      clear hB2
      rw [← HFR.out]
      have HS6 : Hid ((Tryd.prog.info? 36).map (·.size) = some (w8 (fromN S d)).toArray.size) := Lib.hid (by rw [List.size_toArray, w8_length, fromN_length]; exact info36)
      have HZ6 : Hid ((w8 (List.replicate 32 0)).toArray.size = (w8 (fromN S d)).toArray.size) := Lib.hid (by rw [List.size_toArray, List.size_toArray, w8_length, w8_length, fromN_length]; simp)
      have HO6 := Lib.hid (all_oneCell_toArray (w8_one (fromN S d)))
      go_wp2_with (first | (refine wpList_store_row rfl 36 (.tmp 4) (.tmp 34) rfl (w.heap.size + 1 + 1) (w8 (fromN S d)).toArray rfl rfl 36 _ HB3.out HS6.out HZ6.out HO6.out ?_))
      exact bodyPost_ret (v := .agg (w8 (fromN S d)).toArray) (results_cell_row Tryd.results28 _ _ (w.heap.size + 1 + 1) 36 (w8 (fromN S d)).toArray (0, 0) _ rfl (HB3.out.setRow _) Tryd.underlying36 rfl HS6.out) rfl ⟨rfl, below_setRow HW3.out (by omega) _⟩
end Go.Proofs.YtkonokjhpddbfaaDoor
namespace Go.Proofs.YtkonokjhpddbfaaDoor
open Go.RowKit
set_option linter.unusedVariables false

def zseed : List Nat := List.replicate 32 0
theorem zseed_len : zseed.length = 32 := by simp [zseed]
theorem zseed_lt : ∀ x ∈ zseed, x < 256 := by intro x hx; rw [List.eq_of_mem_replicate hx]; omega
theorem leaf_nonzero : ¬ leafN zseed 0 = List.replicate 32 0 := by
  intro h
  have h1 := leaf_zero
  rw [show List.replicate 32 0 = zseed from rfl, h] at h1
  simp at h1
theorem zs_ex : ∃ zs : List Nat, (w8 zs).toArray = zsum ∧ zs.length = 32 ∧ (∀ x ∈ zs, x < 256) ∧ ¬ leafN zs 0 = List.replicate 32 0 := ⟨zseed, zsum_eq, zseed_len, zseed_lt, leaf_nonzero⟩
end Go.Proofs.YtkonokjhpddbfaaDoor
namespace Go.Proofs.YtkonokjhpddbfaaDoor
open Go.RowKit
set_option linter.unusedVariables false

def fO (S : List Nat) (a : Nat) : List Nat := if a < 32 then pcs S a else List.replicate 16 0
def gO (S : List Nat) (a : Nat) : List Nat := if a < 32 then pcs S (32 + a) else List.replicate 16 0
theorem fO_length (S : List Nat) (h : S.length = 1024) (a : Nat) : (fO S a).length = 16 := by
  unfold fO
  split
  · exact pcs_length _ _ (by omega)
  · simp
theorem gO_length (S : List Nat) (h : S.length = 1024) (a : Nat) : (gO S a).length = 16 := by
  unfold gO
  split
  · exact pcs_length _ _ (by omega)
  · simp
theorem fO_eq (S : List Nat) (a : Nat) (h : a < 32) : fO S a = pcs S a := by unfold fO; rw [if_pos h]
theorem gO_eq (S : List Nat) (a : Nat) (h : a < 32) : gO S a = pcs S (32 + a) := by unfold gO; rw [if_pos h]
theorem rows_pcs (S : List Nat) (j : Nat) : ∀ k, rows (fun a => pcs S (j + a)) k = (S.drop (16 * j)).take (16 * k)
  | 0 => by simp [rows]
  | k + 1 => by
    rw [rows_succ, rows_pcs S j k, Nat.mul_succ, List.take_add, List.drop_drop]
    unfold pcs
    rw [Nat.mul_add]
theorem fgO_all (S : List Nat) (h : S.length = 1024) : rows (fO S) 32 ++ rows (gO S) 32 = S := by
  have e1 : rows (fO S) 32 = rows (fun a => pcs S (0 + a)) 32 := rows_congr 32 fun a ha => by rw [fO_eq S a ha, Nat.zero_add]
  have e2 : rows (gO S) 32 = rows (fun a => pcs S (32 + a)) 32 := rows_congr 32 fun a ha => gO_eq S a ha
  rw [e1, e2, rows_pcs, rows_pcs, Nat.mul_zero, List.drop_zero, List.take_of_length_le (l := S.drop (16 * 32)) (by rw [List.length_drop]; omega), List.take_append_drop]
theorem info48 : (Tryd.prog.info? 48).map (·.size) = some 16 := by kernel_rfl
theorem info51 : (Tryd.prog.info? 51).map (·.size) = some 1024 := by kernel_rfl
theorem zc51 : (w8 (List.replicate 1024 0)).toArray = Tryd.zeroCells51 := by kernel_rfl

set_option maxRecDepth 100000 in
set_option maxHeartbeats 1000000 in
theorem to_any (S : List Nat) (w : World) (HL : Hid (S.length = 1024)) :
    Calls Tryd.prog 27 #[.agg (w8 S).toArray] w fun e w' => e = .returned (.agg (w8 S).toArray) ∧ Below w.heap.size w w' := by
  go_enter Tryd.func27, Tryd.ntmps27
  go_upto_region 2 with fail
  have HA : Hid (Blk (((w.alloc (.cells (w8 S).toArray 51)).alloc (.cells Tryd.zeroCells56 56)).alloc (.cells Tryd.zeroCells56 56)) w.heap.size 51 (w8 S)) := Lib.hid (by
    have h := ((Blk.new w 51 (w8 S)).alloc (.cells Tryd.zeroCells56 56)).alloc (.cells Tryd.zeroCells56 56)
    exact h)
  have HB : Hid (Blk (((w.alloc (.cells (w8 S).toArray 51)).alloc (.cells Tryd.zeroCells56 56)).alloc (.cells Tryd.zeroCells56 56)) (w.heap.size + 1) 56 (w8 (List.replicate 1024 0))) := Lib.hid (by
    have h := (Blk.new (w.alloc (.cells (w8 S).toArray 51)) 56 (w8 (List.replicate 1024 0))).alloc (.cells Tryd.zeroCells56 56)
    rw [zc56, World.size_alloc] at h
    exact h)
  have HC : Hid (Blk (((w.alloc (.cells (w8 S).toArray 51)).alloc (.cells Tryd.zeroCells56 56)).alloc (.cells Tryd.zeroCells56 56)) (w.heap.size + 1 + 1) 56 (w8 (List.replicate 1024 0))) := Lib.hid (by
    have h := Blk.new ((w.alloc (.cells (w8 S).toArray 51)).alloc (.cells Tryd.zeroCells56 56)) 56 (w8 (List.replicate 1024 0))
    rw [zc56, World.size_alloc, World.size_alloc] at h
    exact h)
  have HW : Hid (Below w.heap.size w (((w.alloc (.cells (w8 S).toArray 51)).alloc (.cells Tryd.zeroCells56 56)).alloc (.cells Tryd.zeroCells56 56))) := Lib.hid ((((Below.refl _ _).alloc (Nat.le_refl _) _).alloc (by simp) _).alloc (by simp; omega) _)
  generalize (((w.alloc (.cells (w8 S).toArray 51)).alloc (.cells Tryd.zeroCells56 56)).alloc (.cells Tryd.zeroCells56 56)) = V at HA HB HC HW ⊢
  have HFO : Hid (∀ a, (fO S a).length = 16) := Lib.hid (fO_length S HL.out)
  have HGO : Hid (∀ a, (gO S a).length = 16) := Lib.hid (gO_length S HL.out)
  rw [← sigC_zero (fO S) (gO S)] at HC
  go_wp2_with fail
  go_loopw [5, 4] (fun i _ wr => ∃ (k : Nat), k ≤ 32 ∧ i = .int .i64 k ∧ Hid (Blk wr w.heap.size 51 (w8 S)) ∧ Hid (Blk wr (w.heap.size + 1) 56 (w8 (List.replicate 1024 0))) ∧ Hid (Blk wr (w.heap.size + 1 + 1) 56 (w8 (sigC (fO S) (gO S) k k))) ∧ Hid (Below w.heap.size w wr)) (fun i _ _ => 32 - (intOf i).toNat)
  case atStart => exact ⟨0, Nat.zero_le _, rfl, HA, HB, HC, HW⟩
  case round =>
    clear HA HB HC HW
    obtain ⟨k, hk, rfl, HA, HB, HC, HW⟩ := hrel
    by_cases hlt : k < 32
    · have k1 : (k : Int) < 32 := by omega
      have HP1 : Hid ((pcs S k).length = 16) := Lib.hid (pcs_length _ _ (by rw [HL.out]; omega))
      have HP2 : Hid ((pcs S (32 + k)).length = 16) := Lib.hid (pcs_length _ _ (by rw [HL.out]; omega))
      have HI1 : Hid ((Tryd.prog.info? 53).map (·.size) = some (w8 (pcs S k)).length) := Lib.hid (by rw [w8_length, HP1.out]; exact info53)
      have HI2 : Hid ((Tryd.prog.info? 53).map (·.size) = some (w8 (pcs S (32 + k))).length) := Lib.hid (by rw [w8_length, HP2.out]; exact info53)
      have HI1i : Hid ((Tryd.prog.info? 48).map (·.size) = some (w8 (pcs S k)).length) := Lib.hid (by rw [w8_length, HP1.out]; exact info48)
      have HI2i : Hid ((Tryd.prog.info? 48).map (·.size) = some (w8 (pcs S (32 + k))).length) := Lib.hid (by rw [w8_length, HP2.out]; exact info48)
      go_upto_region 5 with fail
      refine wp_region_held_drew (S := fun w' => Blk w' w.heap.size 51 (w8 S)) (by kernel_rfl) (HA.out.drewN 1) (fun hHeld => ?_)
      have HAX0 : Hid (Blk wr.drew w.heap.size 51 (w8 S)) := Lib.hid (HA.out.drewN 1)
      have HBX0 : Hid (Blk wr.drew (w.heap.size + 1) 56 (w8 (List.replicate 1024 0))) := Lib.hid (HB.out.drewN 1)
      have HCX0 : Hid (Blk wr.drew (w.heap.size + 1 + 1) 56 (w8 (sigC (fO S) (gO S) k k))) := Lib.hid (HC.out.drewN 1)
      have HWX0 : Hid (Below w.heap.size w wr.drew) := Lib.hid (below_drewN HW.out 1)
      generalize wr.drew = X0 at hHeld HAX0 HBX0 HCX0 HWX0  ⊢
      refine wpAnyH_take (i := 0) (v := .int .i64 (k : Int)) rfl (by kernel_rfl) (by kernel_rfl) (by kernel_rfl) (fun _ _ _ h => h) (Or.inl ⟨by rfl, fun w _ => by rfl⟩) hHeld ?_
      show wpAnyH _ _ _ _ _ _ _ (Act.put _ (some 8) _) _
      simp only [Act.put, List.setIfInBounds_toArray, List.set_cons_zero, List.set_cons_succ]
      refine wpAnyH_take (i := 1) (v := .int .i64 (k : Int)) rfl (by kernel_rfl) (by kernel_rfl) (by kernel_rfl) (fun _ _ _ h => h) (Or.inl ⟨by rfl, fun w _ => by rfl⟩) hHeld ?_
      show wpAnyH _ _ _ _ _ _ _ (Act.put _ (some 9) _) _
      simp only [Act.put, List.setIfInBounds_toArray, List.set_cons_zero, List.set_cons_succ]
      refine wpAnyH_take (i := 2) (v := .int .i64 (k : Int)) rfl (by kernel_rfl) (by kernel_rfl) (by kernel_rfl) (fun _ _ _ h => h) (Or.inl ⟨by rfl, fun w _ => by rfl⟩) hHeld ?_
      show wpAnyH _ _ _ _ _ _ _ (Act.put _ (some 10) _) _
      simp only [Act.put, List.setIfInBounds_toArray, List.set_cons_zero, List.set_cons_succ]
      refine wpAnyH_take (i := 3) (v := .pointer (some ⟨w.heap.size, 0, none⟩)) rfl (by kernel_rfl) (by kernel_rfl) (by kernel_rfl) (fun _ _ _ h => h) (Or.inl ⟨by rfl, by intro w' _; go_simp⟩) hHeld ?_
      show wpAnyH _ _ _ _ _ _ _ (Act.put _ (some 11) _) _
      simp only [Act.put, List.setIfInBounds_toArray, List.set_cons_zero, List.set_cons_succ]
      refine wpAnyH_take (i := 4) (v := .pointer (some ⟨w.heap.size, k * 16, none⟩)) rfl (by kernel_rfl) (by kernel_rfl) (by kernel_rfl) (fun _ _ _ h => h) (Or.inl ⟨by rfl, by intro w' _; go_simp⟩) hHeld ?_
      show wpAnyH _ _ _ _ _ _ _ (Act.put _ (some 12) _) _
      simp only [Act.put, List.setIfInBounds_toArray, List.set_cons_zero, List.set_cons_succ]
      refine wpAnyH_take (i := 5) (v := .agg (w8 (pcs S k)).toArray) rfl (by kernel_rfl) (by kernel_rfl) (by kernel_rfl) (fun _ _ _ h => h) (yieldsIf_load_mid (by rfl) 48 (.tmp 12) rfl w.heap.size (k * 16) rfl (w8 (pcs S k)) _ (fun w' h => Blk.piece h k (k * 16) (by omega)) Tryd.underlying48 rfl HI1i.out) hHeld ?_
      show wpAnyH _ _ _ _ _ _ _ (Act.put _ (some 13) _) _
      simp only [Act.put, List.setIfInBounds_toArray, List.set_cons_zero, List.set_cons_succ]
      refine wpAnyH_take (i := 6) (v := .int .i64 (k : Int)) rfl (by kernel_rfl) (by kernel_rfl) (by kernel_rfl) (fun _ _ _ h => h) (Or.inl ⟨by rfl, fun w _ => by rfl⟩) hHeld ?_
      show wpAnyH _ _ _ _ _ _ _ (Act.put _ (some 14) _) _
      simp only [Act.put, List.setIfInBounds_toArray, List.set_cons_zero, List.set_cons_succ]
      refine wpAnyH_take (i := 7) (v := .pointer (some ⟨w.heap.size, 512, none⟩)) rfl (by kernel_rfl) (by kernel_rfl) (by kernel_rfl) (fun _ _ _ h => h) (Or.inl ⟨by rfl, by intro w' _; go_simp⟩) hHeld ?_
      show wpAnyH _ _ _ _ _ _ _ (Act.put _ (some 15) _) _
      simp only [Act.put, List.setIfInBounds_toArray, List.set_cons_zero, List.set_cons_succ]
      refine wpAnyH_take (i := 8) (v := .pointer (some ⟨w.heap.size, 512 + k * 16, none⟩)) rfl (by kernel_rfl) (by kernel_rfl) (by kernel_rfl) (fun _ _ _ h => h) (Or.inl ⟨by rfl, by intro w' _; go_simp⟩) hHeld ?_
      show wpAnyH _ _ _ _ _ _ _ (Act.put _ (some 16) _) _
      simp only [Act.put, List.setIfInBounds_toArray, List.set_cons_zero, List.set_cons_succ]
      refine wpAnyH_take (i := 9) (v := .agg (w8 (pcs S (32 + k))).toArray) rfl (by kernel_rfl) (by kernel_rfl) (by kernel_rfl) (fun _ _ _ h => h) (yieldsIf_load_mid (by rfl) 48 (.tmp 16) rfl w.heap.size (512 + k * 16) rfl (w8 (pcs S (32 + k))) _ (fun w' h => Blk.piece h (32 + k) (512 + k * 16) (by omega)) Tryd.underlying48 rfl HI2i.out) hHeld ?_
      show wpAnyH _ _ _ _ _ _ _ (Act.put _ (some 17) _) _
      simp only [Act.put, List.setIfInBounds_toArray, List.set_cons_zero, List.set_cons_succ]
      refine wpAnyH_take (i := 10) (v := .pointer (some ⟨w.heap.size + 1 + 1, 0, none⟩)) rfl (by kernel_rfl) (by kernel_rfl) (by kernel_rfl) (fun _ _ _ h => h) (Or.inl ⟨by rfl, by intro w' _; go_simp⟩) hHeld ?_
      show wpAnyH _ _ _ _ _ _ _ (Act.put _ (some 18) _) _
      simp only [Act.put, List.setIfInBounds_toArray, List.set_cons_zero, List.set_cons_succ]
      refine wpAnyH_take (i := 11) (v := .pointer (some ⟨w.heap.size + 1 + 1, k * 16, none⟩)) rfl (by kernel_rfl) (by kernel_rfl) (by kernel_rfl) (fun _ _ _ h => h) (Or.inl ⟨by rfl, by intro w' _; go_simp⟩) hHeld ?_
      show wpAnyH _ _ _ _ _ _ _ (Act.put _ (some 19) _) _
      simp only [Act.put, List.setIfInBounds_toArray, List.set_cons_zero, List.set_cons_succ]
      refine wpAnyH_take (i := 13) (v := .pointer (some ⟨w.heap.size + 1 + 1, 512, none⟩)) rfl (by kernel_rfl) (by kernel_rfl) (by kernel_rfl) (fun _ _ _ h => h) (Or.inl ⟨by rfl, by intro w' _; go_simp⟩) hHeld ?_
      show wpAnyH _ _ _ _ _ _ _ (Act.put _ (some 20) _) _
      simp only [Act.put, List.setIfInBounds_toArray, List.set_cons_zero, List.set_cons_succ]
      have HTH : Hid (X0.there (w.heap.size + 1 + 1) (k * 16) (w8 (pcs S k)).length) := Lib.hid (HCX0.out.there _ _ (by rw [w8_length, w8_length, HP1.out, sigC_length _ _ HFO.out HGO.out k k (by omega) (by omega)]; omega))
      refine wpAnyH_ready (rs := [12]) (by kernel_rfl) (by simp) ?_
      refine AllReadyH.cons rfl (fun K hK => ?_) AllReadyH.nil
      refine step_store_mid rfl 53 (.tmp 19) (.tmp 13) rfl (w.heap.size + 1 + 1) (k * 16) (w8 (pcs S k)) rfl rfl HTH.out HI1.out (w8_one _) ?_
      refine hK.out _ _ (HAX0.out.farCells (by omega) _) (fun hHeld => ?_)
      clear hK K
      show wpAnyH _ _ _ _ _ _ _ (Act.put _ none _) _
      simp only [Act.put]
      have HAX1 := Lib.hid (HAX0.out.farCells (b := (w.heap.size + 1 + 1)) (o := k * 16) (by omega) (w8 (pcs S k)))
      have HBX1 := Lib.hid (HBX0.out.farCells (b := (w.heap.size + 1 + 1)) (o := k * 16) (by omega) (w8 (pcs S k)))
      have HCX1 := Lib.hid (sigC_open _ _ HFO.out HGO.out k k hlt _ (fO_eq S k hlt) HCX0.out)
      have HWX1 := Lib.hid (below_cells (g := (w.heap.size + 1 + 1)) (w8 (pcs S k)) (k * 16) X0 HWX0.out (by omega))
      clear HTH HAX0 HBX0 HCX0 HWX0
      generalize X0.setCells (w.heap.size + 1 + 1) (k * 16) (w8 (pcs S k)) = X1 at hHeld HAX1 HBX1 HCX1 HWX1 ⊢
      refine wpAnyH_take (i := 14) (v := .pointer (some ⟨w.heap.size + 1 + 1, 512 + k * 16, none⟩)) rfl (by kernel_rfl) (by kernel_rfl) (by kernel_rfl) (fun _ _ _ h => h) (Or.inl ⟨by rfl, by intro w' _; go_simp⟩) hHeld ?_
      show wpAnyH _ _ _ _ _ _ _ (Act.put _ (some 21) _) _
      simp only [Act.put, List.setIfInBounds_toArray, List.set_cons_zero, List.set_cons_succ]
      have HTH : Hid (X1.there (w.heap.size + 1 + 1) (512 + k * 16) (w8 (pcs S (32 + k))).length) := Lib.hid (HCX1.out.there _ _ (by rw [w8_length, w8_length, HP2.out, sigC_length _ _ HFO.out HGO.out (k + 1) k (by omega) (by omega)]; omega))
      refine wpAnyH_ready (rs := [15]) (by kernel_rfl) (by simp) ?_
      refine AllReadyH.cons rfl (fun K hK => ?_) AllReadyH.nil
      refine step_store_mid rfl 53 (.tmp 21) (.tmp 17) rfl (w.heap.size + 1 + 1) (512 + k * 16) (w8 (pcs S (32 + k))) rfl rfl HTH.out HI2.out (w8_one _) ?_
      refine hK.out _ _ (HAX1.out.farCells (by omega) _) (fun hHeld => ?_)
      clear hK K
      show wpAnyH _ _ _ _ _ _ _ (Act.put _ none _) _
      simp only [Act.put]
      have HAX2 := Lib.hid (HAX1.out.farCells (b := (w.heap.size + 1 + 1)) (o := 512 + k * 16) (by omega) (w8 (pcs S (32 + k))))
      have HBX2 := Lib.hid (HBX1.out.farCells (b := (w.heap.size + 1 + 1)) (o := 512 + k * 16) (by omega) (w8 (pcs S (32 + k))))
      have HCX2 := Lib.hid (sigC_other _ _ HFO.out HGO.out (k + 1) k hlt (by omega) _ (gO_eq S k hlt) HCX1.out)
      have HWX2 := Lib.hid (below_cells (g := (w.heap.size + 1 + 1)) (w8 (pcs S (32 + k))) (512 + k * 16) X1 HWX1.out (by omega))
      clear HTH HAX1 HBX1 HCX1 HWX1
      generalize X1.setCells (w.heap.size + 1 + 1) (512 + k * 16) (w8 (pcs S (32 + k))) = X2 at hHeld HAX2 HBX2 HCX2 HWX2 ⊢
      refine wpAnyH_done (by kernel_rfl) ?_ _
      clear hHeld
      go_wp2
      go_roundw
      case rel => exact ⟨k + 1, by omega, by go_num, HAX2, HBX2, HCX2, HWX2⟩
      case measure => simp [intOf]; omega
    · obtain rfl : k = 32 := by omega
      rw [sigC_end, fgO_all S HL.out] at HC
      have HRG := Lib.hid HC.out.all
      have HS5 : Hid ((Tryd.prog.info? 56).map (·.size) = some (w8 S).length) := Lib.hid (by rw [w8_length, HL.out]; exact info56)
      have HS6 : Hid ((Tryd.prog.info? 56).map (·.size) = some (w8 S).toArray.size) := Lib.hid (by rw [List.size_toArray, w8_length, HL.out]; exact info56)
      have HZ6 : Hid ((w8 (List.replicate 1024 0)).toArray.size = (w8 S).toArray.size) := Lib.hid (by rw [List.size_toArray, List.size_toArray, w8_length, w8_length, HL.out]; simp)
      have HO6 := Lib.hid (all_oneCell_toArray (w8_one S))
      go_wp2_with (first | (refine wpList_load_mid rfl 56 (.tmp 3) rfl (w.heap.size + 1 + 1) 0 rfl (w8 S) _ HRG.out Tryd.underlying56 rfl HS5.out ?_) | (refine wpList_store_row rfl 56 (.tmp 2) (.tmp 23) rfl (w.heap.size + 1) (w8 S).toArray rfl rfl 56 _ HB.out HS6.out HZ6.out HO6.out ?_))
      exact bodyPost_ret (v := .agg (w8 S).toArray) (results_cell_row Tryd.results27 _ _ (w.heap.size + 1) 56 (w8 S).toArray (0, 0) _ rfl (HB.out.setRow _) Tryd.underlying56 rfl HS6.out) rfl ⟨rfl, below_setRow HW.out (by omega) _⟩

set_option maxRecDepth 100000 in
set_option maxHeartbeats 1000000 in
theorem lfrom_any (S : List Nat) (w : World) (HL : Hid (S.length = 1024)) :
    Calls Tryd.prog 24 #[.agg (w8 S).toArray] w fun e w' => e = .returned (.agg (w8 S).toArray) ∧ Below w.heap.size w w' := by
  go_enter Tryd.func24, Tryd.ntmps24
  go_upto_region 2 with fail
  have HA : Hid (Blk (((w.alloc (.cells (w8 S).toArray 56)).alloc (.cells Tryd.zeroCells51 51)).alloc (.cells Tryd.zeroCells51 51)) w.heap.size 56 (w8 S)) := Lib.hid (by
    have h := ((Blk.new w 56 (w8 S)).alloc (.cells Tryd.zeroCells51 51)).alloc (.cells Tryd.zeroCells51 51)
    exact h)
  have HB : Hid (Blk (((w.alloc (.cells (w8 S).toArray 56)).alloc (.cells Tryd.zeroCells51 51)).alloc (.cells Tryd.zeroCells51 51)) (w.heap.size + 1) 51 (w8 (List.replicate 1024 0))) := Lib.hid (by
    have h := (Blk.new (w.alloc (.cells (w8 S).toArray 56)) 51 (w8 (List.replicate 1024 0))).alloc (.cells Tryd.zeroCells51 51)
    rw [zc51, World.size_alloc] at h
    exact h)
  have HC : Hid (Blk (((w.alloc (.cells (w8 S).toArray 56)).alloc (.cells Tryd.zeroCells51 51)).alloc (.cells Tryd.zeroCells51 51)) (w.heap.size + 1 + 1) 51 (w8 (List.replicate 1024 0))) := Lib.hid (by
    have h := Blk.new ((w.alloc (.cells (w8 S).toArray 56)).alloc (.cells Tryd.zeroCells51 51)) 51 (w8 (List.replicate 1024 0))
    rw [zc51, World.size_alloc, World.size_alloc] at h
    exact h)
  have HW : Hid (Below w.heap.size w (((w.alloc (.cells (w8 S).toArray 56)).alloc (.cells Tryd.zeroCells51 51)).alloc (.cells Tryd.zeroCells51 51))) := Lib.hid ((((Below.refl _ _).alloc (Nat.le_refl _) _).alloc (by simp) _).alloc (by simp; omega) _)
  generalize (((w.alloc (.cells (w8 S).toArray 56)).alloc (.cells Tryd.zeroCells51 51)).alloc (.cells Tryd.zeroCells51 51)) = V at HA HB HC HW ⊢
  have HFO : Hid (∀ a, (fO S a).length = 16) := Lib.hid (fO_length S HL.out)
  have HGO : Hid (∀ a, (gO S a).length = 16) := Lib.hid (gO_length S HL.out)
  rw [← sigC_zero (fO S) (gO S)] at HC
  go_wp2_with fail
  go_loopw [5, 4] (fun i _ wr => ∃ (k : Nat), k ≤ 32 ∧ i = .int .i64 k ∧ Hid (Blk wr w.heap.size 56 (w8 S)) ∧ Hid (Blk wr (w.heap.size + 1) 51 (w8 (List.replicate 1024 0))) ∧ Hid (Blk wr (w.heap.size + 1 + 1) 51 (w8 (sigC (fO S) (gO S) k k))) ∧ Hid (Below w.heap.size w wr)) (fun i _ _ => 32 - (intOf i).toNat)
  case atStart => exact ⟨0, Nat.zero_le _, rfl, HA, HB, HC, HW⟩
  case round =>
    clear HA HB HC HW
    obtain ⟨k, hk, rfl, HA, HB, HC, HW⟩ := hrel
    by_cases hlt : k < 32
    · have k1 : (k : Int) < 32 := by omega
      have HP1 : Hid ((pcs S k).length = 16) := Lib.hid (pcs_length _ _ (by rw [HL.out]; omega))
      have HP2 : Hid ((pcs S (32 + k)).length = 16) := Lib.hid (pcs_length _ _ (by rw [HL.out]; omega))
      have HI1 : Hid ((Tryd.prog.info? 48).map (·.size) = some (w8 (pcs S k)).length) := Lib.hid (by rw [w8_length, HP1.out]; exact info48)
      have HI2 : Hid ((Tryd.prog.info? 48).map (·.size) = some (w8 (pcs S (32 + k))).length) := Lib.hid (by rw [w8_length, HP2.out]; exact info48)
      have HI1i : Hid ((Tryd.prog.info? 53).map (·.size) = some (w8 (pcs S k)).length) := Lib.hid (by rw [w8_length, HP1.out]; exact info53)
      have HI2i : Hid ((Tryd.prog.info? 53).map (·.size) = some (w8 (pcs S (32 + k))).length) := Lib.hid (by rw [w8_length, HP2.out]; exact info53)
      go_upto_region 5 with fail
      refine wp_region_held_drew (S := fun w' => Blk w' w.heap.size 56 (w8 S)) (by kernel_rfl) (HA.out.drewN 1) (fun hHeld => ?_)
      have HAX0 : Hid (Blk wr.drew w.heap.size 56 (w8 S)) := Lib.hid (HA.out.drewN 1)
      have HBX0 : Hid (Blk wr.drew (w.heap.size + 1) 51 (w8 (List.replicate 1024 0))) := Lib.hid (HB.out.drewN 1)
      have HCX0 : Hid (Blk wr.drew (w.heap.size + 1 + 1) 51 (w8 (sigC (fO S) (gO S) k k))) := Lib.hid (HC.out.drewN 1)
      have HWX0 : Hid (Below w.heap.size w wr.drew) := Lib.hid (below_drewN HW.out 1)
      generalize wr.drew = X0 at hHeld HAX0 HBX0 HCX0 HWX0  ⊢
      refine wpAnyH_take (i := 0) (v := .int .i64 (k : Int)) rfl (by kernel_rfl) (by kernel_rfl) (by kernel_rfl) (fun _ _ _ h => h) (Or.inl ⟨by rfl, fun w _ => by rfl⟩) hHeld ?_
      show wpAnyH _ _ _ _ _ _ _ (Act.put _ (some 8) _) _
      simp only [Act.put, List.setIfInBounds_toArray, List.set_cons_zero, List.set_cons_succ]
      refine wpAnyH_take (i := 1) (v := .int .i64 (k : Int)) rfl (by kernel_rfl) (by kernel_rfl) (by kernel_rfl) (fun _ _ _ h => h) (Or.inl ⟨by rfl, fun w _ => by rfl⟩) hHeld ?_
      show wpAnyH _ _ _ _ _ _ _ (Act.put _ (some 9) _) _
      simp only [Act.put, List.setIfInBounds_toArray, List.set_cons_zero, List.set_cons_succ]
      refine wpAnyH_take (i := 2) (v := .int .i64 (k : Int)) rfl (by kernel_rfl) (by kernel_rfl) (by kernel_rfl) (fun _ _ _ h => h) (Or.inl ⟨by rfl, fun w _ => by rfl⟩) hHeld ?_
      show wpAnyH _ _ _ _ _ _ _ (Act.put _ (some 10) _) _
      simp only [Act.put, List.setIfInBounds_toArray, List.set_cons_zero, List.set_cons_succ]
      refine wpAnyH_take (i := 3) (v := .pointer (some ⟨w.heap.size, 0, none⟩)) rfl (by kernel_rfl) (by kernel_rfl) (by kernel_rfl) (fun _ _ _ h => h) (Or.inl ⟨by rfl, by intro w' _; go_simp⟩) hHeld ?_
      show wpAnyH _ _ _ _ _ _ _ (Act.put _ (some 11) _) _
      simp only [Act.put, List.setIfInBounds_toArray, List.set_cons_zero, List.set_cons_succ]
      refine wpAnyH_take (i := 4) (v := .pointer (some ⟨w.heap.size, k * 16, none⟩)) rfl (by kernel_rfl) (by kernel_rfl) (by kernel_rfl) (fun _ _ _ h => h) (Or.inl ⟨by rfl, by intro w' _; go_simp⟩) hHeld ?_
      show wpAnyH _ _ _ _ _ _ _ (Act.put _ (some 12) _) _
      simp only [Act.put, List.setIfInBounds_toArray, List.set_cons_zero, List.set_cons_succ]
      refine wpAnyH_take (i := 5) (v := .agg (w8 (pcs S k)).toArray) rfl (by kernel_rfl) (by kernel_rfl) (by kernel_rfl) (fun _ _ _ h => h) (yieldsIf_load_mid (by rfl) 53 (.tmp 12) rfl w.heap.size (k * 16) rfl (w8 (pcs S k)) _ (fun w' h => Blk.piece h k (k * 16) (by omega)) Tryd.underlying53 rfl HI1i.out) hHeld ?_
      show wpAnyH _ _ _ _ _ _ _ (Act.put _ (some 13) _) _
      simp only [Act.put, List.setIfInBounds_toArray, List.set_cons_zero, List.set_cons_succ]
      refine wpAnyH_take (i := 6) (v := .int .i64 (k : Int)) rfl (by kernel_rfl) (by kernel_rfl) (by kernel_rfl) (fun _ _ _ h => h) (Or.inl ⟨by rfl, fun w _ => by rfl⟩) hHeld ?_
      show wpAnyH _ _ _ _ _ _ _ (Act.put _ (some 14) _) _
      simp only [Act.put, List.setIfInBounds_toArray, List.set_cons_zero, List.set_cons_succ]
      refine wpAnyH_take (i := 7) (v := .pointer (some ⟨w.heap.size, 512, none⟩)) rfl (by kernel_rfl) (by kernel_rfl) (by kernel_rfl) (fun _ _ _ h => h) (Or.inl ⟨by rfl, by intro w' _; go_simp⟩) hHeld ?_
      show wpAnyH _ _ _ _ _ _ _ (Act.put _ (some 15) _) _
      simp only [Act.put, List.setIfInBounds_toArray, List.set_cons_zero, List.set_cons_succ]
      refine wpAnyH_take (i := 8) (v := .pointer (some ⟨w.heap.size, 512 + k * 16, none⟩)) rfl (by kernel_rfl) (by kernel_rfl) (by kernel_rfl) (fun _ _ _ h => h) (Or.inl ⟨by rfl, by intro w' _; go_simp⟩) hHeld ?_
      show wpAnyH _ _ _ _ _ _ _ (Act.put _ (some 16) _) _
      simp only [Act.put, List.setIfInBounds_toArray, List.set_cons_zero, List.set_cons_succ]
      refine wpAnyH_take (i := 9) (v := .agg (w8 (pcs S (32 + k))).toArray) rfl (by kernel_rfl) (by kernel_rfl) (by kernel_rfl) (fun _ _ _ h => h) (yieldsIf_load_mid (by rfl) 53 (.tmp 16) rfl w.heap.size (512 + k * 16) rfl (w8 (pcs S (32 + k))) _ (fun w' h => Blk.piece h (32 + k) (512 + k * 16) (by omega)) Tryd.underlying53 rfl HI2i.out) hHeld ?_
      show wpAnyH _ _ _ _ _ _ _ (Act.put _ (some 17) _) _
      simp only [Act.put, List.setIfInBounds_toArray, List.set_cons_zero, List.set_cons_succ]
      refine wpAnyH_take (i := 10) (v := .pointer (some ⟨w.heap.size + 1 + 1, 0, none⟩)) rfl (by kernel_rfl) (by kernel_rfl) (by kernel_rfl) (fun _ _ _ h => h) (Or.inl ⟨by rfl, by intro w' _; go_simp⟩) hHeld ?_
      show wpAnyH _ _ _ _ _ _ _ (Act.put _ (some 18) _) _
      simp only [Act.put, List.setIfInBounds_toArray, List.set_cons_zero, List.set_cons_succ]
      refine wpAnyH_take (i := 11) (v := .pointer (some ⟨w.heap.size + 1 + 1, k * 16, none⟩)) rfl (by kernel_rfl) (by kernel_rfl) (by kernel_rfl) (fun _ _ _ h => h) (Or.inl ⟨by rfl, by intro w' _; go_simp⟩) hHeld ?_
      show wpAnyH _ _ _ _ _ _ _ (Act.put _ (some 19) _) _
      simp only [Act.put, List.setIfInBounds_toArray, List.set_cons_zero, List.set_cons_succ]
      refine wpAnyH_take (i := 13) (v := .pointer (some ⟨w.heap.size + 1 + 1, 512, none⟩)) rfl (by kernel_rfl) (by kernel_rfl) (by kernel_rfl) (fun _ _ _ h => h) (Or.inl ⟨by rfl, by intro w' _; go_simp⟩) hHeld ?_
      show wpAnyH _ _ _ _ _ _ _ (Act.put _ (some 20) _) _
      simp only [Act.put, List.setIfInBounds_toArray, List.set_cons_zero, List.set_cons_succ]
      have HTH : Hid (X0.there (w.heap.size + 1 + 1) (k * 16) (w8 (pcs S k)).length) := Lib.hid (HCX0.out.there _ _ (by rw [w8_length, w8_length, HP1.out, sigC_length _ _ HFO.out HGO.out k k (by omega) (by omega)]; omega))
      refine wpAnyH_ready (rs := [12]) (by kernel_rfl) (by simp) ?_
      refine AllReadyH.cons rfl (fun K hK => ?_) AllReadyH.nil
      refine step_store_mid rfl 48 (.tmp 19) (.tmp 13) rfl (w.heap.size + 1 + 1) (k * 16) (w8 (pcs S k)) rfl rfl HTH.out HI1.out (w8_one _) ?_
      refine hK.out _ _ (HAX0.out.farCells (by omega) _) (fun hHeld => ?_)
      clear hK K
      show wpAnyH _ _ _ _ _ _ _ (Act.put _ none _) _
      simp only [Act.put]
      have HAX1 := Lib.hid (HAX0.out.farCells (b := (w.heap.size + 1 + 1)) (o := k * 16) (by omega) (w8 (pcs S k)))
      have HBX1 := Lib.hid (HBX0.out.farCells (b := (w.heap.size + 1 + 1)) (o := k * 16) (by omega) (w8 (pcs S k)))
      have HCX1 := Lib.hid (sigC_open _ _ HFO.out HGO.out k k hlt _ (fO_eq S k hlt) HCX0.out)
      have HWX1 := Lib.hid (below_cells (g := (w.heap.size + 1 + 1)) (w8 (pcs S k)) (k * 16) X0 HWX0.out (by omega))
      clear HTH HAX0 HBX0 HCX0 HWX0
      generalize X0.setCells (w.heap.size + 1 + 1) (k * 16) (w8 (pcs S k)) = X1 at hHeld HAX1 HBX1 HCX1 HWX1 ⊢
      refine wpAnyH_take (i := 14) (v := .pointer (some ⟨w.heap.size + 1 + 1, 512 + k * 16, none⟩)) rfl (by kernel_rfl) (by kernel_rfl) (by kernel_rfl) (fun _ _ _ h => h) (Or.inl ⟨by rfl, by intro w' _; go_simp⟩) hHeld ?_
      show wpAnyH _ _ _ _ _ _ _ (Act.put _ (some 21) _) _
      simp only [Act.put, List.setIfInBounds_toArray, List.set_cons_zero, List.set_cons_succ]
      have HTH : Hid (X1.there (w.heap.size + 1 + 1) (512 + k * 16) (w8 (pcs S (32 + k))).length) := Lib.hid (HCX1.out.there _ _ (by rw [w8_length, w8_length, HP2.out, sigC_length _ _ HFO.out HGO.out (k + 1) k (by omega) (by omega)]; omega))
      refine wpAnyH_ready (rs := [15]) (by kernel_rfl) (by simp) ?_
      refine AllReadyH.cons rfl (fun K hK => ?_) AllReadyH.nil
      refine step_store_mid rfl 48 (.tmp 21) (.tmp 17) rfl (w.heap.size + 1 + 1) (512 + k * 16) (w8 (pcs S (32 + k))) rfl rfl HTH.out HI2.out (w8_one _) ?_
      refine hK.out _ _ (HAX1.out.farCells (by omega) _) (fun hHeld => ?_)
      clear hK K
      show wpAnyH _ _ _ _ _ _ _ (Act.put _ none _) _
      simp only [Act.put]
      have HAX2 := Lib.hid (HAX1.out.farCells (b := (w.heap.size + 1 + 1)) (o := 512 + k * 16) (by omega) (w8 (pcs S (32 + k))))
      have HBX2 := Lib.hid (HBX1.out.farCells (b := (w.heap.size + 1 + 1)) (o := 512 + k * 16) (by omega) (w8 (pcs S (32 + k))))
      have HCX2 := Lib.hid (sigC_other _ _ HFO.out HGO.out (k + 1) k hlt (by omega) _ (gO_eq S k hlt) HCX1.out)
      have HWX2 := Lib.hid (below_cells (g := (w.heap.size + 1 + 1)) (w8 (pcs S (32 + k))) (512 + k * 16) X1 HWX1.out (by omega))
      clear HTH HAX1 HBX1 HCX1 HWX1
      generalize X1.setCells (w.heap.size + 1 + 1) (512 + k * 16) (w8 (pcs S (32 + k))) = X2 at hHeld HAX2 HBX2 HCX2 HWX2 ⊢
      refine wpAnyH_done (by kernel_rfl) ?_ _
      clear hHeld
      go_wp2
      go_roundw
      case rel => exact ⟨k + 1, by omega, by go_num, HAX2, HBX2, HCX2, HWX2⟩
      case measure => simp [intOf]; omega
    · obtain rfl : k = 32 := by omega
      rw [sigC_end, fgO_all S HL.out] at HC
      have HRG := Lib.hid HC.out.all
      have HS5 : Hid ((Tryd.prog.info? 51).map (·.size) = some (w8 S).length) := Lib.hid (by rw [w8_length, HL.out]; exact info51)
      have HS6 : Hid ((Tryd.prog.info? 51).map (·.size) = some (w8 S).toArray.size) := Lib.hid (by rw [List.size_toArray, w8_length, HL.out]; exact info51)
      have HZ6 : Hid ((w8 (List.replicate 1024 0)).toArray.size = (w8 S).toArray.size) := Lib.hid (by rw [List.size_toArray, List.size_toArray, w8_length, w8_length, HL.out]; simp)
      have HO6 := Lib.hid (all_oneCell_toArray (w8_one S))
      go_wp2_with (first | (refine wpList_load_mid rfl 51 (.tmp 3) rfl (w.heap.size + 1 + 1) 0 rfl (w8 S) _ HRG.out Tryd.underlying51 rfl HS5.out ?_) | (refine wpList_store_row rfl 51 (.tmp 2) (.tmp 23) rfl (w.heap.size + 1) (w8 S).toArray rfl rfl 51 _ HB.out HS6.out HZ6.out HO6.out ?_))
      exact bodyPost_ret (v := .agg (w8 S).toArray) (results_cell_row Tryd.results24 _ _ (w.heap.size + 1) 51 (w8 S).toArray (0, 0) _ rfl (HB.out.setRow _) Tryd.underlying51 rfl HS6.out) rfl ⟨rfl, below_setRow HW.out (by omega) _⟩

end Go.Proofs.YtkonokjhpddbfaaDoor
namespace Go.Proofs.YtkonokjhpddbfaaDoor
open Go.RowKit
set_option linter.unusedVariables false

theorem part_piece (S : List Nat) (o : Nat) (ho : o + 16 ≤ S.length) (w : World) : (Go.part 48 (w8 S).toArray o).run Tryd.prog w = .ok (.agg (w8 ((S.drop o).take 16)).toArray) w := by
  have hi := info48
  cases hq : Tryd.prog.info? 48 with
  | none => simp [hq] at hi
  | some i =>
    have hs : i.size = 16 := by simpa [hq] using hi
    simp [Go.part, isAgg, run_underlying Tryd.underlying48, sizeOf, typeInfo, hq, hs]
    rw [w8_drop, w8_take]
theorem piece_same (a : List Nat) (ha : a.length = 16) (d : Nat) (w : World) : (Op.equalIn (d + 2) 48 (.agg (w8 a).toArray) (.agg (w8 a).toArray)).run Tryd.prog w = .ok true w := by
  obtain ⟨i0, hi, hz0, hz1, hz2⟩ := info_parts (show (Tryd.prog.info? 5).map (fun i => (i.zero, i.size, i.bytes)) = some (some (.int .u8 0), 1, 1) by kernel_rfl)
  have h := run_equalIn_array (P := Tryd.prog) w (d + 1) (w8 a).toArray (w8 a).toArray Tryd.underlying48 hi
  rw [h, show Tryd.prog.cellsOf 5 = 1 by kernel_rfl]
  have h2 := eq_items a a 16 ha ha d w 16 (List.range 16) (by simp) (Nat.le_refl _)
  rw [h2]
  simp
theorem eq_step (D e c : Nat) (xs : Array Value) (i : Nat) (is : List Nat) (a : Value) (w : World) (h1 : (Go.part e xs (i * c)).run Tryd.prog w = .ok a w) (h2 : (Op.equalIn D e a a).run Tryd.prog w = .ok true w) :
    (Op.eqItems D e c xs xs (i :: is)).run Tryd.prog w = (Op.eqItems D e c xs xs is).run Tryd.prog w := by
  simp only [Op.eqItems, Sem.run_bind, h1, h2, Result.andThen_ok]
  rfl
theorem items_same (S : List Nat) (d : Nat) (w : World) : ∀ (is : List Nat), (∀ i ∈ is, i * 16 + 16 ≤ S.length) → (Op.eqItems (d + 2) 48 16 (w8 S).toArray (w8 S).toArray is).run Tryd.prog w = .ok true w := by
  intro is
  induction is with
  | nil => intro _; rfl
  | cons i is ih =>
    intro h
    rw [eq_step (d + 2) 48 16 (w8 S).toArray i is _ w (part_piece S (i * 16) (h i (by simp)) w) (piece_same _ (by simp; have := h i (by simp); omega) d w)]
    exact ih (fun j hj => h j (by simp [hj]))
theorem info49 : (Tryd.prog.info? 49).map (fun i => i.size) = some 512 := by kernel_rfl
theorem row_same (S : List Nat) (hS : S.length = 512) (d : Nat) (w : World) : (Op.equalIn (d + 3) 49 (.agg (w8 S).toArray) (.agg (w8 S).toArray)).run Tryd.prog w = .ok true w := by
  have hi := info48
  cases hq : Tryd.prog.info? 48 with
  | none => simp [hq] at hi
  | some i =>
    have h := run_equalIn_array (P := Tryd.prog) w (d + 2) (w8 S).toArray (w8 S).toArray Tryd.underlying49 hq
    rw [h, show Tryd.prog.cellsOf 48 = 16 by kernel_rfl]
    exact items_same S d w (List.range 32) (fun i hi => by have := List.mem_range.1 hi; omega)
theorem part_row (S : List Nat) (o : Nat) (ho : o + 512 ≤ S.length) (w : World) : (Go.part 49 (w8 S).toArray o).run Tryd.prog w = .ok (.agg (w8 ((S.drop o).take 512)).toArray) w := by
  have hi := info49
  cases hq : Tryd.prog.info? 49 with
  | none => simp [hq] at hi
  | some i =>
    have hs : i.size = 512 := by simpa [hq] using hi
    simp [Go.part, isAgg, run_underlying Tryd.underlying49, sizeOf, typeInfo, hq, hs]
    rw [w8_drop, w8_take]
theorem field_step (D : Nat) (xs : Array Value) (f : Field) (fs : List Field) (a : Value) (w : World) (hn : f.name ≠ "_") (h1 : (Go.part f.type xs f.offset).run Tryd.prog w = .ok a w) (h2 : (Op.equalIn D f.type a a).run Tryd.prog w = .ok true w) :
    (Op.eqFields D xs xs (f :: fs)).run Tryd.prog w = (Op.eqFields D xs xs fs).run Tryd.prog w := by
  rw [show Op.eqFields D xs xs (f :: fs) = if f.name ≠ "_" then do
      let a ← Go.part f.type xs f.offset
      let b ← Go.part f.type xs f.offset
      let r ← Op.equalIn D f.type a b
      if (!r) = true then pure false else Op.eqFields D xs xs fs
    else Op.eqFields D xs xs fs from rfl, if_pos hn]
  simp only [Sem.run_bind, h1, h2, Result.andThen_ok]
  rfl
theorem sig_same (S : List Nat) (hS : S.length = 1024) (w : World) : (Op.equalIn 10000 51 (.agg (w8 S).toArray) (.agg (w8 S).toArray)).run Tryd.prog w = .ok true w := by
  have h := run_equalIn_struct (P := Tryd.prog) w 9999 51 (w8 S).toArray (w8 S).toArray (by kernel_rfl) (by kernel_rfl)
  rw [h]
  have hf : (Tryd.prog.fieldsOf 51).toList.map (fun f => (f.name, f.type, f.offset)) = [("Open", 49, 0), ("Other", 49, 512)] := by kernel_rfl
  generalize (Tryd.prog.fieldsOf 51).toList = fs at hf ⊢
  rcases fs with _ | ⟨f1, _ | ⟨f2, _ | ⟨f3, fs⟩⟩⟩
  · simp at hf
  · simp at hf
  · simp only [List.map_cons, List.map_nil, List.cons.injEq, Prod.mk.injEq, and_true] at hf
    obtain ⟨⟨n1, t1, o1⟩, n2, t2, o2⟩ := hf
    have q1 := row_same ((S.drop 0).take 512) (by simp; omega) 9996 w
    have q2 := row_same ((S.drop 512).take 512) (by simp; omega) 9996 w
    rw [field_step 9999 _ f1 _ _ w (by rw [n1]; decide) (by rw [t1, o1]; exact part_row S 0 (by omega) w) (by rw [t1]; exact q1),
      field_step 9999 _ f2 _ _ w (by rw [n2]; decide) (by rw [t2, o2]; exact part_row S 512 (by omega) w) (by rw [t2]; exact q2)]
    rfl
  · simp at hf
theorem neq_sig (S : List Nat) (hS : S.length = 1024) (w : World) : (binOp .neq 51 (.agg (w8 S).toArray) (.agg (w8 S).toArray)).run Tryd.prog w = .ok (.bool false) w := by
  rw [run_neq_struct, sig_same S hS]
  rfl
end Go.Proofs.YtkonokjhpddbfaaDoor
