/-
  lamp's small functions: knownBy (function 65), secret (66), bitAt (71), New (20): what they answer; nothing that was there is written.
-/
import Derived.Test.YtkonokjhpddbfaaDoorLampA
namespace Go.Proofs.YtkonokjhpddbfaaDoor
open Go.RowKit
set_option linter.unusedVariables false

set_option maxRecDepth 100000 in
set_option maxHeartbeats 2000000 in
theorem knownBy_any (p : List Nat) (w : World) (HT : Hid (Tab w)) (HL : Hid (p.length = 16)) (HP : Hid (∀ x ∈ p, x < 256)) :
    Calls Tryd.prog 65 #[.agg (w8 p).toArray] w fun e w' => e = .returned (.agg (w8 (covN p)).toArray) ∧ Below w.heap.size w w' := by
  have hsl := slice16 w.heap.size 0
  go_enter Tryd.func65, Tryd.ntmps65
  go_upto_region 1 with fail
  have HA : Hid (Blk ((w.alloc (.cells (w8 p).toArray 53)).alloc (.cells z16 53)) w.heap.size 53 (w8 p)) := Lib.hid (by
    have h := (Blk.new w 53 (w8 p)).alloc (.cells z16 53)
    exact h)
  have HB : Hid (Blk ((w.alloc (.cells (w8 p).toArray 53)).alloc (.cells z16 53)) (w.heap.size + 1) 53 (w8 (List.replicate 16 0))) := Lib.hid (by
    have h := Blk.new (w.alloc (.cells (w8 p).toArray 53)) 53 (w8 (List.replicate 16 0))
    rw [z16_eq, World.size_alloc] at h
    exact h)
  have HW : Hid (Below w.heap.size w ((w.alloc (.cells (w8 p).toArray 53)).alloc (.cells z16 53))) := Lib.hid (((Below.refl _ _).alloc (Nat.le_refl _) _).alloc (by simp) _)
  unfold z16 at HA HB HW
  generalize ((w.alloc (.cells (w8 p).toArray 53)).alloc (.cells _ 53)) = V at HA HB HW ⊢
  have hV : w.heap.size + 1 < V.heap.size := HB.out.lt
  go_wp2_with fail
  have HC : Hid (Blk (V.alloc (.cells #[.slice (some ⟨w.heap.size, 0, none⟩) 16 16] 30)) V.heap.size 30 ([.slice (some ⟨w.heap.size, 0, none⟩) 16 16])) := Lib.hid (by
    have h := Blk.new V 30 ([.slice (some ⟨w.heap.size, 0, none⟩) 16 16])
    exact h)
  have HV1 : Hid (Below V.heap.size V (V.alloc (.cells #[.slice (some ⟨w.heap.size, 0, none⟩) 16 16] 30))) := Lib.hid ((Below.refl _ _).alloc (Nat.le_refl _) _)
  generalize (V.alloc (.cells #[.slice (some ⟨w.heap.size, 0, none⟩) 16 16] 30)) = V1 at HC HV1 ⊢
  have HW1 := Lib.hid (HW.out.trans (HV1.out.mono (by omega)))
  have HP1 := Lib.hid (Parts.one (b := V.heap.size + V1.heap.size) (x := p) HC.out HL.out.symm (by have := HC.out.lt; omega) (by omega) (Src.blk (rest := []) (by rw [List.append_nil]; exact HA.out.below HV1.out (by omega)) (by have := HC.out.lt; omega) HP.out 16 (by rw [HL.out]; omega)))
  refine (for_any 5 1 1 _ _ [p] V1 (Lib.hid (HT.out.below HW1.out HT.out.lt)) (by omega) HP1 (Lib.hid rfl) (by omega) (Lib.hid (by simp [HL.out]))).mono ?_
  rintro e V2 ⟨rfl, hB2⟩
  have HW2 := Lib.hid (HW1.out.trans (hB2.mono HW1.out.size))
  have HB2 := Lib.hid ((HB.out.below HV1.out (by omega)).below hB2 (by have := HV1.out.size; omega))
  clear hB2 hsl
  go_wp2_with fail
  refine (begin_any _ V2 (Lib.hid (sha_length _))).mono ?_
  rintro e V3 ⟨rfl, hB3⟩
  have HW3 := Lib.hid (HW2.out.trans (hB3.mono HW2.out.size))
  have HB3 := Lib.hid (HB2.out.below hB3 HB2.out.lt)
  clear hB3
  rw [show (sha (text 5 [p])).take 16 = covN p from rfl]
  have HS6 : Hid ((Tryd.prog.info? 53).map (·.size) = some (w8 (covN p)).toArray.size) := Lib.hid (by rw [List.size_toArray, w8_length, covN_length]; exact info53)
  have HZ6 : Hid ((w8 (List.replicate 16 0)).toArray.size = (w8 (covN p)).toArray.size) := Lib.hid (by rw [List.size_toArray, List.size_toArray, w8_length, w8_length, covN_length]; simp)
  have HO6 := Lib.hid (all_oneCell_toArray (w8_one (covN p)))
  go_wp2_with (first | (refine wpList_store_row rfl 53 (.tmp 2) (.tmp 6) rfl (w.heap.size + 1) (w8 (covN p)).toArray rfl rfl 53 _ HB3.out HS6.out HZ6.out HO6.out ?_))
  exact bodyPost_ret (v := .agg (w8 (covN p)).toArray) (results_cell_row Tryd.results65 _ _ (w.heap.size + 1) 53 (w8 (covN p)).toArray (0, 0) _ rfl (HB3.out.setRow _) Tryd.underlying53 rfl HS6.out) rfl ⟨rfl, below_setRow HW3.out (by omega) _⟩

/-- A key. -/
def keyC (seed : List Nat) (n : Nat) : List Value := w8 seed ++ [.int .u32 (n : Int)]
def ints (l : List Nat) : List Int := l.map fun (x : Nat) => (x : Int)
theorem byt_ints (l : List Nat) : Oct.byt (ints l) = w8 l := by simp [Oct.byt, ints, w8]
theorem Own.ofOct {w : World} {base : Nat} {v : Value} {l : List Nat} (h : Oct.Own w base v (ints l)) : Own w base v l := by
  unfold Oct.Own at h
  unfold Own
  rw [byt_ints] at h
  simpa [ints] using h
theorem Own.toOct {w : World} {base : Nat} {v : Value} {l : List Nat} (h : Own w base v l) : Oct.Own w base v (ints l) := by
  unfold Own at h
  unfold Oct.Own
  rw [byt_ints]
  simpa [ints] using h
theorem ints_four (n : Nat) : Oct.be4s [(n : Int)] = ints (four n) := by
  simp [Oct.be4s, Oct.be4, ints, four]
theorem Own.srcB {w : World} {base b : Nat} {v : Value} {l : List Nat} (h : Own w base v l) (hb : w.heap.size ≤ b) (hl : ∀ x ∈ l, x < 256) : ∃ A c, v = .slice A l.length c ∧ c ≤ 9223372036854775807 ∧ Src w b A c l := by
  rcases h.2 with ⟨rfl, h0⟩ | ⟨g, c, cur, rfl, hbg, hg, hn, hc, _⟩
  · have : l = [] := List.eq_nil_of_length_eq_zero h0
    subst this
    exact ⟨none, 0, rfl, by omega, ⟨Nat.le_refl _, .inl rfl, hl⟩⟩
  · have hlt : g < w.heap.size := by
      rcases Nat.lt_or_ge g w.heap.size with h2 | h2
      · exact h2
      · rw [Array.getElem?_eq_none h2] at hg; cases hg
    exact ⟨_, c, rfl, by unfold maxLen at hc; exact hc, ⟨hn, .inr ⟨g, 0, rfl, hlt, by omega, fun i hi => by rw [Nat.zero_add, World.ownsRow.cellAt h i (by omega), w8_get l i hi]⟩, hl⟩⟩
theorem Parts.three {w : World} {b g : Nat} {t : TypeId} {A1 A2 A3 : Option Addr} {c1 c2 c3 n1 n2 n3 : Nat} {x1 x2 x3 : List Nat} (h : Blk w g t [.slice A1 n1 c1, .slice A2 n2 c2, .slice A3 n3 c3]) (hn1 : n1 = x1.length) (hn2 : n2 = x2.length) (hn3 : n3 = x3.length) (hb : g ≠ b) (hc1 : c1 ≤ 9223372036854775807) (hc2 : c2 ≤ 9223372036854775807) (hc3 : c3 ≤ 9223372036854775807) (hs1 : Src w b A1 c1 x1) (hs2 : Src w b A2 c2 x2) (hs3 : Src w b A3 c3 x3) : Parts w b (some ⟨g, 0, none⟩) [x1, x2, x3] := by
  subst hn1; subst hn2; subst hn3
  refine ⟨.inr ⟨g, 0, rfl, h.lt, hb, fun i hi => ?_⟩⟩
  match i, hi with
  | 0, _ => exact ⟨A1, c1, by rw [h.cell]; rfl, hc1, hs1⟩
  | 1, _ => exact ⟨A2, c2, by rw [h.cell]; rfl, hc2, hs2⟩
  | 2, _ => exact ⟨A3, c3, by rw [h.cell]; rfl, hc3, hs3⟩
theorem Own.none_ (w : World) : Oct.Own (w.alloc (.cells #[] 5)) w.heap.size (.slice (some ⟨w.heap.size, 0, none⟩) 0 0) [] := World.ownsRow_lit w #[] 0 (Nat.le_refl _) (by unfold maxLen; omega) rfl

set_option maxRecDepth 100000 in
set_option maxHeartbeats 4000000 in
theorem secret_any (seed : List Nat) (n a v : Nat) (w : World) (HT : Hid (Tab w)) (HL : Hid (seed.length = 32)) (HP : Hid (∀ x ∈ seed, x < 256)) (hn : n < 4294967296) (ha : a < 32) (hv : v < 2) :
    Calls Tryd.prog 66 #[.agg (keyC seed n).toArray, .int .i64 (a : Int), .int .i64 (v : Int)] w fun e w' => e = .returned (.agg (w8 (secN seed n a v)).toArray) ∧ Below w.heap.size w w' := by
  have n1 : (n : Int) ≤ 4294967295 := by omega
  have a1 : (a : Int) ≤ 255 := by omega
  have v1 : (v : Int) ≤ 255 := by omega
  go_enter Tryd.func66, Tryd.ntmps66
  go_upto_region 1 with fail
  have HA : Hid (Blk ((w.alloc (.cells (keyC seed n).toArray 43)).alloc (.cells z16 53)) w.heap.size 43 (keyC seed n)) := Lib.hid (by
    have h := (Blk.new w 43 (keyC seed n)).alloc (.cells z16 53)
    exact h)
  have HB : Hid (Blk ((w.alloc (.cells (keyC seed n).toArray 43)).alloc (.cells z16 53)) (w.heap.size + 1) 53 (w8 (List.replicate 16 0))) := Lib.hid (by
    have h := Blk.new (w.alloc (.cells (keyC seed n).toArray 43)) 53 (w8 (List.replicate 16 0))
    rw [z16_eq, World.size_alloc] at h
    exact h)
  have HW : Hid (Below w.heap.size w ((w.alloc (.cells (keyC seed n).toArray 43)).alloc (.cells z16 53))) := Lib.hid (((Below.refl _ _).alloc (Nat.le_refl _) _).alloc (by simp) _)
  unfold z16 at HA HB HW
  generalize ((w.alloc (.cells (keyC seed n).toArray 43)).alloc (.cells _ 53)) = V at HA HB HW ⊢
  have hV : w.heap.size + 1 < V.heap.size := HB.out.lt
  have hc32 : (V.alloc (.cells #[] 5)).cell? ⟨w.heap.size, 32, none⟩ = some (.int .u32 (n : Int)) := by
    rw [(HA.out.alloc _).cell]
    unfold keyC
    rw [List.getElem?_append_right (by rw [w8_length, HL.out]; omega), w8_length, HL.out]
    rfl
  go_wp2_with fail
  have HO1 : Hid (Oct.Own ((V.alloc (.cells #[] 5)).alloc (.cells #[.int .u32 (n : Int)] 38)) V.heap.size (.slice (some ⟨V.heap.size, 0, none⟩) 0 0) []) := Lib.hid (World.ownsRow.alloc (Own.none_ V) _)
  have HR1 : Hid (Oct.Rd .u32 ((V.alloc (.cells #[] 5)).alloc (.cells #[.int .u32 (n : Int)] 38)) (some ⟨V.heap.size + 1, 0, none⟩) [(n : Int)]) := Lib.hid (by
    have h := Oct.Rd.lit .u32 38 (V.alloc (.cells #[] 5)) #[.int .u32 (n : Int)] [(n : Int)] rfl
    rw [World.size_alloc] at h
    exact h)
  have HV1 : Hid (Below V.heap.size V ((V.alloc (.cells #[] 5)).alloc (.cells #[.int .u32 (n : Int)] 38))) := Lib.hid (((Below.refl _ _).alloc (Nat.le_refl _) _).alloc (by simp) _)
  generalize (V.alloc (.cells #[] 5)).alloc (.cells #[.int .u32 (n : Int)] 38) = V1 at HO1 HR1 HV1 ⊢
  have hc := Oct.four_any (.slice (some ⟨V.heap.size, 0, none⟩) 0 0) (some ⟨V.heap.size + 1, 0, none⟩) 1 V.heap.size [] [(n : Int)] V1 HO1.out HR1.out (by intro x hx; simp at hx; omega) (by simp) HV1.out.size
  rw [List.nil_append, ints_four] at hc
  refine hc.mono ?_
  clear hc hc32 HR1
  rintro e V2 ⟨v2, rfl, hO2, hG2, hL2⟩
  have HO2 := Lib.hid (Own.ofOct hO2)
  have HV2 : Hid (Below V.heap.size V V2) := Lib.hid (HV1.out.trans (Oct.grown_below hG2 HV1.out.size (fun g hg => (World.ownsRow.lt HO1.out g hg).1)))
  clear hO2 hG2 hL2 HO1 HV1 V1
  have hV2 : V.heap.size ≤ V2.heap.size := HV2.out.size
  go_wp2_with fail
  have HO3 : Hid (Oct.Own ((V2.alloc (.cells #[] 5)).alloc (.cells #[.int .u8 (a : Int), .int .u8 (v : Int)] 5)) V2.heap.size (.slice (some ⟨V2.heap.size, 0, none⟩) 0 0) []) := Lib.hid (World.ownsRow.alloc (Own.none_ V2) _)
  have HS3 : Hid (Oct.Src ((V2.alloc (.cells #[] 5)).alloc (.cells #[.int .u8 (a : Int), .int .u8 (v : Int)] 5)) (some ⟨V2.heap.size + 1, 0, none⟩) 2 (ints [a, v])) := Lib.hid (by
    have h := Oct.Src.lit (V2.alloc (.cells #[] 5)) #[.int .u8 (a : Int), .int .u8 (v : Int)] (ints [a, v]) rfl
    rw [World.size_alloc] at h
    exact h)
  have HV3 : Hid (Below V2.heap.size V2 ((V2.alloc (.cells #[] 5)).alloc (.cells #[.int .u8 (a : Int), .int .u8 (v : Int)] 5))) := Lib.hid (((Below.refl _ _).alloc (Nat.le_refl _) _).alloc (by simp) _)
  generalize (V2.alloc (.cells #[] 5)).alloc (.cells #[.int .u8 (a : Int), .int .u8 (v : Int)] 5) = V3 at HO3 HS3 HV3 ⊢
  have hc := Oct.one_any (.slice (some ⟨V2.heap.size, 0, none⟩) 0 0) (some ⟨V2.heap.size + 1, 0, none⟩) 2 V2.heap.size [] (ints [a, v]) V3 HO3.out HS3.out (by simp [ints]) HV3.out.size
  rw [List.nil_append] at hc
  refine hc.mono ?_
  clear hc HS3
  rintro e V4 ⟨v4, rfl, hO4, hG4, hL4⟩
  have HO4 := Lib.hid (Own.ofOct hO4)
  have HV4 : Hid (Below V2.heap.size V2 V4) := Lib.hid (HV3.out.trans (Oct.grown_below hG4 HV3.out.size (fun g hg => (World.ownsRow.lt HO3.out g hg).1)))
  clear hO4 hG4 hL4 HO3 HV3 V3
  have hV4 : V2.heap.size ≤ V4.heap.size := HV4.out.size
  have HO24 : Hid (Own V4 V.heap.size v2 (four n)) := Lib.hid (Own.ofOct (Oct.Own.below (Own.toOct HO2.out) HV4.out))
  obtain ⟨A2, c2, hv2, hc2, hs2⟩ := HO24.out.srcB (b := V4.heap.size) (Nat.le_refl _) (four_lt n hn)
  obtain ⟨A4, c4, hv4, hc4, hs4⟩ := HO4.out.srcB (b := V4.heap.size) (Nat.le_refl _) (by intro x hx; simp at hx; omega)
  rw [show (four n).length = 4 from rfl] at hv2
  rw [show [a, v].length = 2 from rfl] at hv4
  subst hv2
  subst hv4
  have HS2 := Lib.hid hs2
  have HS4 := Lib.hid hs4
  clear hs2 hs4 HO24 HO2 HO4
  have hsl := slice32p w.heap.size 0
  go_wp2_with fail
  have HC : Hid (Blk (V4.alloc (.cells #[.slice (some ⟨w.heap.size, 0, none⟩) 32 32, .slice A2 4 c2, .slice A4 2 c4] 30)) V4.heap.size 30 ([.slice (some ⟨w.heap.size, 0, none⟩) 32 32, .slice A2 4 c2, .slice A4 2 c4])) := Lib.hid (by
    have h := Blk.new V4 30 ([.slice (some ⟨w.heap.size, 0, none⟩) 32 32, .slice A2 4 c2, .slice A4 2 c4])
    exact h)
  have HV5 : Hid (Below V4.heap.size V4 (V4.alloc (.cells #[.slice (some ⟨w.heap.size, 0, none⟩) 32 32, .slice A2 4 c2, .slice A4 2 c4] 30))) := Lib.hid ((Below.refl _ _).alloc (Nat.le_refl _) _)
  generalize (V4.alloc (.cells #[.slice (some ⟨w.heap.size, 0, none⟩) 32 32, .slice A2 4 c2, .slice A4 2 c4] 30)) = V5 at HC HV5 ⊢
  have HW4 := Lib.hid ((HW.out.trans (HV2.out.mono (by omega))).trans (HV4.out.mono (by omega)))
  have HW5 := Lib.hid (HW4.out.trans (HV5.out.mono HW4.out.size))
  have HA5 : Hid (Blk V5 w.heap.size 43 (w8 seed ++ [.int .u32 (n : Int)])) := Lib.hid (((HA.out.below HV2.out (by omega)).below HV4.out (by omega)).below HV5.out (by omega))
  have HB5 := Lib.hid (((HB.out.below HV2.out (by omega)).below HV4.out (by omega)).below HV5.out (by omega))
  have h5 : V4.heap.size < V5.heap.size := HC.out.lt
  have HP5 := Lib.hid (Parts.three (b := V5.heap.size) (x1 := seed) (x2 := four n) (x3 := [a, v]) HC.out HL.out.symm rfl rfl (by omega) (by omega) hc2 hc4 (Src.blk HA5.out (by omega) HP.out 32 (by rw [HL.out]; omega)) ((HS2.out.below HV5.out).new (Nat.le_refl _)) ((HS4.out.below HV5.out).new (Nat.le_refl _)))
  refine (for_any 1 3 3 _ _ [seed, four n, [a, v]] V5 (Lib.hid (HT.out.below HW5.out HT.out.lt)) (by omega) HP5 (Lib.hid rfl) (by omega) (Lib.hid (by simp [HL.out, four]))).mono ?_
  rintro e V6 ⟨rfl, hB6⟩
  have HW6 := Lib.hid (HW5.out.trans (hB6.mono HW5.out.size))
  have HB6 := Lib.hid (HB5.out.below hB6 HB5.out.lt)
  clear hB6 hsl
  go_wp2_with fail
  refine (begin_any _ V6 (Lib.hid (sha_length _))).mono ?_
  rintro e V7 ⟨rfl, hB7⟩
  have HW7 := Lib.hid (HW6.out.trans (hB7.mono HW6.out.size))
  have HB7 := Lib.hid (HB6.out.below hB7 HB6.out.lt)
  clear hB7
  rw [show (sha (text 1 [seed, four n, [a, v]])).take 16 = secN seed n a v from rfl]
  have HS6 : Hid ((Tryd.prog.info? 53).map (·.size) = some (w8 (secN seed n a v)).toArray.size) := Lib.hid (by rw [List.size_toArray, w8_length, secN_length]; exact info53)
  have HZ6 : Hid ((w8 (List.replicate 16 0)).toArray.size = (w8 (secN seed n a v)).toArray.size) := Lib.hid (by rw [List.size_toArray, List.size_toArray, w8_length, w8_length, secN_length]; simp)
  have HO6 := Lib.hid (all_oneCell_toArray (w8_one (secN seed n a v)))
  go_wp2_with (first | (refine wpList_store_row rfl 53 (.tmp 6) (.tmp 27) rfl (w.heap.size + 1) (w8 (secN seed n a v)).toArray rfl rfl 53 _ HB7.out HS6.out HZ6.out HO6.out ?_))
  exact bodyPost_ret (v := .agg (w8 (secN seed n a v)).toArray) (results_cell_row Tryd.results66 _ _ (w.heap.size + 1) 53 (w8 (secN seed n a v)).toArray (0, 0) _ rfl (HB7.out.setRow _) Tryd.underlying53 rfl HS6.out) rfl ⟨rfl, below_setRow HW7.out (by omega) _⟩

theorem i64_and1 (n : Int) : bits .and .i64 n 1 = n % 2 := by
  have h1 : (BitVec.ofInt 64 1).toNat = 2 ^ 1 - 1 := by decide
  have key : (BitVec.ofInt 64 n &&& BitVec.ofInt 64 1).toNat = (n % ((2 ^ 64 : Nat) : Int)).toNat % 2 ^ 1 := by
    rw [BitVec.toNat_and, BitVec.toNat_ofInt, h1, Nat.and_two_pow_sub_one_eq_mod]
  show IntKind.i64.wrap ((BitVec.ofInt 64 n &&& BitVec.ofInt 64 1).toNat : Nat) = n % 2
  rw [key, IntKind.wrap_i64]
  omega
theorem bit_num (x r : Nat) (hx : x < 256) : bits .and .i64 (wrap64 ((x : Int) / 2 ^ (7 - r))) 1 = ((x / 2 ^ (7 - r) % 2 : Nat) : Int) := by
  have e : (x : Int) / 2 ^ (7 - r) = ((x / 2 ^ (7 - r) : Nat) : Int) := by simp
  have h := Nat.div_le_self x (2 ^ (7 - r))
  rw [e]
  generalize x / 2 ^ (7 - r) = y at *
  rw [ IntWalk.wrap64_in _ ⟨by omega, by omega⟩, i64_and1]
  omega
set_option maxRecDepth 100000 in
set_option maxHeartbeats 4000000 in
theorem bitAt_any (d : List Nat) (a : Nat) (w : World) (HL : Hid (d.length = 32)) (HP : Hid (∀ x ∈ d, x < 256)) (ha : a < 32) :
    Calls Tryd.prog 71 #[.agg (w8 d).toArray, .int .i64 (a : Int)] w fun e w' => e = .returned (.int .i64 ((bitN d a : Nat) : Int)) ∧ Below w.heap.size w w' := by
  have a1 : (a : Int) < 32 := by omega
  obtain ⟨q, hq⟩ : ∃ q, a / 8 = q := ⟨_, rfl⟩
  obtain ⟨r, hr⟩ : ∃ r, a % 8 = r := ⟨_, rfl⟩
  have q1 : (a : Int).tdiv 8 = (q : Int) := by rw [Int.tdiv_eq_ediv_of_nonneg (by omega)]; omega
  have r1 : (a : Int).tmod 8 = (r : Int) := by rw [Int.tmod_eq_emod_of_nonneg (by omega)]; omega
  have q2 : q < 4 := by omega
  have r2 : r < 8 := by omega
  obtain ⟨x, hx⟩ : ∃ x, d.getD q 0 = x := ⟨_, rfl⟩
  have hxl : x < 256 := by rw [← hx]; exact getD_lt (by omega) HP.out q
  have HA : Hid (Blk (w.alloc (.cells (w8 d).toArray 36)) w.heap.size 36 (w8 d)) := Lib.hid (Blk.new w 36 (w8 d))
  have HW : Hid (Below w.heap.size w (w.alloc (.cells (w8 d).toArray 36))) := Lib.hid ((Below.refl _ _).alloc (Nat.le_refl _) _)
  have hc : (w.alloc (.cells (w8 d).toArray 36)).cell? ⟨w.heap.size, q, none⟩ = some (.int .u8 (x : Int)) := by
    rw [HA.out.cell, w8_get d q (by rw [HL.out]; omega), hx]
  have HE : Hid (bitN d a = x / 2 ^ (7 - r) % 2) := Lib.hid (by unfold bitN; rw [hq, hr, hx])
  go_enter Tryd.func71, Tryd.ntmps71
  go_upto_region 1 with fail
  generalize w.alloc (.cells (w8 d).toArray 36) = V at HA HW hc ⊢
  go_wp2
  rw [bit_num x r hxl]
  go_ret
  exact ⟨by rw [HE.out]; rfl, HW.out⟩

theorem info43 : (Tryd.prog.info? 43).map (·.size) = some 33 := by kernel_rfl
theorem keyC_length (seed : List Nat) (n : Nat) (h : seed.length = 32) : (keyC seed n).length = 33 := by simp [keyC, w8_length, h]
theorem keyC_one (seed : List Nat) (n : Nat) : ∀ v ∈ keyC seed n, v.oneCell' = true := by
  intro v hv
  rcases List.mem_append.1 hv with h | h
  · exact w8_one seed v h
  · simp at h
    subst h
    rfl
theorem foldseg (off : Nat) (post : List Value) : ∀ (vs : List Value) (p : Nat) (pre old : List Value), pre.length = off + p → old.length = vs.length →
    (vs.zipIdx p).foldl (fun (cs : Array Value) (cj : Value × Nat) => cs.setIfInBounds (off + cj.2) cj.1) (pre ++ (old ++ post)).toArray = (pre ++ (vs ++ post)).toArray
  | [], p, pre, old, _, hl => by
    have : old = [] := List.eq_nil_of_length_eq_zero hl
    subst this
    rfl
  | v :: vs, p, pre, [], _, hl => by simp at hl
  | v :: vs, p, pre, o :: old, hp, hl => by
    rw [List.zipIdx_cons, List.foldl_cons]
    have e : (pre ++ (o :: old ++ post)).toArray.setIfInBounds (off + p) v = ((pre ++ [v]) ++ (old ++ post)).toArray := by
      rw [← hp]
      simp
    rw [e, foldseg off post vs (p + 1) (pre ++ [v]) old (by simp; omega) (by simpa using hl)]
    simp
theorem fill_part (place : Nat → Option (Nat × Nat)) (pre old post vs : List Value) (i : Nat) (v : Value) (rest : List (Nat × Value)) (hv : v.cells = vs.toArray) (hp : place i = some (pre.length, vs.length)) (hl : old.length = vs.length) :
    Instr.fill place (pre ++ (old ++ post)).toArray ((i, v) :: rest) = Instr.fill place (pre ++ (vs ++ post)).toArray rest := by
  rw [Instr.fill.eq_2, hp]
  simp only [hv, List.size_toArray]
  rw [if_neg (by simp [hl]), ← Array.foldl_toList]
  have e : vs.toArray.zipIdx.toList = vs.zipIdx 0 := by simp
  rw [e, foldseg pre.length post vs 0 pre old (by simp) hl]
theorem fill_none (place : Nat → Option (Nat × Nat)) (cs : Array Value) : Instr.fill place cs [] = some cs := rfl
theorem built43 (parts : List (Nat × Value)) : Tryd.prog.built 43 parts = Instr.fill (#[(0, 32), (32, 1)][·]?) ((w8 (List.replicate 32 0)) ++ ([Value.int .u32 0] ++ [])).toArray parts := by kernel_rfl
theorem build43 (seed : List Nat) (n : Nat) (h : seed.length = 32) (w : World) : (Instr.build 43 #[(0, .agg (w8 seed).toArray), (1, .int .u32 (n : Int))]).run Tryd.prog w = .ok (.agg (keyC seed n).toArray) w := by
  refine run_build w 43 _ _ ?_
  rw [built43]
  have h1 := fill_part (#[(0, 32), (32, 1)][·]?) [] (w8 (List.replicate 32 0)) ([.int .u32 0] ++ []) (w8 seed) 0 (.agg (w8 seed).toArray) [(1, .int .u32 (n : Int))] rfl (by simp [w8_length, h]) (by simp [w8_length, h])
  rw [List.nil_append, List.nil_append] at h1
  refine h1.trans ?_
  rw [fill_part (#[(0, 32), (32, 1)][·]?) (w8 seed) [.int .u32 0] [] [.int .u32 (n : Int)] 1 (.int .u32 (n : Int)) [] rfl (by simp [w8_length, h]) rfl, fill_none]
  rfl
def zkey : Array Value := #[.int .u8 0, .int .u8 0, .int .u8 0, .int .u8 0, .int .u8 0, .int .u8 0, .int .u8 0, .int .u8 0, .int .u8 0, .int .u8 0, .int .u8 0, .int .u8 0, .int .u8 0, .int .u8 0, .int .u8 0, .int .u8 0, .int .u8 0, .int .u8 0, .int .u8 0, .int .u8 0, .int .u8 0, .int .u8 0, .int .u8 0, .int .u8 0, .int .u8 0, .int .u8 0, .int .u8 0, .int .u8 0, .int .u8 0, .int .u8 0, .int .u8 0, .int .u8 0, .int .u32 0]
theorem zkey_eq : (keyC (List.replicate 32 0) 0).toArray = zkey := by kernel_rfl
theorem wpList_built {ops : Array Oper} {rest : List Oper} {o : Oper} {a : Act} {w : World} {Q : Exit → Act → World → Prop} (hgd : o.guard = none) (t : TypeId) (parts : Array (Nat × Operand)) (ho : o.op = .build t parts)
    (vals : Array (Nat × Value)) (hv : (parts.map fun (i, x) => (i, a.eval x)) = vals) (cells : Array Value) (hb : (Instr.build t vals).run Tryd.prog w = .ok (.agg cells) w)
    (h : wpList Tryd.prog ops Q rest (a.put o.dst (.agg cells)) w) : wpList Tryd.prog ops Q (o :: rest) a w := by
  refine wpList_plain hgd fun K hK => ?_
  have e : (execOp a.eval o).run Tryd.prog w = .ok (.value (.agg cells)) w := by
    unfold execOp
    simp only [ho, hv, Sem.run_bind, hb, Result.andThen_ok, Sem.run_pure]
  unfold Oper.wp
  rw [e]
  exact hK _ _ h
set_option maxRecDepth 100000 in
set_option maxHeartbeats 4000000 in
theorem lampnew_any (seed : List Nat) (n : Nat) (w : World) (HL : Hid (seed.length = 32)) (hn : n < 4294967296) :
    Calls Tryd.prog 20 #[.agg (w8 seed).toArray, .int .u32 (n : Int)] w fun e w' => e = .returned (.agg (keyC seed n).toArray) ∧ Below w.heap.size w w' := by
  have hb := build43 seed n HL.out
  go_enter Tryd.func20, Tryd.ntmps20
  go_upto_region 1 with fail
  have HA : Hid (Blk ((w.alloc (.cells (w8 seed).toArray 29)).alloc (.cells zkey 43)) w.heap.size 29 (w8 seed)) := Lib.hid (by
    have h := (Blk.new w 29 (w8 seed)).alloc (.cells zkey 43)
    exact h)
  have HB : Hid (Blk ((w.alloc (.cells (w8 seed).toArray 29)).alloc (.cells zkey 43)) (w.heap.size + 1) 43 (keyC (List.replicate 32 0) 0)) := Lib.hid (by
    have h := Blk.new (w.alloc (.cells (w8 seed).toArray 29)) 43 (keyC (List.replicate 32 0) 0)
    rw [zkey_eq, World.size_alloc] at h
    exact h)
  have HW : Hid (Below w.heap.size w ((w.alloc (.cells (w8 seed).toArray 29)).alloc (.cells zkey 43))) := Lib.hid (((Below.refl _ _).alloc (Nat.le_refl _) _).alloc (by simp) _)
  unfold zkey at HA HB HW
  generalize ((w.alloc (.cells (w8 seed).toArray 29)).alloc (.cells _ 43)) = V at HA HB HW ⊢
  have HRG := Lib.hid HA.out.all
  have HS5 : Hid ((Tryd.prog.info? 29).map (·.size) = some (w8 seed).length) := Lib.hid (by rw [w8_length, HL.out]; exact info29)
  have HS6 : Hid ((Tryd.prog.info? 43).map (·.size) = some (keyC seed n).toArray.size) := Lib.hid (by rw [List.size_toArray, keyC_length _ _ HL.out]; exact info43)
  have HZ6 : Hid ((keyC (List.replicate 32 0) 0).toArray.size = (keyC seed n).toArray.size) := Lib.hid (by rw [List.size_toArray, List.size_toArray, keyC_length _ _ HL.out, keyC_length _ _ (by simp)])
  have HO6 := Lib.hid (all_oneCell_toArray (keyC_one seed n))
  go_wp2_with (first | (refine wpList_load_mid rfl 29 (.tmp 2) rfl w.heap.size 0 rfl (w8 seed) _ HRG.out Tryd.underlying29 rfl HS5.out ?_) | (refine wpList_built rfl 43 #[(0, .tmp 5), (1, .tmp 6)] rfl #[(0, .agg (w8 seed).toArray), (1, .int .u32 (n : Int))] (by simp [Act.eval]) _ (hb _) ?_) | (refine wpList_store_row rfl 43 (.tmp 4) (.tmp 7) rfl (w.heap.size + 1) (keyC seed n).toArray rfl rfl 43 _ HB.out HS6.out HZ6.out HO6.out ?_))
  exact bodyPost_ret (v := .agg (keyC seed n).toArray) (results_cell_row Tryd.results20 _ _ (w.heap.size + 1) 43 (keyC seed n).toArray (0, 0) _ rfl (HB.out.setRow _) Tryd.underlying43 rfl HS6.out) rfl ⟨rfl, below_setRow HW.out (by omega) _⟩
end Go.Proofs.YtkonokjhpddbfaaDoor
