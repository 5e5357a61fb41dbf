/-
  lamp.Sign (function 25): what it answers; nothing that was there is written.
-/
import Derived.Test.YtkonokjhpddbfaaDoorLampC
namespace Go.Proofs.YtkonokjhpddbfaaDoor
open Go.RowKit
set_option linter.unusedVariables false

/-- A signature so far. -/
def sigC (f g : Nat → List Nat) (i j : Nat) : List Nat := rows f i ++ (List.replicate (512 - 16 * i) 0 ++ (rows g j ++ List.replicate (512 - 16 * j) 0))
theorem sigC_length (f g : Nat → List Nat) (hf : ∀ a, (f a).length = 16) (hg : ∀ a, (g a).length = 16) (i j : Nat) (hi : i ≤ 32) (hj : j ≤ 32) : (sigC f g i j).length = 1024 := by
  unfold sigC
  simp only [List.length_append, rows_length hf, rows_length hg, List.length_replicate]
  omega
theorem sigC_open {w : World} {b : Nat} {t : TypeId} (f g : Nat → List Nat) (hf : ∀ a, (f a).length = 16) (hg : ∀ a, (g a).length = 16) (k j : Nat) (hk : k < 32) (x : List Nat) (hx : f k = x) (h : Blk w b t (w8 (sigC f g k j))) : Blk (w.setCells b (k * 16) (w8 x)) b t (w8 (sigC f g (k + 1) j)) := by
  have hl := rows_length hf k
  have e : sigC f g k j = rows f k ++ (List.replicate 16 0 ++ (List.replicate (512 - 16 * (k + 1)) 0 ++ (rows g j ++ List.replicate (512 - 16 * j) 0))) := by
    unfold sigC
    rw [zeros_cut (512 - 16 * k) 16 (by omega), show 512 - 16 * k - 16 = 512 - 16 * (k + 1) by omega]
    simp only [List.append_assoc]
  rw [e] at h
  have h2 := Blk.put8 _ _ _ x h (by rw [← hx, hf k]; simp) (k * 16) (by omega)
  unfold sigC
  rw [rows_succ, hx, List.append_assoc]
  exact h2
theorem sigC_other {w : World} {b : Nat} {t : TypeId} (f g : Nat → List Nat) (hf : ∀ a, (f a).length = 16) (hg : ∀ a, (g a).length = 16) (i k : Nat) (hk : k < 32) (hi : i ≤ 32) (x : List Nat) (hx : g k = x) (h : Blk w b t (w8 (sigC f g i k))) : Blk (w.setCells b (512 + k * 16) (w8 x)) b t (w8 (sigC f g i (k + 1))) := by
  have hl := rows_length hf i
  have hm := rows_length hg k
  have e : sigC f g i k = (rows f i ++ (List.replicate (512 - 16 * i) 0 ++ rows g k)) ++ (List.replicate 16 0 ++ List.replicate (512 - 16 * (k + 1)) 0) := by
    unfold sigC
    rw [zeros_cut (512 - 16 * k) 16 (by omega), show 512 - 16 * k - 16 = 512 - 16 * (k + 1) by omega]
    simp only [List.append_assoc]
  rw [e] at h
  have h2 := Blk.put8 _ _ _ x h (by rw [← hx, hg k]; simp) (512 + k * 16) (by simp only [List.length_append, List.length_replicate, hl, hm]; omega)
  unfold sigC
  rw [rows_succ, hx]
  simp only [List.append_assoc] at h2 ⊢
  exact h2
theorem sigC_zero (f g : Nat → List Nat) : sigC f g 0 0 = List.replicate 1024 0 := by
  show [] ++ (List.replicate 512 0 ++ ([] ++ List.replicate 512 0)) = _
  rw [List.nil_append, List.nil_append, List.replicate_append_replicate]
theorem sigC_end (f g : Nat → List Nat) : sigC f g 32 32 = rows f 32 ++ rows g 32 := by simp [sigC]

set_option maxRecDepth 100000 in
set_option maxHeartbeats 1000000 in
theorem sign_any (seed : List Nat) (n : Nat) (d : List Nat) (w : World) (HT : Hid (Tab w)) (HL : Hid (seed.length = 32)) (HP : Hid (∀ x ∈ seed, x < 256)) (hn : n < 4294967296) (HDL : Hid (d.length = 32)) (HDP : Hid (∀ x ∈ d, x < 256)) :
    Calls Tryd.prog 25 #[.agg (keyC seed n).toArray, .agg (w8 d).toArray] w fun e w' => e = .returned (.agg (w8 (signN seed n d)).toArray) ∧ Below w.heap.size w w' := by
  have HKS : Hid ((Tryd.prog.info? 43).map (·.size) = some (keyC seed n).length) := Lib.hid (by rw [keyC_length _ _ HL.out]; exact info43)
  have HDS : Hid ((Tryd.prog.info? 36).map (·.size) = some (w8 d).length) := Lib.hid (by rw [w8_length, HDL.out]; exact info36)
  go_enter Tryd.func25, Tryd.ntmps25
  go_upto_region 2 with fail
  have HA : Hid (Blk ((((w.alloc (.cells (keyC seed n).toArray 43)).alloc (.cells (w8 d).toArray 36)).alloc (.cells Tryd.zeroCells56 56)).alloc (.cells Tryd.zeroCells56 56)) w.heap.size 43 (keyC seed n)) := Lib.hid (by
    have h := (((Blk.new w 43 (keyC seed n)).alloc (.cells (w8 d).toArray 36)).alloc (.cells Tryd.zeroCells56 56)).alloc (.cells Tryd.zeroCells56 56)
    exact h)
  have HD : Hid (Blk ((((w.alloc (.cells (keyC seed n).toArray 43)).alloc (.cells (w8 d).toArray 36)).alloc (.cells Tryd.zeroCells56 56)).alloc (.cells Tryd.zeroCells56 56)) (w.heap.size + 1) 36 (w8 d)) := Lib.hid (by
    have h := ((Blk.new (w.alloc (.cells (keyC seed n).toArray 43)) 36 (w8 d)).alloc (.cells Tryd.zeroCells56 56)).alloc (.cells Tryd.zeroCells56 56)
    rw [World.size_alloc] at h
    exact h)
  have HB : Hid (Blk ((((w.alloc (.cells (keyC seed n).toArray 43)).alloc (.cells (w8 d).toArray 36)).alloc (.cells Tryd.zeroCells56 56)).alloc (.cells Tryd.zeroCells56 56)) (w.heap.size + 1 + 1) 56 (w8 (List.replicate 1024 0))) := Lib.hid (by
    have h := (Blk.new ((w.alloc (.cells (keyC seed n).toArray 43)).alloc (.cells (w8 d).toArray 36)) 56 (w8 (List.replicate 1024 0))).alloc (.cells Tryd.zeroCells56 56)
    rw [zc56, World.size_alloc, World.size_alloc] at h
    exact h)
  have HC : Hid (Blk ((((w.alloc (.cells (keyC seed n).toArray 43)).alloc (.cells (w8 d).toArray 36)).alloc (.cells Tryd.zeroCells56 56)).alloc (.cells Tryd.zeroCells56 56)) (w.heap.size + 1 + 1 + 1) 56 (w8 (List.replicate 1024 0))) := Lib.hid (by
    have h := Blk.new (((w.alloc (.cells (keyC seed n).toArray 43)).alloc (.cells (w8 d).toArray 36)).alloc (.cells Tryd.zeroCells56 56)) 56 (w8 (List.replicate 1024 0))
    rw [zc56, World.size_alloc, World.size_alloc, World.size_alloc] at h
    exact h)
  have HW : Hid (Below w.heap.size w ((((w.alloc (.cells (keyC seed n).toArray 43)).alloc (.cells (w8 d).toArray 36)).alloc (.cells Tryd.zeroCells56 56)).alloc (.cells Tryd.zeroCells56 56))) := Lib.hid (((((Below.refl _ _).alloc (Nat.le_refl _) _).alloc (by simp) _).alloc (by simp; omega) _).alloc (by simp; omega) _)
  generalize ((((w.alloc (.cells (keyC seed n).toArray 43)).alloc (.cells (w8 d).toArray 36)).alloc (.cells Tryd.zeroCells56 56)).alloc (.cells Tryd.zeroCells56 56)) = V at HA HD HB HC HW ⊢
  have HOL : Hid (∀ a, (opnN seed n d a).length = 16) := Lib.hid (opnN_length seed n d)
  have HTL : Hid (∀ a, (othN seed n d a).length = 16) := Lib.hid (othN_length seed n d)
  have HI : Hid (∀ a v : Nat, a < 32 → v < 2 → ∀ X : World, Below w.heap.size w X → Calls Tryd.prog 66 #[.agg (keyC seed n).toArray, .int .i64 (a : Int), .int .i64 (v : Int)] X fun e w' => e = .returned (.agg (w8 (secN seed n a v)).toArray) ∧ Below X.heap.size X w') := Lib.hid fun a v ha hv X hX => secret_any seed n a v X (Lib.hid (HT.out.below hX HT.out.lt)) HL HP hn ha hv
  have HI2 : Hid (∀ a v : Nat, ∀ X : World, Below w.heap.size w X → Calls Tryd.prog 65 #[.agg (w8 (secN seed n a v)).toArray] X fun e w' => e = .returned (.agg (w8 (covN (secN seed n a v))).toArray) ∧ Below X.heap.size X w') := Lib.hid fun a v X hX => knownBy_any _ X (Lib.hid (HT.out.below hX HT.out.lt)) (Lib.hid (secN_length _ _ _ _)) (Lib.hid (secN_lt _ _ _ _))
  rw [← sigC_zero (opnN seed n d) (othN seed n d)] at HC
  go_wp2_with fail
  go_loopw [8, 6, 7] (fun i _ _ wr => ∃ (k : Nat), k ≤ 32 ∧ i = .int .i64 k ∧ Hid (Blk wr w.heap.size 43 (keyC seed n)) ∧ Hid (Blk wr (w.heap.size + 1) 36 (w8 d)) ∧ Hid (Blk wr (w.heap.size + 1 + 1) 56 (w8 (List.replicate 1024 0))) ∧ Hid (Blk wr (w.heap.size + 1 + 1 + 1) 56 (w8 (sigC (opnN seed n d) (othN seed n d) k k))) ∧ Hid (Below w.heap.size w wr)) (fun i _ _ _ => 32 - (intOf i).toNat)
  case atStart => exact ⟨0, Nat.zero_le _, rfl, HA, HD, HB, HC, HW⟩
  case round =>
    clear HA HD HB HC HW
    obtain ⟨k, hk, rfl, HA, HD, HB, HC, HW⟩ := hrel
    by_cases hlt : k < 32
    · have k1 : (k : Int) < 32 := by omega
      have HDR := Lib.hid HD.out.all
      go_wp2_with (first | (refine wpList_load_mid rfl 36 (.tmp 3) rfl (w.heap.size + 1) 0 rfl (w8 d) _ HDR.out Tryd.underlying36 rfl HDS.out ?_))
      refine (bitAt_any d k wr HDL HDP hlt).mono ?_
      rintro e X5 ⟨hE5, hB5⟩
      have HWX5 := Lib.hid (HW.out.trans (hB5.mono HW.out.size))
      have HAX5 := Lib.hid (HA.out.below hB5 HA.out.lt)
      have HDX5 := Lib.hid (HD.out.below hB5 HD.out.lt)
      have HBX5 := Lib.hid (HB.out.below hB5 HB.out.lt)
      have HCX5 := Lib.hid (HC.out.below hB5 HC.out.lt)
      have HAK := Lib.hid HAX5.out.all
      clear hB5 HDR HA HD HB HC HW
      rcases bitN_two d k with h0 | h0
      · have HBT : Hid (bitN d k = 0) := Lib.hid h0
        have HO1 : Hid (opnN seed n d k = secN seed n k 0) := Lib.hid (by unfold opnN; rw [h0])
        have HO2 : Hid (othN seed n d k = covN (secN seed n k 1)) := Lib.hid (by unfold othN; rw [h0])
        rw [h0] at hE5
        subst hE5
        clear h0
        go_wp2_with (first | (refine wpList_load_mid rfl 43 (.tmp 2) rfl w.heap.size 0 rfl (keyC seed n) _ HAK.out Tryd.underlying43 rfl HKS.out ?_))
        refine (HI.out k 0 hlt (by omega) X5 HWX5.out).mono ?_
        rintro e X6 ⟨rfl, hB6⟩
        have HW6 := Lib.hid (HWX5.out.trans (hB6.mono HWX5.out.size))
        have HA6 := Lib.hid (HAX5.out.below hB6 HAX5.out.lt)
        have HD6 := Lib.hid (HDX5.out.below hB6 HDX5.out.lt)
        have HB6 := Lib.hid (HBX5.out.below hB6 HBX5.out.lt)
        have HC6 := Lib.hid (HCX5.out.below hB6 HCX5.out.lt)
        clear hB6
        have HL6 : Hid ((w8 (secN seed n k 0)).length = 16) := Lib.hid (by rw [w8_length, secN_length])
        have HI6 : Hid ((Tryd.prog.info? 53).map (·.size) = some (w8 (secN seed n k 0)).length) := Lib.hid (by rw [HL6.out]; exact info53)
        have HT6 : Hid (X6.there (w.heap.size + 1 + 1 + 1) (k * 16) (w8 (secN seed n k 0)).length) := Lib.hid (HC6.out.there _ _ (by rw [HL6.out, w8_length, sigC_length _ _ HOL.out HTL.out k k (by omega) (by omega)]; omega))
        have H16 := Lib.hid (w8_one (secN seed n k 0))
        go_upto_region 7 with (first | (refine wpList_put_mid rfl 53 (.tmp 20) (.tmp 18) rfl (w.heap.size + 1 + 1 + 1) (k * 16) (w8 (secN seed n k 0)) rfl rfl HT6.out HI6.out H16.out ?_))
        have HA7 := Lib.hid (HA6.out.farCells (b := w.heap.size + 1 + 1 + 1) (o := k * 16) (by omega) (w8 (secN seed n k 0)))
        have HD7 := Lib.hid (HD6.out.farCells (b := w.heap.size + 1 + 1 + 1) (o := k * 16) (by omega) (w8 (secN seed n k 0)))
        have HB7 := Lib.hid (HB6.out.farCells (b := w.heap.size + 1 + 1 + 1) (o := k * 16) (by omega) (w8 (secN seed n k 0)))
        have HC7 := Lib.hid (sigC_open _ _ HOL.out HTL.out k k hlt _ HO1.out HC6.out)
        have HW7 := Lib.hid (below_cells (g := w.heap.size + 1 + 1 + 1) (w8 (secN seed n k 0)) (k * 16) X6 HW6.out (by omega))
        generalize X6.setCells (w.heap.size + 1 + 1 + 1) (k * 16) (w8 (secN seed n k 0)) = X7 at HA7 HD7 HB7 HC7 HW7 ⊢
        clear HA6 HD6 HB6 HC6 HW6 HL6 HI6 HT6 H16 HAK
        have HAK := Lib.hid HA7.out.all
        go_wp2_with (first | (refine wpList_load_mid rfl 43 (.tmp 2) rfl w.heap.size 0 rfl (keyC seed n) _ HAK.out Tryd.underlying43 rfl HKS.out ?_))
        refine (HI.out k 1 hlt (by omega) X7 HW7.out).mono ?_
        rintro e X8 ⟨rfl, hB8⟩
        have HW8 := Lib.hid (HW7.out.trans (hB8.mono HW7.out.size))
        have HA8 := Lib.hid (HA7.out.below hB8 HA7.out.lt)
        have HD8 := Lib.hid (HD7.out.below hB8 HD7.out.lt)
        have HB8 := Lib.hid (HB7.out.below hB8 HB7.out.lt)
        have HC8 := Lib.hid (HC7.out.below hB8 HC7.out.lt)
        clear hB8 HA7 HD7 HB7 HC7 HW7
        go_wp2_with fail
        refine (HI2.out k 1 X8 HW8.out).mono ?_
        rintro e X9 ⟨rfl, hB9⟩
        have HW9 := Lib.hid (HW8.out.trans (hB9.mono HW8.out.size))
        have HA9 := Lib.hid (HA8.out.below hB9 HA8.out.lt)
        have HD9 := Lib.hid (HD8.out.below hB9 HD8.out.lt)
        have HB9 := Lib.hid (HB8.out.below hB9 HB8.out.lt)
        have HC9 := Lib.hid (HC8.out.below hB9 HC8.out.lt)
        clear hB9 HA8 HD8 HB8 HC8 HW8
        have HL9 : Hid ((w8 (covN (secN seed n k 1))).length = 16) := Lib.hid (by rw [w8_length, covN_length])
        have HI9 : Hid ((Tryd.prog.info? 53).map (·.size) = some (w8 (covN (secN seed n k 1))).length) := Lib.hid (by rw [HL9.out]; exact info53)
        have HT9 : Hid (X9.there (w.heap.size + 1 + 1 + 1) (512 + k * 16) (w8 (covN (secN seed n k 1))).length) := Lib.hid (HC9.out.there _ _ (by rw [HL9.out, w8_length, sigC_length _ _ HOL.out HTL.out (k + 1) k (by omega) (by omega)]; omega))
        have H19 := Lib.hid (w8_one (covN (secN seed n k 1)))
        go_upto_region 8 with (first | (refine wpList_put_mid rfl 53 (.tmp 29) (.tmp 27) rfl (w.heap.size + 1 + 1 + 1) (512 + k * 16) (w8 (covN (secN seed n k 1))) rfl rfl HT9.out HI9.out H19.out ?_))
        have HAE := Lib.hid (HA9.out.farCells (b := w.heap.size + 1 + 1 + 1) (o := 512 + k * 16) (by omega) (w8 (covN (secN seed n k 1))))
        have HDE := Lib.hid (HD9.out.farCells (b := w.heap.size + 1 + 1 + 1) (o := 512 + k * 16) (by omega) (w8 (covN (secN seed n k 1))))
        have HBE := Lib.hid (HB9.out.farCells (b := w.heap.size + 1 + 1 + 1) (o := 512 + k * 16) (by omega) (w8 (covN (secN seed n k 1))))
        have HCE := Lib.hid (sigC_other _ _ HOL.out HTL.out (k + 1) k hlt (by omega) _ HO2.out HC9.out)
        have HWE := Lib.hid (below_cells (g := w.heap.size + 1 + 1 + 1) (w8 (covN (secN seed n k 1))) (512 + k * 16) X9 HW9.out (by omega))
        generalize X9.setCells (w.heap.size + 1 + 1 + 1) (512 + k * 16) (w8 (covN (secN seed n k 1))) = E at HAE HDE HBE HCE HWE ⊢
        clear HA9 HD9 HB9 HC9 HW9 HL9 HI9 HT9 H19 HAK HAX5 HDX5 HBX5 HCX5 HWX5
        go_wp2
        go_roundw
        case rel => exact ⟨k + 1, by omega, by go_num, HAE, HDE, HBE, HCE, HWE⟩
        case measure => simp [intOf]; omega
      · have HBT : Hid (bitN d k = 1) := Lib.hid h0
        have HO1 : Hid (opnN seed n d k = secN seed n k 1) := Lib.hid (by unfold opnN; rw [h0])
        have HO2 : Hid (othN seed n d k = covN (secN seed n k 0)) := Lib.hid (by unfold othN; rw [h0])
        rw [h0] at hE5
        subst hE5
        clear h0
        go_wp2_with (first | (refine wpList_load_mid rfl 43 (.tmp 2) rfl w.heap.size 0 rfl (keyC seed n) _ HAK.out Tryd.underlying43 rfl HKS.out ?_))
        refine (HI.out k 1 hlt (by omega) X5 HWX5.out).mono ?_
        rintro e X6 ⟨rfl, hB6⟩
        have HW6 := Lib.hid (HWX5.out.trans (hB6.mono HWX5.out.size))
        have HA6 := Lib.hid (HAX5.out.below hB6 HAX5.out.lt)
        have HD6 := Lib.hid (HDX5.out.below hB6 HDX5.out.lt)
        have HB6 := Lib.hid (HBX5.out.below hB6 HBX5.out.lt)
        have HC6 := Lib.hid (HCX5.out.below hB6 HCX5.out.lt)
        clear hB6
        have HL6 : Hid ((w8 (secN seed n k 1)).length = 16) := Lib.hid (by rw [w8_length, secN_length])
        have HI6 : Hid ((Tryd.prog.info? 53).map (·.size) = some (w8 (secN seed n k 1)).length) := Lib.hid (by rw [HL6.out]; exact info53)
        have HT6 : Hid (X6.there (w.heap.size + 1 + 1 + 1) (k * 16) (w8 (secN seed n k 1)).length) := Lib.hid (HC6.out.there _ _ (by rw [HL6.out, w8_length, sigC_length _ _ HOL.out HTL.out k k (by omega) (by omega)]; omega))
        have H16 := Lib.hid (w8_one (secN seed n k 1))
        go_upto_region 7 with (first | (refine wpList_put_mid rfl 53 (.tmp 20) (.tmp 18) rfl (w.heap.size + 1 + 1 + 1) (k * 16) (w8 (secN seed n k 1)) rfl rfl HT6.out HI6.out H16.out ?_))
        have HA7 := Lib.hid (HA6.out.farCells (b := w.heap.size + 1 + 1 + 1) (o := k * 16) (by omega) (w8 (secN seed n k 1)))
        have HD7 := Lib.hid (HD6.out.farCells (b := w.heap.size + 1 + 1 + 1) (o := k * 16) (by omega) (w8 (secN seed n k 1)))
        have HB7 := Lib.hid (HB6.out.farCells (b := w.heap.size + 1 + 1 + 1) (o := k * 16) (by omega) (w8 (secN seed n k 1)))
        have HC7 := Lib.hid (sigC_open _ _ HOL.out HTL.out k k hlt _ HO1.out HC6.out)
        have HW7 := Lib.hid (below_cells (g := w.heap.size + 1 + 1 + 1) (w8 (secN seed n k 1)) (k * 16) X6 HW6.out (by omega))
        generalize X6.setCells (w.heap.size + 1 + 1 + 1) (k * 16) (w8 (secN seed n k 1)) = X7 at HA7 HD7 HB7 HC7 HW7 ⊢
        clear HA6 HD6 HB6 HC6 HW6 HL6 HI6 HT6 H16 HAK
        have HAK := Lib.hid HA7.out.all
        go_wp2_with (first | (refine wpList_load_mid rfl 43 (.tmp 2) rfl w.heap.size 0 rfl (keyC seed n) _ HAK.out Tryd.underlying43 rfl HKS.out ?_))
        refine (HI.out k 0 hlt (by omega) X7 HW7.out).mono ?_
        rintro e X8 ⟨rfl, hB8⟩
        have HW8 := Lib.hid (HW7.out.trans (hB8.mono HW7.out.size))
        have HA8 := Lib.hid (HA7.out.below hB8 HA7.out.lt)
        have HD8 := Lib.hid (HD7.out.below hB8 HD7.out.lt)
        have HB8 := Lib.hid (HB7.out.below hB8 HB7.out.lt)
        have HC8 := Lib.hid (HC7.out.below hB8 HC7.out.lt)
        clear hB8 HA7 HD7 HB7 HC7 HW7
        go_wp2_with fail
        refine (HI2.out k 0 X8 HW8.out).mono ?_
        rintro e X9 ⟨rfl, hB9⟩
        have HW9 := Lib.hid (HW8.out.trans (hB9.mono HW8.out.size))
        have HA9 := Lib.hid (HA8.out.below hB9 HA8.out.lt)
        have HD9 := Lib.hid (HD8.out.below hB9 HD8.out.lt)
        have HB9 := Lib.hid (HB8.out.below hB9 HB8.out.lt)
        have HC9 := Lib.hid (HC8.out.below hB9 HC8.out.lt)
        clear hB9 HA8 HD8 HB8 HC8 HW8
        have HL9 : Hid ((w8 (covN (secN seed n k 0))).length = 16) := Lib.hid (by rw [w8_length, covN_length])
        have HI9 : Hid ((Tryd.prog.info? 53).map (·.size) = some (w8 (covN (secN seed n k 0))).length) := Lib.hid (by rw [HL9.out]; exact info53)
        have HT9 : Hid (X9.there (w.heap.size + 1 + 1 + 1) (512 + k * 16) (w8 (covN (secN seed n k 0))).length) := Lib.hid (HC9.out.there _ _ (by rw [HL9.out, w8_length, sigC_length _ _ HOL.out HTL.out (k + 1) k (by omega) (by omega)]; omega))
        have H19 := Lib.hid (w8_one (covN (secN seed n k 0)))
        go_upto_region 8 with (first | (refine wpList_put_mid rfl 53 (.tmp 29) (.tmp 27) rfl (w.heap.size + 1 + 1 + 1) (512 + k * 16) (w8 (covN (secN seed n k 0))) rfl rfl HT9.out HI9.out H19.out ?_))
        have HAE := Lib.hid (HA9.out.farCells (b := w.heap.size + 1 + 1 + 1) (o := 512 + k * 16) (by omega) (w8 (covN (secN seed n k 0))))
        have HDE := Lib.hid (HD9.out.farCells (b := w.heap.size + 1 + 1 + 1) (o := 512 + k * 16) (by omega) (w8 (covN (secN seed n k 0))))
        have HBE := Lib.hid (HB9.out.farCells (b := w.heap.size + 1 + 1 + 1) (o := 512 + k * 16) (by omega) (w8 (covN (secN seed n k 0))))
        have HCE := Lib.hid (sigC_other _ _ HOL.out HTL.out (k + 1) k hlt (by omega) _ HO2.out HC9.out)
        have HWE := Lib.hid (below_cells (g := w.heap.size + 1 + 1 + 1) (w8 (covN (secN seed n k 0))) (512 + k * 16) X9 HW9.out (by omega))
        generalize X9.setCells (w.heap.size + 1 + 1 + 1) (512 + k * 16) (w8 (covN (secN seed n k 0))) = E at HAE HDE HBE HCE HWE ⊢
        clear HA9 HD9 HB9 HC9 HW9 HL9 HI9 HT9 H19 HAK HAX5 HDX5 HBX5 HCX5 HWX5
        go_wp2
        go_roundw
        case rel => exact ⟨k + 1, by omega, by go_num, HAE, HDE, HBE, HCE, HWE⟩
        case measure => simp [intOf]; omega
    · obtain rfl : k = 32 := by omega
      rw [sigC_end, show rows (opnN seed n d) 32 ++ rows (othN seed n d) 32 = signN seed n d from rfl] at HC
      have HRG := Lib.hid HC.out.all
      have HS5 : Hid ((Tryd.prog.info? 56).map (·.size) = some (w8 (signN seed n d)).length) := Lib.hid (by rw [w8_length, signN_length]; exact info56)
      have HS6 : Hid ((Tryd.prog.info? 56).map (·.size) = some (w8 (signN seed n d)).toArray.size) := Lib.hid (by rw [List.size_toArray, w8_length, signN_length]; exact info56)
      have HZ6 : Hid ((w8 (List.replicate 1024 0)).toArray.size = (w8 (signN seed n d)).toArray.size) := Lib.hid (by rw [List.size_toArray, List.size_toArray, w8_length, w8_length, signN_length]; simp)
      have HO6 := Lib.hid (all_oneCell_toArray (w8_one (signN seed n d)))
      go_wp2_with (first | (refine wpList_load_mid rfl 56 (.tmp 5) rfl (w.heap.size + 1 + 1 + 1) 0 rfl (w8 (signN seed n d)) _ HRG.out Tryd.underlying56 rfl HS5.out ?_) | (refine wpList_store_row rfl 56 (.tmp 4) (.tmp 31) rfl (w.heap.size + 1 + 1) (w8 (signN seed n d)).toArray rfl rfl 56 _ HB.out HS6.out HZ6.out HO6.out ?_))
      exact bodyPost_ret (v := .agg (w8 (signN seed n d)).toArray) (results_cell_row Tryd.results25 _ _ (w.heap.size + 1 + 1) 56 (w8 (signN seed n d)).toArray (0, 0) _ rfl (HB.out.setRow _) Tryd.underlying56 rfl HS6.out) rfl ⟨rfl, below_setRow HW.out (by omega) _⟩
end Go.Proofs.YtkonokjhpddbfaaDoor
