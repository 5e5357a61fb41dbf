/-
  The walk of tollhouselaw05.RingSigns (function 12).
-/
import Derived.Test.YtkonokjhpddbfaaDoorRngK
import Derived.Test.YtkonokjhpddbfaaDoorRngL
import Derived.Test.YtkonokjhpddbfaaDoorRngQ
namespace Go.Proofs.YtkonokjhpddbfaaDoor
open Go.RowKit
set_option linter.unusedVariables false

set_option maxRecDepth 100000 in
set_option maxHeartbeats 4000000 in
theorem ringSigns_core (seed d : List Nat) (tall key h k : Nat) (w : World) (HT : Hid (Tab w)) (HL : Hid (seed.length = 32)) (HP : Hid (∀ x ∈ seed, x < 256)) (HDL : Hid (d.length = 32)) (HDP : Hid (∀ x ∈ d, x < 256))
    (q1 : (tall : Int).tmod 4 = (h : Int)) (q2 : (key : Int).tmod ((pw h : Nat) : Int) = (k : Int)) (hh4 : h < 4) (hk : k < pw h) (htal : tall < 256) (hkey : key < 256) :
    Calls Tryd.prog 12 #[.agg (w8 seed).toArray, .int .u8 (tall : Int), .int .u8 (key : Int), .agg (w8 d).toArray] w fun e' w' => e' = .returned (.bool true) ∧ Below w.heap.size w w' := by
  have hpw : pw h ≤ 8 := Nat.pow_le_pow_right (by omega) (show h ≤ 3 by omega)
  have hk8 : k < 256 := by omega
  have ht1 : ((List.replicate 256 false).set k true).getD k false = true := set_taken 256 k hk8
  have rfl0 : (List.replicate 256 false).getD k false = false := by rw [List.getD_eq_getElem?_getD, List.getElem?_replicate, if_pos hk8]; rfl
  have hsh : ∀ W : World, (binOp .shl 38 (.int .u32 1) (.int .i64 (h : Int))).run Tryd.prog W = .ok (.int .u32 ((pw h : Nat) : Int)) W := fun W => by
    have h9 : h = 0 ∨ h = 1 ∨ h = 2 ∨ h = 3 := by omega
    rcases h9 with rfl | rfl | rfl | rfl <;> (show _ = _; kernel_rfl)
  have hsv : (2 : Int) ^ h = ((pw h : Nat) : Int) := by unfold pw; simp
  have hps : ((pw h : Nat) : Int) ≤ 8 := by omega
  have hps0 : (0 : Int) < ((pw h : Nat) : Int) := by have := pw_pos h; omega
  have hk1 : IntKind.u32.wrap ((k : Int) + 1) = (k : Int) + 1 := by rw [IntKind.wrap_u32]; omega
  have hh1 : IntKind.i64.wrap ((h : Int) + 1) = (h : Int) + 1 := by rw [IntKind.wrap_i64]; omega
  have HSN : Hid ((signN seed k d).length = 1024) := Lib.hid (signN_length _ _ _)
  have HWF : Hid (∀ a, (wayN seed k a).length = 32) := Lib.hid (wayN_length seed k)
  have HLZ : Hid (zsig.length = 1026) := Lib.hid zsig_length
  have HS5 : Hid ((Tryd.prog.info? 94).map (·.size) = some zsig.toArray.size) := Lib.hid (by rw [List.size_toArray, HLZ.out]; exact info94)
  have HZ5 : Hid (Tryd.zeroCells94.size = zsig.toArray.size) := Lib.hid (by rw [zsig_arr])
  have HO5 := Lib.hid (all_oneCell_toArray zsig_one)
  have HIS : Hid ((Tryd.prog.info? 29).map (·.size) = some (w8 seed).length) := Lib.hid (by rw [w8_length, HL.out]; exact info29)
  have HID : Hid ((Tryd.prog.info? 29).map (·.size) = some (w8 d).length) := Lib.hid (by rw [w8_length, HDL.out]; exact info29)
  go_enter Tryd.func12, Tryd.ntmps12
  go_upto_region 1 with fail
  have SV : Hid (Blk ((w.alloc (.cells (w8 seed).toArray 29)).alloc (.cells (w8 d).toArray 29)) w.heap.size 29 (w8 seed)) := Lib.hid (by
    have h := (Blk.new w 29 (w8 seed)).alloc (.cells (w8 d).toArray 29)
    exact h)
  have DV : Hid (Blk ((w.alloc (.cells (w8 seed).toArray 29)).alloc (.cells (w8 d).toArray 29)) (w.heap.size + 1) 29 (w8 d)) := Lib.hid (by
    have h := Blk.new (w.alloc (.cells (w8 seed).toArray 29)) 29 (w8 d)
    rw [World.size_alloc] at h
    exact h)
  have BV : Hid (Below w.heap.size w ((w.alloc (.cells (w8 seed).toArray 29)).alloc (.cells (w8 d).toArray 29))) := Lib.hid (((Below.refl _ _).alloc (Nat.le_refl _) _).alloc (by simp) _)
  generalize ((w.alloc (.cells (w8 seed).toArray 29)).alloc (.cells (w8 d).toArray 29)) = V at SV DV BV ⊢
  have hv0 : w.heap.size < V.heap.size := SV.out.lt
  have hv2 : w.heap.size + 1 < V.heap.size := DV.out.lt
  have HRS := Lib.hid SV.out.all
  go_wp2_with (first | (refine wpList_load_mid rfl 29 (.tmp 4) rfl w.heap.size 0 rfl (w8 seed) _ HRS.out Tryd.underlying29 rfl HIS.out ?_))
  refine (new_ring seed h V (Lib.hid (HT.out.below BV.out HT.out.lt)) HL HP (by omega)).mono ?_
  rintro e U1 ⟨g, v, rfl, hR, hB⟩
  have hgg : V.heap.size ≤ g := hR.bas
  have hR2 := hR.mono (Nat.le_of_lt hv0)
  have DU1 : Hid (Blk U1 (w.heap.size + 1) 29 (w8 d)) := Lib.hid (DV.out.below hB DV.out.lt)
  have BU1 : Hid (Below w.heap.size w U1) := Lib.hid (BV.out.trans (hB.mono BV.out.size))
  clear DV BV
  have RU1 : Hid (RingAt U1 w.heap.size g seed h (List.replicate 256 false) v) := Lib.hid (hR2)
  clear hB hR hR2 HRS SV
  have hgg2 : w.heap.size + 1 < g := by omega
  have HRD := Lib.hid DU1.out.all
  go_wp2_with (first | (refine wpList_load_mid rfl 29 (.tmp 7) rfl (w.heap.size + 1) 0 rfl (w8 d) _ HRD.out Tryd.underlying29 rfl HID.out ?_))
  refine (sign_ok g k seed d h w.heap.size (List.replicate 256 false) v U1 RU1 (Lib.hid (HT.out.below BU1.out HT.out.lt)) HDL HDP hk rfl0).mono ?_
  rintro e U2 ⟨gw, rfl, hY, hgw, hR, hO⟩
  have hnD : some (w.heap.size + 1) ≠ some g := fun e => by injection e with e; omega
  clear RU1
  have DU2 : Hid (Blk U2 (w.heap.size + 1) 29 (w8 d)) := Lib.hid (DU1.out.grown hO hnD)
  have BU2 : Hid (Below w.heap.size w U2) := Lib.hid (BU1.out.trans (only_up hO (by omega) BU1.out.size))
  clear DU1 BU1
  have RU2 : Hid (RingAt U2 w.heap.size g seed h ((List.replicate 256 false).set k true) v) := Lib.hid (hR)
  have YU2 : Hid (Blk U2 gw 36 (w8 (rows (wayN seed k) h))) := Lib.hid (hY)
  clear hO hY hR HRD hnD hgw
  have HSE := Lib.hid (sig_put (signN seed k d) k (some ⟨gw, 0, none⟩) h h (signN_length _ _ _))
  have HL := Lib.hid (heap_alloc_last U2 (.cells Tryd.zeroCells94 94))
  go_upto_region 5 with (first | (refine wpList_store_row rfl 94 (.tmp 13) (.tmp 38) rfl U2.heap.size (rsg (signN seed k d) k (.slice (some ⟨gw, 0, none⟩) h h)).toArray rfl rfl 94 _ HL.out HSE.out.1 HSE.out.2.1 HSE.out.2.2 ?_; rw [World.setRow_alloc_new]))
  have hB : Below U2.heap.size U2 (U2.alloc (.cells (rsg (signN seed k d) k (.slice (some ⟨gw, 0, none⟩) h h)).toArray 94)) := (Below.refl _ _).alloc (Nat.le_refl _) _
  have DU3 : Hid (Blk (U2.alloc (.cells (rsg (signN seed k d) k (.slice (some ⟨gw, 0, none⟩) h h)).toArray 94)) (w.heap.size + 1) 29 (w8 d)) := Lib.hid (DU2.out.below hB DU2.out.lt)
  have BU3 : Hid (Below w.heap.size w (U2.alloc (.cells (rsg (signN seed k d) k (.slice (some ⟨gw, 0, none⟩) h h)).toArray 94))) := Lib.hid (BU2.out.trans (hB.mono BU2.out.size))
  have RU3 : Hid (RingAt (U2.alloc (.cells (rsg (signN seed k d) k (.slice (some ⟨gw, 0, none⟩) h h)).toArray 94)) w.heap.size g seed h ((List.replicate 256 false).set k true) v) := Lib.hid (RU2.out.below hB)
  have YU3 : Hid (Blk (U2.alloc (.cells (rsg (signN seed k d) k (.slice (some ⟨gw, 0, none⟩) h h)).toArray 94)) gw 36 (w8 (rows (wayN seed k) h))) := Lib.hid (YU2.out.below hB YU2.out.lt)
  have SU3 : Hid (Blk (U2.alloc (.cells (rsg (signN seed k d) k (.slice (some ⟨gw, 0, none⟩) h h)).toArray 94)) U2.heap.size 94 (rsg (signN seed k d) k (.slice (some ⟨gw, 0, none⟩) h h))) := Lib.hid (Blk.new _ _ _)
  clear hB HL DU2 BU2 RU2 YU2
  generalize (U2.alloc (.cells (rsg (signN seed k d) k (.slice (some ⟨gw, 0, none⟩) h h)).toArray 94)) = U3 at DU3 BU3 RU3 YU3 SU3 ⊢
  generalize U2.heap.size = gs at SU3 ⊢
  have HRD := Lib.hid DU3.out.all
  go_wp2_with (first | (refine wpList_load_mid rfl 29 (.tmp 7) rfl (w.heap.size + 1) 0 rfl (w8 d) _ HRD.out Tryd.underlying29 rfl HID.out ?_))
  refine (sign_spent g k seed d h w.heap.size ((List.replicate 256 false).set k true) v U3 RU3 hk ht1).mono ?_
  rintro e U4 ⟨rfl, hB⟩
  have DU4 : Hid (Blk U4 (w.heap.size + 1) 29 (w8 d)) := Lib.hid (DU3.out.below hB DU3.out.lt)
  have BU4 : Hid (Below w.heap.size w U4) := Lib.hid (BU3.out.trans (hB.mono BU3.out.size))
  have RU4 : Hid (RingAt U4 w.heap.size g seed h ((List.replicate 256 false).set k true) v) := Lib.hid (RU3.out.below hB)
  have YU4 : Hid (Blk U4 gw 36 (w8 (rows (wayN seed k) h))) := Lib.hid (YU3.out.below hB YU3.out.lt)
  have SU4 : Hid (Blk U4 gs 94 (rsg (signN seed k d) k (.slice (some ⟨gw, 0, none⟩) h h))) := Lib.hid (SU3.out.below hB SU3.out.lt)
  clear DU3 BU3 RU3 YU3 SU3
  clear hB HRD
  have HL := Lib.hid (heap_alloc_last U4 (.cells Tryd.zeroCells94 94))
  go_upto_region 6 with (first | (refine wpList_store_row rfl 94 (.tmp 15) (.tmp 45) rfl U4.heap.size zsig.toArray rfl rfl 94 _ HL.out HS5.out HZ5.out HO5.out ?_; rw [World.setRow_alloc_new]))
  have hB : Below U4.heap.size U4 (U4.alloc (.cells zsig.toArray 94)) := (Below.refl _ _).alloc (Nat.le_refl _) _
  have DU5 : Hid (Blk (U4.alloc (.cells zsig.toArray 94)) (w.heap.size + 1) 29 (w8 d)) := Lib.hid (DU4.out.below hB DU4.out.lt)
  have BU5 : Hid (Below w.heap.size w (U4.alloc (.cells zsig.toArray 94))) := Lib.hid (BU4.out.trans (hB.mono BU4.out.size))
  have RU5 : Hid (RingAt (U4.alloc (.cells zsig.toArray 94)) w.heap.size g seed h ((List.replicate 256 false).set k true) v) := Lib.hid (RU4.out.below hB)
  have YU5 : Hid (Blk (U4.alloc (.cells zsig.toArray 94)) gw 36 (w8 (rows (wayN seed k) h))) := Lib.hid (YU4.out.below hB YU4.out.lt)
  have SU5 : Hid (Blk (U4.alloc (.cells zsig.toArray 94)) gs 94 (rsg (signN seed k d) k (.slice (some ⟨gw, 0, none⟩) h h))) := Lib.hid (SU4.out.below hB SU4.out.lt)
  have ZU5 : Hid (Blk (U4.alloc (.cells zsig.toArray 94)) U4.heap.size 94 zsig) := Lib.hid (Blk.new _ _ _)
  clear hB HL DU4 BU4 RU4 YU4 SU4
  generalize (U4.alloc (.cells zsig.toArray 94)) = U5 at DU5 BU5 RU5 YU5 SU5 ZU5 ⊢
  generalize U4.heap.size = gz at ZU5 ⊢
  clear ZU5
  have HRD := Lib.hid DU5.out.all
  go_wp2_with (first | (refine wpList_load_mid rfl 29 (.tmp 7) rfl (w.heap.size + 1) 0 rfl (w8 d) _ HRD.out Tryd.underlying29 rfl HID.out ?_))
  refine (again_ok g k seed d h w.heap.size ((List.replicate 256 false).set k true) v U5 RU5 (Lib.hid (HT.out.below BU5.out HT.out.lt)) HDL HDP hk ht1).mono ?_
  rintro e U6 ⟨gu, rfl, hY, hgu, hB⟩
  have DU6 : Hid (Blk U6 (w.heap.size + 1) 29 (w8 d)) := Lib.hid (DU5.out.below hB DU5.out.lt)
  have BU6 : Hid (Below w.heap.size w U6) := Lib.hid (BU5.out.trans (hB.mono BU5.out.size))
  have RU6 : Hid (RingAt U6 w.heap.size g seed h ((List.replicate 256 false).set k true) v) := Lib.hid (RU5.out.below hB)
  have YU6 : Hid (Blk U6 gw 36 (w8 (rows (wayN seed k) h))) := Lib.hid (YU5.out.below hB YU5.out.lt)
  have SU6 : Hid (Blk U6 gs 94 (rsg (signN seed k d) k (.slice (some ⟨gw, 0, none⟩) h h))) := Lib.hid (SU5.out.below hB SU5.out.lt)
  clear DU5 BU5 RU5 YU5 SU5
  have UU6 : Hid (Blk U6 gu 36 (w8 (rows (wayN seed k) h))) := Lib.hid (hY)
  clear hB hY HRD hgu
  have HSU := Lib.hid (sig_put (signN seed k d) k (some ⟨gu, 0, none⟩) h h (signN_length _ _ _))
  have HL := Lib.hid (heap_alloc_last U6 (.cells Tryd.zeroCells94 94))
  go_upto_region 7 with (first | (refine wpList_store_row rfl 94 (.tmp 17) (.tmp 52) rfl U6.heap.size (rsg (signN seed k d) k (.slice (some ⟨gu, 0, none⟩) h h)).toArray rfl rfl 94 _ HL.out HSU.out.1 HSU.out.2.1 HSU.out.2.2 ?_; rw [World.setRow_alloc_new]))
  have hB : Below U6.heap.size U6 (U6.alloc (.cells (rsg (signN seed k d) k (.slice (some ⟨gu, 0, none⟩) h h)).toArray 94)) := (Below.refl _ _).alloc (Nat.le_refl _) _
  have DU7 : Hid (Blk (U6.alloc (.cells (rsg (signN seed k d) k (.slice (some ⟨gu, 0, none⟩) h h)).toArray 94)) (w.heap.size + 1) 29 (w8 d)) := Lib.hid (DU6.out.below hB DU6.out.lt)
  have BU7 : Hid (Below w.heap.size w (U6.alloc (.cells (rsg (signN seed k d) k (.slice (some ⟨gu, 0, none⟩) h h)).toArray 94))) := Lib.hid (BU6.out.trans (hB.mono BU6.out.size))
  have RU7 : Hid (RingAt (U6.alloc (.cells (rsg (signN seed k d) k (.slice (some ⟨gu, 0, none⟩) h h)).toArray 94)) w.heap.size g seed h ((List.replicate 256 false).set k true) v) := Lib.hid (RU6.out.below hB)
  have YU7 : Hid (Blk (U6.alloc (.cells (rsg (signN seed k d) k (.slice (some ⟨gu, 0, none⟩) h h)).toArray 94)) gw 36 (w8 (rows (wayN seed k) h))) := Lib.hid (YU6.out.below hB YU6.out.lt)
  have SU7 : Hid (Blk (U6.alloc (.cells (rsg (signN seed k d) k (.slice (some ⟨gu, 0, none⟩) h h)).toArray 94)) gs 94 (rsg (signN seed k d) k (.slice (some ⟨gw, 0, none⟩) h h))) := Lib.hid (SU6.out.below hB SU6.out.lt)
  have UU7 : Hid (Blk (U6.alloc (.cells (rsg (signN seed k d) k (.slice (some ⟨gu, 0, none⟩) h h)).toArray 94)) gu 36 (w8 (rows (wayN seed k) h))) := Lib.hid (UU6.out.below hB UU6.out.lt)
  have TU7 : Hid (Blk (U6.alloc (.cells (rsg (signN seed k d) k (.slice (some ⟨gu, 0, none⟩) h h)).toArray 94)) U6.heap.size 94 (rsg (signN seed k d) k (.slice (some ⟨gu, 0, none⟩) h h))) := Lib.hid (Blk.new _ _ _)
  clear hB HL DU6 BU6 RU6 YU6 SU6 UU6
  generalize (U6.alloc (.cells (rsg (signN seed k d) k (.slice (some ⟨gu, 0, none⟩) h h)).toArray 94)) = U7 at DU7 BU7 RU7 YU7 SU7 UU7 TU7 ⊢
  generalize U6.heap.size = gt at TU7 ⊢
  have hBz : Below U7.heap.size U7 U7.drew := below_drewN (Below.refl _ _) 1
  have DX0 : Hid (Blk U7.drew (w.heap.size + 1) 29 (w8 d)) := Lib.hid (DU7.out.below hBz DU7.out.lt)
  have BX0 : Hid (Below w.heap.size w U7.drew) := Lib.hid (BU7.out.trans (hBz.mono BU7.out.size))
  have RX0 : Hid (RingAt U7.drew w.heap.size g seed h ((List.replicate 256 false).set k true) v) := Lib.hid (RU7.out.below hBz)
  have YX0 : Hid (Blk U7.drew gw 36 (w8 (rows (wayN seed k) h))) := Lib.hid (YU7.out.below hBz YU7.out.lt)
  have SX0 : Hid (Blk U7.drew gs 94 (rsg (signN seed k d) k (.slice (some ⟨gw, 0, none⟩) h h))) := Lib.hid (SU7.out.below hBz SU7.out.lt)
  have UX0 : Hid (Blk U7.drew gu 36 (w8 (rows (wayN seed k) h))) := Lib.hid (UU7.out.below hBz UU7.out.lt)
  have TX0 : Hid (Blk U7.drew gt 94 (rsg (signN seed k d) k (.slice (some ⟨gu, 0, none⟩) h h))) := Lib.hid (TU7.out.below hBz TU7.out.lt)
  clear hBz
  refine wp_region_held_drew (S := fun w' => Blk w' gs 94 (rsg (signN seed k d) k (.slice (some ⟨gw, 0, none⟩) h h)) ∧ Blk w' gt 94 (rsg (signN seed k d) k (.slice (some ⟨gu, 0, none⟩) h h)) ∧ Blk w' (w.heap.size + 1) 29 (w8 d)) (by kernel_rfl) (⟨SX0.out, TX0.out, DX0.out⟩) (fun hHeld => ?_)
  generalize U7.drew = X0 at hHeld DX0 BX0 RX0 YX0 SX0 UX0 TX0 ⊢
  refine wpAnyH_ready (rs := [0]) (by kernel_rfl) (by simp) ?_
  refine AllReadyH.cons rfl (fun K hK => ?_) AllReadyH.nil
  refine step_call rfl 42 #[] #[] rfl #[] (by simp) (by go_simp) (awake5_any X0 (Lib.hid (HT.out.below BX0.out HT.out.lt))) ?_
  rintro e X1 ⟨rfl, hB⟩
  have DX1 : Hid (Blk X1 (w.heap.size + 1) 29 (w8 d)) := Lib.hid (DX0.out.below hB DX0.out.lt)
  have BX1 : Hid (Below w.heap.size w X1) := Lib.hid (BX0.out.trans (hB.mono BX0.out.size))
  have RX1 : Hid (RingAt X1 w.heap.size g seed h ((List.replicate 256 false).set k true) v) := Lib.hid (RX0.out.below hB)
  have YX1 : Hid (Blk X1 gw 36 (w8 (rows (wayN seed k) h))) := Lib.hid (YX0.out.below hB YX0.out.lt)
  have SX1 : Hid (Blk X1 gs 94 (rsg (signN seed k d) k (.slice (some ⟨gw, 0, none⟩) h h))) := Lib.hid (SX0.out.below hB SX0.out.lt)
  have UX1 : Hid (Blk X1 gu 36 (w8 (rows (wayN seed k) h))) := Lib.hid (UX0.out.below hB UX0.out.lt)
  have TX1 : Hid (Blk X1 gt 94 (rsg (signN seed k d) k (.slice (some ⟨gu, 0, none⟩) h h))) := Lib.hid (TX0.out.below hB TX0.out.lt)
  clear DX0 BX0 RX0 YX0 SX0 UX0 TX0 hB
  refine ⟨_, rfl, hK.out _ _ (⟨SX1.out, TX1.out, DX1.out⟩) (fun hHeld => ?_)⟩
  clear hK K
  show wpAnyH _ _ _ _ _ _ _ (Act.put _ (some 54) _) _
  simp only [Act.put, List.setIfInBounds_toArray, List.set_cons_zero, List.set_cons_succ]
  refine wpAnyH_take (i := 1) (v := .bool true) rfl (by kernel_rfl) (by kernel_rfl) (by kernel_rfl) (fun _ _ _ h => h) (Or.inl ⟨by rfl, fun w _ => by rfl⟩) hHeld ?_
  show wpAnyH _ _ _ _ _ _ _ (Act.put _ (some 55) _) _
  simp only [Act.put, List.setIfInBounds_toArray, List.set_cons_zero, List.set_cons_succ]
  refine wpAnyH_take (i := 2) (v := .int .i64 0) rfl (by kernel_rfl) (by kernel_rfl) (by kernel_rfl) (fun _ _ _ h => h) (Or.inl ⟨by rfl, fun w _ => by rfl⟩) hHeld ?_
  show wpAnyH _ _ _ _ _ _ _ (Act.put _ (some 56) _) _
  simp only [Act.put, List.setIfInBounds_toArray, List.set_cons_zero, List.set_cons_succ]
  refine wpAnyH_take (i := 3) (v := .bool true) rfl (by kernel_rfl) (by kernel_rfl) (by kernel_rfl) (fun _ _ _ h => h) (Or.inl ⟨by rfl, by intro w' h; go_simp⟩) hHeld ?_
  show wpAnyH _ _ _ _ _ _ _ (Act.put _ (some 57) _) _
  simp only [Act.put, List.setIfInBounds_toArray, List.set_cons_zero, List.set_cons_succ]
  refine wpAnyH_take (i := 4) (v := .bool true) rfl (by kernel_rfl) (by kernel_rfl) (by kernel_rfl) (fun _ _ _ h => h) (Or.inl ⟨by rfl, by intro w hSw; first | rfl | go_simp⟩) hHeld ?_
  show wpAnyH _ _ _ _ _ _ _ (Act.put _ (some 58) _) _
  simp only [Act.put, List.setIfInBounds_toArray, List.set_cons_zero, List.set_cons_succ]
  refine wpAnyH_take (i := 5) (v := .bool true) rfl (by kernel_rfl) (by kernel_rfl) (by kernel_rfl) (fun _ _ _ h => h) (Or.inl ⟨by rfl, fun w _ => by rfl⟩) hHeld ?_
  show wpAnyH _ _ _ _ _ _ _ (Act.put _ (some 59) _) _
  simp only [Act.put, List.setIfInBounds_toArray, List.set_cons_zero, List.set_cons_succ]
  refine wpAnyH_take (i := 6) (v := .int .i64 0) rfl (by kernel_rfl) (by kernel_rfl) (by kernel_rfl) (fun _ _ _ h => h) (Or.inl ⟨by rfl, fun w _ => by rfl⟩) hHeld ?_
  show wpAnyH _ _ _ _ _ _ _ (Act.put _ (some 60) _) _
  simp only [Act.put, List.setIfInBounds_toArray, List.set_cons_zero, List.set_cons_succ]
  refine wpAnyH_take (i := 7) (v := .bool true) rfl (by kernel_rfl) (by kernel_rfl) (by kernel_rfl) (fun _ _ _ h => h) (Or.inl ⟨by rfl, by intro w' h; go_simp⟩) hHeld ?_
  show wpAnyH _ _ _ _ _ _ _ (Act.put _ (some 61) _) _
  simp only [Act.put, List.setIfInBounds_toArray, List.set_cons_zero, List.set_cons_succ]
  refine wpAnyH_take (i := 8) (v := .bool true) rfl (by kernel_rfl) (by kernel_rfl) (by kernel_rfl) (fun _ _ _ h => h) (Or.inl ⟨by rfl, by intro w hSw; first | rfl | go_simp⟩) hHeld ?_
  show wpAnyH _ _ _ _ _ _ _ (Act.put _ (some 62) _) _
  simp only [Act.put, List.setIfInBounds_toArray, List.set_cons_zero, List.set_cons_succ]
  refine wpAnyH_take (i := 9) (v := .bool true) rfl (by kernel_rfl) (by kernel_rfl) (by kernel_rfl) (fun _ _ _ h => h) (Or.inl ⟨by rfl, fun w _ => by rfl⟩) hHeld ?_
  show wpAnyH _ _ _ _ _ _ _ (Act.put _ (some 63) _) _
  simp only [Act.put, List.setIfInBounds_toArray, List.set_cons_zero, List.set_cons_succ]
  refine wpAnyH_take (i := 10) (v := .int .i64 21) rfl (by kernel_rfl) (by kernel_rfl) (by kernel_rfl) (fun _ _ _ h => h) (Or.inl ⟨by rfl, fun w _ => by rfl⟩) hHeld ?_
  show wpAnyH _ _ _ _ _ _ _ (Act.put _ (some 64) _) _
  simp only [Act.put, List.setIfInBounds_toArray, List.set_cons_zero, List.set_cons_succ]
  refine wpAnyH_take (i := 11) (v := .bool true) rfl (by kernel_rfl) (by kernel_rfl) (by kernel_rfl) (fun _ _ _ h => h) (Or.inl ⟨by rfl, by intro w' h; go_simp⟩) hHeld ?_
  show wpAnyH _ _ _ _ _ _ _ (Act.put _ (some 65) _) _
  simp only [Act.put, List.setIfInBounds_toArray, List.set_cons_zero, List.set_cons_succ]
  refine wpAnyH_take (i := 12) (v := .bool true) rfl (by kernel_rfl) (by kernel_rfl) (by kernel_rfl) (fun _ _ _ h => h) (Or.inl ⟨by rfl, by intro w hSw; first | rfl | go_simp⟩) hHeld ?_
  show wpAnyH _ _ _ _ _ _ _ (Act.put _ (some 66) _) _
  simp only [Act.put, List.setIfInBounds_toArray, List.set_cons_zero, List.set_cons_succ]
  refine wpAnyH_take (i := 13) (v := .bool true) rfl (by kernel_rfl) (by kernel_rfl) (by kernel_rfl) (fun _ _ _ h => h) (Or.inl ⟨by rfl, fun w _ => by rfl⟩) hHeld ?_
  show wpAnyH _ _ _ _ _ _ _ (Act.put _ (some 67) _) _
  simp only [Act.put, List.setIfInBounds_toArray, List.set_cons_zero, List.set_cons_succ]
  refine wpAnyH_take (i := 14) (v := .int .i64 0) rfl (by kernel_rfl) (by kernel_rfl) (by kernel_rfl) (fun _ _ _ h => h) (Or.inl ⟨by rfl, fun w _ => by rfl⟩) hHeld ?_
  show wpAnyH _ _ _ _ _ _ _ (Act.put _ (some 68) _) _
  simp only [Act.put, List.setIfInBounds_toArray, List.set_cons_zero, List.set_cons_succ]
  refine wpAnyH_take (i := 15) (v := .bool true) rfl (by kernel_rfl) (by kernel_rfl) (by kernel_rfl) (fun _ _ _ h => h) (Or.inl ⟨by rfl, by intro w' h; go_simp⟩) hHeld ?_
  show wpAnyH _ _ _ _ _ _ _ (Act.put _ (some 69) _) _
  simp only [Act.put, List.setIfInBounds_toArray, List.set_cons_zero, List.set_cons_succ]
  refine wpAnyH_take (i := 16) (v := .bool true) rfl (by kernel_rfl) (by kernel_rfl) (by kernel_rfl) (fun _ _ _ h => h) (Or.inl ⟨by rfl, by intro w hSw; first | rfl | go_simp⟩) hHeld ?_
  show wpAnyH _ _ _ _ _ _ _ (Act.put _ (some 70) _) _
  simp only [Act.put, List.setIfInBounds_toArray, List.set_cons_zero, List.set_cons_succ]
  refine wpAnyH_take (i := 17) (v := .bool true) rfl (by kernel_rfl) (by kernel_rfl) (by kernel_rfl) (fun _ _ _ h => h) (Or.inl ⟨by rfl, fun w _ => by rfl⟩) hHeld ?_
  show wpAnyH _ _ _ _ _ _ _ (Act.put _ (some 71) _) _
  simp only [Act.put, List.setIfInBounds_toArray, List.set_cons_zero, List.set_cons_succ]
  refine wpAnyH_take (i := 18) (v := .agg (rsg (signN seed k d) k (.slice (some ⟨gw, 0, none⟩) h h)).toArray) rfl (by kernel_rfl) (by kernel_rfl) (by kernel_rfl) (fun _ _ _ h => h) (yieldsIf_load_mid rfl 94 (.tmp 13) rfl gs 0 rfl (rsg (signN seed k d) k (.slice (some ⟨gw, 0, none⟩) h h)) _ (fun w' hh => Blk.all hh.1) Tryd.underlying94 rfl (by rw [rsg_length _ _ _ (signN_length _ _ _)]; exact info94)) hHeld ?_
  show wpAnyH _ _ _ _ _ _ _ (Act.put _ (some 72) _) _
  simp only [Act.put, List.setIfInBounds_toArray, List.set_cons_zero, List.set_cons_succ]
  refine wpAnyH_take (i := 20) (v := .agg (rsg (signN seed k d) k (.slice (some ⟨gu, 0, none⟩) h h)).toArray) rfl (by kernel_rfl) (by kernel_rfl) (by kernel_rfl) (fun _ _ _ h => h) (yieldsIf_load_mid rfl 94 (.tmp 17) rfl gt 0 rfl (rsg (signN seed k d) k (.slice (some ⟨gu, 0, none⟩) h h)) _ (fun w' hh => Blk.all hh.2.1) Tryd.underlying94 rfl (by rw [rsg_length _ _ _ (signN_length _ _ _)]; exact info94)) hHeld ?_
  show wpAnyH _ _ _ _ _ _ _ (Act.put _ (some 74) _) _
  simp only [Act.put, List.setIfInBounds_toArray, List.set_cons_zero, List.set_cons_succ]
  refine wpAnyH_ready (rs := [19]) (by kernel_rfl) (by simp) ?_
  refine AllReadyH.cons rfl (fun K hK => ?_) AllReadyH.nil
  refine step_call rfl 53 #[.tmp 72] #[94] rfl #[.agg (rsg (signN seed k d) k (.slice (some ⟨gw, 0, none⟩) h h)).toArray] (by simp [Act.eval]) (by go_simp) (rfrom5_any (signN seed k d) k h (some ⟨gw, 0, none⟩) h (wayN seed k) X1 HSN HWF (Lib.hid (WayR.blk (wayN seed k) (wayN_length seed k) YX1.out)) (by omega)) ?_
  rintro e X2 ⟨v73, rfl, hw73, hB⟩
  have DX2 : Hid (Blk X2 (w.heap.size + 1) 29 (w8 d)) := Lib.hid (DX1.out.below hB DX1.out.lt)
  have BX2 : Hid (Below w.heap.size w X2) := Lib.hid (BX1.out.trans (hB.mono BX1.out.size))
  have RX2 : Hid (RingAt X2 w.heap.size g seed h ((List.replicate 256 false).set k true) v) := Lib.hid (RX1.out.below hB)
  have YX2 : Hid (Blk X2 gw 36 (w8 (rows (wayN seed k) h))) := Lib.hid (YX1.out.below hB YX1.out.lt)
  have SX2 : Hid (Blk X2 gs 94 (rsg (signN seed k d) k (.slice (some ⟨gw, 0, none⟩) h h))) := Lib.hid (SX1.out.below hB SX1.out.lt)
  have UX2 : Hid (Blk X2 gu 36 (w8 (rows (wayN seed k) h))) := Lib.hid (UX1.out.below hB UX1.out.lt)
  have TX2 : Hid (Blk X2 gt 94 (rsg (signN seed k d) k (.slice (some ⟨gu, 0, none⟩) h h))) := Lib.hid (TX1.out.below hB TX1.out.lt)
  have N73X2 : Hid (WayR X2 v73 (wayN seed k) h) := Lib.hid (hw73)
  clear DX1 BX1 RX1 YX1 SX1 UX1 TX1 hB hw73
  refine ⟨_, rfl, hK.out _ _ (⟨SX2.out, TX2.out, DX2.out⟩) (fun hHeld => ?_)⟩
  clear hK K
  show wpAnyH _ _ _ _ _ _ _ (Act.put _ (some 73) _) _
  simp only [Act.put, List.setIfInBounds_toArray, List.set_cons_zero, List.set_cons_succ]
  refine wpAnyH_ready (rs := [21]) (by kernel_rfl) (by simp) ?_
  refine AllReadyH.cons rfl (fun K hK => ?_) AllReadyH.nil
  refine step_call rfl 53 #[.tmp 74] #[94] rfl #[.agg (rsg (signN seed k d) k (.slice (some ⟨gu, 0, none⟩) h h)).toArray] (by simp [Act.eval]) (by go_simp) (rfrom5_any (signN seed k d) k h (some ⟨gu, 0, none⟩) h (wayN seed k) X2 HSN HWF (Lib.hid (WayR.blk (wayN seed k) (wayN_length seed k) UX2.out)) (by omega)) ?_
  rintro e X3 ⟨v75, rfl, hw75, hB⟩
  have DX3 : Hid (Blk X3 (w.heap.size + 1) 29 (w8 d)) := Lib.hid (DX2.out.below hB DX2.out.lt)
  have BX3 : Hid (Below w.heap.size w X3) := Lib.hid (BX2.out.trans (hB.mono BX2.out.size))
  have RX3 : Hid (RingAt X3 w.heap.size g seed h ((List.replicate 256 false).set k true) v) := Lib.hid (RX2.out.below hB)
  have YX3 : Hid (Blk X3 gw 36 (w8 (rows (wayN seed k) h))) := Lib.hid (YX2.out.below hB YX2.out.lt)
  have SX3 : Hid (Blk X3 gs 94 (rsg (signN seed k d) k (.slice (some ⟨gw, 0, none⟩) h h))) := Lib.hid (SX2.out.below hB SX2.out.lt)
  have UX3 : Hid (Blk X3 gu 36 (w8 (rows (wayN seed k) h))) := Lib.hid (UX2.out.below hB UX2.out.lt)
  have TX3 : Hid (Blk X3 gt 94 (rsg (signN seed k d) k (.slice (some ⟨gu, 0, none⟩) h h))) := Lib.hid (TX2.out.below hB TX2.out.lt)
  have N73X3 : Hid (WayR X3 v73 (wayN seed k) h) := Lib.hid (N73X2.out.below hB)
  have N75X3 : Hid (WayR X3 v75 (wayN seed k) h) := Lib.hid (hw75)
  clear DX2 BX2 RX2 YX2 SX2 UX2 TX2 N73X2 hB hw75
  refine ⟨_, rfl, hK.out _ _ (⟨SX3.out, TX3.out, DX3.out⟩) (fun hHeld => ?_)⟩
  clear hK K
  show wpAnyH _ _ _ _ _ _ _ (Act.put _ (some 75) _) _
  simp only [Act.put, List.setIfInBounds_toArray, List.set_cons_zero, List.set_cons_succ]
  refine wpAnyH_ready (rs := [22]) (by kernel_rfl) (by simp) ?_
  refine AllReadyH.cons rfl (fun K hK => ?_) AllReadyH.nil
  refine step_call rfl 52 #[.tmp 73, .tmp 75] #[99, 99] rfl #[.agg (rsg (signN seed k d) k v73).toArray, .agg (rsg (signN seed k d) k v75).toArray] (by simp [Act.eval]) (by go_simp) (same_eq (signN seed k d) k h v73 v75 (wayN seed k) X3 HSN HWF N73X3 N75X3 (by omega)) ?_
  rintro e X4 ⟨rfl, hB⟩
  have DX4 : Hid (Blk X4 (w.heap.size + 1) 29 (w8 d)) := Lib.hid (DX3.out.below hB DX3.out.lt)
  have BX4 : Hid (Below w.heap.size w X4) := Lib.hid (BX3.out.trans (hB.mono BX3.out.size))
  have RX4 : Hid (RingAt X4 w.heap.size g seed h ((List.replicate 256 false).set k true) v) := Lib.hid (RX3.out.below hB)
  have YX4 : Hid (Blk X4 gw 36 (w8 (rows (wayN seed k) h))) := Lib.hid (YX3.out.below hB YX3.out.lt)
  have SX4 : Hid (Blk X4 gs 94 (rsg (signN seed k d) k (.slice (some ⟨gw, 0, none⟩) h h))) := Lib.hid (SX3.out.below hB SX3.out.lt)
  have UX4 : Hid (Blk X4 gu 36 (w8 (rows (wayN seed k) h))) := Lib.hid (UX3.out.below hB UX3.out.lt)
  have TX4 : Hid (Blk X4 gt 94 (rsg (signN seed k d) k (.slice (some ⟨gu, 0, none⟩) h h))) := Lib.hid (TX3.out.below hB TX3.out.lt)
  have N73X4 : Hid (WayR X4 v73 (wayN seed k) h) := Lib.hid (N73X3.out.below hB)
  have N75X4 : Hid (WayR X4 v75 (wayN seed k) h) := Lib.hid (N75X3.out.below hB)
  clear DX3 BX3 RX3 YX3 SX3 UX3 TX3 N73X3 N75X3 hB
  refine ⟨_, rfl, hK.out _ _ (⟨SX4.out, TX4.out, DX4.out⟩) (fun hHeld => ?_)⟩
  clear hK K
  show wpAnyH _ _ _ _ _ _ _ (Act.put _ (some 76) _) _
  simp only [Act.put, List.setIfInBounds_toArray, List.set_cons_zero, List.set_cons_succ]
  refine wpAnyH_take (i := 23) (v := .bool true) rfl (by kernel_rfl) (by kernel_rfl) (by kernel_rfl) (fun _ _ _ h => h) (Or.inl ⟨by rfl, by intro w hSw; first | rfl | go_simp⟩) hHeld ?_
  show wpAnyH _ _ _ _ _ _ _ (Act.put _ (some 77) _) _
  simp only [Act.put, List.setIfInBounds_toArray, List.set_cons_zero, List.set_cons_succ]
  refine wpAnyH_take (i := 24) (v := .bool true) rfl (by kernel_rfl) (by kernel_rfl) (by kernel_rfl) (fun _ _ _ h => h) (Or.inl ⟨by rfl, fun w _ => by rfl⟩) hHeld ?_
  show wpAnyH _ _ _ _ _ _ _ (Act.put _ (some 78) _) _
  simp only [Act.put, List.setIfInBounds_toArray, List.set_cons_zero, List.set_cons_succ]
  refine wpAnyH_take (i := 25) (v := .agg (rsg (signN seed k d) k (.slice (some ⟨gw, 0, none⟩) h h)).toArray) rfl (by kernel_rfl) (by kernel_rfl) (by kernel_rfl) (fun _ _ _ h => h) (yieldsIf_load_mid rfl 94 (.tmp 13) rfl gs 0 rfl (rsg (signN seed k d) k (.slice (some ⟨gw, 0, none⟩) h h)) _ (fun w' hh => Blk.all hh.1) Tryd.underlying94 rfl (by rw [rsg_length _ _ _ (signN_length _ _ _)]; exact info94)) hHeld ?_
  show wpAnyH _ _ _ _ _ _ _ (Act.put _ (some 79) _) _
  simp only [Act.put, List.setIfInBounds_toArray, List.set_cons_zero, List.set_cons_succ]
  refine wpAnyH_take (i := 26) (v := .pointer (some ⟨g, 0, none⟩)) rfl (by kernel_rfl) (by kernel_rfl) (by kernel_rfl) (fun _ _ _ h => h) (Or.inl ⟨by rfl, fun w _ => by rfl⟩) hHeld ?_
  show wpAnyH _ _ _ _ _ _ _ (Act.put _ (some 80) _) _
  simp only [Act.put, List.setIfInBounds_toArray, List.set_cons_zero, List.set_cons_succ]
  refine wpAnyH_take (i := 28) (v := .int .i64 (h : Int)) rfl (by kernel_rfl) (by kernel_rfl) (by kernel_rfl) (fun _ _ _ h => h) (Or.inl ⟨by rfl, fun w _ => by rfl⟩) hHeld ?_
  show wpAnyH _ _ _ _ _ _ _ (Act.put _ (some 82) _) _
  simp only [Act.put, List.setIfInBounds_toArray, List.set_cons_zero, List.set_cons_succ]
  refine wpAnyH_take (i := 29) (v := .int .u32 (k : Int)) rfl (by kernel_rfl) (by kernel_rfl) (by kernel_rfl) (fun _ _ _ h => h) (Or.inl ⟨by rfl, fun w _ => by rfl⟩) hHeld ?_
  show wpAnyH _ _ _ _ _ _ _ (Act.put _ (some 83) _) _
  simp only [Act.put, List.setIfInBounds_toArray, List.set_cons_zero, List.set_cons_succ]
  refine wpAnyH_take (i := 30) (v := .agg (w8 d).toArray) rfl (by kernel_rfl) (by kernel_rfl) (by kernel_rfl) (fun _ _ _ h => h) (yieldsIf_load_mid rfl 29 (.tmp 7) rfl (w.heap.size + 1) 0 rfl (w8 d) _ (fun w' hh => Blk.all hh.2.2) Tryd.underlying29 rfl HID.out) hHeld ?_
  show wpAnyH _ _ _ _ _ _ _ (Act.put _ (some 84) _) _
  simp only [Act.put, List.setIfInBounds_toArray, List.set_cons_zero, List.set_cons_succ]
  refine wpAnyH_ready (rs := [27]) (by kernel_rfl) (by simp) ?_
  refine AllReadyH.cons rfl (fun K hK => ?_) AllReadyH.nil
  refine step_call rfl 45 #[.tmp 80] #[84] rfl #[.pointer (some ⟨g, 0, none⟩)] (by simp [Act.eval]) (by go_simp) (root_any g seed h w.heap.size ((List.replicate 256 false).set k true) v X4 RX4) ?_
  rintro e X5 ⟨rfl, hB⟩
  have DX5 : Hid (Blk X5 (w.heap.size + 1) 29 (w8 d)) := Lib.hid (DX4.out.below hB DX4.out.lt)
  have BX5 : Hid (Below w.heap.size w X5) := Lib.hid (BX4.out.trans (hB.mono BX4.out.size))
  have RX5 : Hid (RingAt X5 w.heap.size g seed h ((List.replicate 256 false).set k true) v) := Lib.hid (RX4.out.below hB)
  have YX5 : Hid (Blk X5 gw 36 (w8 (rows (wayN seed k) h))) := Lib.hid (YX4.out.below hB YX4.out.lt)
  have SX5 : Hid (Blk X5 gs 94 (rsg (signN seed k d) k (.slice (some ⟨gw, 0, none⟩) h h))) := Lib.hid (SX4.out.below hB SX4.out.lt)
  have UX5 : Hid (Blk X5 gu 36 (w8 (rows (wayN seed k) h))) := Lib.hid (UX4.out.below hB UX4.out.lt)
  have TX5 : Hid (Blk X5 gt 94 (rsg (signN seed k d) k (.slice (some ⟨gu, 0, none⟩) h h))) := Lib.hid (TX4.out.below hB TX4.out.lt)
  have N73X5 : Hid (WayR X5 v73 (wayN seed k) h) := Lib.hid (N73X4.out.below hB)
  have N75X5 : Hid (WayR X5 v75 (wayN seed k) h) := Lib.hid (N75X4.out.below hB)
  clear DX4 BX4 RX4 YX4 SX4 UX4 TX4 N73X4 N75X4 hB
  refine ⟨_, rfl, hK.out _ _ (⟨SX5.out, TX5.out, DX5.out⟩) (fun hHeld => ?_)⟩
  clear hK K
  show wpAnyH _ _ _ _ _ _ _ (Act.put _ (some 81) _) _
  simp only [Act.put, List.setIfInBounds_toArray, List.set_cons_zero, List.set_cons_succ]
  refine wpAnyH_ready (rs := [31]) (by kernel_rfl) (by simp) ?_
  refine AllReadyH.cons rfl (fun K hK => ?_) AllReadyH.nil
  refine step_call rfl 56 #[.tmp 79, .tmp 81, .tmp 82, .tmp 83, .tmp 84] #[94, 36, 3, 38, 36] rfl #[.agg (rsg (signN seed k d) k (.slice (some ⟨gw, 0, none⟩) h h)).toArray, .agg (w8 (rootN seed h)).toArray, .int .i64 (h : Int), .int .u32 (k : Int), .agg (w8 d).toArray] (by simp [Act.eval]) (by go_simp) (right_sign seed d k h gw X5 (Lib.hid (HT.out.below BX5.out HT.out.lt)) HL HDL HDP YX5 hk (by omega)) ?_
  rintro e X6 ⟨rfl, hB⟩
  have DX6 : Hid (Blk X6 (w.heap.size + 1) 29 (w8 d)) := Lib.hid (DX5.out.below hB DX5.out.lt)
  have BX6 : Hid (Below w.heap.size w X6) := Lib.hid (BX5.out.trans (hB.mono BX5.out.size))
  have RX6 : Hid (RingAt X6 w.heap.size g seed h ((List.replicate 256 false).set k true) v) := Lib.hid (RX5.out.below hB)
  have YX6 : Hid (Blk X6 gw 36 (w8 (rows (wayN seed k) h))) := Lib.hid (YX5.out.below hB YX5.out.lt)
  have SX6 : Hid (Blk X6 gs 94 (rsg (signN seed k d) k (.slice (some ⟨gw, 0, none⟩) h h))) := Lib.hid (SX5.out.below hB SX5.out.lt)
  have UX6 : Hid (Blk X6 gu 36 (w8 (rows (wayN seed k) h))) := Lib.hid (UX5.out.below hB UX5.out.lt)
  have TX6 : Hid (Blk X6 gt 94 (rsg (signN seed k d) k (.slice (some ⟨gu, 0, none⟩) h h))) := Lib.hid (TX5.out.below hB TX5.out.lt)
  have N73X6 : Hid (WayR X6 v73 (wayN seed k) h) := Lib.hid (N73X5.out.below hB)
  have N75X6 : Hid (WayR X6 v75 (wayN seed k) h) := Lib.hid (N75X5.out.below hB)
  clear DX5 BX5 RX5 YX5 SX5 UX5 TX5 N73X5 N75X5 hB
  refine ⟨_, rfl, hK.out _ _ (⟨SX6.out, TX6.out, DX6.out⟩) (fun hHeld => ?_)⟩
  clear hK K
  show wpAnyH _ _ _ _ _ _ _ (Act.put _ (some 85) _) _
  simp only [Act.put, List.setIfInBounds_toArray, List.set_cons_zero, List.set_cons_succ]
  refine wpAnyH_take (i := 32) (v := .bool true) rfl (by kernel_rfl) (by kernel_rfl) (by kernel_rfl) (fun _ _ _ h => h) (Or.inl ⟨by rfl, by intro w hSw; first | rfl | go_simp⟩) hHeld ?_
  show wpAnyH _ _ _ _ _ _ _ (Act.put _ (some 86) _) _
  simp only [Act.put, List.setIfInBounds_toArray, List.set_cons_zero, List.set_cons_succ]
  refine wpAnyH_take (i := 33) (v := .bool true) rfl (by kernel_rfl) (by kernel_rfl) (by kernel_rfl) (fun _ _ _ h => h) (Or.inl ⟨by rfl, fun w _ => by rfl⟩) hHeld ?_
  show wpAnyH _ _ _ _ _ _ _ (Act.put _ (some 87) _) _
  simp only [Act.put, List.setIfInBounds_toArray, List.set_cons_zero, List.set_cons_succ]
  refine wpAnyH_take (i := 34) (v := .agg (rsg (signN seed k d) k (.slice (some ⟨gw, 0, none⟩) h h)).toArray) rfl (by kernel_rfl) (by kernel_rfl) (by kernel_rfl) (fun _ _ _ h => h) (yieldsIf_load_mid rfl 94 (.tmp 13) rfl gs 0 rfl (rsg (signN seed k d) k (.slice (some ⟨gw, 0, none⟩) h h)) _ (fun w' hh => Blk.all hh.1) Tryd.underlying94 rfl (by rw [rsg_length _ _ _ (signN_length _ _ _)]; exact info94)) hHeld ?_
  show wpAnyH _ _ _ _ _ _ _ (Act.put _ (some 88) _) _
  simp only [Act.put, List.setIfInBounds_toArray, List.set_cons_zero, List.set_cons_succ]
  refine wpAnyH_take (i := 35) (v := .pointer (some ⟨g, 0, none⟩)) rfl (by kernel_rfl) (by kernel_rfl) (by kernel_rfl) (fun _ _ _ h => h) (Or.inl ⟨by rfl, fun w _ => by rfl⟩) hHeld ?_
  show wpAnyH _ _ _ _ _ _ _ (Act.put _ (some 89) _) _
  simp only [Act.put, List.setIfInBounds_toArray, List.set_cons_zero, List.set_cons_succ]
  refine wpAnyH_take (i := 37) (v := .int .i64 (h : Int)) rfl (by kernel_rfl) (by kernel_rfl) (by kernel_rfl) (fun _ _ _ h => h) (Or.inl ⟨by rfl, fun w _ => by rfl⟩) hHeld ?_
  show wpAnyH _ _ _ _ _ _ _ (Act.put _ (some 91) _) _
  simp only [Act.put, List.setIfInBounds_toArray, List.set_cons_zero, List.set_cons_succ]
  refine wpAnyH_take (i := 38) (v := .int .u32 (k : Int)) rfl (by kernel_rfl) (by kernel_rfl) (by kernel_rfl) (fun _ _ _ h => h) (Or.inl ⟨by rfl, fun w _ => by rfl⟩) hHeld ?_
  show wpAnyH _ _ _ _ _ _ _ (Act.put _ (some 92) _) _
  simp only [Act.put, List.setIfInBounds_toArray, List.set_cons_zero, List.set_cons_succ]
  refine wpAnyH_take (i := 39) (v := .int .u32 ((k + 1 : Nat) : Int)) rfl (by kernel_rfl) (by kernel_rfl) (by kernel_rfl) (fun _ _ _ h => h) (Or.inl ⟨by rfl, by intro w' hh; go_simp; first | done | exact hk1⟩) hHeld ?_
  show wpAnyH _ _ _ _ _ _ _ (Act.put _ (some 93) _) _
  simp only [Act.put, List.setIfInBounds_toArray, List.set_cons_zero, List.set_cons_succ]
  refine wpAnyH_take (i := 40) (v := .agg (w8 d).toArray) rfl (by kernel_rfl) (by kernel_rfl) (by kernel_rfl) (fun _ _ _ h => h) (yieldsIf_load_mid rfl 29 (.tmp 7) rfl (w.heap.size + 1) 0 rfl (w8 d) _ (fun w' hh => Blk.all hh.2.2) Tryd.underlying29 rfl HID.out) hHeld ?_
  show wpAnyH _ _ _ _ _ _ _ (Act.put _ (some 94) _) _
  simp only [Act.put, List.setIfInBounds_toArray, List.set_cons_zero, List.set_cons_succ]
  refine wpAnyH_ready (rs := [36]) (by kernel_rfl) (by simp) ?_
  refine AllReadyH.cons rfl (fun K hK => ?_) AllReadyH.nil
  refine step_call rfl 45 #[.tmp 89] #[84] rfl #[.pointer (some ⟨g, 0, none⟩)] (by simp [Act.eval]) (by go_simp) (root_any g seed h w.heap.size ((List.replicate 256 false).set k true) v X6 RX6) ?_
  rintro e X7 ⟨rfl, hB⟩
  have DX7 : Hid (Blk X7 (w.heap.size + 1) 29 (w8 d)) := Lib.hid (DX6.out.below hB DX6.out.lt)
  have BX7 : Hid (Below w.heap.size w X7) := Lib.hid (BX6.out.trans (hB.mono BX6.out.size))
  have RX7 : Hid (RingAt X7 w.heap.size g seed h ((List.replicate 256 false).set k true) v) := Lib.hid (RX6.out.below hB)
  have YX7 : Hid (Blk X7 gw 36 (w8 (rows (wayN seed k) h))) := Lib.hid (YX6.out.below hB YX6.out.lt)
  have SX7 : Hid (Blk X7 gs 94 (rsg (signN seed k d) k (.slice (some ⟨gw, 0, none⟩) h h))) := Lib.hid (SX6.out.below hB SX6.out.lt)
  have UX7 : Hid (Blk X7 gu 36 (w8 (rows (wayN seed k) h))) := Lib.hid (UX6.out.below hB UX6.out.lt)
  have TX7 : Hid (Blk X7 gt 94 (rsg (signN seed k d) k (.slice (some ⟨gu, 0, none⟩) h h))) := Lib.hid (TX6.out.below hB TX6.out.lt)
  have N73X7 : Hid (WayR X7 v73 (wayN seed k) h) := Lib.hid (N73X6.out.below hB)
  have N75X7 : Hid (WayR X7 v75 (wayN seed k) h) := Lib.hid (N75X6.out.below hB)
  clear DX6 BX6 RX6 YX6 SX6 UX6 TX6 N73X6 N75X6 hB
  refine ⟨_, rfl, hK.out _ _ (⟨SX7.out, TX7.out, DX7.out⟩) (fun hHeld => ?_)⟩
  clear hK K
  show wpAnyH _ _ _ _ _ _ _ (Act.put _ (some 90) _) _
  simp only [Act.put, List.setIfInBounds_toArray, List.set_cons_zero, List.set_cons_succ]
  refine wpAnyH_ready (rs := [41]) (by kernel_rfl) (by simp) ?_
  refine AllReadyH.cons rfl (fun K hK => ?_) AllReadyH.nil
  refine step_call rfl 56 #[.tmp 88, .tmp 90, .tmp 91, .tmp 93, .tmp 94] #[94, 36, 3, 38, 36] rfl #[.agg (rsg (signN seed k d) k (.slice (some ⟨gw, 0, none⟩) h h)).toArray, .agg (w8 (rootN seed h)).toArray, .int .i64 (h : Int), .int .u32 ((k + 1 : Nat) : Int), .agg (w8 d).toArray] (by simp [Act.eval]) (by go_simp) (right_no2 (signN seed k d) (rootN seed h) d k (k + 1) h (some ⟨gw, 0, none⟩) h X7 HSN (by omega) (by omega) (by omega)) ?_
  rintro e X8 ⟨rfl, hB⟩
  have DX8 : Hid (Blk X8 (w.heap.size + 1) 29 (w8 d)) := Lib.hid (DX7.out.below hB DX7.out.lt)
  have BX8 : Hid (Below w.heap.size w X8) := Lib.hid (BX7.out.trans (hB.mono BX7.out.size))
  have RX8 : Hid (RingAt X8 w.heap.size g seed h ((List.replicate 256 false).set k true) v) := Lib.hid (RX7.out.below hB)
  have YX8 : Hid (Blk X8 gw 36 (w8 (rows (wayN seed k) h))) := Lib.hid (YX7.out.below hB YX7.out.lt)
  have SX8 : Hid (Blk X8 gs 94 (rsg (signN seed k d) k (.slice (some ⟨gw, 0, none⟩) h h))) := Lib.hid (SX7.out.below hB SX7.out.lt)
  have UX8 : Hid (Blk X8 gu 36 (w8 (rows (wayN seed k) h))) := Lib.hid (UX7.out.below hB UX7.out.lt)
  have TX8 : Hid (Blk X8 gt 94 (rsg (signN seed k d) k (.slice (some ⟨gu, 0, none⟩) h h))) := Lib.hid (TX7.out.below hB TX7.out.lt)
  have N73X8 : Hid (WayR X8 v73 (wayN seed k) h) := Lib.hid (N73X7.out.below hB)
  have N75X8 : Hid (WayR X8 v75 (wayN seed k) h) := Lib.hid (N75X7.out.below hB)
  clear DX7 BX7 RX7 YX7 SX7 UX7 TX7 N73X7 N75X7 hB
  refine ⟨_, rfl, hK.out _ _ (⟨SX8.out, TX8.out, DX8.out⟩) (fun hHeld => ?_)⟩
  clear hK K
  show wpAnyH _ _ _ _ _ _ _ (Act.put _ (some 95) _) _
  simp only [Act.put, List.setIfInBounds_toArray, List.set_cons_zero, List.set_cons_succ]
  refine wpAnyH_take (i := 42) (v := .bool true) rfl (by kernel_rfl) (by kernel_rfl) (by kernel_rfl) (fun _ _ _ h => h) (Or.inl ⟨by rfl, by intro w' h; go_simp⟩) hHeld ?_
  show wpAnyH _ _ _ _ _ _ _ (Act.put _ (some 96) _) _
  simp only [Act.put, List.setIfInBounds_toArray, List.set_cons_zero, List.set_cons_succ]
  refine wpAnyH_take (i := 43) (v := .bool true) rfl (by kernel_rfl) (by kernel_rfl) (by kernel_rfl) (fun _ _ _ h => h) (Or.inl ⟨by rfl, by intro w hSw; first | rfl | go_simp⟩) hHeld ?_
  show wpAnyH _ _ _ _ _ _ _ (Act.put _ (some 97) _) _
  simp only [Act.put, List.setIfInBounds_toArray, List.set_cons_zero, List.set_cons_succ]
  refine wpAnyH_take (i := 44) (v := .bool true) rfl (by kernel_rfl) (by kernel_rfl) (by kernel_rfl) (fun _ _ _ h => h) (Or.inl ⟨by rfl, fun w _ => by rfl⟩) hHeld ?_
  show wpAnyH _ _ _ _ _ _ _ (Act.put _ (some 98) _) _
  simp only [Act.put, List.setIfInBounds_toArray, List.set_cons_zero, List.set_cons_succ]
  refine wpAnyH_take (i := 45) (v := .agg (rsg (signN seed k d) k (.slice (some ⟨gw, 0, none⟩) h h)).toArray) rfl (by kernel_rfl) (by kernel_rfl) (by kernel_rfl) (fun _ _ _ h => h) (yieldsIf_load_mid rfl 94 (.tmp 13) rfl gs 0 rfl (rsg (signN seed k d) k (.slice (some ⟨gw, 0, none⟩) h h)) _ (fun w' hh => Blk.all hh.1) Tryd.underlying94 rfl (by rw [rsg_length _ _ _ (signN_length _ _ _)]; exact info94)) hHeld ?_
  show wpAnyH _ _ _ _ _ _ _ (Act.put _ (some 99) _) _
  simp only [Act.put, List.setIfInBounds_toArray, List.set_cons_zero, List.set_cons_succ]
  refine wpAnyH_take (i := 46) (v := .pointer (some ⟨g, 0, none⟩)) rfl (by kernel_rfl) (by kernel_rfl) (by kernel_rfl) (fun _ _ _ h => h) (Or.inl ⟨by rfl, fun w _ => by rfl⟩) hHeld ?_
  show wpAnyH _ _ _ _ _ _ _ (Act.put _ (some 100) _) _
  simp only [Act.put, List.setIfInBounds_toArray, List.set_cons_zero, List.set_cons_succ]
  refine wpAnyH_take (i := 48) (v := .int .i64 (h : Int)) rfl (by kernel_rfl) (by kernel_rfl) (by kernel_rfl) (fun _ _ _ h => h) (Or.inl ⟨by rfl, fun w _ => by rfl⟩) hHeld ?_
  show wpAnyH _ _ _ _ _ _ _ (Act.put _ (some 102) _) _
  simp only [Act.put, List.setIfInBounds_toArray, List.set_cons_zero, List.set_cons_succ]
  refine wpAnyH_take (i := 49) (v := .int .i64 ((h : Int) + 1)) rfl (by kernel_rfl) (by kernel_rfl) (by kernel_rfl) (fun _ _ _ h => h) (Or.inl ⟨by rfl, by intro w' hh; go_simp; first | done | exact hh1⟩) hHeld ?_
  show wpAnyH _ _ _ _ _ _ _ (Act.put _ (some 103) _) _
  simp only [Act.put, List.setIfInBounds_toArray, List.set_cons_zero, List.set_cons_succ]
  refine wpAnyH_take (i := 50) (v := .int .u32 (k : Int)) rfl (by kernel_rfl) (by kernel_rfl) (by kernel_rfl) (fun _ _ _ h => h) (Or.inl ⟨by rfl, fun w _ => by rfl⟩) hHeld ?_
  show wpAnyH _ _ _ _ _ _ _ (Act.put _ (some 104) _) _
  simp only [Act.put, List.setIfInBounds_toArray, List.set_cons_zero, List.set_cons_succ]
  refine wpAnyH_take (i := 51) (v := .agg (w8 d).toArray) rfl (by kernel_rfl) (by kernel_rfl) (by kernel_rfl) (fun _ _ _ h => h) (yieldsIf_load_mid rfl 29 (.tmp 7) rfl (w.heap.size + 1) 0 rfl (w8 d) _ (fun w' hh => Blk.all hh.2.2) Tryd.underlying29 rfl HID.out) hHeld ?_
  show wpAnyH _ _ _ _ _ _ _ (Act.put _ (some 105) _) _
  simp only [Act.put, List.setIfInBounds_toArray, List.set_cons_zero, List.set_cons_succ]
  refine wpAnyH_ready (rs := [47]) (by kernel_rfl) (by simp) ?_
  refine AllReadyH.cons rfl (fun K hK => ?_) AllReadyH.nil
  refine step_call rfl 45 #[.tmp 100] #[84] rfl #[.pointer (some ⟨g, 0, none⟩)] (by simp [Act.eval]) (by go_simp) (root_any g seed h w.heap.size ((List.replicate 256 false).set k true) v X8 RX8) ?_
  rintro e X9 ⟨rfl, hB⟩
  have DX9 : Hid (Blk X9 (w.heap.size + 1) 29 (w8 d)) := Lib.hid (DX8.out.below hB DX8.out.lt)
  have BX9 : Hid (Below w.heap.size w X9) := Lib.hid (BX8.out.trans (hB.mono BX8.out.size))
  have RX9 : Hid (RingAt X9 w.heap.size g seed h ((List.replicate 256 false).set k true) v) := Lib.hid (RX8.out.below hB)
  have YX9 : Hid (Blk X9 gw 36 (w8 (rows (wayN seed k) h))) := Lib.hid (YX8.out.below hB YX8.out.lt)
  have SX9 : Hid (Blk X9 gs 94 (rsg (signN seed k d) k (.slice (some ⟨gw, 0, none⟩) h h))) := Lib.hid (SX8.out.below hB SX8.out.lt)
  have UX9 : Hid (Blk X9 gu 36 (w8 (rows (wayN seed k) h))) := Lib.hid (UX8.out.below hB UX8.out.lt)
  have TX9 : Hid (Blk X9 gt 94 (rsg (signN seed k d) k (.slice (some ⟨gu, 0, none⟩) h h))) := Lib.hid (TX8.out.below hB TX8.out.lt)
  have N73X9 : Hid (WayR X9 v73 (wayN seed k) h) := Lib.hid (N73X8.out.below hB)
  have N75X9 : Hid (WayR X9 v75 (wayN seed k) h) := Lib.hid (N75X8.out.below hB)
  clear DX8 BX8 RX8 YX8 SX8 UX8 TX8 N73X8 N75X8 hB
  refine ⟨_, rfl, hK.out _ _ (⟨SX9.out, TX9.out, DX9.out⟩) (fun hHeld => ?_)⟩
  clear hK K
  show wpAnyH _ _ _ _ _ _ _ (Act.put _ (some 101) _) _
  simp only [Act.put, List.setIfInBounds_toArray, List.set_cons_zero, List.set_cons_succ]
  refine wpAnyH_ready (rs := [52]) (by kernel_rfl) (by simp) ?_
  refine AllReadyH.cons rfl (fun K hK => ?_) AllReadyH.nil
  refine step_call rfl 56 #[.tmp 99, .tmp 101, .tmp 103, .tmp 104, .tmp 105] #[94, 36, 3, 38, 36] rfl #[.agg (rsg (signN seed k d) k (.slice (some ⟨gw, 0, none⟩) h h)).toArray, .agg (w8 (rootN seed h)).toArray, .int .i64 ((h : Int) + 1), .int .u32 (k : Int), .agg (w8 d).toArray] (by simp [Act.eval]) (by go_simp) (right_no1 (signN seed k d) (rootN seed h) d k k h (some ⟨gw, 0, none⟩) h ((h : Int) + 1) X9 HSN (by omega)) ?_
  rintro e X10 ⟨rfl, hB⟩
  have DX10 : Hid (Blk X10 (w.heap.size + 1) 29 (w8 d)) := Lib.hid (DX9.out.below hB DX9.out.lt)
  have BX10 : Hid (Below w.heap.size w X10) := Lib.hid (BX9.out.trans (hB.mono BX9.out.size))
  have RX10 : Hid (RingAt X10 w.heap.size g seed h ((List.replicate 256 false).set k true) v) := Lib.hid (RX9.out.below hB)
  have YX10 : Hid (Blk X10 gw 36 (w8 (rows (wayN seed k) h))) := Lib.hid (YX9.out.below hB YX9.out.lt)
  have SX10 : Hid (Blk X10 gs 94 (rsg (signN seed k d) k (.slice (some ⟨gw, 0, none⟩) h h))) := Lib.hid (SX9.out.below hB SX9.out.lt)
  have UX10 : Hid (Blk X10 gu 36 (w8 (rows (wayN seed k) h))) := Lib.hid (UX9.out.below hB UX9.out.lt)
  have TX10 : Hid (Blk X10 gt 94 (rsg (signN seed k d) k (.slice (some ⟨gu, 0, none⟩) h h))) := Lib.hid (TX9.out.below hB TX9.out.lt)
  have N73X10 : Hid (WayR X10 v73 (wayN seed k) h) := Lib.hid (N73X9.out.below hB)
  have N75X10 : Hid (WayR X10 v75 (wayN seed k) h) := Lib.hid (N75X9.out.below hB)
  clear DX9 BX9 RX9 YX9 SX9 UX9 TX9 N73X9 N75X9 hB
  refine ⟨_, rfl, hK.out _ _ (⟨SX10.out, TX10.out, DX10.out⟩) (fun hHeld => ?_)⟩
  clear hK K
  show wpAnyH _ _ _ _ _ _ _ (Act.put _ (some 106) _) _
  simp only [Act.put, List.setIfInBounds_toArray, List.set_cons_zero, List.set_cons_succ]
  refine wpAnyH_take (i := 53) (v := .bool true) rfl (by kernel_rfl) (by kernel_rfl) (by kernel_rfl) (fun _ _ _ h => h) (Or.inl ⟨by rfl, by intro w' h; go_simp⟩) hHeld ?_
  show wpAnyH _ _ _ _ _ _ _ (Act.put _ (some 107) _) _
  simp only [Act.put, List.setIfInBounds_toArray, List.set_cons_zero, List.set_cons_succ]
  refine wpAnyH_take (i := 54) (v := .bool true) rfl (by kernel_rfl) (by kernel_rfl) (by kernel_rfl) (fun _ _ _ h => h) (Or.inl ⟨by rfl, by intro w hSw; first | rfl | go_simp⟩) hHeld ?_
  show wpAnyH _ _ _ _ _ _ _ (Act.put _ (some 108) _) _
  simp only [Act.put, List.setIfInBounds_toArray, List.set_cons_zero, List.set_cons_succ]
  refine wpAnyH_take (i := 55) (v := .bool true) rfl (by kernel_rfl) (by kernel_rfl) (by kernel_rfl) (fun _ _ _ h => h) (Or.inl ⟨by rfl, fun w _ => by rfl⟩) hHeld ?_
  show wpAnyH _ _ _ _ _ _ _ (Act.put _ (some 109) _) _
  simp only [Act.put, List.setIfInBounds_toArray, List.set_cons_zero, List.set_cons_succ]
  refine wpAnyH_take (i := 56) (v := .pointer (some ⟨g, 0, none⟩)) rfl (by kernel_rfl) (by kernel_rfl) (by kernel_rfl) (fun _ _ _ h => h) (Or.inl ⟨by rfl, fun w _ => by rfl⟩) hHeld ?_
  show wpAnyH _ _ _ _ _ _ _ (Act.put _ (some 110) _) _
  simp only [Act.put, List.setIfInBounds_toArray, List.set_cons_zero, List.set_cons_succ]
  refine wpAnyH_take (i := 57) (v := .int .u32 (k : Int)) rfl (by kernel_rfl) (by kernel_rfl) (by kernel_rfl) (fun _ _ _ h => h) (Or.inl ⟨by rfl, fun w _ => by rfl⟩) hHeld ?_
  show wpAnyH _ _ _ _ _ _ _ (Act.put _ (some 111) _) _
  simp only [Act.put, List.setIfInBounds_toArray, List.set_cons_zero, List.set_cons_succ]
  refine wpAnyH_ready (rs := [58]) (by kernel_rfl) (by simp) ?_
  refine AllReadyH.cons rfl (fun K hK => ?_) AllReadyH.nil
  have hcT := taken_any g k seed h w.heap.size ((List.replicate 256 false).set k true) v X10 RX10 (by omega)
  rw [decide_eq_true hk, ht1, Bool.true_and] at hcT
  refine step_call rfl 54 #[.tmp 110, .tmp 111] #[84, 38] rfl #[.pointer (some ⟨g, 0, none⟩), .int .u32 (k : Int)] (by simp [Act.eval]) (by go_simp) (hcT) ?_
  rintro e X11 ⟨rfl, hB⟩
  have DX11 : Hid (Blk X11 (w.heap.size + 1) 29 (w8 d)) := Lib.hid (DX10.out.below hB DX10.out.lt)
  have BX11 : Hid (Below w.heap.size w X11) := Lib.hid (BX10.out.trans (hB.mono BX10.out.size))
  have RX11 : Hid (RingAt X11 w.heap.size g seed h ((List.replicate 256 false).set k true) v) := Lib.hid (RX10.out.below hB)
  have YX11 : Hid (Blk X11 gw 36 (w8 (rows (wayN seed k) h))) := Lib.hid (YX10.out.below hB YX10.out.lt)
  have SX11 : Hid (Blk X11 gs 94 (rsg (signN seed k d) k (.slice (some ⟨gw, 0, none⟩) h h))) := Lib.hid (SX10.out.below hB SX10.out.lt)
  have UX11 : Hid (Blk X11 gu 36 (w8 (rows (wayN seed k) h))) := Lib.hid (UX10.out.below hB UX10.out.lt)
  have TX11 : Hid (Blk X11 gt 94 (rsg (signN seed k d) k (.slice (some ⟨gu, 0, none⟩) h h))) := Lib.hid (TX10.out.below hB TX10.out.lt)
  have N73X11 : Hid (WayR X11 v73 (wayN seed k) h) := Lib.hid (N73X10.out.below hB)
  have N75X11 : Hid (WayR X11 v75 (wayN seed k) h) := Lib.hid (N75X10.out.below hB)
  clear DX10 BX10 RX10 YX10 SX10 UX10 TX10 N73X10 N75X10 hB
  refine ⟨_, rfl, hK.out _ _ (⟨SX11.out, TX11.out, DX11.out⟩) (fun hHeld => ?_)⟩
  clear hK K
  show wpAnyH _ _ _ _ _ _ _ (Act.put _ (some 112) _) _
  simp only [Act.put, List.setIfInBounds_toArray, List.set_cons_zero, List.set_cons_succ]
  refine wpAnyH_take (i := 59) (v := .bool true) rfl (by kernel_rfl) (by kernel_rfl) (by kernel_rfl) (fun _ _ _ h => h) (Or.inl ⟨by rfl, by intro w hSw; first | rfl | go_simp⟩) hHeld ?_
  show wpAnyH _ _ _ _ _ _ _ (Act.put _ (some 113) _) _
  simp only [Act.put, List.setIfInBounds_toArray, List.set_cons_zero, List.set_cons_succ]
  refine wpAnyH_take (i := 60) (v := .bool true) rfl (by kernel_rfl) (by kernel_rfl) (by kernel_rfl) (fun _ _ _ h => h) (Or.inl ⟨by rfl, fun w _ => by rfl⟩) hHeld ?_
  show wpAnyH _ _ _ _ _ _ _ (Act.put _ (some 8) _) _
  simp only [Act.put, List.setIfInBounds_toArray, List.set_cons_zero, List.set_cons_succ]
  refine wpAnyH_done (by kernel_rfl) ?_ _
  clear hHeld
  go_wp2
  go_ret
  exact ⟨rfl, BX11.out⟩
theorem ringSigns_walk (seed : List Nat) (tall key : Nat) (d : List Nat) (w : World) (HT : Hid (Tab w)) (HL : Hid (seed.length = 32)) (HP : Hid (∀ x ∈ seed, x < 256)) (htal : tall < 256) (hkey : key < 256) (HDL : Hid (d.length = 32)) (HDP : Hid (∀ x ∈ d, x < 256)) :
    Calls Tryd.prog 12 #[.agg (w8 seed).toArray, .int .u8 (tall : Int), .int .u8 (key : Int), .agg (w8 d).toArray] w fun e' w' => e' = .returned (.bool true) ∧ Below w.heap.size w w' := by
  have h1 := pw_pos (tall % 4)
  exact ringSigns_core seed d tall key (tall % 4) (key % pw (tall % 4)) w HT HL HP HDL HDP (by rw [Int.tmod_eq_emod_of_nonneg (by omega)]; omega) (by rw [Int.tmod_eq_emod_of_nonneg (by omega)]; simp) (by omega) (Nat.mod_lt _ h1) htal hkey
end Go.Proofs.YtkonokjhpddbfaaDoor
