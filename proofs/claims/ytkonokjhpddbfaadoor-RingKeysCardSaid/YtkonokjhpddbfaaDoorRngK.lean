/-
  The walk of tollhouselaw05.RingSpends (function 14).
-/
import Derived.Test.YtkonokjhpddbfaaDoorGI
namespace Go.Proofs.YtkonokjhpddbfaaDoor
open Go.RowKit
set_option linter.unusedVariables false

theorem set_taken (n k : Nat) (h : k < n) : ((List.replicate n false).set k true).getD k false = true := by simp [List.getD, h]
theorem set_free (n k o : Nat) (h : ¬ k = o) : ((List.replicate n false).set k true).getD o false = false := by
  rw [List.getD_eq_getElem?_getD, List.getElem?_set_ne h]
  rcases Nat.lt_or_ge o n with h1 | h1
  · rw [List.getElem?_replicate, if_pos h1]; rfl
  · rw [List.getElem?_replicate, if_neg (by omega)]; rfl
theorem sig_put (S : List Nat) (key : Nat) (A : Option Addr) (n c : Nat) (h : S.length = 1024) : ((Tryd.prog.info? 94).map (·.size) = some (rsg S key (.slice A n c)).toArray.size) ∧ Tryd.zeroCells94.size = (rsg S key (.slice A n c)).toArray.size ∧ (rsg S key (.slice A n c)).toArray.all (·.oneCell') = true := by
  have e : (rsg S key (.slice A n c)).toArray.size = 1026 := by rw [List.size_toArray, rsg_length _ _ _ h]
  refine ⟨by rw [e]; exact info94, ?_, all_oneCell_toArray (rsg_one S key _ rfl)⟩
  rw [e, ← zsig_arr, List.size_toArray, zsig_length]

set_option maxRecDepth 100000 in
set_option maxHeartbeats 4000000 in
theorem ringSpends_core (seed d e : List Nat) (key other k o : Nat) (w : World) (HT : Hid (Tab w)) (HL : Hid (seed.length = 32)) (HP : Hid (∀ x ∈ seed, x < 256)) (HDL : Hid (d.length = 32)) (HDP : Hid (∀ x ∈ d, x < 256)) (HEL : Hid (e.length = 32)) (HEP : Hid (∀ x ∈ e, x < 256))
    (q1 : (key : Int).tmod 4 = (k : Int)) (q2 : (other : Int).tmod 4 = (o : Int)) (hk4 : k < 4) (ho4 : o < 4) (hkey : key < 256) (hoth : other < 256) :
    Calls Tryd.prog 14 #[.agg (w8 seed).toArray, .int .u8 (key : Int), .int .u8 (other : Int), .agg (w8 d).toArray, .agg (w8 e).toArray] w fun e' w' => e' = .returned (.bool true) ∧ Below w.heap.size w w' := by
  have hk : k < pw 2 := hk4
  have ho : o < pw 2 := ho4
  have ht1 : ((List.replicate 256 false).set k true).getD k false = true := set_taken 256 k (by omega)
  have HLZ : Hid (zsig.length = 1026) := Lib.hid (zsig_length)
  have HS5 : Hid ((Tryd.prog.info? 94).map (·.size) = some zsig.toArray.size) := Lib.hid (by rw [List.size_toArray, HLZ.out]; exact info94)
  have HZ5 : Hid (Tryd.zeroCells94.size = zsig.toArray.size) := Lib.hid (by rw [zsig_arr])
  have HO5 := Lib.hid (all_oneCell_toArray zsig_one)
  have HIS : Hid ((Tryd.prog.info? 29).map (·.size) = some (w8 seed).length) := Lib.hid (by rw [w8_length, HL.out]; exact info29)
  have HID : Hid ((Tryd.prog.info? 29).map (·.size) = some (w8 d).length) := Lib.hid (by rw [w8_length, HDL.out]; exact info29)
  have HIE : Hid ((Tryd.prog.info? 29).map (·.size) = some (w8 e).length) := Lib.hid (by rw [w8_length, HEL.out]; exact info29)
  go_enter Tryd.func14, Tryd.ntmps14
  go_upto_region 1 with fail
  have SV : Hid (Blk (((w.alloc (.cells (w8 seed).toArray 29)).alloc (.cells (w8 d).toArray 29)).alloc (.cells (w8 e).toArray 29)) w.heap.size 29 (w8 seed)) := Lib.hid (by
    have h := ((Blk.new w 29 (w8 seed)).alloc (.cells (w8 d).toArray 29)).alloc (.cells (w8 e).toArray 29)
    exact h)
  have DV : Hid (Blk (((w.alloc (.cells (w8 seed).toArray 29)).alloc (.cells (w8 d).toArray 29)).alloc (.cells (w8 e).toArray 29)) (w.heap.size + 1) 29 (w8 d)) := Lib.hid (by
    have h := (Blk.new (w.alloc (.cells (w8 seed).toArray 29)) 29 (w8 d)).alloc (.cells (w8 e).toArray 29)
    rw [World.size_alloc] at h
    exact h)
  have EV : Hid (Blk (((w.alloc (.cells (w8 seed).toArray 29)).alloc (.cells (w8 d).toArray 29)).alloc (.cells (w8 e).toArray 29)) (w.heap.size + 1 + 1) 29 (w8 e)) := Lib.hid (by
    have h := Blk.new ((w.alloc (.cells (w8 seed).toArray 29)).alloc (.cells (w8 d).toArray 29)) 29 (w8 e)
    rw [World.size_alloc, World.size_alloc] at h
    exact h)
  have BV : Hid (Below w.heap.size w (((w.alloc (.cells (w8 seed).toArray 29)).alloc (.cells (w8 d).toArray 29)).alloc (.cells (w8 e).toArray 29))) := Lib.hid ((((Below.refl _ _).alloc (Nat.le_refl _) _).alloc (by simp) _).alloc (by simp; omega) _)
  generalize (((w.alloc (.cells (w8 seed).toArray 29)).alloc (.cells (w8 d).toArray 29)).alloc (.cells (w8 e).toArray 29)) = V at SV DV EV BV ⊢
  have hv0 : w.heap.size < V.heap.size := SV.out.lt
  have hv2 : w.heap.size + 1 + 1 < V.heap.size := EV.out.lt
  have HRS := Lib.hid SV.out.all
  go_wp2_with (first | (refine wpList_load_mid rfl 29 (.tmp 5) rfl w.heap.size 0 rfl (w8 seed) _ HRS.out Tryd.underlying29 rfl HIS.out ?_))
  refine (new_ring seed 2 V (Lib.hid (HT.out.below BV.out HT.out.lt)) HL HP (by omega)).mono ?_
  rintro e U1 ⟨g, v, rfl, hR, hB⟩
  have hgg : V.heap.size ≤ g := hR.bas
  have hR2 := hR.mono (Nat.le_of_lt hv0)
  have DU1 : Hid (Blk U1 (w.heap.size + 1) 29 (w8 d)) := Lib.hid (DV.out.below hB DV.out.lt)
  have EU1 : Hid (Blk U1 (w.heap.size + 1 + 1) 29 (w8 e)) := Lib.hid (EV.out.below hB EV.out.lt)
  have BU1 : Hid (Below w.heap.size w U1) := Lib.hid (BV.out.trans (hB.mono BV.out.size))
  clear DV EV BV
  have RU1 : Hid (RingAt U1 w.heap.size g seed 2 (List.replicate 256 false) v) := Lib.hid (hR2)
  clear hB hR hR2 HRS SV
  have hgg2 : w.heap.size + 1 + 1 < g := by omega
  go_wp2_with fail
  refine (spend_ok g k seed 2 w.heap.size (List.replicate 256 false) v U1 RU1 hk).mono ?_
  rintro e U2 ⟨rfl, hR, hO⟩
  have hnD : some (w.heap.size + 1) ≠ some g := fun e => by injection e with e; omega
  have hnE : some (w.heap.size + 1 + 1) ≠ some g := fun e => by injection e with e; omega
  clear RU1
  have DU2 : Hid (Blk U2 (w.heap.size + 1) 29 (w8 d)) := Lib.hid (DU1.out.grown hO hnD)
  have EU2 : Hid (Blk U2 (w.heap.size + 1 + 1) 29 (w8 e)) := Lib.hid (EU1.out.grown hO hnE)
  have BU2 : Hid (Below w.heap.size w U2) := Lib.hid (BU1.out.trans (only_up hO (by omega) BU1.out.size))
  clear DU1 EU1 BU1
  have RU2 : Hid (RingAt U2 w.heap.size g seed 2 ((List.replicate 256 false).set k true) v) := Lib.hid (hR)
  clear hR hO hnD hnE
  have HRD := Lib.hid DU2.out.all
  go_wp2_with (first | (refine wpList_load_mid rfl 29 (.tmp 8) rfl (w.heap.size + 1) 0 rfl (w8 d) _ HRD.out Tryd.underlying29 rfl HID.out ?_))
  refine (sign_spent g k seed d 2 w.heap.size ((List.replicate 256 false).set k true) v U2 RU2 hk ht1).mono ?_
  rintro e U3 ⟨rfl, hB⟩
  have DU3 : Hid (Blk U3 (w.heap.size + 1) 29 (w8 d)) := Lib.hid (DU2.out.below hB DU2.out.lt)
  have EU3 : Hid (Blk U3 (w.heap.size + 1 + 1) 29 (w8 e)) := Lib.hid (EU2.out.below hB EU2.out.lt)
  have BU3 : Hid (Below w.heap.size w U3) := Lib.hid (BU2.out.trans (hB.mono BU2.out.size))
  have RU3 : Hid (RingAt U3 w.heap.size g seed 2 ((List.replicate 256 false).set k true) v) := Lib.hid (RU2.out.below hB)
  clear DU2 EU2 BU2 RU2
  clear hB HRD
  have HL := Lib.hid (heap_alloc_last U3 (.cells Tryd.zeroCells94 94))
  go_upto_region 6 with (first | (refine wpList_store_row rfl 94 (.tmp 15) (.tmp 45) rfl U3.heap.size zsig.toArray rfl rfl 94 _ HL.out HS5.out HZ5.out HO5.out ?_; rw [World.setRow_alloc_new]))
  have hB : Below U3.heap.size U3 (U3.alloc (.cells zsig.toArray 94)) := (Below.refl _ _).alloc (Nat.le_refl _) _
  have DU4 : Hid (Blk (U3.alloc (.cells zsig.toArray 94)) (w.heap.size + 1) 29 (w8 d)) := Lib.hid (DU3.out.below hB DU3.out.lt)
  have EU4 : Hid (Blk (U3.alloc (.cells zsig.toArray 94)) (w.heap.size + 1 + 1) 29 (w8 e)) := Lib.hid (EU3.out.below hB EU3.out.lt)
  have BU4 : Hid (Below w.heap.size w (U3.alloc (.cells zsig.toArray 94))) := Lib.hid (BU3.out.trans (hB.mono BU3.out.size))
  have RU4 : Hid (RingAt (U3.alloc (.cells zsig.toArray 94)) w.heap.size g seed 2 ((List.replicate 256 false).set k true) v) := Lib.hid (RU3.out.below hB)
  have ZU4 : Hid (Blk (U3.alloc (.cells zsig.toArray 94)) U3.heap.size 94 zsig) := Lib.hid (Blk.new _ _ _)
  clear hB HL DU3 EU3 BU3 RU3
  generalize (U3.alloc (.cells zsig.toArray 94)) = U4 at DU4 EU4 BU4 RU4 ZU4 ⊢
  generalize U3.heap.size = gz at ZU4 ⊢
  clear ZU4
  have HRE := Lib.hid EU4.out.all
  go_wp2_with (first | (refine wpList_load_mid rfl 29 (.tmp 9) rfl (w.heap.size + 1 + 1) 0 rfl (w8 e) _ HRE.out Tryd.underlying29 rfl HIE.out ?_))
  refine (again_ok g k seed e 2 w.heap.size ((List.replicate 256 false).set k true) v U4 RU4 (Lib.hid (HT.out.below BU4.out HT.out.lt)) HEL HEP hk ht1).mono ?_
  rintro e U5 ⟨gw, rfl, hY, hgw, hB⟩
  have DU5 : Hid (Blk U5 (w.heap.size + 1) 29 (w8 d)) := Lib.hid (DU4.out.below hB DU4.out.lt)
  have EU5 : Hid (Blk U5 (w.heap.size + 1 + 1) 29 (w8 e)) := Lib.hid (EU4.out.below hB EU4.out.lt)
  have BU5 : Hid (Below w.heap.size w U5) := Lib.hid (BU4.out.trans (hB.mono BU4.out.size))
  have RU5 : Hid (RingAt U5 w.heap.size g seed 2 ((List.replicate 256 false).set k true) v) := Lib.hid (RU4.out.below hB)
  clear DU4 EU4 BU4 RU4
  have YU5 : Hid (Blk U5 gw 36 (w8 (rows (wayN seed k) 2))) := Lib.hid (hY)
  clear hB hY HRE hgw
  have HSE := Lib.hid (sig_put (signN seed k e) k (some ⟨gw, 0, none⟩) 2 2 (signN_length _ _ _))
  have HL := Lib.hid (heap_alloc_last U5 (.cells Tryd.zeroCells94 94))
  go_upto_region 7 with (first | (refine wpList_store_row rfl 94 (.tmp 17) (.tmp 52) rfl U5.heap.size (rsg (signN seed k e) k (.slice (some ⟨gw, 0, none⟩) 2 2)).toArray rfl rfl 94 _ HL.out HSE.out.1 HSE.out.2.1 HSE.out.2.2 ?_; rw [World.setRow_alloc_new]))
  have hB : Below U5.heap.size U5 (U5.alloc (.cells (rsg (signN seed k e) k (.slice (some ⟨gw, 0, none⟩) 2 2)).toArray 94)) := (Below.refl _ _).alloc (Nat.le_refl _) _
  have DU6 : Hid (Blk (U5.alloc (.cells (rsg (signN seed k e) k (.slice (some ⟨gw, 0, none⟩) 2 2)).toArray 94)) (w.heap.size + 1) 29 (w8 d)) := Lib.hid (DU5.out.below hB DU5.out.lt)
  have EU6 : Hid (Blk (U5.alloc (.cells (rsg (signN seed k e) k (.slice (some ⟨gw, 0, none⟩) 2 2)).toArray 94)) (w.heap.size + 1 + 1) 29 (w8 e)) := Lib.hid (EU5.out.below hB EU5.out.lt)
  have BU6 : Hid (Below w.heap.size w (U5.alloc (.cells (rsg (signN seed k e) k (.slice (some ⟨gw, 0, none⟩) 2 2)).toArray 94))) := Lib.hid (BU5.out.trans (hB.mono BU5.out.size))
  have RU6 : Hid (RingAt (U5.alloc (.cells (rsg (signN seed k e) k (.slice (some ⟨gw, 0, none⟩) 2 2)).toArray 94)) w.heap.size g seed 2 ((List.replicate 256 false).set k true) v) := Lib.hid (RU5.out.below hB)
  have YU6 : Hid (Blk (U5.alloc (.cells (rsg (signN seed k e) k (.slice (some ⟨gw, 0, none⟩) 2 2)).toArray 94)) gw 36 (w8 (rows (wayN seed k) 2))) := Lib.hid (YU5.out.below hB YU5.out.lt)
  have SU6 : Hid (Blk (U5.alloc (.cells (rsg (signN seed k e) k (.slice (some ⟨gw, 0, none⟩) 2 2)).toArray 94)) U5.heap.size 94 (rsg (signN seed k e) k (.slice (some ⟨gw, 0, none⟩) 2 2))) := Lib.hid (Blk.new _ _ _)
  clear hB HL DU5 EU5 BU5 RU5 YU5
  generalize (U5.alloc (.cells (rsg (signN seed k e) k (.slice (some ⟨gw, 0, none⟩) 2 2)).toArray 94)) = U6 at DU6 EU6 BU6 RU6 YU6 SU6 ⊢
  generalize U5.heap.size = gs at SU6 ⊢
  have hBz : Below U6.heap.size U6 U6.drew := below_drewN (Below.refl _ _) 1
  have DX0 : Hid (Blk U6.drew (w.heap.size + 1) 29 (w8 d)) := Lib.hid (DU6.out.below hBz DU6.out.lt)
  have EX0 : Hid (Blk U6.drew (w.heap.size + 1 + 1) 29 (w8 e)) := Lib.hid (EU6.out.below hBz EU6.out.lt)
  have BX0 : Hid (Below w.heap.size w U6.drew) := Lib.hid (BU6.out.trans (hBz.mono BU6.out.size))
  have RX0 : Hid (RingAt U6.drew w.heap.size g seed 2 ((List.replicate 256 false).set k true) v) := Lib.hid (RU6.out.below hBz)
  have YX0 : Hid (Blk U6.drew gw 36 (w8 (rows (wayN seed k) 2))) := Lib.hid (YU6.out.below hBz YU6.out.lt)
  have SX0 : Hid (Blk U6.drew gs 94 (rsg (signN seed k e) k (.slice (some ⟨gw, 0, none⟩) 2 2))) := Lib.hid (SU6.out.below hBz SU6.out.lt)
  clear hBz
  refine wp_region_held_drew (S := fun w' => Blk w' gs 94 (rsg (signN seed k e) k (.slice (some ⟨gw, 0, none⟩) 2 2)) ∧ Blk w' (w.heap.size + 1 + 1) 29 (w8 e)) (by kernel_rfl) (⟨SX0.out, EX0.out⟩) (fun hHeld => ?_)
  generalize U6.drew = X0 at hHeld DX0 EX0 BX0 RX0 YX0 SX0 ⊢
  refine wpAnyH_take (i := 0) (v := .int .i64 21) rfl (by kernel_rfl) (by kernel_rfl) (by kernel_rfl) (fun _ _ _ h => h) (Or.inl ⟨by rfl, fun w _ => by rfl⟩) hHeld ?_
  show wpAnyH _ _ _ _ _ _ _ (Act.put _ (some 54) _) _
  simp only [Act.put, List.setIfInBounds_toArray, List.set_cons_zero, List.set_cons_succ]
  refine wpAnyH_take (i := 1) (v := .bool false) rfl (by kernel_rfl) (by kernel_rfl) (by kernel_rfl) (fun _ _ _ h => h) (Or.inl ⟨by rfl, by intro w' h; go_simp⟩) hHeld ?_
  show wpAnyH _ _ _ _ _ _ _ (Act.put _ (some 55) _) _
  simp only [Act.put, List.setIfInBounds_toArray, List.set_cons_zero, List.set_cons_succ]
  refine wpAnyH_take (i := 2) (v := .bool false) rfl (by kernel_rfl) (by kernel_rfl) (by kernel_rfl) (fun _ _ _ h => h) (Or.inl ⟨by rfl, fun w _ => by rfl⟩) hHeld ?_
  show wpAnyH _ _ _ _ _ _ _ (Act.put _ (some 56) _) _
  simp only [Act.put, List.setIfInBounds_toArray, List.set_cons_zero, List.set_cons_succ]
  refine wpAnyH_take (i := 3) (v := .int .i64 0) rfl (by kernel_rfl) (by kernel_rfl) (by kernel_rfl) (fun _ _ _ h => h) (Or.inl ⟨by rfl, fun w _ => by rfl⟩) hHeld ?_
  show wpAnyH _ _ _ _ _ _ _ (Act.put _ (some 57) _) _
  simp only [Act.put, List.setIfInBounds_toArray, List.set_cons_zero, List.set_cons_succ]
  refine wpAnyH_take (i := 4) (v := .bool false) rfl (by kernel_rfl) (by kernel_rfl) (by kernel_rfl) (fun _ _ _ h => h) (Or.inl ⟨by rfl, by intro w' h; go_simp⟩) hHeld ?_
  show wpAnyH _ _ _ _ _ _ _ (Act.put _ (some 58) _) _
  simp only [Act.put, List.setIfInBounds_toArray, List.set_cons_zero, List.set_cons_succ]
  refine wpAnyH_take (i := 5) (v := .bool false) rfl (by kernel_rfl) (by kernel_rfl) (by kernel_rfl) (fun _ _ _ h => h) (Or.inl ⟨by rfl, by intro w hSw; first | rfl | go_simp⟩) hHeld ?_
  show wpAnyH _ _ _ _ _ _ _ (Act.put _ (some 59) _) _
  simp only [Act.put, List.setIfInBounds_toArray, List.set_cons_zero, List.set_cons_succ]
  refine wpAnyH_take (i := 6) (v := .bool false) rfl (by kernel_rfl) (by kernel_rfl) (by kernel_rfl) (fun _ _ _ h => h) (Or.inl ⟨by rfl, fun w _ => by rfl⟩) hHeld ?_
  show wpAnyH _ _ _ _ _ _ _ (Act.put _ (some 60) _) _
  simp only [Act.put, List.setIfInBounds_toArray, List.set_cons_zero, List.set_cons_succ]
  refine wpAnyH_take (i := 7) (v := .agg (rsg (signN seed k e) k (.slice (some ⟨gw, 0, none⟩) 2 2)).toArray) rfl (by kernel_rfl) (by kernel_rfl) (by kernel_rfl) (fun _ _ _ h => h) (yieldsIf_load_mid rfl 94 (.tmp 17) rfl gs 0 rfl (rsg (signN seed k e) k (.slice (some ⟨gw, 0, none⟩) 2 2)) _ (fun w' h => Blk.all h.1) Tryd.underlying94 rfl (by rw [rsg_length _ _ _ (signN_length _ _ _)]; exact info94)) hHeld ?_
  show wpAnyH _ _ _ _ _ _ _ (Act.put _ (some 61) _) _
  simp only [Act.put, List.setIfInBounds_toArray, List.set_cons_zero, List.set_cons_succ]
  refine wpAnyH_take (i := 8) (v := .pointer (some ⟨g, 0, none⟩)) rfl (by kernel_rfl) (by kernel_rfl) (by kernel_rfl) (fun _ _ _ h => h) (Or.inl ⟨by rfl, fun w _ => by rfl⟩) hHeld ?_
  show wpAnyH _ _ _ _ _ _ _ (Act.put _ (some 62) _) _
  simp only [Act.put, List.setIfInBounds_toArray, List.set_cons_zero, List.set_cons_succ]
  refine wpAnyH_take (i := 10) (v := .int .u32 (k : Int)) rfl (by kernel_rfl) (by kernel_rfl) (by kernel_rfl) (fun _ _ _ h => h) (Or.inl ⟨by rfl, fun w _ => by rfl⟩) hHeld ?_
  show wpAnyH _ _ _ _ _ _ _ (Act.put _ (some 64) _) _
  simp only [Act.put, List.setIfInBounds_toArray, List.set_cons_zero, List.set_cons_succ]
  refine wpAnyH_take (i := 11) (v := .agg (w8 e).toArray) rfl (by kernel_rfl) (by kernel_rfl) (by kernel_rfl) (fun _ _ _ h => h) (yieldsIf_load_mid rfl 29 (.tmp 9) rfl (w.heap.size + 1 + 1) 0 rfl (w8 e) _ (fun w' h => Blk.all h.2) Tryd.underlying29 rfl HIE.out) hHeld ?_
  show wpAnyH _ _ _ _ _ _ _ (Act.put _ (some 65) _) _
  simp only [Act.put, List.setIfInBounds_toArray, List.set_cons_zero, List.set_cons_succ]
  refine wpAnyH_ready (rs := [9]) (by kernel_rfl) (by simp) ?_
  refine AllReadyH.cons rfl (fun K hK => ?_) AllReadyH.nil
  refine step_call rfl 45 #[.tmp 62] #[84] rfl #[.pointer (some ⟨g, 0, none⟩)] (by simp [Act.eval]) (by go_simp) (root_any g seed 2 w.heap.size ((List.replicate 256 false).set k true) v X0 RX0) ?_
  rintro e X1 ⟨rfl, hB⟩
  have DX1 : Hid (Blk X1 (w.heap.size + 1) 29 (w8 d)) := Lib.hid (DX0.out.below hB DX0.out.lt)
  have EX1 : Hid (Blk X1 (w.heap.size + 1 + 1) 29 (w8 e)) := Lib.hid (EX0.out.below hB EX0.out.lt)
  have BX1 : Hid (Below w.heap.size w X1) := Lib.hid (BX0.out.trans (hB.mono BX0.out.size))
  have RX1 : Hid (RingAt X1 w.heap.size g seed 2 ((List.replicate 256 false).set k true) v) := Lib.hid (RX0.out.below hB)
  have YX1 : Hid (Blk X1 gw 36 (w8 (rows (wayN seed k) 2))) := Lib.hid (YX0.out.below hB YX0.out.lt)
  have SX1 : Hid (Blk X1 gs 94 (rsg (signN seed k e) k (.slice (some ⟨gw, 0, none⟩) 2 2))) := Lib.hid (SX0.out.below hB SX0.out.lt)
  clear DX0 EX0 BX0 RX0 YX0 SX0 hB
  refine ⟨_, rfl, hK.out _ _ (⟨SX1.out, EX1.out⟩) (fun hHeld => ?_)⟩
  clear hK K
  show wpAnyH _ _ _ _ _ _ _ (Act.put _ (some 63) _) _
  simp only [Act.put, List.setIfInBounds_toArray, List.set_cons_zero, List.set_cons_succ]
  refine wpAnyH_ready (rs := [12]) (by kernel_rfl) (by simp) ?_
  refine AllReadyH.cons rfl (fun K hK => ?_) AllReadyH.nil
  refine step_call rfl 56 #[.tmp 61, .tmp 63, .const (.int .i64 2), .tmp 64, .tmp 65] #[94, 36, 3, 38, 36] rfl #[.agg (rsg (signN seed k e) k (.slice (some ⟨gw, 0, none⟩) 2 2)).toArray, .agg (w8 (rootN seed 2)).toArray, .int .i64 2, .int .u32 (k : Int), .agg (w8 e).toArray] (by simp [Act.eval]) (by go_simp) (right_sign seed e k 2 gw X1 (Lib.hid (HT.out.below BX1.out HT.out.lt)) HL HEL HEP YX1 hk (by omega)) ?_
  rintro e X2 ⟨rfl, hB⟩
  have DX2 : Hid (Blk X2 (w.heap.size + 1) 29 (w8 d)) := Lib.hid (DX1.out.below hB DX1.out.lt)
  have EX2 : Hid (Blk X2 (w.heap.size + 1 + 1) 29 (w8 e)) := Lib.hid (EX1.out.below hB EX1.out.lt)
  have BX2 : Hid (Below w.heap.size w X2) := Lib.hid (BX1.out.trans (hB.mono BX1.out.size))
  have RX2 : Hid (RingAt X2 w.heap.size g seed 2 ((List.replicate 256 false).set k true) v) := Lib.hid (RX1.out.below hB)
  have YX2 : Hid (Blk X2 gw 36 (w8 (rows (wayN seed k) 2))) := Lib.hid (YX1.out.below hB YX1.out.lt)
  have SX2 : Hid (Blk X2 gs 94 (rsg (signN seed k e) k (.slice (some ⟨gw, 0, none⟩) 2 2))) := Lib.hid (SX1.out.below hB SX1.out.lt)
  clear DX1 EX1 BX1 RX1 YX1 SX1 hB
  refine ⟨_, rfl, hK.out _ _ (⟨SX2.out, EX2.out⟩) (fun hHeld => ?_)⟩
  clear hK K
  show wpAnyH _ _ _ _ _ _ _ (Act.put _ (some 66) _) _
  simp only [Act.put, List.setIfInBounds_toArray, List.set_cons_zero, List.set_cons_succ]
  refine wpAnyH_take (i := 13) (v := .bool false) rfl (by kernel_rfl) (by kernel_rfl) (by kernel_rfl) (fun _ _ _ h => h) (Or.inl ⟨by rfl, by intro w' h; go_simp⟩) hHeld ?_
  show wpAnyH _ _ _ _ _ _ _ (Act.put _ (some 67) _) _
  simp only [Act.put, List.setIfInBounds_toArray, List.set_cons_zero, List.set_cons_succ]
  refine wpAnyH_take (i := 14) (v := .bool false) rfl (by kernel_rfl) (by kernel_rfl) (by kernel_rfl) (fun _ _ _ h => h) (Or.inl ⟨by rfl, by intro w hSw; first | rfl | go_simp⟩) hHeld ?_
  show wpAnyH _ _ _ _ _ _ _ (Act.put _ (some 68) _) _
  simp only [Act.put, List.setIfInBounds_toArray, List.set_cons_zero, List.set_cons_succ]
  refine wpAnyH_done (by kernel_rfl) ?_ _
  clear hHeld
  by_cases hko : k = o
  · have hko2 : (k : Int) = (o : Int) := by omega
    go_wp2_with fail
    refine (awake5_any X2 (Lib.hid (HT.out.below BX2.out HT.out.lt))).mono ?_
    rintro e Z1 ⟨rfl, hB⟩
    have BZ1 := Lib.hid (BX2.out.trans (hB.mono BX2.out.size))
    have RZ1 := Lib.hid (RX2.out.below hB)
    clear hB
    go_wp2_with fail
    have hc := taken_any g o seed 2 w.heap.size ((List.replicate 256 false).set k true) v Z1 RZ1 (by omega)
    rw [decide_eq_true ho, ← hko, ht1] at hc
    try rw [hko] at hc
    refine hc.mono ?_
    rintro e Z2 ⟨rfl, hB⟩
    have BZ2 := Lib.hid (BZ1.out.trans (hB.mono BZ1.out.size))
    clear hB
    go_wp2
    go_ret
    exact ⟨rfl, BZ2.out⟩
  · have hko2 : ¬ (k : Int) = (o : Int) := by omega
    have ht2 : ((List.replicate 256 false).set k true).getD o false = false := set_free 256 k o hko
    go_wp2_with fail
    have hc := taken_any g o seed 2 w.heap.size ((List.replicate 256 false).set k true) v X2 RX2 (by omega)
    rw [decide_eq_true ho, ht2] at hc
    refine hc.mono ?_
    clear hc
    rintro e Z1 ⟨rfl, hB⟩
    have BZ1 := Lib.hid (BX2.out.trans (hB.mono BX2.out.size))
    have RZ1 := Lib.hid (RX2.out.below hB)
    have DZ1 := Lib.hid (DX2.out.below hB DX2.out.lt)
    clear hB
    have HRD := Lib.hid DZ1.out.all
    go_wp2_with (first | (refine wpList_load_mid rfl 29 (.tmp 8) rfl (w.heap.size + 1) 0 rfl (w8 d) _ HRD.out Tryd.underlying29 rfl HID.out ?_))
    clear HRD
    refine (sign_ok g o seed d 2 w.heap.size ((List.replicate 256 false).set k true) v Z1 RZ1 (Lib.hid (HT.out.below BZ1.out HT.out.lt)) HDL HDP ho ht2).mono ?_
    rintro e Z2 ⟨gx, rfl, hY, hgx, hR, hO⟩
    have BZ2 := Lib.hid (BZ1.out.trans (only_up hO (by omega) BZ1.out.size))
    have DZ2 := Lib.hid (DZ1.out.grown hO (fun e => by injection e with e; omega))
    have YZ2 := Lib.hid hY
    have RZ2 := Lib.hid hR
    clear hO hY hR
    have HSE2 := Lib.hid (sig_put (signN seed o d) o (some ⟨gx, 0, none⟩) 2 2 (signN_length _ _ _))
    have HL := Lib.hid (heap_alloc_last Z2 (.cells Tryd.zeroCells94 94))
    go_upto_region 14 with (first | (refine wpList_store_row rfl 94 (.tmp 19) (.tmp 86) rfl Z2.heap.size (rsg (signN seed o d) o (.slice (some ⟨gx, 0, none⟩) 2 2)).toArray rfl rfl 94 _ HL.out HSE2.out.1 HSE2.out.2.1 HSE2.out.2.2 ?_; rw [World.setRow_alloc_new]))
    have hB : Below Z2.heap.size Z2 (Z2.alloc (.cells (rsg (signN seed o d) o (.slice (some ⟨gx, 0, none⟩) 2 2)).toArray 94)) := (Below.refl _ _).alloc (Nat.le_refl _) _
    have DZ3 : Hid (Blk (Z2.alloc (.cells (rsg (signN seed o d) o (.slice (some ⟨gx, 0, none⟩) 2 2)).toArray 94)) (w.heap.size + 1) 29 (w8 d)) := Lib.hid (DZ2.out.below hB DZ2.out.lt)
    have YZ3 : Hid (Blk (Z2.alloc (.cells (rsg (signN seed o d) o (.slice (some ⟨gx, 0, none⟩) 2 2)).toArray 94)) gx 36 (w8 (rows (wayN seed o) 2))) := Lib.hid (YZ2.out.below hB YZ2.out.lt)
    have RZ3 : Hid (RingAt (Z2.alloc (.cells (rsg (signN seed o d) o (.slice (some ⟨gx, 0, none⟩) 2 2)).toArray 94)) w.heap.size g seed 2 (((List.replicate 256 false).set k true).set o true) v) := Lib.hid (RZ2.out.below hB)
    have BZ3 : Hid (Below w.heap.size w (Z2.alloc (.cells (rsg (signN seed o d) o (.slice (some ⟨gx, 0, none⟩) 2 2)).toArray 94))) := Lib.hid (BZ2.out.trans (hB.mono BZ2.out.size))
    have SZ3 : Hid (Blk (Z2.alloc (.cells (rsg (signN seed o d) o (.slice (some ⟨gx, 0, none⟩) 2 2)).toArray 94)) Z2.heap.size 94 (rsg (signN seed o d) o (.slice (some ⟨gx, 0, none⟩) 2 2))) := Lib.hid (Blk.new _ _ _)
    clear hB HL DZ2 YZ2 RZ2 BZ2
    generalize (Z2.alloc (.cells (rsg (signN seed o d) o (.slice (some ⟨gx, 0, none⟩) 2 2)).toArray 94)) = Z3 at DZ3 YZ3 RZ3 BZ3 SZ3 ⊢
    generalize Z2.heap.size = gt at SZ3 ⊢
    have hBz : Below Z3.heap.size Z3 Z3.drew := below_drewN (Below.refl _ _) 1
    have DX0 : Hid (Blk Z3.drew (w.heap.size + 1) 29 (w8 d)) := Lib.hid (DZ3.out.below hBz DZ3.out.lt)
    have YX0 : Hid (Blk Z3.drew gx 36 (w8 (rows (wayN seed o) 2))) := Lib.hid (YZ3.out.below hBz YZ3.out.lt)
    have RX0 : Hid (RingAt Z3.drew w.heap.size g seed 2 (((List.replicate 256 false).set k true).set o true) v) := Lib.hid (RZ3.out.below hBz)
    have BX0 : Hid (Below w.heap.size w Z3.drew) := Lib.hid (BZ3.out.trans (hBz.mono BZ3.out.size))
    have SX0 : Hid (Blk Z3.drew gt 94 (rsg (signN seed o d) o (.slice (some ⟨gx, 0, none⟩) 2 2))) := Lib.hid (SZ3.out.below hBz SZ3.out.lt)
    clear hBz
    refine wp_region_held_drew (S := fun w' => Blk w' gt 94 (rsg (signN seed o d) o (.slice (some ⟨gx, 0, none⟩) 2 2)) ∧ Blk w' (w.heap.size + 1) 29 (w8 d)) (by kernel_rfl) (⟨SX0.out, DX0.out⟩) (fun hHeld => ?_)
    generalize Z3.drew = X0 at hHeld DX0 YX0 RX0 BX0 SX0 ⊢
    refine wpAnyH_ready (rs := [0]) (by kernel_rfl) (by simp) ?_
    refine AllReadyH.cons rfl (fun K hK => ?_) AllReadyH.nil
    refine step_call rfl 42 #[] #[] rfl #[] (by simp) (by go_simp) (awake5_any X0 (Lib.hid (HT.out.below BX0.out HT.out.lt))) ?_
    rintro e X1 ⟨rfl, hB⟩
    have DX1 : Hid (Blk X1 (w.heap.size + 1) 29 (w8 d)) := Lib.hid (DX0.out.below hB DX0.out.lt)
    have YX1 : Hid (Blk X1 gx 36 (w8 (rows (wayN seed o) 2))) := Lib.hid (YX0.out.below hB YX0.out.lt)
    have RX1 : Hid (RingAt X1 w.heap.size g seed 2 (((List.replicate 256 false).set k true).set o true) v) := Lib.hid (RX0.out.below hB)
    have BX1 : Hid (Below w.heap.size w X1) := Lib.hid (BX0.out.trans (hB.mono BX0.out.size))
    have SX1 : Hid (Blk X1 gt 94 (rsg (signN seed o d) o (.slice (some ⟨gx, 0, none⟩) 2 2))) := Lib.hid (SX0.out.below hB SX0.out.lt)
    clear DX0 YX0 RX0 BX0 SX0 hB
    refine ⟨_, rfl, hK.out _ _ (⟨SX1.out, DX1.out⟩) (fun hHeld => ?_)⟩
    clear hK K
    show wpAnyH _ _ _ _ _ _ _ (Act.put _ (some 88) _) _
    simp only [Act.put, List.setIfInBounds_toArray, List.set_cons_zero, List.set_cons_succ]
    refine wpAnyH_take (i := 1) (v := .bool true) rfl (by kernel_rfl) (by kernel_rfl) (by kernel_rfl) (fun _ _ _ h => h) (Or.inl ⟨by rfl, fun w _ => by rfl⟩) hHeld ?_
    show wpAnyH _ _ _ _ _ _ _ (Act.put _ (some 89) _) _
    simp only [Act.put, List.setIfInBounds_toArray, List.set_cons_zero, List.set_cons_succ]
    refine wpAnyH_take (i := 2) (v := .int .i64 0) rfl (by kernel_rfl) (by kernel_rfl) (by kernel_rfl) (fun _ _ _ h => h) (Or.inl ⟨by rfl, fun w _ => by rfl⟩) hHeld ?_
    show wpAnyH _ _ _ _ _ _ _ (Act.put _ (some 90) _) _
    simp only [Act.put, List.setIfInBounds_toArray, List.set_cons_zero, List.set_cons_succ]
    refine wpAnyH_take (i := 3) (v := .bool true) rfl (by kernel_rfl) (by kernel_rfl) (by kernel_rfl) (fun _ _ _ h => h) (Or.inl ⟨by rfl, by intro w' h; go_simp⟩) hHeld ?_
    show wpAnyH _ _ _ _ _ _ _ (Act.put _ (some 91) _) _
    simp only [Act.put, List.setIfInBounds_toArray, List.set_cons_zero, List.set_cons_succ]
    refine wpAnyH_take (i := 4) (v := .bool true) rfl (by kernel_rfl) (by kernel_rfl) (by kernel_rfl) (fun _ _ _ h => h) (Or.inl ⟨by rfl, by intro w hSw; first | rfl | go_simp⟩) hHeld ?_
    show wpAnyH _ _ _ _ _ _ _ (Act.put _ (some 92) _) _
    simp only [Act.put, List.setIfInBounds_toArray, List.set_cons_zero, List.set_cons_succ]
    refine wpAnyH_take (i := 5) (v := .bool true) rfl (by kernel_rfl) (by kernel_rfl) (by kernel_rfl) (fun _ _ _ h => h) (Or.inl ⟨by rfl, fun w _ => by rfl⟩) hHeld ?_
    show wpAnyH _ _ _ _ _ _ _ (Act.put _ (some 93) _) _
    simp only [Act.put, List.setIfInBounds_toArray, List.set_cons_zero, List.set_cons_succ]
    refine wpAnyH_take (i := 6) (v := .agg (rsg (signN seed o d) o (.slice (some ⟨gx, 0, none⟩) 2 2)).toArray) rfl (by kernel_rfl) (by kernel_rfl) (by kernel_rfl) (fun _ _ _ h => h) (yieldsIf_load_mid rfl 94 (.tmp 19) rfl gt 0 rfl (rsg (signN seed o d) o (.slice (some ⟨gx, 0, none⟩) 2 2)) _ (fun w' h => Blk.all h.1) Tryd.underlying94 rfl (by rw [rsg_length _ _ _ (signN_length _ _ _)]; exact info94)) hHeld ?_
    show wpAnyH _ _ _ _ _ _ _ (Act.put _ (some 94) _) _
    simp only [Act.put, List.setIfInBounds_toArray, List.set_cons_zero, List.set_cons_succ]
    refine wpAnyH_take (i := 7) (v := .pointer (some ⟨g, 0, none⟩)) rfl (by kernel_rfl) (by kernel_rfl) (by kernel_rfl) (fun _ _ _ h => h) (Or.inl ⟨by rfl, fun w _ => by rfl⟩) hHeld ?_
    show wpAnyH _ _ _ _ _ _ _ (Act.put _ (some 95) _) _
    simp only [Act.put, List.setIfInBounds_toArray, List.set_cons_zero, List.set_cons_succ]
    refine wpAnyH_take (i := 9) (v := .int .u32 (o : Int)) rfl (by kernel_rfl) (by kernel_rfl) (by kernel_rfl) (fun _ _ _ h => h) (Or.inl ⟨by rfl, fun w _ => by rfl⟩) hHeld ?_
    show wpAnyH _ _ _ _ _ _ _ (Act.put _ (some 97) _) _
    simp only [Act.put, List.setIfInBounds_toArray, List.set_cons_zero, List.set_cons_succ]
    refine wpAnyH_take (i := 10) (v := .agg (w8 d).toArray) rfl (by kernel_rfl) (by kernel_rfl) (by kernel_rfl) (fun _ _ _ h => h) (yieldsIf_load_mid rfl 29 (.tmp 8) rfl (w.heap.size + 1) 0 rfl (w8 d) _ (fun w' h => Blk.all h.2) Tryd.underlying29 rfl HID.out) hHeld ?_
    show wpAnyH _ _ _ _ _ _ _ (Act.put _ (some 98) _) _
    simp only [Act.put, List.setIfInBounds_toArray, List.set_cons_zero, List.set_cons_succ]
    refine wpAnyH_ready (rs := [8]) (by kernel_rfl) (by simp) ?_
    refine AllReadyH.cons rfl (fun K hK => ?_) AllReadyH.nil
    refine step_call rfl 45 #[.tmp 95] #[84] rfl #[.pointer (some ⟨g, 0, none⟩)] (by simp [Act.eval]) (by go_simp) (root_any g seed 2 w.heap.size (((List.replicate 256 false).set k true).set o true) v X1 RX1) ?_
    rintro e X2 ⟨rfl, hB⟩
    have DX2 : Hid (Blk X2 (w.heap.size + 1) 29 (w8 d)) := Lib.hid (DX1.out.below hB DX1.out.lt)
    have YX2 : Hid (Blk X2 gx 36 (w8 (rows (wayN seed o) 2))) := Lib.hid (YX1.out.below hB YX1.out.lt)
    have RX2 : Hid (RingAt X2 w.heap.size g seed 2 (((List.replicate 256 false).set k true).set o true) v) := Lib.hid (RX1.out.below hB)
    have BX2 : Hid (Below w.heap.size w X2) := Lib.hid (BX1.out.trans (hB.mono BX1.out.size))
    have SX2 : Hid (Blk X2 gt 94 (rsg (signN seed o d) o (.slice (some ⟨gx, 0, none⟩) 2 2))) := Lib.hid (SX1.out.below hB SX1.out.lt)
    clear DX1 YX1 RX1 BX1 SX1 hB
    refine ⟨_, rfl, hK.out _ _ (⟨SX2.out, DX2.out⟩) (fun hHeld => ?_)⟩
    clear hK K
    show wpAnyH _ _ _ _ _ _ _ (Act.put _ (some 96) _) _
    simp only [Act.put, List.setIfInBounds_toArray, List.set_cons_zero, List.set_cons_succ]
    refine wpAnyH_ready (rs := [11]) (by kernel_rfl) (by simp) ?_
    refine AllReadyH.cons rfl (fun K hK => ?_) AllReadyH.nil
    refine step_call rfl 56 #[.tmp 94, .tmp 96, .const (.int .i64 2), .tmp 97, .tmp 98] #[94, 36, 3, 38, 36] rfl #[.agg (rsg (signN seed o d) o (.slice (some ⟨gx, 0, none⟩) 2 2)).toArray, .agg (w8 (rootN seed 2)).toArray, .int .i64 2, .int .u32 (o : Int), .agg (w8 d).toArray] (by simp [Act.eval]) (by go_simp) (right_sign seed d o 2 gx X2 (Lib.hid (HT.out.below BX2.out HT.out.lt)) HL HDL HDP YX2 ho (by omega)) ?_
    rintro e X3 ⟨rfl, hB⟩
    have DX3 : Hid (Blk X3 (w.heap.size + 1) 29 (w8 d)) := Lib.hid (DX2.out.below hB DX2.out.lt)
    have YX3 : Hid (Blk X3 gx 36 (w8 (rows (wayN seed o) 2))) := Lib.hid (YX2.out.below hB YX2.out.lt)
    have RX3 : Hid (RingAt X3 w.heap.size g seed 2 (((List.replicate 256 false).set k true).set o true) v) := Lib.hid (RX2.out.below hB)
    have BX3 : Hid (Below w.heap.size w X3) := Lib.hid (BX2.out.trans (hB.mono BX2.out.size))
    have SX3 : Hid (Blk X3 gt 94 (rsg (signN seed o d) o (.slice (some ⟨gx, 0, none⟩) 2 2))) := Lib.hid (SX2.out.below hB SX2.out.lt)
    clear DX2 YX2 RX2 BX2 SX2 hB
    refine ⟨_, rfl, hK.out _ _ (⟨SX3.out, DX3.out⟩) (fun hHeld => ?_)⟩
    clear hK K
    show wpAnyH _ _ _ _ _ _ _ (Act.put _ (some 99) _) _
    simp only [Act.put, List.setIfInBounds_toArray, List.set_cons_zero, List.set_cons_succ]
    refine wpAnyH_take (i := 12) (v := .bool true) rfl (by kernel_rfl) (by kernel_rfl) (by kernel_rfl) (fun _ _ _ h => h) (Or.inl ⟨by rfl, by intro w hSw; first | rfl | go_simp⟩) hHeld ?_
    show wpAnyH _ _ _ _ _ _ _ (Act.put _ (some 100) _) _
    simp only [Act.put, List.setIfInBounds_toArray, List.set_cons_zero, List.set_cons_succ]
    refine wpAnyH_take (i := 13) (v := .bool true) rfl (by kernel_rfl) (by kernel_rfl) (by kernel_rfl) (fun _ _ _ h => h) (Or.inl ⟨by rfl, fun w _ => by rfl⟩) hHeld ?_
    show wpAnyH _ _ _ _ _ _ _ (Act.put _ (some 101) _) _
    simp only [Act.put, List.setIfInBounds_toArray, List.set_cons_zero, List.set_cons_succ]
    refine wpAnyH_take (i := 14) (v := .pointer (some ⟨g, 0, none⟩)) rfl (by kernel_rfl) (by kernel_rfl) (by kernel_rfl) (fun _ _ _ h => h) (Or.inl ⟨by rfl, fun w _ => by rfl⟩) hHeld ?_
    show wpAnyH _ _ _ _ _ _ _ (Act.put _ (some 102) _) _
    simp only [Act.put, List.setIfInBounds_toArray, List.set_cons_zero, List.set_cons_succ]
    refine wpAnyH_ready (rs := [15]) (by kernel_rfl) (by simp) ?_
    refine AllReadyH.cons rfl (fun K hK => ?_) AllReadyH.nil
    have hcT := taken_any g 4 seed 2 w.heap.size (((List.replicate 256 false).set k true).set o true) v X3 RX3 (by omega)
    rw [decide_eq_false (show ¬ 4 < pw 2 by decide), Bool.false_and] at hcT
    refine step_call rfl 54 #[.tmp 102, .const (.int .u32 4)] #[84, 38] rfl #[.pointer (some ⟨g, 0, none⟩), .int .u32 4] (by simp [Act.eval]) (by go_simp) (hcT) ?_
    rintro e X4 ⟨rfl, hB⟩
    have DX4 : Hid (Blk X4 (w.heap.size + 1) 29 (w8 d)) := Lib.hid (DX3.out.below hB DX3.out.lt)
    have YX4 : Hid (Blk X4 gx 36 (w8 (rows (wayN seed o) 2))) := Lib.hid (YX3.out.below hB YX3.out.lt)
    have RX4 : Hid (RingAt X4 w.heap.size g seed 2 (((List.replicate 256 false).set k true).set o true) v) := Lib.hid (RX3.out.below hB)
    have BX4 : Hid (Below w.heap.size w X4) := Lib.hid (BX3.out.trans (hB.mono BX3.out.size))
    have SX4 : Hid (Blk X4 gt 94 (rsg (signN seed o d) o (.slice (some ⟨gx, 0, none⟩) 2 2))) := Lib.hid (SX3.out.below hB SX3.out.lt)
    clear DX3 YX3 RX3 BX3 SX3 hB
    refine ⟨_, rfl, hK.out _ _ (⟨SX4.out, DX4.out⟩) (fun hHeld => ?_)⟩
    clear hK K
    show wpAnyH _ _ _ _ _ _ _ (Act.put _ (some 103) _) _
    simp only [Act.put, List.setIfInBounds_toArray, List.set_cons_zero, List.set_cons_succ]
    refine wpAnyH_take (i := 16) (v := .bool true) rfl (by kernel_rfl) (by kernel_rfl) (by kernel_rfl) (fun _ _ _ h => h) (Or.inl ⟨by rfl, by intro w' h; go_simp⟩) hHeld ?_
    show wpAnyH _ _ _ _ _ _ _ (Act.put _ (some 104) _) _
    simp only [Act.put, List.setIfInBounds_toArray, List.set_cons_zero, List.set_cons_succ]
    refine wpAnyH_take (i := 17) (v := .bool true) rfl (by kernel_rfl) (by kernel_rfl) (by kernel_rfl) (fun _ _ _ h => h) (Or.inl ⟨by rfl, by intro w hSw; first | rfl | go_simp⟩) hHeld ?_
    show wpAnyH _ _ _ _ _ _ _ (Act.put _ (some 105) _) _
    simp only [Act.put, List.setIfInBounds_toArray, List.set_cons_zero, List.set_cons_succ]
    refine wpAnyH_take (i := 18) (v := .bool true) rfl (by kernel_rfl) (by kernel_rfl) (by kernel_rfl) (fun _ _ _ h => h) (Or.inl ⟨by rfl, fun w _ => by rfl⟩) hHeld ?_
    show wpAnyH _ _ _ _ _ _ _ (Act.put _ (some 106) _) _
    simp only [Act.put, List.setIfInBounds_toArray, List.set_cons_zero, List.set_cons_succ]
    refine wpAnyH_take (i := 19) (v := .pointer (some ⟨g, 0, none⟩)) rfl (by kernel_rfl) (by kernel_rfl) (by kernel_rfl) (fun _ _ _ h => h) (Or.inl ⟨by rfl, fun w _ => by rfl⟩) hHeld ?_
    show wpAnyH _ _ _ _ _ _ _ (Act.put _ (some 107) _) _
    simp only [Act.put, List.setIfInBounds_toArray, List.set_cons_zero, List.set_cons_succ]
    refine wpAnyH_ready (rs := [20]) (by kernel_rfl) (by simp) ?_
    refine AllReadyH.cons rfl (fun K hK => ?_) AllReadyH.nil
    refine step_call rfl 50 #[.tmp 107, .const (.int .u32 4)] #[84, 38] rfl #[.pointer (some ⟨g, 0, none⟩), .int .u32 4] (by simp [Act.eval]) (by go_simp) (spend_far g 4 seed 2 w.heap.size (((List.replicate 256 false).set k true).set o true) v X4 RX4 (by omega) (by decide)) ?_
    rintro e X5 ⟨rfl, hB⟩
    have DX5 : Hid (Blk X5 (w.heap.size + 1) 29 (w8 d)) := Lib.hid (DX4.out.below hB DX4.out.lt)
    have YX5 : Hid (Blk X5 gx 36 (w8 (rows (wayN seed o) 2))) := Lib.hid (YX4.out.below hB YX4.out.lt)
    have RX5 : Hid (RingAt X5 w.heap.size g seed 2 (((List.replicate 256 false).set k true).set o true) v) := Lib.hid (RX4.out.below hB)
    have BX5 : Hid (Below w.heap.size w X5) := Lib.hid (BX4.out.trans (hB.mono BX4.out.size))
    have SX5 : Hid (Blk X5 gt 94 (rsg (signN seed o d) o (.slice (some ⟨gx, 0, none⟩) 2 2))) := Lib.hid (SX4.out.below hB SX4.out.lt)
    clear DX4 YX4 RX4 BX4 SX4 hB
    refine ⟨_, rfl, hK.out _ _ (⟨SX5.out, DX5.out⟩) (fun hHeld => ?_)⟩
    clear hK K
    show wpAnyH _ _ _ _ _ _ _ (Act.put _ (some 108) _) _
    simp only [Act.put, List.setIfInBounds_toArray, List.set_cons_zero, List.set_cons_succ]
    refine wpAnyH_take (i := 21) (v := .bool true) rfl (by kernel_rfl) (by kernel_rfl) (by kernel_rfl) (fun _ _ _ h => h) (Or.inl ⟨by rfl, by intro w' h; go_simp⟩) hHeld ?_
    show wpAnyH _ _ _ _ _ _ _ (Act.put _ (some 109) _) _
    simp only [Act.put, List.setIfInBounds_toArray, List.set_cons_zero, List.set_cons_succ]
    refine wpAnyH_take (i := 22) (v := .bool true) rfl (by kernel_rfl) (by kernel_rfl) (by kernel_rfl) (fun _ _ _ h => h) (Or.inl ⟨by rfl, by intro w hSw; first | rfl | go_simp⟩) hHeld ?_
    show wpAnyH _ _ _ _ _ _ _ (Act.put _ (some 110) _) _
    simp only [Act.put, List.setIfInBounds_toArray, List.set_cons_zero, List.set_cons_succ]
    refine wpAnyH_take (i := 23) (v := .bool true) rfl (by kernel_rfl) (by kernel_rfl) (by kernel_rfl) (fun _ _ _ h => h) (Or.inl ⟨by rfl, fun w _ => by rfl⟩) hHeld ?_
    show wpAnyH _ _ _ _ _ _ _ (Act.put _ (some 10) _) _
    simp only [Act.put, List.setIfInBounds_toArray, List.set_cons_zero, List.set_cons_succ]
    refine wpAnyH_done (by kernel_rfl) ?_ _
    clear hHeld
    go_wp2
    go_ret
    exact ⟨rfl, BX5.out⟩
theorem ringSpends_walk (seed : List Nat) (key other : Nat) (d e : List Nat) (w : World) (HT : Hid (Tab w)) (HL : Hid (seed.length = 32)) (HP : Hid (∀ x ∈ seed, x < 256)) (hkey : key < 256) (hoth : other < 256) (HDL : Hid (d.length = 32)) (HDP : Hid (∀ x ∈ d, x < 256)) (HEL : Hid (e.length = 32)) (HEP : Hid (∀ x ∈ e, x < 256)) :
    Calls Tryd.prog 14 #[.agg (w8 seed).toArray, .int .u8 (key : Int), .int .u8 (other : Int), .agg (w8 d).toArray, .agg (w8 e).toArray] w fun e' w' => e' = .returned (.bool true) ∧ Below w.heap.size w w' :=
  ringSpends_core seed d e key other (key % 4) (other % 4) w HT HL HP HDL HDP HEL HEP (by rw [Int.tmod_eq_emod_of_nonneg (by omega)]; omega) (by rw [Int.tmod_eq_emod_of_nonneg (by omega)]; omega) (by omega) (by omega) hkey hoth
end Go.Proofs.YtkonokjhpddbfaaDoor
