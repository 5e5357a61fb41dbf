/-
  The document's From (function 29): what it answers; nothing that was there is written.
-/
import Derived.Test.YtkonokjhpddbfaaDoorLampK
namespace Go.Proofs.YtkonokjhpddbfaaDoor
open Go.RowKit
set_option linter.unusedVariables false

set_option maxRecDepth 100000 in
set_option maxHeartbeats 1000000 in
theorem rfrom_any (f r : ByteArray) (S d : List Nat) (w : World) (HX : Hid (Texts f r)) (HL : Hid (S.length = 1024)) (HP : Hid (∀ x ∈ S, x < 256)) (HDL : Hid (d.length = 32)) (HDP : Hid (∀ x ∈ d, x < 256)) :
    Calls Tryd.prog 29 #[.agg #[.string f, .string r], .agg (w8 S).toArray, .agg (w8 d).toArray] w fun e w' => e = .returned (.agg (w8 (fromN S d)).toArray) ∧ Below w.heap.size w w' := by
  have HDS : Hid ((Tryd.prog.info? 29).map (·.size) = some (w8 d).length) := Lib.hid (by rw [w8_length, HDL.out]; exact info29)
  go_enter Tryd.func29, Tryd.ntmps29
  go_upto_region 1 with fail
  have HT : Hid (Blk ((((w.alloc (.cells #[.string f, .string r] 40)).alloc (.cells (w8 S).toArray 51)).alloc (.cells (w8 d).toArray 29)).alloc (.cells zsum 29)) w.heap.size 40 ([.string f, .string r])) := Lib.hid (by
    have h := (((Blk.new w 40 ([.string f, .string r])).alloc (.cells (w8 S).toArray 51)).alloc (.cells (w8 d).toArray 29)).alloc (.cells zsum 29)
    exact h)
  have HSg : Hid (Blk ((((w.alloc (.cells #[.string f, .string r] 40)).alloc (.cells (w8 S).toArray 51)).alloc (.cells (w8 d).toArray 29)).alloc (.cells zsum 29)) (w.heap.size + 1) 51 (w8 S)) := Lib.hid (by
    have h := ((Blk.new (w.alloc (.cells #[.string f, .string r] 40)) 51 (w8 S)).alloc (.cells (w8 d).toArray 29)).alloc (.cells zsum 29)
    rw [World.size_alloc] at h
    exact h)
  have HD : Hid (Blk ((((w.alloc (.cells #[.string f, .string r] 40)).alloc (.cells (w8 S).toArray 51)).alloc (.cells (w8 d).toArray 29)).alloc (.cells zsum 29)) (w.heap.size + 1 + 1) 29 (w8 d)) := Lib.hid (by
    have h := (Blk.new ((w.alloc (.cells #[.string f, .string r] 40)).alloc (.cells (w8 S).toArray 51)) 29 (w8 d)).alloc (.cells zsum 29)
    rw [World.size_alloc, World.size_alloc] at h
    exact h)
  have HR : Hid (Blk ((((w.alloc (.cells #[.string f, .string r] 40)).alloc (.cells (w8 S).toArray 51)).alloc (.cells (w8 d).toArray 29)).alloc (.cells zsum 29)) (w.heap.size + 1 + 1 + 1) 29 (w8 (List.replicate 32 0))) := Lib.hid (by
    have h := Blk.new (((w.alloc (.cells #[.string f, .string r] 40)).alloc (.cells (w8 S).toArray 51)).alloc (.cells (w8 d).toArray 29)) 29 (w8 (List.replicate 32 0))
    rw [zsum_eq, World.size_alloc, World.size_alloc, World.size_alloc] at h
    exact h)
  have HW : Hid (Below w.heap.size w ((((w.alloc (.cells #[.string f, .string r] 40)).alloc (.cells (w8 S).toArray 51)).alloc (.cells (w8 d).toArray 29)).alloc (.cells zsum 29))) := Lib.hid (((((Below.refl _ _).alloc (Nat.le_refl _) _).alloc (by simp) _).alloc (by simp; omega) _).alloc (by simp; omega) _)
  unfold zsum at HT HSg HD HR HW
  generalize ((((w.alloc (.cells #[.string f, .string r] 40)).alloc (.cells (w8 S).toArray 51)).alloc (.cells (w8 d).toArray 29)).alloc (.cells _ 29)) = V at HT HSg HD HR HW ⊢
  have hV : w.heap.size + 1 + 1 + 1 < V.heap.size := HR.out.lt
  obtain ⟨f', hf⟩ : ∃ f : Nat → List Nat, f = fun a => prN (covN (pcs S a)) (pcs S (32 + a)) (bitN d a) := ⟨_, rfl⟩
  have HF : Hid (∀ a, f' a = prN (covN (pcs S a)) (pcs S (32 + a)) (bitN d a)) := Lib.hid fun a => by rw [hf]
  have HFL : Hid (∀ a, a < 32 → (f' a).length = 32) := Lib.hid fun a ha => by rw [hf]; exact prN_length _ _ _ (covN_length _) (pcs_length _ _ (by rw [HL.out]; omega))
  have HFR : Hid (fromN S d = sha (text 2 [rows f' 32])) := Lib.hid (by unfold fromN fromT; rw [hf])
  have HFB : Hid (∀ x ∈ rows f' 32, x < 256) := Lib.hid (by rw [hf]; exact fromT_lt S d HP.out)
  clear hf
  go_wp2_with fail
  go_loopw [8, 7, 9, 10] (fun i t _ _ wr => ∃ (k : Nat), k ≤ 32 ∧ i = .int .i64 k ∧ Hid (Own wr V.heap.size t (rows f' k)) ∧ Hid (Below V.heap.size V wr)) (fun i _ _ _ _ => 32 - (intOf i).toNat)
  case atStart => exact ⟨0, Nat.zero_le _, rfl, Lib.hid (Own.nil _ _), Lib.hid (Below.refl _ _)⟩
  case round =>
    obtain ⟨k, hk, rfl, HO, HV⟩ := hrel
    have HRL : Hid ((rows f' k).length = 32 * k) := Lib.hid (rows_length' k (fun a ha => HFL.out a (by omega)))
    by_cases hlt : k < 32
    · have k1 : (k : Int) < 32 := by omega
      have HTr := Lib.hid (HT.out.below HV.out (by omega))
      have HSr := Lib.hid (HSg.out.below HV.out (by omega))
      have HWr : Hid (Below wr.heap.size wr wr) := Lib.hid (Below.refl _ _)
      have HOlt : Hid (∀ gg, u7.ownBlock = some gg → gg < wr.heap.size) := Lib.hid fun gg hg => (World.ownsRow.lt HO.out gg hg).2
      obtain ⟨c, hc⟩ : ∃ c, covN (pcs S k) = c := ⟨_, rfl⟩
      obtain ⟨o, ho⟩ : ∃ o, pcs S (32 + k) = o := ⟨_, rfl⟩
      have Hce := Lib.hid hc
      have Hoe := Lib.hid ho
      have HcL : Hid (c.length = 16) := Lib.hid (by rw [← hc]; exact covN_length _)
      have HoL : Hid (o.length = 16) := Lib.hid (by rw [← ho]; exact pcs_length _ _ (by rw [HL.out]; omega))
      have HcB : Hid (∀ x ∈ c, x < 256) := Lib.hid (by rw [← hc]; exact covN_lt _)
      have HoB : Hid (∀ x ∈ o, x < 256) := Lib.hid (by rw [← ho]; exact pcs_lt S _ HP.out)
      have HPK : Hid ((pcs S k).length = 16) := Lib.hid (pcs_length _ _ (by rw [HL.out]; omega))
      have HIc : Hid ((Tryd.prog.info? 48).map (·.size) = some (w8 c).length) := Lib.hid (by rw [w8_length, HcL.out]; exact info48)
      have HIo : Hid ((Tryd.prog.info? 48).map (·.size) = some (w8 o).length) := Lib.hid (by rw [w8_length, HoL.out]; exact info48)
      have HIoa : Hid ((Tryd.prog.info? 48).map (·.size) = some (w8 o).toArray.size) := Lib.hid (by rw [List.size_toArray, w8_length, HoL.out]; exact info48)
      have HZo : Hid (z16.size = (w8 o).toArray.size) := Lib.hid (Eq.trans (b := 16) rfl (by rw [List.size_toArray, w8_length, HoL.out]))
      have HOo := Lib.hid (all_oneCell_toArray (w8_one o))
      have HI1 : Hid ((Tryd.prog.info? 48).map (·.size) = some (w8 (pcs S k)).length) := Lib.hid (by rw [w8_length, HPK.out]; exact info48)
      have HI2 : Hid (∀ X : World, Calls Tryd.prog 68 #[.agg #[.string f, .string r], .agg (w8 (pcs S k)).toArray] X fun e w' => e = .returned (.agg (w8 c).toArray) ∧ Below X.heap.size X w') := Lib.hid fun X => by rw [← hc]; exact cover_any f r _ X HX HPK (Lib.hid (pcs_lt S k HP.out))
      have HTHo : Hid (∀ (X : World) {gG : Nat}, Blk X gG 48 (w8 (List.replicate 16 0)) → X.there gG 0 (w8 c).length) := Lib.hid fun X gG h => h.there _ _ (by rw [w8_length, w8_length, HcL.out]; simp)
      clear hc ho
      go_upto_region 5 with fail
      have HWX0 : Hid (Below wr.heap.size wr wr.drew) := Lib.hid (below_drewN HWr.out 1)
      refine wp_region_held_drew (S := fun w' => Below wr.heap.size wr w') (by kernel_rfl) (HWX0.out) (fun hHeld => ?_)
      generalize wr.drew = X0 at hHeld  HWX0 ⊢
      refine wpAnyH_take (i := 0) (v := .agg #[.string f, .string r]) rfl (by kernel_rfl) (by kernel_rfl) (by kernel_rfl) (fun _ _ _ h => h) (yieldsIf_load_mid (by rfl) 40 (.tmp 3) rfl w.heap.size 0 rfl [.string f, .string r] _ (fun w' h => (HTr.out.below h HTr.out.lt).all) Tryd.underlying40 rfl info40) hHeld ?_
      show wpAnyH _ _ _ _ _ _ _ (Act.put _ (some 15) _) _
      simp only [Act.put, List.setIfInBounds_toArray, List.set_cons_zero, List.set_cons_succ]
      refine wpAnyH_take (i := 1) (v := .int .i64 (k : Int)) rfl (by kernel_rfl) (by kernel_rfl) (by kernel_rfl) (fun _ _ _ h => h) (Or.inl ⟨by rfl, fun w _ => by rfl⟩) hHeld ?_
      show wpAnyH _ _ _ _ _ _ _ (Act.put _ (some 16) _) _
      simp only [Act.put, List.setIfInBounds_toArray, List.set_cons_zero, List.set_cons_succ]
      refine wpAnyH_take (i := 2) (v := .pointer (some ⟨w.heap.size + 1, 0, none⟩)) rfl (by kernel_rfl) (by kernel_rfl) (by kernel_rfl) (fun _ _ _ h => h) (Or.inl ⟨by rfl, by intro w' _; go_simp⟩) hHeld ?_
      show wpAnyH _ _ _ _ _ _ _ (Act.put _ (some 17) _) _
      simp only [Act.put, List.setIfInBounds_toArray, List.set_cons_zero, List.set_cons_succ]
      refine wpAnyH_take (i := 3) (v := .pointer (some ⟨w.heap.size + 1, k * 16, none⟩)) rfl (by kernel_rfl) (by kernel_rfl) (by kernel_rfl) (fun _ _ _ h => h) (Or.inl ⟨by rfl, by intro w' _; go_simp⟩) hHeld ?_
      show wpAnyH _ _ _ _ _ _ _ (Act.put _ (some 18) _) _
      simp only [Act.put, List.setIfInBounds_toArray, List.set_cons_zero, List.set_cons_succ]
      refine wpAnyH_take (i := 4) (v := .agg (w8 (pcs S k)).toArray) rfl (by kernel_rfl) (by kernel_rfl) (by kernel_rfl) (fun _ _ _ h => h) (yieldsIf_load_mid (by rfl) 48 (.tmp 18) rfl (w.heap.size + 1) (k * 16) rfl (w8 (pcs S k)) _ (fun w' h => (HSr.out.below h HSr.out.lt).piece k (k * 16) (by omega)) Tryd.underlying48 rfl HI1.out) hHeld ?_
      show wpAnyH _ _ _ _ _ _ _ (Act.put _ (some 19) _) _
      simp only [Act.put, List.setIfInBounds_toArray, List.set_cons_zero, List.set_cons_succ]
      refine wpAnyH_ready (rs := [5, 6]) (by kernel_rfl) (by simp) ?_
      refine AllReadyH.cons rfl (fun K hK => ?_) (AllReadyH.cons rfl (fun K hK => ?_) AllReadyH.nil)
      · refine step_call rfl 68 #[.tmp 15, .tmp 19] #[40, 48] rfl #[.agg #[.string f, .string r], .agg (w8 (pcs S k)).toArray] (by simp [Act.eval]) (by go_simp) (HI2.out X0) ?_
        rintro e X1 ⟨rfl, hB⟩
        have HWX1 := Lib.hid (HWX0.out.trans (hB.mono HWX0.out.size))
        clear hB HWX0  
        refine ⟨_, rfl, hK.out _ _ (HWX1.out) (fun hHeld => ?_)⟩
        clear hK K
        show wpAnyH _ _ _ _ _ _ _ (Act.put _ (some 20) _) _
        simp only [Act.put, List.setIfInBounds_toArray, List.set_cons_zero, List.set_cons_succ]
        refine wpAnyH_ready (rs := [6]) (by kernel_rfl) (by simp) ?_
        refine AllReadyH.cons rfl (fun K hK => ?_) AllReadyH.nil
        refine step_new rfl 48 rfl z16 (by kernel_rfl) ?_
        have hB : Below X1.heap.size X1 (X1.alloc (.cells z16 48)) := (Below.refl _ _).alloc (Nat.le_refl _) _
        have HWX2 := Lib.hid (HWX1.out.trans (hB.mono HWX1.out.size))
        have HGX2 : Hid (Blk (X1.alloc (.cells z16 48)) X1.heap.size 48 (w8 (List.replicate 16 0))) := Lib.hid (by
          have h := Blk.new X1 48 (w8 (List.replicate 16 0))
          rw [z16_eq] at h
          exact h)
        have hgG : wr.heap.size ≤ X1.heap.size := HWX1.out.size
        clear hB
        refine hK.out _ _ (HWX2.out) (fun hHeld => ?_)
        generalize (X1.alloc (.cells z16 48)) = X2 at hHeld HWX2 HGX2 ⊢
        generalize X1.heap.size = gG at HGX2 hgG ⊢
        clear hK K
        show wpAnyH _ _ _ _ _ _ _ (Act.put _ (some 9) _) _
        simp only [Act.put, List.setIfInBounds_toArray, List.set_cons_zero, List.set_cons_succ]
        refine wpAnyH_ready (rs := [7]) (by kernel_rfl) (by simp) ?_
        refine AllReadyH.cons rfl (fun K hK => ?_) AllReadyH.nil
        refine step_store_mid rfl 48 (.tmp 9) (.tmp 20) rfl gG 0 (w8 c) rfl rfl (HTHo.out _ HGX2.out) HIc.out (w8_one _) ?_
        refine hK.out _ _ (below_cells _ _ _ HWX2.out hgG) (fun hHeld => ?_)
        have HGX3 : Hid (Blk (X2.setCells gG 0 (w8 c)) gG 48 (w8 c)) := Lib.hid (by
          have h := Blk.put8 [] (List.replicate 16 0) [] c (by rw [List.nil_append, List.append_nil]; exact HGX2.out) (by rw [HcL.out]; simp) 0 rfl
          rw [List.nil_append, List.append_nil] at h
          exact h)
        have HWX3 := Lib.hid (below_cells (g := gG) (w8 c) 0 X2 HWX2.out hgG)
        clear HGX2 HWX2
        generalize X2.setCells gG 0 (w8 c) = X3 at hHeld HGX3 HWX3 ⊢
        clear hK K
        show wpAnyH _ _ _ _ _ _ _ (Act.put _ none _) _
        simp only [Act.put]
        refine wpAnyH_done (by kernel_rfl) ?_ _
        clear hHeld
        have HOX := Lib.hid (HO.out.below HWX3.out)
        have HVX := Lib.hid (HV.out.trans (HWX3.out.mono HV.out.size))
        have hszX := HWX3.out.size
        have HSX := Lib.hid ((HSg.out.below HVX.out (by omega)).piece (32 + k) (512 + k * 16) (by omega))
        rw [Hoe.out] at HSX
        have HLA := Lib.hid (heap_alloc_last X3 (.cells z16 48))
        go_upto_region 7 with (first | (refine wpList_load_mid rfl 48 (.tmp 23) rfl (w.heap.size + 1) (512 + k * 16) rfl (w8 o) _ HSX.out Tryd.underlying48 rfl HIo.out ?_) | (refine wpList_store_row rfl 48 (.tmp 10) (.tmp 24) rfl X3.heap.size (w8 o).toArray rfl rfl 48 _ HLA.out HIoa.out HZo.out HOo.out ?_; rw [World.setRow_alloc_new]))
        have HQ1 : Hid (Blk (X3.alloc (.cells (w8 o).toArray 48)) X3.heap.size 48 (w8 o)) := Lib.hid (Blk.new _ _ _)
        have HQ2 := Lib.hid (HGX3.out.alloc (.cells (w8 o).toArray 48))
        have HQ3 : Hid (Below X3.heap.size X3 (X3.alloc (.cells (w8 o).toArray 48))) := Lib.hid ((Below.refl _ _).alloc (Nat.le_refl _) _)
        generalize X3.alloc (.cells (w8 o).toArray 48) = Y6 at HQ1 HQ2 HQ3 ⊢
        have HOY := Lib.hid (HOX.out.below HQ3.out)
        have HVY := Lib.hid (HVX.out.trans (HQ3.out.mono HVX.out.size))
        generalize X3.heap.size = gO at HQ1 hszX ⊢
        have HDR := Lib.hid (HD.out.below HVY.out (by omega)).all
        clear HLA HSX HOX HVX HWX3 HGX3 HQ3
        go_wp2_with (first | (refine wpList_load_mid rfl 29 (.tmp 5) rfl (w.heap.size + 1 + 1) 0 rfl (w8 d) _ HDR.out Tryd.underlying29 rfl HDS.out ?_))
        refine (rbit_any d k Y6 HDL HDP hlt).mono ?_
        rintro e Y7 ⟨hE7, hB7⟩
        have HVZ := Lib.hid (HVY.out.trans (hB7.mono HVY.out.size))
        have HOZ := Lib.hid (HOY.out.below hB7)
        have HZ1 := Lib.hid (HQ1.out.below hB7 HQ1.out.lt)
        have HZ2 := Lib.hid (HQ2.out.below hB7 HQ2.out.lt)
        have hVw := HV.out.size
        clear hB7 HVY HOY HQ1 HQ2 HDR
        rcases bitN_two d k with h0 | h0
        · have HFK : Hid (f' k = c ++ o) := Lib.hid (by rw [HF.out k, h0, Hce.out, Hoe.out]; rfl)
          rw [h0] at hE7
          subst hE7
          clear h0
          have HSa : Hid (Src Y7 w.heap.size (some ⟨gG, 0, none⟩) 16 c) := Lib.hid (Src.blk (rest := []) (by rw [List.append_nil]; exact HZ2.out) (by omega) (HcB.out) 16 (by rw [HcL.out]; omega))
          have HNa : Hid (16 = c.length) := Lib.hid HcL.out.symm
          have HMa : Hid ((rows f' k).length + c.length ≤ 140737488355328) := Lib.hid (by rw [HRL.out, HcL.out]; omega)
          have hsl := slice16r gG 0
          go_wp2_with (at_builtin; refine wpList_app rfl (.tmp 29) (.tmp 30) rfl V.heap.size w.heap.size _ _ c rfl HOZ.out (some ⟨gG, 0, none⟩) 16 16 rfl HNa.out HSa.out HMa.out HVZ.out.size ?_)
          intro v8 Y8 HO8 HG8 HL8
          have HV8 : Hid (Below V.heap.size V Y8) := Lib.hid (HVZ.out.grown HG8.out HVZ.out.size fun g' hg' => (HOZ.out.base_ hg').1)
          have HZ8 : Hid (Blk Y8 gO 48 (w8 o)) := Lib.hid (HZ1.out.grown HG8.out (fun he => by have h1 := HOlt.out _ he.symm; omega))
          clear HG8 HL8 HSa HNa HMa hsl
          have HSa : Hid (Src Y8 w.heap.size (some ⟨gO, 0, none⟩) 16 o) := Lib.hid (Src.blk (rest := []) (by rw [List.append_nil]; exact HZ8.out) (by omega) (HoB.out) 16 (by rw [HoL.out]; omega))
          have HNa : Hid (16 = o.length) := Lib.hid HoL.out.symm
          have HMa : Hid ((rows f' k ++ c).length + o.length ≤ 140737488355328) := Lib.hid (by rw [List.length_append, HRL.out, HcL.out, HoL.out]; omega)
          have hsl := slice16r gO 0
          go_wp2_with (at_builtin; refine wpList_app rfl (.tmp 32) (.tmp 33) rfl V.heap.size w.heap.size _ _ o rfl HO8.out (some ⟨gO, 0, none⟩) 16 16 rfl HNa.out HSa.out HMa.out HV8.out.size ?_)
          intro v9 Y9 HO9 HG9 HL9
          have HV9 : Hid (Below V.heap.size V Y9) := Lib.hid (HV8.out.grown HG9.out HV8.out.size fun g' hg' => (HO8.out.base_ hg').1)
          have HOE : Hid (Own Y9 V.heap.size v9 (rows f' (k + 1))) := Lib.hid (by rw [rows_succ, HFK.out]; first | exact HO9.out | (rw [← List.append_assoc]; exact HO9.out))
          clear HG9 HL9 HO9 hsl
          go_wp2
          go_roundw
          case rel => exact ⟨k + 1, by omega, by go_num, HOE, HV9⟩
          case measure => simp [intOf]; omega
        · have HFK : Hid (f' k = o ++ c) := Lib.hid (by rw [HF.out k, h0, Hce.out, Hoe.out]; rfl)
          rw [h0] at hE7
          subst hE7
          clear h0
          have HSa : Hid (Src Y7 w.heap.size (some ⟨gO, 0, none⟩) 16 o) := Lib.hid (Src.blk (rest := []) (by rw [List.append_nil]; exact HZ1.out) (by omega) (HoB.out) 16 (by rw [HoL.out]; omega))
          have HNa : Hid (16 = o.length) := Lib.hid HoL.out.symm
          have HMa : Hid ((rows f' k).length + o.length ≤ 140737488355328) := Lib.hid (by rw [HRL.out, HoL.out]; omega)
          have hsl := slice16r gO 0
          go_wp2_with (at_builtin; refine wpList_app rfl (.tmp 35) (.tmp 36) rfl V.heap.size w.heap.size _ _ o rfl HOZ.out (some ⟨gO, 0, none⟩) 16 16 rfl HNa.out HSa.out HMa.out HVZ.out.size ?_)
          intro v8 Y8 HO8 HG8 HL8
          have HV8 : Hid (Below V.heap.size V Y8) := Lib.hid (HVZ.out.grown HG8.out HVZ.out.size fun g' hg' => (HOZ.out.base_ hg').1)
          have HZ8 : Hid (Blk Y8 gG 48 (w8 c)) := Lib.hid (HZ2.out.grown HG8.out (fun he => by have h1 := HOlt.out _ he.symm; omega))
          clear HG8 HL8 HSa HNa HMa hsl
          have HSa : Hid (Src Y8 w.heap.size (some ⟨gG, 0, none⟩) 16 c) := Lib.hid (Src.blk (rest := []) (by rw [List.append_nil]; exact HZ8.out) (by omega) (HcB.out) 16 (by rw [HcL.out]; omega))
          have HNa : Hid (16 = c.length) := Lib.hid HcL.out.symm
          have HMa : Hid ((rows f' k ++ o).length + c.length ≤ 140737488355328) := Lib.hid (by rw [List.length_append, HRL.out, HcL.out, HoL.out]; omega)
          have hsl := slice16r gG 0
          go_wp2_with (at_builtin; refine wpList_app rfl (.tmp 38) (.tmp 39) rfl V.heap.size w.heap.size _ _ c rfl HO8.out (some ⟨gG, 0, none⟩) 16 16 rfl HNa.out HSa.out HMa.out HV8.out.size ?_)
          intro v9 Y9 HO9 HG9 HL9
          have HV9 : Hid (Below V.heap.size V Y9) := Lib.hid (HV8.out.grown HG9.out HV8.out.size fun g' hg' => (HO8.out.base_ hg').1)
          have HOE : Hid (Own Y9 V.heap.size v9 (rows f' (k + 1))) := Lib.hid (by rw [rows_succ, HFK.out]; first | exact HO9.out | (rw [← List.append_assoc]; exact HO9.out))
          clear HG9 HL9 HO9 hsl
          go_wp2
          go_roundw
          case rel => exact ⟨k + 1, by omega, by go_num, HOE, HV9⟩
          case measure => simp [intOf]; omega
      · refine step_new rfl 48 rfl z16 (by kernel_rfl) ?_
        have hB : Below X0.heap.size X0 (X0.alloc (.cells z16 48)) := (Below.refl _ _).alloc (Nat.le_refl _) _
        have HWX1 := Lib.hid (HWX0.out.trans (hB.mono HWX0.out.size))
        have HGX1 : Hid (Blk (X0.alloc (.cells z16 48)) X0.heap.size 48 (w8 (List.replicate 16 0))) := Lib.hid (by
          have h := Blk.new X0 48 (w8 (List.replicate 16 0))
          rw [z16_eq] at h
          exact h)
        have hgG : wr.heap.size ≤ X0.heap.size := HWX0.out.size
        clear hB
        refine hK.out _ _ (HWX1.out) (fun hHeld => ?_)
        generalize (X0.alloc (.cells z16 48)) = X1 at hHeld HWX1 HGX1 ⊢
        generalize X0.heap.size = gG at HGX1 hgG ⊢
        clear hK K
        show wpAnyH _ _ _ _ _ _ _ (Act.put _ (some 9) _) _
        simp only [Act.put, List.setIfInBounds_toArray, List.set_cons_zero, List.set_cons_succ]
        refine wpAnyH_ready (rs := [5]) (by kernel_rfl) (by simp) ?_
        refine AllReadyH.cons rfl (fun K hK => ?_) AllReadyH.nil
        refine step_call rfl 68 #[.tmp 15, .tmp 19] #[40, 48] rfl #[.agg #[.string f, .string r], .agg (w8 (pcs S k)).toArray] (by simp [Act.eval]) (by go_simp) (HI2.out X1) ?_
        rintro e X2 ⟨rfl, hB⟩
        have HWX2 := Lib.hid (HWX1.out.trans (hB.mono HWX1.out.size))
        have HGX2 := Lib.hid (HGX1.out.below hB HGX1.out.lt)
        clear hB HWX1 HGX1 
        refine ⟨_, rfl, hK.out _ _ (HWX2.out) (fun hHeld => ?_)⟩
        clear hK K
        show wpAnyH _ _ _ _ _ _ _ (Act.put _ (some 20) _) _
        simp only [Act.put, List.setIfInBounds_toArray, List.set_cons_zero, List.set_cons_succ]
        refine wpAnyH_ready (rs := [7]) (by kernel_rfl) (by simp) ?_
        refine AllReadyH.cons rfl (fun K hK => ?_) AllReadyH.nil
        refine step_store_mid rfl 48 (.tmp 9) (.tmp 20) rfl gG 0 (w8 c) rfl rfl (HTHo.out _ HGX2.out) HIc.out (w8_one _) ?_
        refine hK.out _ _ (below_cells _ _ _ HWX2.out hgG) (fun hHeld => ?_)
        have HGX3 : Hid (Blk (X2.setCells gG 0 (w8 c)) gG 48 (w8 c)) := Lib.hid (by
          have h := Blk.put8 [] (List.replicate 16 0) [] c (by rw [List.nil_append, List.append_nil]; exact HGX2.out) (by rw [HcL.out]; simp) 0 rfl
          rw [List.nil_append, List.append_nil] at h
          exact h)
        have HWX3 := Lib.hid (below_cells (g := gG) (w8 c) 0 X2 HWX2.out hgG)
        clear HGX2 HWX2
        generalize X2.setCells gG 0 (w8 c) = X3 at hHeld HGX3 HWX3 ⊢
        clear hK K
        show wpAnyH _ _ _ _ _ _ _ (Act.put _ none _) _
        simp only [Act.put]
        refine wpAnyH_done (by kernel_rfl) ?_ _
        clear hHeld
        have HOX := Lib.hid (HO.out.below HWX3.out)
        have HVX := Lib.hid (HV.out.trans (HWX3.out.mono HV.out.size))
        have hszX := HWX3.out.size
        have HSX := Lib.hid ((HSg.out.below HVX.out (by omega)).piece (32 + k) (512 + k * 16) (by omega))
        rw [Hoe.out] at HSX
        have HLA := Lib.hid (heap_alloc_last X3 (.cells z16 48))
        go_upto_region 7 with (first | (refine wpList_load_mid rfl 48 (.tmp 23) rfl (w.heap.size + 1) (512 + k * 16) rfl (w8 o) _ HSX.out Tryd.underlying48 rfl HIo.out ?_) | (refine wpList_store_row rfl 48 (.tmp 10) (.tmp 24) rfl X3.heap.size (w8 o).toArray rfl rfl 48 _ HLA.out HIoa.out HZo.out HOo.out ?_; rw [World.setRow_alloc_new]))
        have HQ1 : Hid (Blk (X3.alloc (.cells (w8 o).toArray 48)) X3.heap.size 48 (w8 o)) := Lib.hid (Blk.new _ _ _)
        have HQ2 := Lib.hid (HGX3.out.alloc (.cells (w8 o).toArray 48))
        have HQ3 : Hid (Below X3.heap.size X3 (X3.alloc (.cells (w8 o).toArray 48))) := Lib.hid ((Below.refl _ _).alloc (Nat.le_refl _) _)
        generalize X3.alloc (.cells (w8 o).toArray 48) = Y6 at HQ1 HQ2 HQ3 ⊢
        have HOY := Lib.hid (HOX.out.below HQ3.out)
        have HVY := Lib.hid (HVX.out.trans (HQ3.out.mono HVX.out.size))
        generalize X3.heap.size = gO at HQ1 hszX ⊢
        have HDR := Lib.hid (HD.out.below HVY.out (by omega)).all
        clear HLA HSX HOX HVX HWX3 HGX3 HQ3
        go_wp2_with (first | (refine wpList_load_mid rfl 29 (.tmp 5) rfl (w.heap.size + 1 + 1) 0 rfl (w8 d) _ HDR.out Tryd.underlying29 rfl HDS.out ?_))
        refine (rbit_any d k Y6 HDL HDP hlt).mono ?_
        rintro e Y7 ⟨hE7, hB7⟩
        have HVZ := Lib.hid (HVY.out.trans (hB7.mono HVY.out.size))
        have HOZ := Lib.hid (HOY.out.below hB7)
        have HZ1 := Lib.hid (HQ1.out.below hB7 HQ1.out.lt)
        have HZ2 := Lib.hid (HQ2.out.below hB7 HQ2.out.lt)
        have hVw := HV.out.size
        clear hB7 HVY HOY HQ1 HQ2 HDR
        rcases bitN_two d k with h0 | h0
        · have HFK : Hid (f' k = c ++ o) := Lib.hid (by rw [HF.out k, h0, Hce.out, Hoe.out]; rfl)
          rw [h0] at hE7
          subst hE7
          clear h0
          have HSa : Hid (Src Y7 w.heap.size (some ⟨gG, 0, none⟩) 16 c) := Lib.hid (Src.blk (rest := []) (by rw [List.append_nil]; exact HZ2.out) (by omega) (HcB.out) 16 (by rw [HcL.out]; omega))
          have HNa : Hid (16 = c.length) := Lib.hid HcL.out.symm
          have HMa : Hid ((rows f' k).length + c.length ≤ 140737488355328) := Lib.hid (by rw [HRL.out, HcL.out]; omega)
          have hsl := slice16r gG 0
          go_wp2_with (at_builtin; refine wpList_app rfl (.tmp 29) (.tmp 30) rfl V.heap.size w.heap.size _ _ c rfl HOZ.out (some ⟨gG, 0, none⟩) 16 16 rfl HNa.out HSa.out HMa.out HVZ.out.size ?_)
          intro v8 Y8 HO8 HG8 HL8
          have HV8 : Hid (Below V.heap.size V Y8) := Lib.hid (HVZ.out.grown HG8.out HVZ.out.size fun g' hg' => (HOZ.out.base_ hg').1)
          have HZ8 : Hid (Blk Y8 gO 48 (w8 o)) := Lib.hid (HZ1.out.grown HG8.out (fun he => by have h1 := HOlt.out _ he.symm; omega))
          clear HG8 HL8 HSa HNa HMa hsl
          have HSa : Hid (Src Y8 w.heap.size (some ⟨gO, 0, none⟩) 16 o) := Lib.hid (Src.blk (rest := []) (by rw [List.append_nil]; exact HZ8.out) (by omega) (HoB.out) 16 (by rw [HoL.out]; omega))
          have HNa : Hid (16 = o.length) := Lib.hid HoL.out.symm
          have HMa : Hid ((rows f' k ++ c).length + o.length ≤ 140737488355328) := Lib.hid (by rw [List.length_append, HRL.out, HcL.out, HoL.out]; omega)
          have hsl := slice16r gO 0
          go_wp2_with (at_builtin; refine wpList_app rfl (.tmp 32) (.tmp 33) rfl V.heap.size w.heap.size _ _ o rfl HO8.out (some ⟨gO, 0, none⟩) 16 16 rfl HNa.out HSa.out HMa.out HV8.out.size ?_)
          intro v9 Y9 HO9 HG9 HL9
          have HV9 : Hid (Below V.heap.size V Y9) := Lib.hid (HV8.out.grown HG9.out HV8.out.size fun g' hg' => (HO8.out.base_ hg').1)
          have HOE : Hid (Own Y9 V.heap.size v9 (rows f' (k + 1))) := Lib.hid (by rw [rows_succ, HFK.out]; first | exact HO9.out | (rw [← List.append_assoc]; exact HO9.out))
          clear HG9 HL9 HO9 hsl
          go_wp2
          go_roundw
          case rel => exact ⟨k + 1, by omega, by go_num, HOE, HV9⟩
          case measure => simp [intOf]; omega
        · have HFK : Hid (f' k = o ++ c) := Lib.hid (by rw [HF.out k, h0, Hce.out, Hoe.out]; rfl)
          rw [h0] at hE7
          subst hE7
          clear h0
          have HSa : Hid (Src Y7 w.heap.size (some ⟨gO, 0, none⟩) 16 o) := Lib.hid (Src.blk (rest := []) (by rw [List.append_nil]; exact HZ1.out) (by omega) (HoB.out) 16 (by rw [HoL.out]; omega))
          have HNa : Hid (16 = o.length) := Lib.hid HoL.out.symm
          have HMa : Hid ((rows f' k).length + o.length ≤ 140737488355328) := Lib.hid (by rw [HRL.out, HoL.out]; omega)
          have hsl := slice16r gO 0
          go_wp2_with (at_builtin; refine wpList_app rfl (.tmp 35) (.tmp 36) rfl V.heap.size w.heap.size _ _ o rfl HOZ.out (some ⟨gO, 0, none⟩) 16 16 rfl HNa.out HSa.out HMa.out HVZ.out.size ?_)
          intro v8 Y8 HO8 HG8 HL8
          have HV8 : Hid (Below V.heap.size V Y8) := Lib.hid (HVZ.out.grown HG8.out HVZ.out.size fun g' hg' => (HOZ.out.base_ hg').1)
          have HZ8 : Hid (Blk Y8 gG 48 (w8 c)) := Lib.hid (HZ2.out.grown HG8.out (fun he => by have h1 := HOlt.out _ he.symm; omega))
          clear HG8 HL8 HSa HNa HMa hsl
          have HSa : Hid (Src Y8 w.heap.size (some ⟨gG, 0, none⟩) 16 c) := Lib.hid (Src.blk (rest := []) (by rw [List.append_nil]; exact HZ8.out) (by omega) (HcB.out) 16 (by rw [HcL.out]; omega))
          have HNa : Hid (16 = c.length) := Lib.hid HcL.out.symm
          have HMa : Hid ((rows f' k ++ o).length + c.length ≤ 140737488355328) := Lib.hid (by rw [List.length_append, HRL.out, HcL.out, HoL.out]; omega)
          have hsl := slice16r gG 0
          go_wp2_with (at_builtin; refine wpList_app rfl (.tmp 38) (.tmp 39) rfl V.heap.size w.heap.size _ _ c rfl HO8.out (some ⟨gG, 0, none⟩) 16 16 rfl HNa.out HSa.out HMa.out HV8.out.size ?_)
          intro v9 Y9 HO9 HG9 HL9
          have HV9 : Hid (Below V.heap.size V Y9) := Lib.hid (HV8.out.grown HG9.out HV8.out.size fun g' hg' => (HO8.out.base_ hg').1)
          have HOE : Hid (Own Y9 V.heap.size v9 (rows f' (k + 1))) := Lib.hid (by rw [rows_succ, HFK.out]; first | exact HO9.out | (rw [← List.append_assoc]; exact HO9.out))
          clear HG9 HL9 HO9 hsl
          go_wp2
          go_roundw
          case rel => exact ⟨k + 1, by omega, by go_num, HOE, HV9⟩
          case measure => simp [intOf]; omega
    · obtain rfl : k = 32 := by omega
      obtain ⟨A5, c5, hv5, hc5, hs5⟩ := HO.out.srcB (b := wr.heap.size + 1) (by omega) HFB.out
      rw [HRL.out] at hv5
      subst hv5
      have HS5 := Lib.hid hs5
      have hw2 : V.heap.size ≤ wr.heap.size := HV.out.size
      have HTK := Lib.hid (HT.out.below HV.out (by omega)).all
      clear hs5
      go_wp2_with (first | (refine wpList_load_mid rfl 40 (.tmp 3) rfl w.heap.size 0 rfl [.string f, .string r] _ HTK.out Tryd.underlying40 rfl info40 ?_))
      have HC : Hid (Blk (wr.alloc (.cells #[.slice A5 (32 * 32) c5] 30)) wr.heap.size 30 ([.slice A5 (32 * 32) c5])) := Lib.hid (by
        have h := Blk.new wr 30 ([.slice A5 (32 * 32) c5])
        exact h)
      have HV1 : Hid (Below wr.heap.size wr (wr.alloc (.cells #[.slice A5 (32 * 32) c5] 30))) := Lib.hid ((Below.refl _ _).alloc (Nat.le_refl _) _)
      generalize (wr.alloc (.cells #[.slice A5 (32 * 32) c5] 30)) = V1 at HC HV1 ⊢
      have HW1 := Lib.hid (HW.out.trans ((HV.out.trans (HV1.out.mono hw2)).mono (by omega)))
      have HP1 := Lib.hid (Parts.one (b := wr.heap.size + 1) (x := rows f' 32) HC.out HRL.out.symm (by omega) hc5 (HS5.out.below HV1.out))
      have HB1 := Lib.hid ((HR.out.below HV.out (by omega)).below HV1.out (by omega))
      refine (reffor_any f r 2 1 1 _ _ [rows f' 32] V1 HX (by omega) HP1 (Lib.hid rfl) (by omega) (Lib.hid (by simp [HRL.out])) (Lib.hid (by simpa using HFB.out))).mono ?_
      rintro e V2 ⟨rfl, hB2⟩
      have HW3 := Lib.hid (HW1.out.trans (hB2.mono HW1.out.size))
      have HB3 := Lib.hid (HB1.out.below hB2 HB1.out.lt)
      clear hB2
      rw [← HFR.out]
      have HS6 : Hid ((Tryd.prog.info? 29).map (·.size) = some (w8 (fromN S d)).toArray.size) := Lib.hid (by rw [List.size_toArray, w8_length, fromN_length]; exact info29)
      have HZ6 : Hid ((w8 (List.replicate 32 0)).toArray.size = (w8 (fromN S d)).toArray.size) := Lib.hid (by rw [List.size_toArray, List.size_toArray, w8_length, w8_length, fromN_length]; simp)
      have HO6 := Lib.hid (all_oneCell_toArray (w8_one (fromN S d)))
      go_wp2_with (first | (refine wpList_store_row rfl 29 (.tmp 6) (.tmp 44) rfl (w.heap.size + 1 + 1 + 1) (w8 (fromN S d)).toArray rfl rfl 29 _ HB3.out HS6.out HZ6.out HO6.out ?_))
      exact bodyPost_ret (v := .agg (w8 (fromN S d)).toArray) (results_cell_row Tryd.results29 _ _ (w.heap.size + 1 + 1 + 1) 29 (w8 (fromN S d)).toArray (0, 0) _ rfl (HB3.out.setRow _) Tryd.underlying29 rfl HS6.out) rfl ⟨rfl, below_setRow HW3.out (by omega) _⟩

end Go.Proofs.YtkonokjhpddbfaaDoor
