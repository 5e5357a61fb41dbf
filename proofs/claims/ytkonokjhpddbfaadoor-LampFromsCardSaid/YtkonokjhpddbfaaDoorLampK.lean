/-
  The document's Leaf (function 23): what it answers; nothing that was there is written.
-/
import Derived.Test.YtkonokjhpddbfaaDoorLampI
namespace Go.Proofs.YtkonokjhpddbfaaDoor
open Go.RowKit
set_option linter.unusedVariables false

/-- A new variable, at a step of a region that draws its order. -/
theorem step_new {ops : Array Oper} {o : Oper} {a : Act} {w : World} {K : Act → World → Prop} {Q : Exit → Act → World → Prop} {E : Prop} (hw : Region.wanted o (yielded ops a.tmps) = true) (t : TypeId) (ho : o.op = .alloc t)
    (cells : Array Value) (hb : (Instr.alloc t true (.tuple #[])).run Tryd.prog w = .ok (.pointer (some ⟨w.heap.size, 0, none⟩)) (w.alloc (.cells cells t)))
    (h : K (a.put o.dst (.pointer (some ⟨w.heap.size, 0, none⟩))) (w.alloc (.cells cells t))) :
    if Region.wanted o (yielded ops a.tmps) = true then Oper.wp Tryd.prog o a w K Q else E := by
  rw [if_pos hw]
  have e : (execOp a.eval o).run Tryd.prog w = .ok (.value (.pointer (some ⟨w.heap.size, 0, none⟩))) (w.alloc (.cells cells t)) := by
    unfold execOp
    simp only [ho, Sem.run_bind, hb, Result.andThen_ok, Sem.run_pure]
  unfold Oper.wp
  rw [e]
  exact h

set_option maxRecDepth 100000 in
set_option maxHeartbeats 1000000 in
theorem rleaf_any (f r : ByteArray) (seed : List Nat) (n : Nat) (w : World) (HX : Hid (Texts f r)) (HL : Hid (seed.length = 32)) (HPB : Hid (∀ x ∈ seed, x < 256)) (hn : n < 4294967296) :
    Calls Tryd.prog 23 #[.agg #[.string f, .string r], .agg (w8 seed).toArray, .int .u32 (n : Int)] w fun e w' => e = .returned (.agg (w8 (leafN seed n)).toArray) ∧ Below w.heap.size w w' := by
  have HPS : Hid ((Tryd.prog.info? 29).map (·.size) = some (w8 seed).length) := Lib.hid (by rw [w8_length, HL.out]; exact info29)
  go_enter Tryd.func23, Tryd.ntmps23
  go_upto_region 1 with fail
  have HT : Hid (Blk (((w.alloc (.cells #[.string f, .string r] 40)).alloc (.cells (w8 seed).toArray 29)).alloc (.cells zsum 29)) w.heap.size 40 ([.string f, .string r])) := Lib.hid (by
    have h := ((Blk.new w 40 ([.string f, .string r])).alloc (.cells (w8 seed).toArray 29)).alloc (.cells zsum 29)
    exact h)
  have HP : Hid (Blk (((w.alloc (.cells #[.string f, .string r] 40)).alloc (.cells (w8 seed).toArray 29)).alloc (.cells zsum 29)) (w.heap.size + 1) 29 (w8 seed)) := Lib.hid (by
    have h := (Blk.new (w.alloc (.cells #[.string f, .string r] 40)) 29 (w8 seed)).alloc (.cells zsum 29)
    rw [World.size_alloc] at h
    exact h)
  have HR : Hid (Blk (((w.alloc (.cells #[.string f, .string r] 40)).alloc (.cells (w8 seed).toArray 29)).alloc (.cells zsum 29)) (w.heap.size + 1 + 1) 29 (w8 (List.replicate 32 0))) := Lib.hid (by
    have h := Blk.new ((w.alloc (.cells #[.string f, .string r] 40)).alloc (.cells (w8 seed).toArray 29)) 29 (w8 (List.replicate 32 0))
    rw [zsum_eq, World.size_alloc, World.size_alloc] at h
    exact h)
  have HW : Hid (Below w.heap.size w (((w.alloc (.cells #[.string f, .string r] 40)).alloc (.cells (w8 seed).toArray 29)).alloc (.cells zsum 29))) := Lib.hid ((((Below.refl _ _).alloc (Nat.le_refl _) _).alloc (by simp) _).alloc (by simp; omega) _)
  unfold zsum at HT HP HR HW
  generalize (((w.alloc (.cells #[.string f, .string r] 40)).alloc (.cells (w8 seed).toArray 29)).alloc (.cells _ 29)) = V at HT HP HR HW ⊢
  have hV : w.heap.size + 1 + 1 < V.heap.size := HR.out.lt
  obtain ⟨g, hg⟩ : ∃ g : Nat → List Nat, g = fun a => covN (secN seed n a 0) ++ covN (secN seed n a 1) := ⟨_, rfl⟩
  have HF : Hid (∀ a, g a = covN (secN seed n a 0) ++ covN (secN seed n a 1)) := Lib.hid fun a => by rw [hg]
  have HFL : Hid (∀ a, (g a).length = 32) := Lib.hid fun a => by rw [hg]; simp [covN_length]
  have HFR : Hid (leafN seed n = sha (text 2 [rows g 32])) := Lib.hid (by unfold leafN leafT; rw [hg])
  have HFB : Hid (∀ x ∈ rows g 32, x < 256) := Lib.hid (by rw [hg]; exact leafT_lt seed n)
  clear hg
  have HI : Hid (∀ a v : Nat, a < 32 → v < 2 → ∀ X : World, Calls Tryd.prog 69 #[.agg #[.string f, .string r], .agg (w8 seed).toArray, .int .u32 (n : Int), .int .i64 (a : Int), .int .i64 (v : Int)] X fun e w' => e = .returned (.agg (w8 (secN seed n a v)).toArray) ∧ Below X.heap.size X w') := Lib.hid fun a v ha hv X => rsecret_any f r seed n a v X HX HL HPB hn ha hv
  have HI2 : Hid (∀ a v : Nat, ∀ X : World, Calls Tryd.prog 68 #[.agg #[.string f, .string r], .agg (w8 (secN seed n a v)).toArray] X fun e w' => e = .returned (.agg (w8 (covN (secN seed n a v))).toArray) ∧ Below X.heap.size X w') := Lib.hid fun a v X => cover_any f r _ X HX (Lib.hid (secN_length _ _ _ _)) (Lib.hid (secN_lt _ _ _ _))
  go_wp2_with fail
  go_loopw [8, 7, 9, 10] (fun i t _ _ wr => ∃ (k : Nat), k ≤ 32 ∧ i = .int .i64 k ∧ Hid (Own wr V.heap.size t (rows g k)) ∧ Hid (Below V.heap.size V wr)) (fun i _ _ _ _ => 32 - (intOf i).toNat)
  case atStart => exact ⟨0, Nat.zero_le _, rfl, Lib.hid (Own.nil _ _), Lib.hid (Below.refl _ _)⟩
  case round =>
    obtain ⟨k, hk, rfl, HO0, HV0⟩ := hrel
    by_cases hlt : k < 32
    · have k1 : (k : Int) < 32 := by omega
      go_wp2_with fail
      go_loopw [9, 7, 10] (fun i t _ wr => ∃ (v : Nat), v ≤ 2 ∧ i = .int .i64 v ∧ Hid (Own wr V.heap.size t (rows g k ++ (g k).take (16 * v))) ∧ Hid (Below V.heap.size V wr)) (fun i _ _ _ => 2 - (intOf i).toNat)
      case atStart => exact ⟨0, Nat.zero_le _, rfl, Lib.hid (by rw [Nat.mul_zero, List.take_zero, List.append_nil]; exact HO0.out), HV0⟩
      case round =>
        clear HO0 HV0
        obtain ⟨v, hv, rfl, HO, HV⟩ := hrel
        by_cases hv2 : v < 2
        · have v1 : (v : Int) < 2 := by omega
          have HTr := Lib.hid (HT.out.below HV.out (by omega))
          have HPr := Lib.hid (HP.out.below HV.out (by omega))
          have HWr : Hid (Below wr.heap.size wr wr) := Lib.hid (Below.refl _ _)
          have HI48 : Hid ((Tryd.prog.info? 48).map (·.size) = some (w8 (covN (secN seed n k v))).length) := Lib.hid (by rw [w8_length, covN_length]; exact info48)
          have HTHo : Hid (∀ (X : World) {gG : Nat}, Blk X gG 48 (w8 (List.replicate 16 0)) → X.there gG 0 (w8 (covN (secN seed n k v))).length) := Lib.hid fun X gG h => h.there _ _ (by rw [w8_length, w8_length, covN_length]; simp)
          have HPT : Hid ((g k).take (16 * (v + 1)) = (g k).take (16 * v) ++ covN (secN seed n k v)) := Lib.hid (by
            rw [HF.out k]
            match v, hv2 with
            | 0, _ => simp [covN_length]
            | 1, _ => rw [List.take_of_length_le (by simp [covN_length]), List.take_append_of_le_length (by simp [covN_length]), List.take_of_length_le (by simp [covN_length])])
          have HM1 : Hid ((rows g k ++ (g k).take (16 * v)).length + (covN (secN seed n k v)).length ≤ 140737488355328) := Lib.hid (by rw [List.length_append, rows_length HFL.out k, covN_length, List.length_take, HFL.out k]; omega)
          go_upto_region 8 with fail
          have HWX0 : Hid (Below wr.heap.size wr wr.drew) := Lib.hid (below_drewN HWr.out 1)
          refine wp_region_held_drew (S := fun w' => Below wr.heap.size wr w') (by kernel_rfl) (HWX0.out) (fun hHeld => ?_)
          generalize wr.drew = X0 at hHeld  HWX0 ⊢
          refine wpAnyH_take (i := 0) (v := .agg #[.string f, .string r]) rfl (by kernel_rfl) (by kernel_rfl) (by kernel_rfl) (fun _ _ _ h => h) (yieldsIf_load_mid (by rfl) 40 (.tmp 3) rfl w.heap.size 0 rfl [.string f, .string r] _ (fun w' h => (HTr.out.below h HTr.out.lt).all) Tryd.underlying40 rfl info40) hHeld ?_
          show wpAnyH _ _ _ _ _ _ _ (Act.put _ (some 19) _) _
          simp only [Act.put, List.setIfInBounds_toArray, List.set_cons_zero, List.set_cons_succ]
          refine wpAnyH_take (i := 1) (v := .agg #[.string f, .string r]) rfl (by kernel_rfl) (by kernel_rfl) (by kernel_rfl) (fun _ _ _ h => h) (yieldsIf_load_mid (by rfl) 40 (.tmp 3) rfl w.heap.size 0 rfl [.string f, .string r] _ (fun w' h => (HTr.out.below h HTr.out.lt).all) Tryd.underlying40 rfl info40) hHeld ?_
          show wpAnyH _ _ _ _ _ _ _ (Act.put _ (some 20) _) _
          simp only [Act.put, List.setIfInBounds_toArray, List.set_cons_zero, List.set_cons_succ]
          refine wpAnyH_take (i := 2) (v := .agg (w8 seed).toArray) rfl (by kernel_rfl) (by kernel_rfl) (by kernel_rfl) (fun _ _ _ h => h) (yieldsIf_load_mid (by rfl) 29 (.tmp 4) rfl (w.heap.size + 1) 0 rfl (w8 seed) _ (fun w' h => (HPr.out.below h HPr.out.lt).all) Tryd.underlying29 rfl HPS.out) hHeld ?_
          show wpAnyH _ _ _ _ _ _ _ (Act.put _ (some 21) _) _
          simp only [Act.put, List.setIfInBounds_toArray, List.set_cons_zero, List.set_cons_succ]
          refine wpAnyH_take (i := 3) (v := .int .u32 (n : Int)) rfl (by kernel_rfl) (by kernel_rfl) (by kernel_rfl) (fun _ _ _ h => h) (Or.inl ⟨by rfl, fun w _ => by rfl⟩) hHeld ?_
          show wpAnyH _ _ _ _ _ _ _ (Act.put _ (some 22) _) _
          simp only [Act.put, List.setIfInBounds_toArray, List.set_cons_zero, List.set_cons_succ]
          refine wpAnyH_take (i := 4) (v := .int .i64 (k : Int)) rfl (by kernel_rfl) (by kernel_rfl) (by kernel_rfl) (fun _ _ _ h => h) (Or.inl ⟨by rfl, fun w _ => by rfl⟩) hHeld ?_
          show wpAnyH _ _ _ _ _ _ _ (Act.put _ (some 23) _) _
          simp only [Act.put, List.setIfInBounds_toArray, List.set_cons_zero, List.set_cons_succ]
          refine wpAnyH_take (i := 5) (v := .int .i64 (v : Int)) rfl (by kernel_rfl) (by kernel_rfl) (by kernel_rfl) (fun _ _ _ h => h) (Or.inl ⟨by rfl, fun w _ => by rfl⟩) hHeld ?_
          show wpAnyH _ _ _ _ _ _ _ (Act.put _ (some 24) _) _
          simp only [Act.put, List.setIfInBounds_toArray, List.set_cons_zero, List.set_cons_succ]
          refine wpAnyH_ready (rs := [6, 8]) (by kernel_rfl) (by simp) ?_
          refine AllReadyH.cons rfl (fun K hK => ?_) (AllReadyH.cons rfl (fun K hK => ?_) AllReadyH.nil)
          · refine step_call rfl 69 #[.tmp 20, .tmp 21, .tmp 22, .tmp 23, .tmp 24] #[40, 29, 38, 3, 3] rfl #[.agg #[.string f, .string r], .agg (w8 seed).toArray, .int .u32 (n : Int), .int .i64 (k : Int), .int .i64 (v : Int)] (by simp [Act.eval]) (by go_simp) (HI.out k v hlt hv2 X0) ?_
            rintro e X1 ⟨rfl, hB⟩
            have HWX1 := Lib.hid (HWX0.out.trans (hB.mono HWX0.out.size))
            clear hB HWX0  
            refine ⟨_, rfl, hK.out _ _ (HWX1.out) (fun hHeld => ?_)⟩
            clear hK K
            show wpAnyH _ _ _ _ _ _ _ (Act.put _ (some 25) _) _
            simp only [Act.put, List.setIfInBounds_toArray, List.set_cons_zero, List.set_cons_succ]
            refine wpAnyH_ready (rs := [7, 8]) (by kernel_rfl) (by simp) ?_
            refine AllReadyH.cons rfl (fun K hK => ?_) (AllReadyH.cons rfl (fun K hK => ?_) AllReadyH.nil)
            · refine step_call rfl 68 #[.tmp 19, .tmp 25] #[40, 48] rfl #[.agg #[.string f, .string r], .agg (w8 (secN seed n k v)).toArray] (by simp [Act.eval]) (by go_simp) (HI2.out k v X1) ?_
              rintro e X2 ⟨rfl, hB⟩
              have HWX2 := Lib.hid (HWX1.out.trans (hB.mono HWX1.out.size))
              clear hB HWX1  
              refine ⟨_, rfl, hK.out _ _ (HWX2.out) (fun hHeld => ?_)⟩
              clear hK K
              show wpAnyH _ _ _ _ _ _ _ (Act.put _ (some 26) _) _
              simp only [Act.put, List.setIfInBounds_toArray, List.set_cons_zero, List.set_cons_succ]
              refine wpAnyH_ready (rs := [8]) (by kernel_rfl) (by simp) ?_
              refine AllReadyH.cons rfl (fun K hK => ?_) AllReadyH.nil
              refine step_new rfl 48 rfl z16 (by kernel_rfl) ?_
              have hB : Below X2.heap.size X2 (X2.alloc (.cells z16 48)) := (Below.refl _ _).alloc (Nat.le_refl _) _
              have HWX3 := Lib.hid (HWX2.out.trans (hB.mono HWX2.out.size))
              have HGX3 : Hid (Blk (X2.alloc (.cells z16 48)) X2.heap.size 48 (w8 (List.replicate 16 0))) := Lib.hid (by
                have h := Blk.new X2 48 (w8 (List.replicate 16 0))
                rw [z16_eq] at h
                exact h)
              have hgG : wr.heap.size ≤ X2.heap.size := HWX2.out.size
              clear hB
              refine hK.out _ _ (HWX3.out) (fun hHeld => ?_)
              generalize (X2.alloc (.cells z16 48)) = X3 at hHeld HWX3 HGX3 ⊢
              generalize X2.heap.size = gG at HGX3 hgG ⊢
              clear hK K
              show wpAnyH _ _ _ _ _ _ _ (Act.put _ (some 10) _) _
              simp only [Act.put, List.setIfInBounds_toArray, List.set_cons_zero, List.set_cons_succ]
              refine wpAnyH_ready (rs := [9]) (by kernel_rfl) (by simp) ?_
              refine AllReadyH.cons rfl (fun K hK => ?_) AllReadyH.nil
              refine step_store_mid rfl 48 (.tmp 10) (.tmp 26) rfl gG 0 (w8 (covN (secN seed n k v))) rfl rfl (HTHo.out _ HGX3.out) HI48.out (w8_one _) ?_
              refine hK.out _ _ (below_cells _ _ _ HWX3.out hgG) (fun hHeld => ?_)
              have HGX4 : Hid (Blk (X3.setCells gG 0 (w8 (covN (secN seed n k v)))) gG 48 (w8 (covN (secN seed n k v)))) := Lib.hid (by
                have h := Blk.put8 [] (List.replicate 16 0) [] (covN (secN seed n k v)) (by rw [List.nil_append, List.append_nil]; exact HGX3.out) (by rw [covN_length]; simp) 0 rfl
                rw [List.nil_append, List.append_nil] at h
                exact h)
              have HWX4 := Lib.hid (below_cells (g := gG) (w8 (covN (secN seed n k v))) 0 X3 HWX3.out hgG)
              clear HGX3 HWX3
              generalize X3.setCells gG 0 (w8 (covN (secN seed n k v))) = X4 at hHeld HGX4 HWX4 ⊢
              clear hK K
              show wpAnyH _ _ _ _ _ _ _ (Act.put _ none _) _
              simp only [Act.put]
              refine wpAnyH_done (by kernel_rfl) ?_ _
              clear hHeld
              have HOX := Lib.hid (HO.out.below HWX4.out)
              have HVX := Lib.hid (HV.out.trans (HWX4.out.mono HV.out.size))
              have hszX := HWX4.out.size
              have HS1 : Hid (Src X4 w.heap.size (some ⟨gG, 0, none⟩) 16 (covN (secN seed n k v))) := Lib.hid (Src.blk (rest := []) (by rw [List.append_nil]; exact HGX4.out) (by have := HV.out.size; omega) (covN_lt _) 16 (by rw [covN_length]; omega))
              have HN1 : Hid (16 = (covN (secN seed n k v)).length) := Lib.hid (covN_length _).symm
              have hsl := slice16r gG 0
              go_wp2_with (at_builtin; refine wpList_app rfl (.tmp 27) (.tmp 28) rfl V.heap.size w.heap.size _ _ (covN (secN seed n k v)) rfl HOX.out (some ⟨gG, 0, none⟩) 16 16 rfl HN1.out HS1.out HM1.out HVX.out.size ?_)
              intro v3 w3 HO3 HG3 HL3
              have HV3 : Hid (Below V.heap.size V w3) := Lib.hid (HVX.out.grown HG3.out HVX.out.size fun g' hg' => (HOX.out.base_ hg').1)
              have HO4 : Hid (Own w3 V.heap.size v3 (rows g k ++ (g k).take (16 * (v + 1)))) := Lib.hid (by rw [HPT.out]; exact HO3.out)
              clear HG3 HL3 HO3 hsl
              go_wp2
              go_roundw
              case rel => exact ⟨v + 1, by omega, by go_num, HO4, HV3⟩
              case measure => simp [intOf]; omega
            · refine step_new rfl 48 rfl z16 (by kernel_rfl) ?_
              have hB : Below X1.heap.size X1 (X1.alloc (.cells z16 48)) := (Below.refl _ _).alloc (Nat.le_refl _) _
              have HWX2 := Lib.hid (HWX1.out.trans (hB.mono HWX1.out.size))
              have HGX2 : Hid (Blk (X1.alloc (.cells z16 48)) X1.heap.size 48 (w8 (List.replicate 16 0))) := Lib.hid (by
                have h := Blk.new X1 48 (w8 (List.replicate 16 0))
                rw [z16_eq] at h
                exact h)
              have hgG : wr.heap.size ≤ X1.heap.size := HWX1.out.size
              clear hB
              refine hK.out _ _ (HWX2.out) (fun hHeld => ?_)
              generalize (X1.alloc (.cells z16 48)) = X2 at hHeld HWX2 HGX2 ⊢
              generalize X1.heap.size = gG at HGX2 hgG ⊢
              clear hK K
              show wpAnyH _ _ _ _ _ _ _ (Act.put _ (some 10) _) _
              simp only [Act.put, List.setIfInBounds_toArray, List.set_cons_zero, List.set_cons_succ]
              refine wpAnyH_ready (rs := [7]) (by kernel_rfl) (by simp) ?_
              refine AllReadyH.cons rfl (fun K hK => ?_) AllReadyH.nil
              refine step_call rfl 68 #[.tmp 19, .tmp 25] #[40, 48] rfl #[.agg #[.string f, .string r], .agg (w8 (secN seed n k v)).toArray] (by simp [Act.eval]) (by go_simp) (HI2.out k v X2) ?_
              rintro e X3 ⟨rfl, hB⟩
              have HWX3 := Lib.hid (HWX2.out.trans (hB.mono HWX2.out.size))
              have HGX3 := Lib.hid (HGX2.out.below hB HGX2.out.lt)
              clear hB HWX2 HGX2 
              refine ⟨_, rfl, hK.out _ _ (HWX3.out) (fun hHeld => ?_)⟩
              clear hK K
              show wpAnyH _ _ _ _ _ _ _ (Act.put _ (some 26) _) _
              simp only [Act.put, List.setIfInBounds_toArray, List.set_cons_zero, List.set_cons_succ]
              refine wpAnyH_ready (rs := [9]) (by kernel_rfl) (by simp) ?_
              refine AllReadyH.cons rfl (fun K hK => ?_) AllReadyH.nil
              refine step_store_mid rfl 48 (.tmp 10) (.tmp 26) rfl gG 0 (w8 (covN (secN seed n k v))) rfl rfl (HTHo.out _ HGX3.out) HI48.out (w8_one _) ?_
              refine hK.out _ _ (below_cells _ _ _ HWX3.out hgG) (fun hHeld => ?_)
              have HGX4 : Hid (Blk (X3.setCells gG 0 (w8 (covN (secN seed n k v)))) gG 48 (w8 (covN (secN seed n k v)))) := Lib.hid (by
                have h := Blk.put8 [] (List.replicate 16 0) [] (covN (secN seed n k v)) (by rw [List.nil_append, List.append_nil]; exact HGX3.out) (by rw [covN_length]; simp) 0 rfl
                rw [List.nil_append, List.append_nil] at h
                exact h)
              have HWX4 := Lib.hid (below_cells (g := gG) (w8 (covN (secN seed n k v))) 0 X3 HWX3.out hgG)
              clear HGX3 HWX3
              generalize X3.setCells gG 0 (w8 (covN (secN seed n k v))) = X4 at hHeld HGX4 HWX4 ⊢
              clear hK K
              show wpAnyH _ _ _ _ _ _ _ (Act.put _ none _) _
              simp only [Act.put]
              refine wpAnyH_done (by kernel_rfl) ?_ _
              clear hHeld
              have HOX := Lib.hid (HO.out.below HWX4.out)
              have HVX := Lib.hid (HV.out.trans (HWX4.out.mono HV.out.size))
              have hszX := HWX4.out.size
              have HS1 : Hid (Src X4 w.heap.size (some ⟨gG, 0, none⟩) 16 (covN (secN seed n k v))) := Lib.hid (Src.blk (rest := []) (by rw [List.append_nil]; exact HGX4.out) (by have := HV.out.size; omega) (covN_lt _) 16 (by rw [covN_length]; omega))
              have HN1 : Hid (16 = (covN (secN seed n k v)).length) := Lib.hid (covN_length _).symm
              have hsl := slice16r gG 0
              go_wp2_with (at_builtin; refine wpList_app rfl (.tmp 27) (.tmp 28) rfl V.heap.size w.heap.size _ _ (covN (secN seed n k v)) rfl HOX.out (some ⟨gG, 0, none⟩) 16 16 rfl HN1.out HS1.out HM1.out HVX.out.size ?_)
              intro v3 w3 HO3 HG3 HL3
              have HV3 : Hid (Below V.heap.size V w3) := Lib.hid (HVX.out.grown HG3.out HVX.out.size fun g' hg' => (HOX.out.base_ hg').1)
              have HO4 : Hid (Own w3 V.heap.size v3 (rows g k ++ (g k).take (16 * (v + 1)))) := Lib.hid (by rw [HPT.out]; exact HO3.out)
              clear HG3 HL3 HO3 hsl
              go_wp2
              go_roundw
              case rel => exact ⟨v + 1, by omega, by go_num, HO4, HV3⟩
              case measure => simp [intOf]; omega
          · refine step_new rfl 48 rfl z16 (by kernel_rfl) ?_
            have hB : Below X0.heap.size X0 (X0.alloc (.cells z16 48)) := (Below.refl _ _).alloc (Nat.le_refl _) _
            have HWX1 := Lib.hid (HWX0.out.trans (hB.mono HWX0.out.size))
            have HGX1 : Hid (Blk (X0.alloc (.cells z16 48)) X0.heap.size 48 (w8 (List.replicate 16 0))) := Lib.hid (by
              have h := Blk.new X0 48 (w8 (List.replicate 16 0))
              rw [z16_eq] at h
              exact h)
            have hgG : wr.heap.size ≤ X0.heap.size := HWX0.out.size
            clear hB
            refine hK.out _ _ (HWX1.out) (fun hHeld => ?_)
            generalize (X0.alloc (.cells z16 48)) = X1 at hHeld HWX1 HGX1 ⊢
            generalize X0.heap.size = gG at HGX1 hgG ⊢
            clear hK K
            show wpAnyH _ _ _ _ _ _ _ (Act.put _ (some 10) _) _
            simp only [Act.put, List.setIfInBounds_toArray, List.set_cons_zero, List.set_cons_succ]
            refine wpAnyH_ready (rs := [6]) (by kernel_rfl) (by simp) ?_
            refine AllReadyH.cons rfl (fun K hK => ?_) AllReadyH.nil
            refine step_call rfl 69 #[.tmp 20, .tmp 21, .tmp 22, .tmp 23, .tmp 24] #[40, 29, 38, 3, 3] rfl #[.agg #[.string f, .string r], .agg (w8 seed).toArray, .int .u32 (n : Int), .int .i64 (k : Int), .int .i64 (v : Int)] (by simp [Act.eval]) (by go_simp) (HI.out k v hlt hv2 X1) ?_
            rintro e X2 ⟨rfl, hB⟩
            have HWX2 := Lib.hid (HWX1.out.trans (hB.mono HWX1.out.size))
            have HGX2 := Lib.hid (HGX1.out.below hB HGX1.out.lt)
            clear hB HWX1 HGX1 
            refine ⟨_, rfl, hK.out _ _ (HWX2.out) (fun hHeld => ?_)⟩
            clear hK K
            show wpAnyH _ _ _ _ _ _ _ (Act.put _ (some 25) _) _
            simp only [Act.put, List.setIfInBounds_toArray, List.set_cons_zero, List.set_cons_succ]
            refine wpAnyH_ready (rs := [7]) (by kernel_rfl) (by simp) ?_
            refine AllReadyH.cons rfl (fun K hK => ?_) AllReadyH.nil
            refine step_call rfl 68 #[.tmp 19, .tmp 25] #[40, 48] rfl #[.agg #[.string f, .string r], .agg (w8 (secN seed n k v)).toArray] (by simp [Act.eval]) (by go_simp) (HI2.out k v X2) ?_
            rintro e X3 ⟨rfl, hB⟩
            have HWX3 := Lib.hid (HWX2.out.trans (hB.mono HWX2.out.size))
            have HGX3 := Lib.hid (HGX2.out.below hB HGX2.out.lt)
            clear hB HWX2 HGX2 
            refine ⟨_, rfl, hK.out _ _ (HWX3.out) (fun hHeld => ?_)⟩
            clear hK K
            show wpAnyH _ _ _ _ _ _ _ (Act.put _ (some 26) _) _
            simp only [Act.put, List.setIfInBounds_toArray, List.set_cons_zero, List.set_cons_succ]
            refine wpAnyH_ready (rs := [9]) (by kernel_rfl) (by simp) ?_
            refine AllReadyH.cons rfl (fun K hK => ?_) AllReadyH.nil
            refine step_store_mid rfl 48 (.tmp 10) (.tmp 26) rfl gG 0 (w8 (covN (secN seed n k v))) rfl rfl (HTHo.out _ HGX3.out) HI48.out (w8_one _) ?_
            refine hK.out _ _ (below_cells _ _ _ HWX3.out hgG) (fun hHeld => ?_)
            have HGX4 : Hid (Blk (X3.setCells gG 0 (w8 (covN (secN seed n k v)))) gG 48 (w8 (covN (secN seed n k v)))) := Lib.hid (by
              have h := Blk.put8 [] (List.replicate 16 0) [] (covN (secN seed n k v)) (by rw [List.nil_append, List.append_nil]; exact HGX3.out) (by rw [covN_length]; simp) 0 rfl
              rw [List.nil_append, List.append_nil] at h
              exact h)
            have HWX4 := Lib.hid (below_cells (g := gG) (w8 (covN (secN seed n k v))) 0 X3 HWX3.out hgG)
            clear HGX3 HWX3
            generalize X3.setCells gG 0 (w8 (covN (secN seed n k v))) = X4 at hHeld HGX4 HWX4 ⊢
            clear hK K
            show wpAnyH _ _ _ _ _ _ _ (Act.put _ none _) _
            simp only [Act.put]
            refine wpAnyH_done (by kernel_rfl) ?_ _
            clear hHeld
            have HOX := Lib.hid (HO.out.below HWX4.out)
            have HVX := Lib.hid (HV.out.trans (HWX4.out.mono HV.out.size))
            have hszX := HWX4.out.size
            have HS1 : Hid (Src X4 w.heap.size (some ⟨gG, 0, none⟩) 16 (covN (secN seed n k v))) := Lib.hid (Src.blk (rest := []) (by rw [List.append_nil]; exact HGX4.out) (by have := HV.out.size; omega) (covN_lt _) 16 (by rw [covN_length]; omega))
            have HN1 : Hid (16 = (covN (secN seed n k v)).length) := Lib.hid (covN_length _).symm
            have hsl := slice16r gG 0
            go_wp2_with (at_builtin; refine wpList_app rfl (.tmp 27) (.tmp 28) rfl V.heap.size w.heap.size _ _ (covN (secN seed n k v)) rfl HOX.out (some ⟨gG, 0, none⟩) 16 16 rfl HN1.out HS1.out HM1.out HVX.out.size ?_)
            intro v3 w3 HO3 HG3 HL3
            have HV3 : Hid (Below V.heap.size V w3) := Lib.hid (HVX.out.grown HG3.out HVX.out.size fun g' hg' => (HOX.out.base_ hg').1)
            have HO4 : Hid (Own w3 V.heap.size v3 (rows g k ++ (g k).take (16 * (v + 1)))) := Lib.hid (by rw [HPT.out]; exact HO3.out)
            clear HG3 HL3 HO3 hsl
            go_wp2
            go_roundw
            case rel => exact ⟨v + 1, by omega, by go_num, HO4, HV3⟩
            case measure => simp [intOf]; omega
        · obtain rfl : v = 2 := by omega
          have HO5 : Hid (Own wr V.heap.size u7 (rows g (k + 1))) := Lib.hid (by
            have h := HO.out
            rw [List.take_of_length_le (by rw [HFL.out k]; omega), ← rows_succ] at h
            exact h)
          clear HO
          go_wp2
          go_roundw
          case rel => exact ⟨k + 1, by omega, by go_num, HO5, HV⟩
          case measure => simp [intOf]; omega
    · obtain rfl : k = 32 := by omega
      have HRL : Hid ((rows g 32).length = 1024) := Lib.hid (rows_length HFL.out 32)
      obtain ⟨A5, c5, hv5, hc5, hs5⟩ := HO0.out.srcB (b := wr.heap.size + 1) (by omega) HFB.out
      rw [HRL.out] at hv5
      subst hv5
      have HS5 := Lib.hid hs5
      have hw2 : V.heap.size ≤ wr.heap.size := HV0.out.size
      have HTK := Lib.hid (HT.out.below HV0.out (by omega)).all
      clear hs5
      go_wp2_with (first | (refine wpList_load_mid rfl 40 (.tmp 3) rfl w.heap.size 0 rfl [.string f, .string r] _ HTK.out Tryd.underlying40 rfl info40 ?_))
      have HC : Hid (Blk (wr.alloc (.cells #[.slice A5 1024 c5] 30)) wr.heap.size 30 ([.slice A5 1024 c5])) := Lib.hid (by
        have h := Blk.new wr 30 ([.slice A5 1024 c5])
        exact h)
      have HV1 : Hid (Below wr.heap.size wr (wr.alloc (.cells #[.slice A5 1024 c5] 30))) := Lib.hid ((Below.refl _ _).alloc (Nat.le_refl _) _)
      generalize (wr.alloc (.cells #[.slice A5 1024 c5] 30)) = V1 at HC HV1 ⊢
      have HW1 := Lib.hid (HW.out.trans ((HV0.out.trans (HV1.out.mono hw2)).mono (by omega)))
      have HP1 := Lib.hid (Parts.one (b := wr.heap.size + 1) (x := rows g 32) HC.out HRL.out.symm (by omega) hc5 (HS5.out.below HV1.out))
      have HB1 := Lib.hid ((HR.out.below HV0.out (by omega)).below HV1.out (by omega))
      refine (reffor_any f r 2 1 1 _ _ [rows g 32] V1 HX (by omega) HP1 (Lib.hid rfl) (by omega) (Lib.hid (by simp [HRL.out])) (Lib.hid (by simpa using HFB.out))).mono ?_
      rintro e V2 ⟨rfl, hB2⟩
      have HW3 := Lib.hid (HW1.out.trans (hB2.mono HW1.out.size))
      have HB3 := Lib.hid (HB1.out.below hB2 HB1.out.lt)
      clear hB2
      rw [← HFR.out]
      have HS6 : Hid ((Tryd.prog.info? 29).map (·.size) = some (w8 (leafN seed n)).toArray.size) := Lib.hid (by rw [List.size_toArray, w8_length, leafN_length]; exact info29)
      have HZ6 : Hid ((w8 (List.replicate 32 0)).toArray.size = (w8 (leafN seed n)).toArray.size) := Lib.hid (by rw [List.size_toArray, List.size_toArray, w8_length, w8_length, leafN_length]; simp)
      have HO6 := Lib.hid (all_oneCell_toArray (w8_one (leafN seed n)))
      go_wp2_with (first | (refine wpList_store_row rfl 29 (.tmp 6) (.tmp 33) rfl (w.heap.size + 1 + 1) (w8 (leafN seed n)).toArray rfl rfl 29 _ HB3.out HS6.out HZ6.out HO6.out ?_))
      exact bodyPost_ret (v := .agg (w8 (leafN seed n)).toArray) (results_cell_row Tryd.results23 _ _ (w.heap.size + 1 + 1) 29 (w8 (leafN seed n)).toArray (0, 0) _ rfl (HB3.out.setRow _) Tryd.underlying29 rfl HS6.out) rfl ⟨rfl, below_setRow HW3.out (by omega) _⟩

end Go.Proofs.YtkonokjhpddbfaaDoor
