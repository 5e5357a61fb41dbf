/-
  deed.First (24), Whole (22) and Bytes (25) of it, the law's awake (6).
-/
import Derived.Test.YtbdjlnejlkiijaaDoorRRRDeI
import Derived.Test.YtbdjlnejlkiijaaDoorRRRDeD
namespace Go.Proofs.YtbdjlnejlkiijaaDoorRRR
open Go.RowKit
set_option linter.unusedVariables false
set_option linter.unusedSimpArgs false

theorem info40j : (Tryd.prog.info? 40).map (·.size) = some 7 := by kernel_rfl
/-- Two signatures of nothing. -/
def zt : List Value := w8 (List.replicate 1024 0) ++ [.int .u32 0, .slice none 0 0] ++ (w8 (List.replicate 1024 0) ++ [.int .u32 0, .slice none 0 0])
theorem zt_length : zt.length = 2052 := by
  unfold zt
  rw [List.length_append, List.length_append, w8_length, List.length_replicate]
  rfl
theorem zt_one : ∀ v ∈ zt, v.oneCell' = true := by
  intro v hv
  unfold zt at hv
  simp only [List.mem_append, List.mem_cons, List.not_mem_nil, or_false] at hv
  rcases hv with (h | rfl | rfl) | (h | rfl | rfl)
  · exact w8_one _ v h
  · rfl
  · rfl
  · exact w8_one _ v h
  · rfl
  · rfl
/-- The deed of the round nothing, as cells. -/
def stC (ch : Int) : List Value := [.int .u32 ch, .int .u64 0, .int .u64 0, .int .u64 0, .int .u64 0, .int .u64 0, .slice none 0 0]
def fstC (ch : Int) : List Value := stC ch ++ zt
theorem fst_length (ch : Int) : (fstC ch).length = 2059 := by unfold fstC; rw [List.length_append, zt_length]; rfl
theorem fst_one (ch : Int) : ∀ v ∈ fstC ch, v.oneCell' = true := by
  intro v hv
  rcases List.mem_append.1 hv with h | h
  · simp only [stC, List.mem_cons, List.not_mem_nil, or_false] at h
    rcases h with rfl | rfl | rfl | rfl | rfl | rfl | rfl <;> rfl
  · exact zt_one v h
theorem info75 : (Tryd.prog.info? 75).map (·.size) = some 2059 := by kernel_rfl
theorem zc75 : (fstC 0).toArray = Tryd.zeroCells75 := by kernel_rfl
theorem built75 (ch : Int) (W : World) : (Instr.build 75 #[(0, .agg #[.int .u32 ch, .int .u64 0, .int .u64 0, .int .u64 0, .int .u64 0, .int .u64 0, .slice none 0 0])]).run Tryd.prog W = .ok (.agg (fstC ch).toArray) W := run_build W 75 _ _ (by kernel_rfl)
theorem fst_row {w : World} {g : Nat} {t : TypeId} {ch : Int} (h : Blk w g t (fstC ch)) : w.rangeAt g 0 (stC ch) := fun j u hu => by
  refine h.all j u ?_
  unfold fstC
  rw [List.getElem?_append_left (List.getElem?_eq_some_iff.1 hu).1]
  exact hu
theorem fst_0 (ch : Int) : (fstC ch)[0]? = some (.int .u32 ch) := rfl
theorem fst_1 (ch : Int) : (fstC ch)[1]? = some (.int .u64 0) := rfl

set_option maxRecDepth 100000 in
set_option maxHeartbeats 4000000 in
theorem first_any (ch : Int) (w : World) : Calls Tryd.prog 24 #[.int .u32 ch] w fun e w' => e = .returned (.agg (fstC ch).toArray) ∧ Below w.heap.size w w' := by
  have HI : Hid ((Tryd.prog.info? 75).map (·.size) = some (fstC ch).toArray.size) := Lib.hid (by rw [List.size_toArray, fst_length]; exact info75)
  have HZ : Hid (Tryd.zeroCells75.size = (fstC ch).toArray.size) := Lib.hid (by rw [← zc75, List.size_toArray, List.size_toArray, fst_length, fst_length])
  have HO := Lib.hid (all_oneCell_toArray (fst_one ch))
  have hb := fun W => built75 ch W
  go_enter Tryd.func24, Tryd.ntmps24
  go_upto_region 1 with fail
  have HR : Hid ((w.alloc (.cells Tryd.zeroCells75 75)).heap[w.heap.size]? = some (.cells Tryd.zeroCells75 75 (0, 0))) := Lib.hid (heap_alloc_last w _)
  have HB : Hid (Below w.heap.size w (w.alloc (.cells Tryd.zeroCells75 75))) := Lib.hid ((Below.refl _ _).alloc (Nat.le_refl _) _)
  generalize w.alloc (.cells Tryd.zeroCells75 75) = V at HR HB ⊢
  have HLT : Hid (w.heap.size < V.heap.size) := Lib.hid (Array.getElem?_eq_some_iff.1 HR.out).1
  go_wp2_with fail
  refine (pnew_any ch V).mono ?_
  rintro e V2 ⟨rfl, hB⟩
  have HR2 : Hid (V2.heap[w.heap.size]? = some (.cells Tryd.zeroCells75 75 (0, 0))) := Lib.hid ((hB.block _ HLT.out).trans HR.out)
  have HB2 := Lib.hid (HB.out.trans (hB.mono HB.out.size))
  clear hB HR HB
  go_wp2_with (first | (refine wpList_build_v rfl 75 _ rfl #[(0, .agg #[.int .u32 ch, .int .u64 0, .int .u64 0, .int .u64 0, .int .u64 0, .int .u64 0, .slice none 0 0])] (by simp [Act.eval]) _ (hb _) ?_) | (refine wpList_store_row rfl 75 (.tmp 2) (.tmp 5) rfl w.heap.size (fstC ch).toArray rfl rfl 75 _ HR2.out HI.out HZ.out HO.out ?_))
  exact bodyPost_ret (v := .agg (fstC ch).toArray) (results_cell_row Tryd.results24 _ _ w.heap.size 75 (fstC ch).toArray (0, 0) _ rfl (setRow_heap _ _ _ _ _ _ HR2.out) Tryd.underlying75 rfl HI.out) rfl ⟨rfl, below_setRow HB2.out (Nat.le_refl _) _⟩

set_option maxRecDepth 100000 in
set_option maxHeartbeats 4000000 in
theorem whole_first (kr : Array Value) (ch c2 : Int) (w : World) : Calls Tryd.prog 22 #[.agg kr, .agg (fstC ch).toArray, .int .u32 c2] w fun e w' => e = .returned (.bool (decide (ch = c2))) ∧ Below w.heap.size w w' := by
  go_enter Tryd.func22, Tryd.ntmps22
  go_upto_region 1 with fail
  have HD : Hid (Blk ((w.alloc (.cells kr 79)).alloc (.cells (fstC ch).toArray 75)) (w.heap.size + 1) 75 (fstC ch)) := Lib.hid (by
    have h := Blk.new (w.alloc (.cells kr 79)) 75 (fstC ch)
    rw [World.size_alloc] at h
    exact h)
  have HB : Hid (Below w.heap.size w ((w.alloc (.cells kr 79)).alloc (.cells (fstC ch).toArray 75))) := Lib.hid (((Below.refl _ _).alloc (Nat.le_refl _) _).alloc (by simp) _)
  generalize (w.alloc (.cells kr 79)).alloc (.cells (fstC ch).toArray 75) = V at HD HB ⊢
  generalize w.heap.size + 1 = g at HD ⊢
  have c0 : V.cell? ⟨g, 0, none⟩ = some (.int .u32 ch) := by rw [HD.out.cell]; exact fst_0 ch
  by_cases h : ch = c2
  · subst h
    have HSM : Hid (∀ W : World, Calls Tryd.prog 42 #[.agg (stC ch).toArray, .agg #[.int .u32 ch, .int .u64 0, .int .u64 0, .int .u64 0, .int .u64 0, .int .u64 0, .slice none 0 0]] W fun e w' => e = .returned (.bool true) ∧ Below W.heap.size W w') := Lib.hid (fun W => (same_any ch 0 0 0 0 0 none 0 0 [] ch 0 0 0 0 0 none 0 0 [] W (CRow.nil W none) rfl (by omega) (CRow.nil W none) rfl (by omega)).mono fun e w' h => ⟨h.1.trans (by rw [decide_eq_true rfl]), h.2⟩)
    have E := HB
    have P := HD
    go_upto_region 3 with fail
    clear c0
    have hBz : Below V.heap.size V V.drew := below_drewN (Below.refl _ _) 1
    have EX0 : Hid (Below w.heap.size w V.drew) := Lib.hid (E.out.trans (hBz.mono E.out.size))
    have PX0 : Hid (Blk V.drew g 75 (fstC ch)) := Lib.hid (P.out.below hBz P.out.lt)
    clear hBz
    refine wp_region_held_drew (S := fun w' => Blk w' g 75 (fstC ch)) (by kernel_rfl) (PX0.out) (fun hHeld => ?_)
    generalize V.drew = X0 at hHeld EX0 PX0 ⊢
    refine wpAnyH_take (i := 0) (v := .pointer (some ⟨g, 0, none⟩)) rfl (by kernel_rfl) (by kernel_rfl) (by kernel_rfl) (fun _ _ _ h => h) (Or.inl ⟨by rfl, by intro w' h; go_simp⟩) hHeld ?_
    show wpAnyH _ _ _ _ _ _ _ (Act.put _ (some 12) _) _
    simp only [Act.put, List.setIfInBounds_toArray, List.set_cons_zero, List.set_cons_succ]
    refine wpAnyH_take (i := 1) (v := .agg (stC ch).toArray) rfl (by kernel_rfl) (by kernel_rfl) (by kernel_rfl) (fun _ _ _ h => h) (yieldsIf_load_mid rfl 40 (.tmp 12) rfl g 0 rfl (stC ch) _ (fun w' h => fst_row h) Tryd.underlying40 rfl info40j) hHeld ?_
    show wpAnyH _ _ _ _ _ _ _ (Act.put _ (some 13) _) _
    simp only [Act.put, List.setIfInBounds_toArray, List.set_cons_zero, List.set_cons_succ]
    refine wpAnyH_take (i := 2) (v := .int .u32 ch) rfl (by kernel_rfl) (by kernel_rfl) (by kernel_rfl) (fun _ _ _ h => h) (Or.inl ⟨by rfl, fun w _ => by rfl⟩) hHeld ?_
    show wpAnyH _ _ _ _ _ _ _ (Act.put _ (some 14) _) _
    simp only [Act.put, List.setIfInBounds_toArray, List.set_cons_zero, List.set_cons_succ]
    refine wpAnyH_ready (rs := [3]) (by kernel_rfl) (by simp) ?_
    refine AllReadyH.cons rfl (fun K hK => ?_) AllReadyH.nil
    refine step_call rfl 43 #[.tmp 14] #[22] rfl #[.int .u32 ch] (by simp [Act.eval]) (by go_simp) (pnew_any ch X0) ?_
    rintro e X1 ⟨rfl, hB⟩
    have EX1 : Hid (Below w.heap.size w X1) := Lib.hid (EX0.out.trans (hB.mono EX0.out.size))
    have PX1 : Hid (Blk X1 g 75 (fstC ch)) := Lib.hid (PX0.out.below hB PX0.out.lt)
    clear EX0 PX0 hB
    refine ⟨_, rfl, hK.out _ _ (PX1.out) (fun hHeld => ?_)⟩
    clear hK K
    show wpAnyH _ _ _ _ _ _ _ (Act.put _ (some 15) _) _
    simp only [Act.put, List.setIfInBounds_toArray, List.set_cons_zero, List.set_cons_succ]
    refine wpAnyH_ready (rs := [4]) (by kernel_rfl) (by simp) ?_
    refine AllReadyH.cons rfl (fun K hK => ?_) AllReadyH.nil
    refine step_call rfl 42 #[.tmp 13, .tmp 15] #[40, 40] rfl #[.agg (stC ch).toArray, .agg #[.int .u32 ch, .int .u64 0, .int .u64 0, .int .u64 0, .int .u64 0, .int .u64 0, .slice none 0 0]] (by simp [Act.eval]) (by go_simp) (HSM.out X1) ?_
    rintro e X2 ⟨rfl, hB⟩
    have EX2 : Hid (Below w.heap.size w X2) := Lib.hid (EX1.out.trans (hB.mono EX1.out.size))
    have PX2 : Hid (Blk X2 g 75 (fstC ch)) := Lib.hid (PX1.out.below hB PX1.out.lt)
    clear EX1 PX1 hB
    refine ⟨_, rfl, hK.out _ _ (PX2.out) (fun hHeld => ?_)⟩
    clear hK K
    show wpAnyH _ _ _ _ _ _ _ (Act.put _ (some 16) _) _
    simp only [Act.put, List.setIfInBounds_toArray, List.set_cons_zero, List.set_cons_succ]
    refine wpAnyH_done (by kernel_rfl) ?_ _
    go_wp2
    go_ret
    exact ⟨by rfl, EX2.out⟩
  · go_wp2
    go_ret
    exact ⟨by rw [show decide (ch = c2) = false from decide_eq_false h]; rfl, HB.out⟩
end Go.Proofs.YtbdjlnejlkiijaaDoorRRR
