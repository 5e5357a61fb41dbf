/-
  law12.Op (11): a wish, as the program's.
-/
import Derived.Test.YtbdjlnejlkiijaaDoorRRRDeF
import Derived.Test.YtbdjlnejlkiijaaDoorRRRDeM
namespace Go.Proofs.YtbdjlnejlkiijaaDoorRRR
open Go.RowKit
set_option linter.unusedVariables false
set_option linter.unusedSimpArgs false

theorem infoD49 : (Tryd.prog.info? 49).map (·.size) = some 39 := by kernel_rfl
theorem opC_one (kd amt : Int) (c : Cnd) (id : Int) : ∀ v ∈ (opC kd amt c id), v.oneCell' = true := by
  intro v hv
  unfold opC at hv
  simp only [List.mem_append, List.mem_cons, List.not_mem_nil, or_false] at hv
  rcases hv with ((rfl | rfl) | h) | rfl
  · rfl
  · rfl
  · exact c.one v h
  · rfl
theorem built49 (kd amt id : Int) (c : Cnd) (hok : c.Ok) (W : World) : (Instr.build 49 #[(0, .int .i64 kd), (1, .int .u64 amt), (2, .agg c.cells.toArray), (3, .int .u64 id)]).run Tryd.prog W = .ok (.agg (opC kd amt c id).toArray) W := by
  obtain ⟨cid, side, camt, h, ex⟩ := c
  have hl : h.length = 32 := hok.h
  refine run_build W 49 _ _ ?_
  match h, hl with
  | [a0, a1, a2, a3, a4, a5, a6, a7, a8, a9, b0, b1, b2, b3, b4, b5, b6, b7, b8, b9, c0, c1, c2, c3, c4, c5, c6, c7, c8, c9, d0, d1], _ =>
    show Program.built Tryd.prog 49 _ = some _
    kernel_rfl
set_option maxRecDepth 100000 in
set_option maxHeartbeats 8000000 in
theorem lop_any (kd amt id : Int) (c : Cnd) (w : World) (HOK : Hid c.Ok) : Calls Tryd.prog 11 #[.agg (opC kd amt c id).toArray] w fun e w' => e = .returned (.agg (opC kd amt c id).toArray) ∧ Below w.heap.size w w' := by
  have HIC : Hid ((Tryd.prog.info? 30).map (·.size) = some c.cells.length) := Lib.hid (by rw [HOK.out.len]; exact info53)
  go_enter Tryd.func11, Tryd.ntmps11
  go_upto_region 1 with fail
  have HP : Hid (Blk ((w.alloc (.cells (opC kd amt c id).toArray 32)).alloc (.cells #[.int .i64 0, .int .u64 0, .int .u64 0, .int .i64 0, .int .u64 0, .int .u8 0, .int .u8 0, .int .u8 0, .int .u8 0, .int .u8 0, .int .u8 0, .int .u8 0, .int .u8 0, .int .u8 0, .int .u8 0, .int .u8 0, .int .u8 0, .int .u8 0, .int .u8 0, .int .u8 0, .int .u8 0, .int .u8 0, .int .u8 0, .int .u8 0, .int .u8 0, .int .u8 0, .int .u8 0, .int .u8 0, .int .u8 0, .int .u8 0, .int .u8 0, .int .u8 0, .int .u8 0, .int .u8 0, .int .u8 0, .int .u8 0, .int .u8 0, .int .u64 0, .int .u64 0] 49)) w.heap.size 32 ((opC kd amt c id))) := Lib.hid (by
    have h := (Blk.new w 32 ((opC kd amt c id))).alloc (.cells #[.int .i64 0, .int .u64 0, .int .u64 0, .int .i64 0, .int .u64 0, .int .u8 0, .int .u8 0, .int .u8 0, .int .u8 0, .int .u8 0, .int .u8 0, .int .u8 0, .int .u8 0, .int .u8 0, .int .u8 0, .int .u8 0, .int .u8 0, .int .u8 0, .int .u8 0, .int .u8 0, .int .u8 0, .int .u8 0, .int .u8 0, .int .u8 0, .int .u8 0, .int .u8 0, .int .u8 0, .int .u8 0, .int .u8 0, .int .u8 0, .int .u8 0, .int .u8 0, .int .u8 0, .int .u8 0, .int .u8 0, .int .u8 0, .int .u8 0, .int .u64 0, .int .u64 0] 49)
    exact h)
  have HR : Hid (Blk ((w.alloc (.cells (opC kd amt c id).toArray 32)).alloc (.cells #[.int .i64 0, .int .u64 0, .int .u64 0, .int .i64 0, .int .u64 0, .int .u8 0, .int .u8 0, .int .u8 0, .int .u8 0, .int .u8 0, .int .u8 0, .int .u8 0, .int .u8 0, .int .u8 0, .int .u8 0, .int .u8 0, .int .u8 0, .int .u8 0, .int .u8 0, .int .u8 0, .int .u8 0, .int .u8 0, .int .u8 0, .int .u8 0, .int .u8 0, .int .u8 0, .int .u8 0, .int .u8 0, .int .u8 0, .int .u8 0, .int .u8 0, .int .u8 0, .int .u8 0, .int .u8 0, .int .u8 0, .int .u8 0, .int .u8 0, .int .u64 0, .int .u64 0] 49)) (w.heap.size + 1) 49 ([.int .i64 0, .int .u64 0, .int .u64 0, .int .i64 0, .int .u64 0, .int .u8 0, .int .u8 0, .int .u8 0, .int .u8 0, .int .u8 0, .int .u8 0, .int .u8 0, .int .u8 0, .int .u8 0, .int .u8 0, .int .u8 0, .int .u8 0, .int .u8 0, .int .u8 0, .int .u8 0, .int .u8 0, .int .u8 0, .int .u8 0, .int .u8 0, .int .u8 0, .int .u8 0, .int .u8 0, .int .u8 0, .int .u8 0, .int .u8 0, .int .u8 0, .int .u8 0, .int .u8 0, .int .u8 0, .int .u8 0, .int .u8 0, .int .u8 0, .int .u64 0, .int .u64 0])) := Lib.hid (by
    have h := Blk.new (w.alloc (.cells (opC kd amt c id).toArray 32)) 49 ([.int .i64 0, .int .u64 0, .int .u64 0, .int .i64 0, .int .u64 0, .int .u8 0, .int .u8 0, .int .u8 0, .int .u8 0, .int .u8 0, .int .u8 0, .int .u8 0, .int .u8 0, .int .u8 0, .int .u8 0, .int .u8 0, .int .u8 0, .int .u8 0, .int .u8 0, .int .u8 0, .int .u8 0, .int .u8 0, .int .u8 0, .int .u8 0, .int .u8 0, .int .u8 0, .int .u8 0, .int .u8 0, .int .u8 0, .int .u8 0, .int .u8 0, .int .u8 0, .int .u8 0, .int .u8 0, .int .u8 0, .int .u8 0, .int .u8 0, .int .u64 0, .int .u64 0])
    rw [World.size_alloc] at h
    exact h)
  have HBV : Hid (Below w.heap.size w ((w.alloc (.cells (opC kd amt c id).toArray 32)).alloc (.cells #[.int .i64 0, .int .u64 0, .int .u64 0, .int .i64 0, .int .u64 0, .int .u8 0, .int .u8 0, .int .u8 0, .int .u8 0, .int .u8 0, .int .u8 0, .int .u8 0, .int .u8 0, .int .u8 0, .int .u8 0, .int .u8 0, .int .u8 0, .int .u8 0, .int .u8 0, .int .u8 0, .int .u8 0, .int .u8 0, .int .u8 0, .int .u8 0, .int .u8 0, .int .u8 0, .int .u8 0, .int .u8 0, .int .u8 0, .int .u8 0, .int .u8 0, .int .u8 0, .int .u8 0, .int .u8 0, .int .u8 0, .int .u8 0, .int .u8 0, .int .u64 0, .int .u64 0] 49))) := Lib.hid (((Below.refl _ _).alloc (Nat.le_refl _) _).alloc (by simp) _)
  generalize ((w.alloc (.cells (opC kd amt c id).toArray 32)).alloc (.cells #[.int .i64 0, .int .u64 0, .int .u64 0, .int .i64 0, .int .u64 0, .int .u8 0, .int .u8 0, .int .u8 0, .int .u8 0, .int .u8 0, .int .u8 0, .int .u8 0, .int .u8 0, .int .u8 0, .int .u8 0, .int .u8 0, .int .u8 0, .int .u8 0, .int .u8 0, .int .u8 0, .int .u8 0, .int .u8 0, .int .u8 0, .int .u8 0, .int .u8 0, .int .u8 0, .int .u8 0, .int .u8 0, .int .u8 0, .int .u8 0, .int .u8 0, .int .u8 0, .int .u8 0, .int .u8 0, .int .u8 0, .int .u8 0, .int .u8 0, .int .u64 0, .int .u64 0] 49)) = V at HP HR HBV ⊢
  have HLR := Lib.hid HR.out.lt
  obtain ⟨gr, hgr⟩ : ∃ x, w.heap.size + 1 = x := ⟨_, rfl⟩
  have HGR : Hid (w.heap.size ≤ gr) := Lib.hid (by omega)
  have hgn : w.heap.size ≠ gr := by omega
  rw [hgr] at HR HLR ⊢
  clear hgr
  obtain ⟨gp, hgp⟩ : ∃ x, w.heap.size = x := ⟨_, rfl⟩
  rw [hgp] at HP hgn ⊢
  have HGN := Lib.hid hgn
  clear hgp hgn
  have P := HP
  have E := Lib.hid (Below.refl V.heap.size V)
  have hBz : Below V.heap.size V V.drew := below_drewN (Below.refl _ _) 1
  have EX0 : Hid (Below V.heap.size V V.drew) := Lib.hid (E.out.trans (hBz.mono E.out.size))
  have PX0 : Hid (Blk V.drew gp 32 (opC kd amt c id)) := Lib.hid (P.out.below hBz P.out.lt)
  clear hBz
  refine wp_region_held_drew (S := fun w' => Blk w' gp 32 (opC kd amt c id)) (by kernel_rfl) (PX0.out) (fun hHeld => ?_)
  generalize V.drew = X0 at hHeld EX0 PX0 ⊢
  refine wpAnyH_take (i := 0) (v := .pointer (some ⟨gp, 0, none⟩)) rfl (by kernel_rfl) (by kernel_rfl) (by kernel_rfl) (fun _ _ _ h => h) (Or.inl ⟨by rfl, by intro w' h; go_simp⟩) hHeld ?_
  show wpAnyH _ _ _ _ _ _ _ (Act.put _ (some 3) _) _
  simp only [Act.put, List.setIfInBounds_toArray, List.set_cons_zero, List.set_cons_succ]
  refine wpAnyH_take (i := 1) (v := .int .i64 kd) rfl (by kernel_rfl) (by kernel_rfl) (by kernel_rfl) (fun _ _ _ h => h) (Or.inl ⟨by rfl, by intro w' h; have k0 := (Blk.cell h 0).trans (opC0); go_simp⟩) hHeld ?_
  show wpAnyH _ _ _ _ _ _ _ (Act.put _ (some 4) _) _
  simp only [Act.put, List.setIfInBounds_toArray, List.set_cons_zero, List.set_cons_succ]
  refine wpAnyH_take (i := 2) (v := .pointer (some ⟨gp, 1, none⟩)) rfl (by kernel_rfl) (by kernel_rfl) (by kernel_rfl) (fun _ _ _ h => h) (Or.inl ⟨by rfl, by intro w' h; go_simp⟩) hHeld ?_
  show wpAnyH _ _ _ _ _ _ _ (Act.put _ (some 5) _) _
  simp only [Act.put, List.setIfInBounds_toArray, List.set_cons_zero, List.set_cons_succ]
  refine wpAnyH_take (i := 3) (v := .int .u64 amt) rfl (by kernel_rfl) (by kernel_rfl) (by kernel_rfl) (fun _ _ _ h => h) (Or.inl ⟨by rfl, by intro w' h; have k0 := (Blk.cell h 1).trans (opC1); go_simp⟩) hHeld ?_
  show wpAnyH _ _ _ _ _ _ _ (Act.put _ (some 6) _) _
  simp only [Act.put, List.setIfInBounds_toArray, List.set_cons_zero, List.set_cons_succ]
  refine wpAnyH_take (i := 4) (v := .pointer (some ⟨gp, 2, none⟩)) rfl (by kernel_rfl) (by kernel_rfl) (by kernel_rfl) (fun _ _ _ h => h) (Or.inl ⟨by rfl, by intro w' h; go_simp⟩) hHeld ?_
  show wpAnyH _ _ _ _ _ _ _ (Act.put _ (some 7) _) _
  simp only [Act.put, List.setIfInBounds_toArray, List.set_cons_zero, List.set_cons_succ]
  refine wpAnyH_take (i := 5) (v := .agg c.cells.toArray) rfl (by kernel_rfl) (by kernel_rfl) (by kernel_rfl) (fun _ _ _ h => h) (yieldsIf_load_mid rfl 30 (.tmp 7) rfl gp 2 rfl c.cells _ (fun w' h => opC_cond h) Tryd.underlying30 rfl HIC.out) hHeld ?_
  show wpAnyH _ _ _ _ _ _ _ (Act.put _ (some 8) _) _
  simp only [Act.put, List.setIfInBounds_toArray, List.set_cons_zero, List.set_cons_succ]
  refine wpAnyH_take (i := 7) (v := .pointer (some ⟨gp, 38, none⟩)) rfl (by kernel_rfl) (by kernel_rfl) (by kernel_rfl) (fun _ _ _ h => h) (Or.inl ⟨by rfl, by intro w' h; go_simp⟩) hHeld ?_
  show wpAnyH _ _ _ _ _ _ _ (Act.put _ (some 10) _) _
  simp only [Act.put, List.setIfInBounds_toArray, List.set_cons_zero, List.set_cons_succ]
  refine wpAnyH_take (i := 8) (v := .int .u64 id) rfl (by kernel_rfl) (by kernel_rfl) (by kernel_rfl) (fun _ _ _ h => h) (Or.inl ⟨by rfl, by intro w' h; have k0 := (Blk.cell h 38).trans (opC38 kd amt id HOK.out); go_simp⟩) hHeld ?_
  show wpAnyH _ _ _ _ _ _ _ (Act.put _ (some 11) _) _
  simp only [Act.put, List.setIfInBounds_toArray, List.set_cons_zero, List.set_cons_succ]
  refine wpAnyH_ready (rs := [6]) (by kernel_rfl) (by simp) ?_
  refine AllReadyH.cons rfl (fun K hK => ?_) AllReadyH.nil
  refine step_call rfl 30 #[.tmp 8] #[30] rfl #[.agg c.cells.toArray] (by simp [Act.eval]) (by go_simp) (cto_any c X0 HOK.out) ?_
  rintro e X1 ⟨rfl, hB⟩
  have EX1 : Hid (Below V.heap.size V X1) := Lib.hid (EX0.out.trans (hB.mono EX0.out.size))
  have PX1 : Hid (Blk X1 gp 32 (opC kd amt c id)) := Lib.hid (PX0.out.below hB PX0.out.lt)
  clear EX0 PX0 hB
  refine ⟨_, rfl, hK.out _ _ (PX1.out) (fun hHeld => ?_)⟩
  clear hK K
  show wpAnyH _ _ _ _ _ _ _ (Act.put _ (some 9) _) _
  simp only [Act.put, List.setIfInBounds_toArray, List.set_cons_zero, List.set_cons_succ]
  refine wpAnyH_take (i := 9) (v := .agg (opC kd amt c id).toArray) rfl (by kernel_rfl) (by kernel_rfl) (by kernel_rfl) (fun _ _ _ h => h) (Or.inl ⟨by rfl, fun w' h => run_build_op rfl #[(0, .int .i64 kd), (1, .int .u64 amt), (2, .agg c.cells.toArray), (3, .int .u64 id)] (by simp [Act.eval]) _ w' (built49 kd amt id c HOK.out w')⟩) hHeld ?_
  show wpAnyH _ _ _ _ _ _ _ (Act.put _ (some 12) _) _
  simp only [Act.put, List.setIfInBounds_toArray, List.set_cons_zero, List.set_cons_succ]
  refine wpAnyH_ready (rs := [10]) (by kernel_rfl) (by simp) ?_
  refine AllReadyH.cons rfl (fun K hK => ?_) AllReadyH.nil
  refine step_store rfl 49 (.tmp 2) (.tmp 12) rfl gr (opC kd amt c id) rfl rfl 49 [.int .i64 0, .int .u64 0, .int .u64 0, .int .i64 0, .int .u64 0, .int .u8 0, .int .u8 0, .int .u8 0, .int .u8 0, .int .u8 0, .int .u8 0, .int .u8 0, .int .u8 0, .int .u8 0, .int .u8 0, .int .u8 0, .int .u8 0, .int .u8 0, .int .u8 0, .int .u8 0, .int .u8 0, .int .u8 0, .int .u8 0, .int .u8 0, .int .u8 0, .int .u8 0, .int .u8 0, .int .u8 0, .int .u8 0, .int .u8 0, .int .u8 0, .int .u8 0, .int .u8 0, .int .u8 0, .int .u8 0, .int .u8 0, .int .u8 0, .int .u64 0, .int .u64 0] (HR.out.below EX1.out HLR.out) (by rw [opC_len _ _ _ HOK.out]; exact infoD49) (by rw [opC_len _ _ _ HOK.out]; rfl) (all_oneCell_toArray (opC_one kd amt c id)) ?_
  intro X2 hR hg
  have hW : Below w.heap.size w X2 := (HBV.out.trans (EX1.out.mono HBV.out.size)).grown hg (by have h1 := HBV.out.size; have h2 := EX1.out.size; omega) (fun k hk => by injection hk with hk; have := HGR.out; omega)
  have PX2 := Lib.hid (PX1.out.grown hg (fun e => by injection e with e; have := HGN.out; omega))
  have HRY := Lib.hid hR
  have HWY := Lib.hid hW
  clear hR hg hW
  refine hK.out _ _ (PX2.out) (fun hHeld => ?_)
  clear hK K
  show wpAnyH _ _ _ _ _ _ _ (Act.put _ none _) _
  simp only [Act.put]
  refine wpAnyH_done (by kernel_rfl) ?_ _
  clear hHeld
  go_wp2
  exact bodyPost_ret (v := .agg (opC kd amt c id).toArray) (results_cell_row Tryd.results11 _ _ gr 49 (opC kd amt c id).toArray (0, 0) _ rfl HRY.out Tryd.underlying49 rfl (by rw [List.size_toArray, opC_len _ _ _ HOK.out]; exact infoD49)) rfl ⟨rfl, HWY.out⟩
end Go.Proofs.YtbdjlnejlkiijaaDoorRRR
