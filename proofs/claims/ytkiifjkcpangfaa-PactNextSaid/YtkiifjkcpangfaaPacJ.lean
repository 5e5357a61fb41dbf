/-
  A wish as the program's.
-/
import Derived.Test.YtkiifjkcpangfaaPacI
namespace Go.Proofs.Ytkiifjkcpangfaa
open Go.RowKit
set_option linter.unusedVariables false

/-- A wish's cells. -/
def ocells (k a : Int) (c : Cnd) (id : Int) : List Value := [Value.int .i64 k, .int .u64 a] ++ c.cells ++ [.int .u64 id]
theorem ocells_length (k a : Int) (c : Cnd) (id : Int) (hok : c.Ok) : (ocells k a c id).length = 39 := by simp [ocells, hok.len]
theorem ocells_size (k a : Int) (c : Cnd) (id : Int) (hok : c.Ok) : (ocells k a c id).toArray.size = 39 := by simpa using ocells_length k a c id hok
theorem ocells_one (k a : Int) (c : Cnd) (id : Int) : (ocells k a c id).toArray.all (·.oneCell') = true := by
  rw [Array.all_eq_true_iff_forall_mem]
  intro v hv
  simp only [ocells, List.mem_toArray, List.mem_append, List.mem_cons, List.not_mem_nil, or_false] at hv
  rcases hv with ((rfl | rfl) | hv) | rfl
  · rfl
  · rfl
  · exact c.one v hv
  · rfl
theorem ocells_c (k a : Int) (c : Cnd) (id : Int) (hok : c.Ok) {w : World} {b o : Nat} (h : w.rangeAt b o (ocells k a c id)) : w.rangeAt b (o + 2) c.cells := fun j v hv => by
  have hj : j < 36 := by
    have := (List.getElem?_eq_some_iff.1 hv).1
    rw [hok.len] at this
    exact this
  have := h (2 + j) v (by
    unfold ocells
    rw [List.append_assoc, List.getElem?_append_right (by simp), List.getElem?_append_left (by simp [hok.len]; omega)]
    simpa using hv)
  rwa [← Nat.add_assoc] at this
theorem ocells_0 (k a : Int) (c : Cnd) (id : Int) : (ocells k a c id)[0]? = some (.int .i64 k) := rfl
theorem ocells_1 (k a : Int) (c : Cnd) (id : Int) : (ocells k a c id)[1]? = some (.int .u64 a) := rfl
theorem ocells_38 (k a : Int) (c : Cnd) (id : Int) (hok : c.Ok) : (ocells k a c id)[38]? = some (.int .u64 id) := by
  unfold ocells
  rw [List.getElem?_append_right (by simp [hok.len])]
  simp [hok.len]
theorem info62 : (Try.prog.info? 62).map (·.size) = some 39 := by kernel_rfl
theorem info55 : (Try.prog.info? 55).map (·.size) = some 39 := by kernel_rfl
theorem built62 (k a : Int) (c : Cnd) (id : Int) (hok : c.Ok) (W : World) : (Instr.build 62 #[(0, .int .i64 k), (1, .int .u64 a), (2, .agg c.cells.toArray), (3, .int .u64 id)]).run Try.prog W = .ok (.agg (ocells k a c id).toArray) W := by
  obtain ⟨id', side, amt, h, ex⟩ := c
  have hl : h.length = 32 := hok.h
  refine run_build W 62 _ _ ?_
  match h, hl with
  | [a0, a1, a2, a3, a4, a5, a6, a7, a8, a9, b0, b1, b2, b3, b4, b5, b6, b7, b8, b9, c0, c1, c2, c3, c4, c5, c6, c7, c8, c9, d0, d1], _ =>
    show Program.built Try.prog 62 _ = some _
    kernel_rfl

set_option maxRecDepth 100000 in
set_option maxHeartbeats 4000000 in
theorem op_any (k a id : Int) (c : Cnd) (w : World) (hok : c.Ok) : Calls Try.prog 25 #[.agg (ocells k a c id).toArray] w fun e w' => e = .returned (.agg (ocells k a c id).toArray) ∧ Below w.heap.size w w' := by
  have HOK := Lib.hid hok
  have hz1 : (Try.prog.info? 62).map (·.size) = some (ocells k a c id).length := by rw [ocells_length k a c id hok]; exact info62
  have hz2 : (Try.prog.info? 62).map (·.size) = some (ocells k a c id).toArray.size := by rw [ocells_size k a c id hok]; exact info62
  have hzc : (Try.prog.info? 53).map (·.size) = some c.cells.length := by rw [hok.len]; exact info53
  have hz3 : ([.int .i64 0, .int .u64 0, .int .u64 0, .int .i64 0, .int .u64 0, .int .u8 0, .int .u8 0, .int .u8 0, .int .u8 0, .int .u8 0, .int .u8 0, .int .u8 0, .int .u8 0, .int .u8 0, .int .u8 0, .int .u8 0, .int .u8 0, .int .u8 0, .int .u8 0, .int .u8 0, .int .u8 0, .int .u8 0, .int .u8 0, .int .u8 0, .int .u8 0, .int .u8 0, .int .u8 0, .int .u8 0, .int .u8 0, .int .u8 0, .int .u8 0, .int .u8 0, .int .u8 0, .int .u8 0, .int .u8 0, .int .u8 0, .int .u8 0, .int .u64 0, .int .u64 0] : List Value).length = (ocells k a c id).length := by rw [ocells_length k a c id hok]; rfl
  have e38 := ocells_38 k a c id hok
  have e0 := ocells_0 k a c id
  have e1 := ocells_1 k a c id
  clear hok
  go_enter Try.func25, Try.ntmps25
  go_upto_region 1 with fail
  have BB : Hid (Below w.heap.size w ((w.alloc (.cells (ocells k a c id).toArray 55)).alloc (.cells #[.int .i64 0, .int .u64 0, .int .u64 0, .int .i64 0, .int .u64 0, .int .u8 0, .int .u8 0, .int .u8 0, .int .u8 0, .int .u8 0, .int .u8 0, .int .u8 0, .int .u8 0, .int .u8 0, .int .u8 0, .int .u8 0, .int .u8 0, .int .u8 0, .int .u8 0, .int .u8 0, .int .u8 0, .int .u8 0, .int .u8 0, .int .u8 0, .int .u8 0, .int .u8 0, .int .u8 0, .int .u8 0, .int .u8 0, .int .u8 0, .int .u8 0, .int .u8 0, .int .u8 0, .int .u8 0, .int .u8 0, .int .u8 0, .int .u8 0, .int .u64 0, .int .u64 0] 62))) := Lib.hid (((Below.refl _ _).alloc (Nat.le_refl _) _).alloc (by simp) _)
  have AA : Hid (Blk ((w.alloc (.cells (ocells k a c id).toArray 55)).alloc (.cells #[.int .i64 0, .int .u64 0, .int .u64 0, .int .i64 0, .int .u64 0, .int .u8 0, .int .u8 0, .int .u8 0, .int .u8 0, .int .u8 0, .int .u8 0, .int .u8 0, .int .u8 0, .int .u8 0, .int .u8 0, .int .u8 0, .int .u8 0, .int .u8 0, .int .u8 0, .int .u8 0, .int .u8 0, .int .u8 0, .int .u8 0, .int .u8 0, .int .u8 0, .int .u8 0, .int .u8 0, .int .u8 0, .int .u8 0, .int .u8 0, .int .u8 0, .int .u8 0, .int .u8 0, .int .u8 0, .int .u8 0, .int .u8 0, .int .u8 0, .int .u64 0, .int .u64 0] 62)) w.heap.size 55 (ocells k a c id)) := Lib.hid ((Blk.new w 55 (ocells k a c id)).alloc _)
  have R : Hid (Blk ((w.alloc (.cells (ocells k a c id).toArray 55)).alloc (.cells #[.int .i64 0, .int .u64 0, .int .u64 0, .int .i64 0, .int .u64 0, .int .u8 0, .int .u8 0, .int .u8 0, .int .u8 0, .int .u8 0, .int .u8 0, .int .u8 0, .int .u8 0, .int .u8 0, .int .u8 0, .int .u8 0, .int .u8 0, .int .u8 0, .int .u8 0, .int .u8 0, .int .u8 0, .int .u8 0, .int .u8 0, .int .u8 0, .int .u8 0, .int .u8 0, .int .u8 0, .int .u8 0, .int .u8 0, .int .u8 0, .int .u8 0, .int .u8 0, .int .u8 0, .int .u8 0, .int .u8 0, .int .u8 0, .int .u8 0, .int .u64 0, .int .u64 0] 62)) (w.heap.size + 1) 62 [.int .i64 0, .int .u64 0, .int .u64 0, .int .i64 0, .int .u64 0, .int .u8 0, .int .u8 0, .int .u8 0, .int .u8 0, .int .u8 0, .int .u8 0, .int .u8 0, .int .u8 0, .int .u8 0, .int .u8 0, .int .u8 0, .int .u8 0, .int .u8 0, .int .u8 0, .int .u8 0, .int .u8 0, .int .u8 0, .int .u8 0, .int .u8 0, .int .u8 0, .int .u8 0, .int .u8 0, .int .u8 0, .int .u8 0, .int .u8 0, .int .u8 0, .int .u8 0, .int .u8 0, .int .u8 0, .int .u8 0, .int .u8 0, .int .u8 0, .int .u64 0, .int .u64 0]) := Lib.hid (Blk.mk_ (by simp))
  generalize ((w.alloc (.cells (ocells k a c id).toArray 55)).alloc (.cells #[.int .i64 0, .int .u64 0, .int .u64 0, .int .i64 0, .int .u64 0, .int .u8 0, .int .u8 0, .int .u8 0, .int .u8 0, .int .u8 0, .int .u8 0, .int .u8 0, .int .u8 0, .int .u8 0, .int .u8 0, .int .u8 0, .int .u8 0, .int .u8 0, .int .u8 0, .int .u8 0, .int .u8 0, .int .u8 0, .int .u8 0, .int .u8 0, .int .u8 0, .int .u8 0, .int .u8 0, .int .u8 0, .int .u8 0, .int .u8 0, .int .u8 0, .int .u8 0, .int .u8 0, .int .u8 0, .int .u8 0, .int .u8 0, .int .u8 0, .int .u64 0, .int .u64 0] 62)) = V at BB AA R ⊢
  obtain ⟨gR, hgR⟩ : ∃ g, w.heap.size + 1 = g := ⟨_, rfl⟩
  obtain ⟨gA, hgA⟩ : ∃ g, w.heap.size = g := ⟨_, rfl⟩
  have HGR : Hid (w.heap.size ≤ gR) := Lib.hid (by omega)
  have HNE : Hid (gA ≠ gR) := Lib.hid (by omega)
  rw [hgR] at R ⊢
  rw [hgA] at AA ⊢
  clear hgR hgA
  have hBz : Below V.heap.size V V.drew := below_drewN (Below.refl _ _) 1
  have BBX0 : Hid (Below w.heap.size w V.drew) := Lib.hid (BB.out.trans (hBz.mono BB.out.size))
  have AAX0 : Hid (Blk V.drew gA 55 (ocells k a c id)) := Lib.hid (AA.out.below hBz AA.out.lt)
  have RX0 : Hid (Blk V.drew gR 62 [.int .i64 0, .int .u64 0, .int .u64 0, .int .i64 0, .int .u64 0, .int .u8 0, .int .u8 0, .int .u8 0, .int .u8 0, .int .u8 0, .int .u8 0, .int .u8 0, .int .u8 0, .int .u8 0, .int .u8 0, .int .u8 0, .int .u8 0, .int .u8 0, .int .u8 0, .int .u8 0, .int .u8 0, .int .u8 0, .int .u8 0, .int .u8 0, .int .u8 0, .int .u8 0, .int .u8 0, .int .u8 0, .int .u8 0, .int .u8 0, .int .u8 0, .int .u8 0, .int .u8 0, .int .u8 0, .int .u8 0, .int .u8 0, .int .u8 0, .int .u64 0, .int .u64 0]) := Lib.hid (R.out.below hBz R.out.lt)
  clear hBz
  refine wp_region_held_drew (S := fun w' => Blk w' gA 55 (ocells k a c id)) (by kernel_rfl) (AAX0.out) (fun hHeld => ?_)
  generalize V.drew = X0 at hHeld BBX0 AAX0 RX0 ⊢
  refine wpAnyH_take (i := 0) (v := .pointer (some ⟨gA, 0, none⟩)) rfl (by kernel_rfl) (by kernel_rfl) (by kernel_rfl) (fun _ _ _ h => h) (Or.inl ⟨by rfl, by intro w' h; go_simp⟩) hHeld ?_
  show wpAnyH _ _ _ _ _ _ _ (Act.put _ (some 3) _) _
  simp only [Act.put, List.setIfInBounds_toArray, List.set_cons_zero, List.set_cons_succ]
  refine wpAnyH_take (i := 1) (v := .int .i64 k) rfl (by kernel_rfl) (by kernel_rfl) (by kernel_rfl) (fun _ _ _ h => h) (Or.inl ⟨by rfl, by intro w' h; have q := Blk.cell h 0; rw [e0] at q; go_simp⟩) hHeld ?_
  show wpAnyH _ _ _ _ _ _ _ (Act.put _ (some 4) _) _
  simp only [Act.put, List.setIfInBounds_toArray, List.set_cons_zero, List.set_cons_succ]
  refine wpAnyH_take (i := 2) (v := .pointer (some ⟨gA, 1, none⟩)) rfl (by kernel_rfl) (by kernel_rfl) (by kernel_rfl) (fun _ _ _ h => h) (Or.inl ⟨by rfl, by intro w' h; go_simp⟩) hHeld ?_
  show wpAnyH _ _ _ _ _ _ _ (Act.put _ (some 5) _) _
  simp only [Act.put, List.setIfInBounds_toArray, List.set_cons_zero, List.set_cons_succ]
  refine wpAnyH_take (i := 3) (v := .int .u64 a) rfl (by kernel_rfl) (by kernel_rfl) (by kernel_rfl) (fun _ _ _ h => h) (Or.inl ⟨by rfl, by intro w' h; have q := Blk.cell h 1; rw [e1] at q; go_simp⟩) hHeld ?_
  show wpAnyH _ _ _ _ _ _ _ (Act.put _ (some 6) _) _
  simp only [Act.put, List.setIfInBounds_toArray, List.set_cons_zero, List.set_cons_succ]
  refine wpAnyH_take (i := 4) (v := .pointer (some ⟨gA, 2, none⟩)) rfl (by kernel_rfl) (by kernel_rfl) (by kernel_rfl) (fun _ _ _ h => h) (Or.inl ⟨by rfl, by intro w' h; go_simp⟩) hHeld ?_
  show wpAnyH _ _ _ _ _ _ _ (Act.put _ (some 7) _) _
  simp only [Act.put, List.setIfInBounds_toArray, List.set_cons_zero, List.set_cons_succ]
  refine wpAnyH_take (i := 5) (v := .agg c.cells.toArray) rfl (by kernel_rfl) (by kernel_rfl) (by kernel_rfl) (fun _ _ _ h => h) (yieldsIf_load_mid (by rfl) 53 (.tmp 7) rfl gA 2 rfl c.cells _ (fun w h => by have := ocells_c k a c id HOK.out (Blk.all h); rwa [Nat.zero_add] at this) Try.underlying53 rfl hzc) hHeld ?_
  show wpAnyH _ _ _ _ _ _ _ (Act.put _ (some 8) _) _
  simp only [Act.put, List.setIfInBounds_toArray, List.set_cons_zero, List.set_cons_succ]
  refine wpAnyH_take (i := 7) (v := .pointer (some ⟨gA, 38, none⟩)) rfl (by kernel_rfl) (by kernel_rfl) (by kernel_rfl) (fun _ _ _ h => h) (Or.inl ⟨by rfl, by intro w' h; go_simp⟩) hHeld ?_
  show wpAnyH _ _ _ _ _ _ _ (Act.put _ (some 10) _) _
  simp only [Act.put, List.setIfInBounds_toArray, List.set_cons_zero, List.set_cons_succ]
  refine wpAnyH_take (i := 8) (v := .int .u64 id) rfl (by kernel_rfl) (by kernel_rfl) (by kernel_rfl) (fun _ _ _ h => h) (Or.inl ⟨by rfl, by intro w' h; have q := Blk.cell h 38; rw [e38] at q; go_simp⟩) hHeld ?_
  show wpAnyH _ _ _ _ _ _ _ (Act.put _ (some 11) _) _
  simp only [Act.put, List.setIfInBounds_toArray, List.set_cons_zero, List.set_cons_succ]
  refine wpAnyH_ready (rs := [6]) (by kernel_rfl) (by simp) ?_
  refine AllReadyH.cons rfl (fun K hK => ?_) AllReadyH.nil
  refine step_call rfl 33 #[.tmp 8] #[53] rfl #[.agg c.cells.toArray] (by simp [Act.eval]) (by go_simp) (cto_any c X0 HOK.out) ?_
  rintro e X1 ⟨rfl, hB⟩
  have BBX1 : Hid (Below w.heap.size w X1) := Lib.hid (BBX0.out.trans (hB.mono BBX0.out.size))
  have AAX1 : Hid (Blk X1 gA 55 (ocells k a c id)) := Lib.hid (AAX0.out.below hB AAX0.out.lt)
  have RX1 : Hid (Blk X1 gR 62 [.int .i64 0, .int .u64 0, .int .u64 0, .int .i64 0, .int .u64 0, .int .u8 0, .int .u8 0, .int .u8 0, .int .u8 0, .int .u8 0, .int .u8 0, .int .u8 0, .int .u8 0, .int .u8 0, .int .u8 0, .int .u8 0, .int .u8 0, .int .u8 0, .int .u8 0, .int .u8 0, .int .u8 0, .int .u8 0, .int .u8 0, .int .u8 0, .int .u8 0, .int .u8 0, .int .u8 0, .int .u8 0, .int .u8 0, .int .u8 0, .int .u8 0, .int .u8 0, .int .u8 0, .int .u8 0, .int .u8 0, .int .u8 0, .int .u8 0, .int .u64 0, .int .u64 0]) := Lib.hid (RX0.out.below hB RX0.out.lt)
  clear BBX0 AAX0 RX0 hB
  refine ⟨_, rfl, hK.out _ _ (AAX1.out) (fun hHeld => ?_)⟩
  clear hK K
  show wpAnyH _ _ _ _ _ _ _ (Act.put _ (some 9) _) _
  simp only [Act.put, List.setIfInBounds_toArray, List.set_cons_zero, List.set_cons_succ]
  refine wpAnyH_take (i := 9) (v := .agg (ocells k a c id).toArray) rfl (by kernel_rfl) (by kernel_rfl) (by kernel_rfl) (fun _ _ _ h => h) (Or.inl ⟨by rfl, fun w h => run_build_op (vals := #[(0, .int .i64 k), (1, .int .u64 a), (2, .agg c.cells.toArray), (3, .int .u64 id)]) rfl (by simp [Act.eval]) _ _ (built62 k a c id HOK.out w)⟩) hHeld ?_
  show wpAnyH _ _ _ _ _ _ _ (Act.put _ (some 12) _) _
  simp only [Act.put, List.setIfInBounds_toArray, List.set_cons_zero, List.set_cons_succ]
  refine wpAnyH_ready (rs := [10]) (by kernel_rfl) (by simp) ?_
  refine AllReadyH.cons rfl (fun K hK => ?_) AllReadyH.nil
  refine step_store rfl 62 (.tmp 2) (.tmp 12) rfl gR (ocells k a c id) rfl rfl 62 _ RX1.out hz1 hz3 (ocells_one k a c id) ?_
  intro X2 hR hO
  have hAR : some gA ≠ some gR := fun e => HNE.out (by injection e)
  have hKW : ∀ q, some gR = some q → w.heap.size ≤ q := fun q hq => by injection hq with hq; have := HGR.out; omega
  have BBX2 : Hid (Below w.heap.size w X2) := Lib.hid (BBX1.out.grown hO BBX1.out.size hKW)
  have AAX2 : Hid (Blk X2 gA 55 (ocells k a c id)) := Lib.hid (AAX1.out.grown hO hAR)
  have RX2 : Hid (Blk X2 gR 62 (ocells k a c id)) := Lib.hid (hR)
  clear BBX1 AAX1 hR hO hAR hKW RX1
  refine hK.out _ _ (AAX2.out) (fun hHeld => ?_)
  clear hK K
  show wpAnyH _ _ _ _ _ _ _ (Act.put _ none _) _
  simp only [Act.put]
  refine wpAnyH_done (by kernel_rfl) ?_ _
  go_wp2
  exact bodyPost_ret (results_cell_row Try.results25 _ _ gR 62 (ocells k a c id).toArray (0, 0) _ rfl RX2.out Try.underlying62 rfl hz2) rfl ⟨rfl, BBX2.out⟩

end Go.Proofs.Ytkiifjkcpangfaa
