/-
  ref13.Cond (32): a payment's bytes behind bytes, the document's.
-/
import Derived.Test.YtbdjlnejlkiijaaDoorRRRDeE
import Derived.Test.YtbdjlnejlkiijaaDoorRRROctRefNum
namespace Go.Proofs.YtbdjlnejlkiijaaDoorRRR
open Go.RowKit
set_option linter.unusedVariables false
set_option linter.unusedSimpArgs false

theorem step_app {ops : Array Oper} {o : Oper} {a : Act} {w : World} {K : Act → World → Prop} {Q : Exit → Act → World → Prop} {E : Prop} (hw : Region.wanted o (yielded ops a.tmps) = true) (s x : Operand) (t t' : TypeId)
    (ho : o.op = .call { callee := .builtin .append, args := #[s, x], argTypes := #[t, t'] }) (ht : Tryd.prog.underlying t = some (.slice 5)) (ht' : Tryd.prog.underlying t' = some (.slice 5))
    (base : Nat) (v : Value) (xs l : List Int) (hs : a.eval s = v) (hO : Oct.Own w base v xs) (A : Option Addr) (n c : Nat) (hx : a.eval x = .slice A n c) (hn : n = l.length) (hS : Oct.Src w A c l) (hb : xs.length + l.length ≤ 140737488355328) (hbase : base ≤ w.heap.size)
    (h : ∀ v' w', Oct.Own w' base v' (xs ++ l) → w.grownBy w' v.ownBlock → Oct.Lies w v v' → K (a.put o.dst v') w') : if Region.wanted o (yielded ops a.tmps) = true then Oper.wp Tryd.prog o a w K Q else E := by
  subst hn
  rw [if_pos hw]
  obtain ⟨v', w', hr, h2, h3, h4⟩ := Oct.run_app w base t t' o.type ht ht' v xs l hO A c hS hb hbase
  unfold Oper.wp execOp
  simp only [ho, resolve, invoke, builtin, Sem.run_bind, Sem.run_pure, Result.andThen_ok, List.map_toArray, List.map_cons, List.map_nil, hs, hx, hr]
  exact h v' w' h2 h3 h4
theorem slice28 (g o : Nat) (W : World) : (Instr.sliceAt 28 (.pointer (some ⟨g, o, none⟩)) none none none).run Tryd.prog W = .ok (.slice (some ⟨g, o, none⟩) 32 32) W := by
  have h := run_sliceAt_array_all (P := Tryd.prog) W 28 ⟨g, o, none⟩ (by kernel_rfl)
  rw [h, show Tryd.prog.arrayLen 28 = 32 by kernel_rfl, show Tryd.prog.elem 28 = 5 by kernel_rfl]
  obtain ⟨i0, hi, hz1⟩ := Option.map_eq_some_iff.1 (show (Tryd.prog.info? 5).map (·.size) = some 1 by kernel_rfl)
  simp [sizeOf, typeInfo, hi, slicedAt, Addr.add_mid]
theorem hash_src {c : Cnd} (hok : c.Ok) {X : World} {g : Nat} {t : TypeId} (h : Blk X g t c.cells) : Oct.Src X (some ⟨g, 3, none⟩) 32 c.h := by
  refine ⟨fun e => (by cases e), .inr ⟨g, 3, rfl, h.lt, fun i hi => ?_⟩⟩
  refine cnd_hash hok h i _ ?_
  simp [u8s, List.getD, hi]
/-- A payment's bytes, as the document lays them. -/
def condD (c : Cnd) : List Int := Oct.numV 8 c.id ++ [c.side % 256] ++ (Oct.numV 8 c.amt ++ c.h) ++ Oct.numV 8 c.ex
set_option maxRecDepth 100000 in
set_option maxHeartbeats 8000000 in
theorem rcond_any (A : Option Addr) (cap len : Nat) (b : List Int) (c : Cnd) (w : World) (HOK : Hid c.Ok) (HW : Hid (CndW c)) (hS : Oct.Src w A cap b) (HL : Hid (b.length = len)) (hl : len ≤ 900000) :
    Calls Tryd.prog 32 #[.slice A len cap, .agg c.cells.toArray] w fun e w' => ∃ v', e = .returned v' ∧ Oct.Own w' w.heap.size v' (b ++ condD c) ∧ Below w.heap.size w w' := by
  go_enter Tryd.func32, Tryd.ntmps32
  go_upto_region 1 with fail
  have HP0 : Hid (Blk (w.alloc (.cells c.cells.toArray 30)) w.heap.size 30 c.cells) := Lib.hid (Blk.new w 30 c.cells)
  have HBV : Hid (Below w.heap.size w (w.alloc (.cells c.cells.toArray 30))) := Lib.hid ((Below.refl _ _).alloc (Nat.le_refl _) _)
  have S := Lib.hid (Oct.Src.below hS HBV.out)
  clear hS
  generalize w.alloc (.cells c.cells.toArray 30) = V at HP0 HBV S ⊢
  have HLP := Lib.hid HP0.out.lt
  obtain ⟨gp, hgp⟩ : ∃ x, w.heap.size = x := ⟨_, rfl⟩
  rw [hgp] at HP0 HLP ⊢
  clear hgp
  have P := HP0
  have E := Lib.hid (Below.refl V.heap.size V)
  have hBz : Below V.heap.size V V.drew := below_drewN (Below.refl _ _) 1
  have EX0 : Hid (Below V.heap.size V V.drew) := Lib.hid (E.out.trans (hBz.mono E.out.size))
  have PX0 : Hid (Blk V.drew gp 30 c.cells) := Lib.hid (P.out.below hBz P.out.lt)
  have SX0 : Hid (Oct.Src V.drew A cap b) := Lib.hid (Oct.Src.below S.out hBz)
  clear hBz
  refine wp_region_held_drew (S := fun w' => Blk w' gp 30 c.cells) (by kernel_rfl) (PX0.out) (fun hHeld => ?_)
  generalize V.drew = X0 at hHeld EX0 PX0 SX0 ⊢
  refine wpAnyH_take (i := 0) (v := .slice A len cap) rfl (by kernel_rfl) (by kernel_rfl) (by kernel_rfl) (fun _ _ _ h => h) (Or.inl ⟨by rfl, fun w _ => by rfl⟩) hHeld ?_
  show wpAnyH _ _ _ _ _ _ _ (Act.put _ (some 5) _) _
  simp only [Act.put, List.setIfInBounds_toArray, List.set_cons_zero, List.set_cons_succ]
  refine wpAnyH_take (i := 1) (v := .pointer (some ⟨gp, 0, none⟩)) rfl (by kernel_rfl) (by kernel_rfl) (by kernel_rfl) (fun _ _ _ h => h) (Or.inl ⟨by rfl, by intro w' h; go_simp⟩) hHeld ?_
  show wpAnyH _ _ _ _ _ _ _ (Act.put _ (some 6) _) _
  simp only [Act.put, List.setIfInBounds_toArray, List.set_cons_zero, List.set_cons_succ]
  refine wpAnyH_take (i := 2) (v := .int .u64 c.id) rfl (by kernel_rfl) (by kernel_rfl) (by kernel_rfl) (fun _ _ _ h => h) (Or.inl ⟨by rfl, by intro w' h; have k0 := (Blk.cell h 0).trans c.c0; go_simp⟩) hHeld ?_
  show wpAnyH _ _ _ _ _ _ _ (Act.put _ (some 7) _) _
  simp only [Act.put, List.setIfInBounds_toArray, List.set_cons_zero, List.set_cons_succ]
  refine wpAnyH_take (i := 4) (v := .pointer (some ⟨gp, 1, none⟩)) rfl (by kernel_rfl) (by kernel_rfl) (by kernel_rfl) (fun _ _ _ h => h) (Or.inl ⟨by rfl, by intro w' h; go_simp⟩) hHeld ?_
  show wpAnyH _ _ _ _ _ _ _ (Act.put _ (some 9) _) _
  simp only [Act.put, List.setIfInBounds_toArray, List.set_cons_zero, List.set_cons_succ]
  refine wpAnyH_take (i := 5) (v := .int .i64 c.side) rfl (by kernel_rfl) (by kernel_rfl) (by kernel_rfl) (fun _ _ _ h => h) (Or.inl ⟨by rfl, by intro w' h; have k0 := (Blk.cell h 1).trans c.c1; go_simp⟩) hHeld ?_
  show wpAnyH _ _ _ _ _ _ _ (Act.put _ (some 10) _) _
  simp only [Act.put, List.setIfInBounds_toArray, List.set_cons_zero, List.set_cons_succ]
  refine wpAnyH_take (i := 6) (v := .int .u8 (c.side % 256)) rfl (by kernel_rfl) (by kernel_rfl) (by kernel_rfl) (fun _ _ _ h => h) (Or.inl ⟨by rfl, fun w' h => by unfold execOp; go_simp; try (first | rfl | (rw [IntKind.wrap_u8]))⟩) hHeld ?_
  show wpAnyH _ _ _ _ _ _ _ (Act.put _ (some 11) _) _
  simp only [Act.put, List.setIfInBounds_toArray, List.set_cons_zero, List.set_cons_succ]
  refine wpAnyH_ready (rs := [3, 7]) (by kernel_rfl) (by simp) ?_
  refine AllReadyH.cons rfl (fun K hK => ?_) (AllReadyH.cons rfl (fun K hK => ?_) AllReadyH.nil)
  · refine step_call rfl 31 #[.tmp 5, .tmp 7, .const (.int .i64 8)] #[35, 23, 3] rfl #[.slice A len cap, .int .u64 c.id, .int .i64 8] (by simp [Act.eval]) (by go_simp) (Oct.num_any A cap len b c.id 8 (by omega) X0 SX0.out HL.out (by omega) HW.out.1.1 HW.out.1.2) ?_
    rintro e X1 ⟨v8, rfl, hO, hB⟩
    have EX1 : Hid (Below V.heap.size V X1) := Lib.hid (EX0.out.trans (hB.mono EX0.out.size))
    have PX1 : Hid (Blk X1 gp 30 c.cells) := Lib.hid (PX0.out.below hB PX0.out.lt)
    have OX1 : Hid (Oct.Own X1 V.heap.size v8 (b ++ Oct.numV 8 c.id)) := Lib.hid (own_base hO EX0.out.size)
    clear EX0 PX0 hB hO
    refine ⟨_, rfl, hK.out _ _ (PX1.out) (fun hHeld => ?_)⟩
    clear hK K
    show wpAnyH _ _ _ _ _ _ _ (Act.put _ (some 8) _) _
    simp only [Act.put, List.setIfInBounds_toArray, List.set_cons_zero, List.set_cons_succ]
    refine wpAnyH_ready (rs := [7]) (by kernel_rfl) (by simp) ?_
    refine AllReadyH.cons rfl (fun K hK => ?_) AllReadyH.nil
    refine step_lay rfl 35 1 #[(0, .tmp 11)] rfl #[(0, .int .u8 (c.side % 256))] (by simp [Act.eval]) (.slice (some ⟨X1.heap.size, 0, none⟩) 1 1) (X1.alloc (.cells #[.int .u8 (c.side % 256)] 5)) (by kernel_rfl) ?_
    have hB : Below X1.heap.size X1 (X1.alloc (.cells #[.int .u8 (c.side % 256)] 5)) := (Below.refl _ _).alloc (Nat.le_refl _) _
    have hK := Oct.Src.lit X1 #[.int .u8 (c.side % 256)] [c.side % 256] rfl
    generalize X1.alloc (.cells #[.int .u8 (c.side % 256)] 5) = X2 at hB hK ⊢
    obtain ⟨g12, hg12⟩ : ∃ x, X1.heap.size = x := ⟨_, rfl⟩
    rw [hg12] at hK ⊢
    have EX2 : Hid (Below V.heap.size V X2) := Lib.hid (EX1.out.trans (hB.mono EX1.out.size))
    have PX2 : Hid (Blk X2 gp 30 c.cells) := Lib.hid (PX1.out.below hB PX1.out.lt)
    have OX2 : Hid (Oct.Own X2 V.heap.size v8 (b ++ Oct.numV 8 c.id)) := Lib.hid (Oct.Own.below OX1.out hB)
    have KX2 : Hid (Oct.Src X2 (some ⟨g12, 0, none⟩) 1 [c.side % 256]) := Lib.hid (hK)
    clear EX1 PX1 OX1 hB hK hg12
    refine hK.out _ _ (PX2.out) (fun hHeld => ?_)
    clear hK K
    show wpAnyH _ _ _ _ _ _ _ (Act.put _ (some 12) _) _
    simp only [Act.put, List.setIfInBounds_toArray, List.set_cons_zero, List.set_cons_succ]
    refine wpAnyH_ready (rs := [8]) (by kernel_rfl) (by simp) ?_
    refine AllReadyH.cons rfl (fun K hK => ?_) AllReadyH.nil
    refine step_app rfl (.tmp 8) (.tmp 12) 35 35 rfl Tryd.underlying35 Tryd.underlying35 V.heap.size v8 (b ++ Oct.numV 8 c.id) [c.side % 256] rfl OX2.out (some ⟨g12, 0, none⟩) 1 1 rfl rfl KX2.out (by simp [Oct.numV_length, HL.out, HOK.out.h]; omega) EX2.out.size ?_
    intro v13 X3 hO hG hL
    have EX3 : Hid (Below V.heap.size V X3) := Lib.hid (EX2.out.trans (Oct.grown_below hG EX2.out.size (fun g hg => (World.ownsRow.lt OX2.out g hg).1)))
    have PX3 := Lib.hid (PX2.out.grown hG (fun e => by have := (World.ownsRow.lt OX2.out gp e.symm).1; have := HLP.out; omega))
    have NX3 : Hid (Oct.Own X3 V.heap.size v13 ((b ++ Oct.numV 8 c.id) ++ [c.side % 256])) := Lib.hid hO
    clear hO hG hL OX2 EX2 PX2
    refine hK.out _ _ (PX3.out) (fun hHeld => ?_)
    clear hK K
    show wpAnyH _ _ _ _ _ _ _ (Act.put _ (some 13) _) _
    simp only [Act.put, List.setIfInBounds_toArray, List.set_cons_zero, List.set_cons_succ]
    refine wpAnyH_take (i := 9) (v := v13) rfl (by kernel_rfl) (by kernel_rfl) (by kernel_rfl) (fun _ _ _ h => h) (Or.inl ⟨by rfl, fun w _ => by rfl⟩) hHeld ?_
    show wpAnyH _ _ _ _ _ _ _ (Act.put _ (some 0) _) _
    simp only [Act.put, List.setIfInBounds_toArray, List.set_cons_zero]
    refine wpAnyH_done (by kernel_rfl) ?_ _
    clear hHeld
    go_upto_region 2 with fail
    obtain ⟨A1, c1, hv1, hs1⟩ := Oct.Own.src NX3.out
    subst hv1
    have SX3 := Lib.hid hs1
    clear hs1
    have hBz : Below X3.heap.size X3 X3.drew := below_drewN (Below.refl _ _) 1
    have EZ0 : Hid (Below V.heap.size V X3.drew) := Lib.hid (EX3.out.trans (hBz.mono EX3.out.size))
    have PZ0 : Hid (Blk X3.drew gp 30 c.cells) := Lib.hid (PX3.out.below hBz PX3.out.lt)
    have SZ0 : Hid (Oct.Src X3.drew A1 c1 ((b ++ Oct.numV 8 c.id) ++ [c.side % 256])) := Lib.hid (Oct.Src.below SX3.out hBz)
    clear hBz
    refine wp_region_held_drew (S := fun w' => Blk w' gp 30 c.cells) (by kernel_rfl) (PZ0.out) (fun hHeld => ?_)
    generalize X3.drew = Z0 at hHeld EZ0 PZ0 SZ0 ⊢
    refine wpAnyH_take (i := 0) (v := .slice A1 (((b ++ Oct.numV 8 c.id) ++ [c.side % 256])).length c1) rfl (by kernel_rfl) (by kernel_rfl) (by kernel_rfl) (fun _ _ _ h => h) (Or.inl ⟨by rfl, fun w _ => by rfl⟩) hHeld ?_
    show wpAnyH _ _ _ _ _ _ _ (Act.put _ (some 14) _) _
    simp only [Act.put, List.setIfInBounds_toArray, List.set_cons_zero, List.set_cons_succ]
    refine wpAnyH_take (i := 1) (v := .pointer (some ⟨gp, 2, none⟩)) rfl (by kernel_rfl) (by kernel_rfl) (by kernel_rfl) (fun _ _ _ h => h) (Or.inl ⟨by rfl, by intro w' h; go_simp⟩) hHeld ?_
    show wpAnyH _ _ _ _ _ _ _ (Act.put _ (some 15) _) _
    simp only [Act.put, List.setIfInBounds_toArray, List.set_cons_zero, List.set_cons_succ]
    refine wpAnyH_take (i := 2) (v := .int .u64 c.amt) rfl (by kernel_rfl) (by kernel_rfl) (by kernel_rfl) (fun _ _ _ h => h) (Or.inl ⟨by rfl, by intro w' h; have k0 := (Blk.cell h 2).trans c.c2; go_simp⟩) hHeld ?_
    show wpAnyH _ _ _ _ _ _ _ (Act.put _ (some 16) _) _
    simp only [Act.put, List.setIfInBounds_toArray, List.set_cons_zero, List.set_cons_succ]
    refine wpAnyH_take (i := 4) (v := .pointer (some ⟨gp, 3, none⟩)) rfl (by kernel_rfl) (by kernel_rfl) (by kernel_rfl) (fun _ _ _ h => h) (Or.inl ⟨by rfl, by intro w' h; go_simp⟩) hHeld ?_
    show wpAnyH _ _ _ _ _ _ _ (Act.put _ (some 18) _) _
    simp only [Act.put, List.setIfInBounds_toArray, List.set_cons_zero, List.set_cons_succ]
    refine wpAnyH_take (i := 5) (v := .slice (some ⟨gp, 3, none⟩) 32 32) rfl (by kernel_rfl) (by kernel_rfl) (by kernel_rfl) (fun _ _ _ h => h) (Or.inl ⟨by rfl, fun w' h => by have k0 := slice28 gp 3 w'; unfold execOp; go_simp⟩) hHeld ?_
    show wpAnyH _ _ _ _ _ _ _ (Act.put _ (some 19) _) _
    simp only [Act.put, List.setIfInBounds_toArray, List.set_cons_zero, List.set_cons_succ]
    refine wpAnyH_ready (rs := [3]) (by kernel_rfl) (by simp) ?_
    refine AllReadyH.cons rfl (fun K hK => ?_) AllReadyH.nil
    refine step_call rfl 31 #[.tmp 14, .tmp 16, .const (.int .i64 8)] #[35, 23, 3] rfl #[.slice A1 (((b ++ Oct.numV 8 c.id) ++ [c.side % 256])).length c1, .int .u64 c.amt, .int .i64 8] (by simp [Act.eval]) (by go_simp) (Oct.num_any A1 c1 _ ((b ++ Oct.numV 8 c.id) ++ [c.side % 256]) c.amt 8 (by omega) Z0 SZ0.out rfl (by simp [Oct.numV_length, HL.out]; omega) HW.out.2.1.1 HW.out.2.1.2) ?_
    rintro e X1 ⟨v17, rfl, hO, hB⟩
    have EX1 : Hid (Below V.heap.size V X1) := Lib.hid (EZ0.out.trans (hB.mono EZ0.out.size))
    have PX1 : Hid (Blk X1 gp 30 c.cells) := Lib.hid (PZ0.out.below hB PZ0.out.lt)
    have OX1 : Hid (Oct.Own X1 V.heap.size v17 (((b ++ Oct.numV 8 c.id) ++ [c.side % 256]) ++ Oct.numV 8 c.amt)) := Lib.hid (own_base hO EZ0.out.size)
    clear EZ0 PZ0 hB hO
    refine ⟨_, rfl, hK.out _ _ (PX1.out) (fun hHeld => ?_)⟩
    clear hK K
    show wpAnyH _ _ _ _ _ _ _ (Act.put _ (some 17) _) _
    simp only [Act.put, List.setIfInBounds_toArray, List.set_cons_zero, List.set_cons_succ]
    refine wpAnyH_ready (rs := [6]) (by kernel_rfl) (by simp) ?_
    refine AllReadyH.cons rfl (fun K hK => ?_) AllReadyH.nil
    refine step_app rfl (.tmp 17) (.tmp 19) 35 35 rfl Tryd.underlying35 Tryd.underlying35 V.heap.size v17 (((b ++ Oct.numV 8 c.id) ++ [c.side % 256]) ++ Oct.numV 8 c.amt) c.h rfl OX1.out (some ⟨gp, 3, none⟩) 32 32 rfl HOK.out.h.symm (hash_src HOK.out PX1.out) (by simp [Oct.numV_length, HL.out, HOK.out.h]; omega) EX1.out.size ?_
    intro v20 X2 hO hG hL
    have EX2 : Hid (Below V.heap.size V X2) := Lib.hid (EX1.out.trans (Oct.grown_below hG EX1.out.size (fun g hg => (World.ownsRow.lt OX1.out g hg).1)))
    have PX2 := Lib.hid (PX1.out.grown hG (fun e => by have := (World.ownsRow.lt OX1.out gp e.symm).1; have := HLP.out; omega))
    have NX2 : Hid (Oct.Own X2 V.heap.size v20 ((((b ++ Oct.numV 8 c.id) ++ [c.side % 256]) ++ Oct.numV 8 c.amt) ++ c.h)) := Lib.hid hO
    clear hO hG hL OX1 EX1 PX1
    refine hK.out _ _ (PX2.out) (fun hHeld => ?_)
    clear hK K
    show wpAnyH _ _ _ _ _ _ _ (Act.put _ (some 20) _) _
    simp only [Act.put, List.setIfInBounds_toArray, List.set_cons_zero, List.set_cons_succ]
    refine wpAnyH_take (i := 7) (v := v20) rfl (by kernel_rfl) (by kernel_rfl) (by kernel_rfl) (fun _ _ _ h => h) (Or.inl ⟨by rfl, fun w _ => by rfl⟩) hHeld ?_
    show wpAnyH _ _ _ _ _ _ _ (Act.put _ (some 0) _) _
    simp only [Act.put, List.setIfInBounds_toArray, List.set_cons_zero]
    refine wpAnyH_done (by kernel_rfl) ?_ _
    clear hHeld
    go_upto_region 3 with fail
    obtain ⟨A2, c2, hv2, hs2⟩ := Oct.Own.src NX2.out
    obtain ⟨n2, hn2⟩ : ∃ n, (((((b ++ Oct.numV 8 c.id) ++ [c.side % 256]) ++ Oct.numV 8 c.amt) ++ c.h)).length = n := ⟨_, rfl⟩
    have HB2 : Hid (n2 ≤ 1000000) := Lib.hid (by rw [← hn2]; simp [Oct.numV_length, HL.out, HOK.out.h]; omega)
    rw [hn2] at hv2
    subst hv2
    have HN2 := Lib.hid hn2
    clear hn2
    have HS2 := Lib.hid hs2
    clear hs2
    have k35 := (Blk.cell PX2.out 35).trans HOK.out.c35
    go_wp2_with fail
    refine (Oct.num_any A2 c2 n2 ((((b ++ Oct.numV 8 c.id) ++ [c.side % 256]) ++ Oct.numV 8 c.amt) ++ c.h) c.ex 8 (by omega) X2 HS2.out HN2.out HB2.out HW.out.2.2.1 HW.out.2.2.2).mono ?_
    rintro e Y9 ⟨v9, rfl, hO, hB⟩
    have HY := Lib.hid hB
    have HO9 := Lib.hid hO
    clear hB hO
    go_wp2_with fail
    go_ret
    refine ⟨v9, rfl, ?_, HBV.out.trans (EX2.out.trans (HY.out.mono EX2.out.size) |>.mono HBV.out.size)⟩
    have h := own_base (c := w.heap.size) HO9.out (Nat.le_trans HBV.out.size EX2.out.size)
    rw [show b ++ condD c = (((((b ++ Oct.numV 8 c.id) ++ [c.side % 256]) ++ Oct.numV 8 c.amt) ++ c.h) ++ Oct.numV 8 c.ex) by simp [condD, List.append_assoc]]
    exact h
  · refine step_lay rfl 35 1 #[(0, .tmp 11)] rfl #[(0, .int .u8 (c.side % 256))] (by simp [Act.eval]) (.slice (some ⟨X0.heap.size, 0, none⟩) 1 1) (X0.alloc (.cells #[.int .u8 (c.side % 256)] 5)) (by kernel_rfl) ?_
    have hB : Below X0.heap.size X0 (X0.alloc (.cells #[.int .u8 (c.side % 256)] 5)) := (Below.refl _ _).alloc (Nat.le_refl _) _
    have hK := Oct.Src.lit X0 #[.int .u8 (c.side % 256)] [c.side % 256] rfl
    generalize X0.alloc (.cells #[.int .u8 (c.side % 256)] 5) = X1 at hB hK ⊢
    obtain ⟨g12, hg12⟩ : ∃ x, X0.heap.size = x := ⟨_, rfl⟩
    rw [hg12] at hK ⊢
    have EX1 : Hid (Below V.heap.size V X1) := Lib.hid (EX0.out.trans (hB.mono EX0.out.size))
    have PX1 : Hid (Blk X1 gp 30 c.cells) := Lib.hid (PX0.out.below hB PX0.out.lt)
    have SX1 : Hid (Oct.Src X1 A cap b) := Lib.hid (Oct.Src.below SX0.out hB)
    have KX1 : Hid (Oct.Src X1 (some ⟨g12, 0, none⟩) 1 [c.side % 256]) := Lib.hid (hK)
    clear EX0 PX0 SX0 hB hK hg12
    refine hK.out _ _ (PX1.out) (fun hHeld => ?_)
    clear hK K
    show wpAnyH _ _ _ _ _ _ _ (Act.put _ (some 12) _) _
    simp only [Act.put, List.setIfInBounds_toArray, List.set_cons_zero, List.set_cons_succ]
    refine wpAnyH_ready (rs := [3]) (by kernel_rfl) (by simp) ?_
    refine AllReadyH.cons rfl (fun K hK => ?_) AllReadyH.nil
    refine step_call rfl 31 #[.tmp 5, .tmp 7, .const (.int .i64 8)] #[35, 23, 3] rfl #[.slice A len cap, .int .u64 c.id, .int .i64 8] (by simp [Act.eval]) (by go_simp) (Oct.num_any A cap len b c.id 8 (by omega) X1 SX1.out HL.out (by omega) HW.out.1.1 HW.out.1.2) ?_
    rintro e X2 ⟨v8, rfl, hO, hB⟩
    have EX2 : Hid (Below V.heap.size V X2) := Lib.hid (EX1.out.trans (hB.mono EX1.out.size))
    have PX2 : Hid (Blk X2 gp 30 c.cells) := Lib.hid (PX1.out.below hB PX1.out.lt)
    have KX2 : Hid (Oct.Src X2 (some ⟨g12, 0, none⟩) 1 [c.side % 256]) := Lib.hid (Oct.Src.below KX1.out hB)
    have OX2 : Hid (Oct.Own X2 V.heap.size v8 (b ++ Oct.numV 8 c.id)) := Lib.hid (own_base hO EX1.out.size)
    clear EX1 PX1 KX1 hB hO
    refine ⟨_, rfl, hK.out _ _ (PX2.out) (fun hHeld => ?_)⟩
    clear hK K
    show wpAnyH _ _ _ _ _ _ _ (Act.put _ (some 8) _) _
    simp only [Act.put, List.setIfInBounds_toArray, List.set_cons_zero, List.set_cons_succ]
    refine wpAnyH_ready (rs := [8]) (by kernel_rfl) (by simp) ?_
    refine AllReadyH.cons rfl (fun K hK => ?_) AllReadyH.nil
    refine step_app rfl (.tmp 8) (.tmp 12) 35 35 rfl Tryd.underlying35 Tryd.underlying35 V.heap.size v8 (b ++ Oct.numV 8 c.id) [c.side % 256] rfl OX2.out (some ⟨g12, 0, none⟩) 1 1 rfl rfl KX2.out (by simp [Oct.numV_length, HL.out, HOK.out.h]; omega) EX2.out.size ?_
    intro v13 X3 hO hG hL
    have EX3 : Hid (Below V.heap.size V X3) := Lib.hid (EX2.out.trans (Oct.grown_below hG EX2.out.size (fun g hg => (World.ownsRow.lt OX2.out g hg).1)))
    have PX3 := Lib.hid (PX2.out.grown hG (fun e => by have := (World.ownsRow.lt OX2.out gp e.symm).1; have := HLP.out; omega))
    have NX3 : Hid (Oct.Own X3 V.heap.size v13 ((b ++ Oct.numV 8 c.id) ++ [c.side % 256])) := Lib.hid hO
    clear hO hG hL OX2 EX2 PX2
    refine hK.out _ _ (PX3.out) (fun hHeld => ?_)
    clear hK K
    show wpAnyH _ _ _ _ _ _ _ (Act.put _ (some 13) _) _
    simp only [Act.put, List.setIfInBounds_toArray, List.set_cons_zero, List.set_cons_succ]
    refine wpAnyH_take (i := 9) (v := v13) rfl (by kernel_rfl) (by kernel_rfl) (by kernel_rfl) (fun _ _ _ h => h) (Or.inl ⟨by rfl, fun w _ => by rfl⟩) hHeld ?_
    show wpAnyH _ _ _ _ _ _ _ (Act.put _ (some 0) _) _
    simp only [Act.put, List.setIfInBounds_toArray, List.set_cons_zero]
    refine wpAnyH_done (by kernel_rfl) ?_ _
    clear hHeld
    go_upto_region 2 with fail
    obtain ⟨A1, c1, hv1, hs1⟩ := Oct.Own.src NX3.out
    subst hv1
    have SX3 := Lib.hid hs1
    clear hs1
    have hBz : Below X3.heap.size X3 X3.drew := below_drewN (Below.refl _ _) 1
    have EZ0 : Hid (Below V.heap.size V X3.drew) := Lib.hid (EX3.out.trans (hBz.mono EX3.out.size))
    have PZ0 : Hid (Blk X3.drew gp 30 c.cells) := Lib.hid (PX3.out.below hBz PX3.out.lt)
    have SZ0 : Hid (Oct.Src X3.drew A1 c1 ((b ++ Oct.numV 8 c.id) ++ [c.side % 256])) := Lib.hid (Oct.Src.below SX3.out hBz)
    clear hBz
    refine wp_region_held_drew (S := fun w' => Blk w' gp 30 c.cells) (by kernel_rfl) (PZ0.out) (fun hHeld => ?_)
    generalize X3.drew = Z0 at hHeld EZ0 PZ0 SZ0 ⊢
    refine wpAnyH_take (i := 0) (v := .slice A1 (((b ++ Oct.numV 8 c.id) ++ [c.side % 256])).length c1) rfl (by kernel_rfl) (by kernel_rfl) (by kernel_rfl) (fun _ _ _ h => h) (Or.inl ⟨by rfl, fun w _ => by rfl⟩) hHeld ?_
    show wpAnyH _ _ _ _ _ _ _ (Act.put _ (some 14) _) _
    simp only [Act.put, List.setIfInBounds_toArray, List.set_cons_zero, List.set_cons_succ]
    refine wpAnyH_take (i := 1) (v := .pointer (some ⟨gp, 2, none⟩)) rfl (by kernel_rfl) (by kernel_rfl) (by kernel_rfl) (fun _ _ _ h => h) (Or.inl ⟨by rfl, by intro w' h; go_simp⟩) hHeld ?_
    show wpAnyH _ _ _ _ _ _ _ (Act.put _ (some 15) _) _
    simp only [Act.put, List.setIfInBounds_toArray, List.set_cons_zero, List.set_cons_succ]
    refine wpAnyH_take (i := 2) (v := .int .u64 c.amt) rfl (by kernel_rfl) (by kernel_rfl) (by kernel_rfl) (fun _ _ _ h => h) (Or.inl ⟨by rfl, by intro w' h; have k0 := (Blk.cell h 2).trans c.c2; go_simp⟩) hHeld ?_
    show wpAnyH _ _ _ _ _ _ _ (Act.put _ (some 16) _) _
    simp only [Act.put, List.setIfInBounds_toArray, List.set_cons_zero, List.set_cons_succ]
    refine wpAnyH_take (i := 4) (v := .pointer (some ⟨gp, 3, none⟩)) rfl (by kernel_rfl) (by kernel_rfl) (by kernel_rfl) (fun _ _ _ h => h) (Or.inl ⟨by rfl, by intro w' h; go_simp⟩) hHeld ?_
    show wpAnyH _ _ _ _ _ _ _ (Act.put _ (some 18) _) _
    simp only [Act.put, List.setIfInBounds_toArray, List.set_cons_zero, List.set_cons_succ]
    refine wpAnyH_take (i := 5) (v := .slice (some ⟨gp, 3, none⟩) 32 32) rfl (by kernel_rfl) (by kernel_rfl) (by kernel_rfl) (fun _ _ _ h => h) (Or.inl ⟨by rfl, fun w' h => by have k0 := slice28 gp 3 w'; unfold execOp; go_simp⟩) hHeld ?_
    show wpAnyH _ _ _ _ _ _ _ (Act.put _ (some 19) _) _
    simp only [Act.put, List.setIfInBounds_toArray, List.set_cons_zero, List.set_cons_succ]
    refine wpAnyH_ready (rs := [3]) (by kernel_rfl) (by simp) ?_
    refine AllReadyH.cons rfl (fun K hK => ?_) AllReadyH.nil
    refine step_call rfl 31 #[.tmp 14, .tmp 16, .const (.int .i64 8)] #[35, 23, 3] rfl #[.slice A1 (((b ++ Oct.numV 8 c.id) ++ [c.side % 256])).length c1, .int .u64 c.amt, .int .i64 8] (by simp [Act.eval]) (by go_simp) (Oct.num_any A1 c1 _ ((b ++ Oct.numV 8 c.id) ++ [c.side % 256]) c.amt 8 (by omega) Z0 SZ0.out rfl (by simp [Oct.numV_length, HL.out]; omega) HW.out.2.1.1 HW.out.2.1.2) ?_
    rintro e X1 ⟨v17, rfl, hO, hB⟩
    have EX1 : Hid (Below V.heap.size V X1) := Lib.hid (EZ0.out.trans (hB.mono EZ0.out.size))
    have PX1 : Hid (Blk X1 gp 30 c.cells) := Lib.hid (PZ0.out.below hB PZ0.out.lt)
    have OX1 : Hid (Oct.Own X1 V.heap.size v17 (((b ++ Oct.numV 8 c.id) ++ [c.side % 256]) ++ Oct.numV 8 c.amt)) := Lib.hid (own_base hO EZ0.out.size)
    clear EZ0 PZ0 hB hO
    refine ⟨_, rfl, hK.out _ _ (PX1.out) (fun hHeld => ?_)⟩
    clear hK K
    show wpAnyH _ _ _ _ _ _ _ (Act.put _ (some 17) _) _
    simp only [Act.put, List.setIfInBounds_toArray, List.set_cons_zero, List.set_cons_succ]
    refine wpAnyH_ready (rs := [6]) (by kernel_rfl) (by simp) ?_
    refine AllReadyH.cons rfl (fun K hK => ?_) AllReadyH.nil
    refine step_app rfl (.tmp 17) (.tmp 19) 35 35 rfl Tryd.underlying35 Tryd.underlying35 V.heap.size v17 (((b ++ Oct.numV 8 c.id) ++ [c.side % 256]) ++ Oct.numV 8 c.amt) c.h rfl OX1.out (some ⟨gp, 3, none⟩) 32 32 rfl HOK.out.h.symm (hash_src HOK.out PX1.out) (by simp [Oct.numV_length, HL.out, HOK.out.h]; omega) EX1.out.size ?_
    intro v20 X2 hO hG hL
    have EX2 : Hid (Below V.heap.size V X2) := Lib.hid (EX1.out.trans (Oct.grown_below hG EX1.out.size (fun g hg => (World.ownsRow.lt OX1.out g hg).1)))
    have PX2 := Lib.hid (PX1.out.grown hG (fun e => by have := (World.ownsRow.lt OX1.out gp e.symm).1; have := HLP.out; omega))
    have NX2 : Hid (Oct.Own X2 V.heap.size v20 ((((b ++ Oct.numV 8 c.id) ++ [c.side % 256]) ++ Oct.numV 8 c.amt) ++ c.h)) := Lib.hid hO
    clear hO hG hL OX1 EX1 PX1
    refine hK.out _ _ (PX2.out) (fun hHeld => ?_)
    clear hK K
    show wpAnyH _ _ _ _ _ _ _ (Act.put _ (some 20) _) _
    simp only [Act.put, List.setIfInBounds_toArray, List.set_cons_zero, List.set_cons_succ]
    refine wpAnyH_take (i := 7) (v := v20) rfl (by kernel_rfl) (by kernel_rfl) (by kernel_rfl) (fun _ _ _ h => h) (Or.inl ⟨by rfl, fun w _ => by rfl⟩) hHeld ?_
    show wpAnyH _ _ _ _ _ _ _ (Act.put _ (some 0) _) _
    simp only [Act.put, List.setIfInBounds_toArray, List.set_cons_zero]
    refine wpAnyH_done (by kernel_rfl) ?_ _
    clear hHeld
    go_upto_region 3 with fail
    obtain ⟨A2, c2, hv2, hs2⟩ := Oct.Own.src NX2.out
    obtain ⟨n2, hn2⟩ : ∃ n, (((((b ++ Oct.numV 8 c.id) ++ [c.side % 256]) ++ Oct.numV 8 c.amt) ++ c.h)).length = n := ⟨_, rfl⟩
    have HB2 : Hid (n2 ≤ 1000000) := Lib.hid (by rw [← hn2]; simp [Oct.numV_length, HL.out, HOK.out.h]; omega)
    rw [hn2] at hv2
    subst hv2
    have HN2 := Lib.hid hn2
    clear hn2
    have HS2 := Lib.hid hs2
    clear hs2
    have k35 := (Blk.cell PX2.out 35).trans HOK.out.c35
    go_wp2_with fail
    refine (Oct.num_any A2 c2 n2 ((((b ++ Oct.numV 8 c.id) ++ [c.side % 256]) ++ Oct.numV 8 c.amt) ++ c.h) c.ex 8 (by omega) X2 HS2.out HN2.out HB2.out HW.out.2.2.1 HW.out.2.2.2).mono ?_
    rintro e Y9 ⟨v9, rfl, hO, hB⟩
    have HY := Lib.hid hB
    have HO9 := Lib.hid hO
    clear hB hO
    go_wp2_with fail
    go_ret
    refine ⟨v9, rfl, ?_, HBV.out.trans (EX2.out.trans (HY.out.mono EX2.out.size) |>.mono HBV.out.size)⟩
    have h := own_base (c := w.heap.size) HO9.out (Nat.le_trans HBV.out.size EX2.out.size)
    rw [show b ++ condD c = (((((b ++ Oct.numV 8 c.id) ++ [c.side % 256]) ++ Oct.numV 8 c.amt) ++ c.h) ++ Oct.numV 8 c.ex) by simp [condD, List.append_assoc]]
    exact h
end Go.Proofs.YtbdjlnejlkiijaaDoorRRR
