/-
  ref13.Op (12): a wish's bytes behind bytes, the document's.
-/
import Derived.Test.YtbdjlnejlkiijaaDoorRRRDeL
namespace Go.Proofs.YtbdjlnejlkiijaaDoorRRR
open Go.RowKit
set_option linter.unusedVariables false
set_option linter.unusedSimpArgs false

/-- A wish's bytes, as the document lays them. -/
def opD (kd amt : Int) (c : Cnd) (id : Int) : List Int := [kd % 256] ++ (Oct.numV 8 amt ++ Oct.numV 8 id) ++ condD c
theorem opC_len (kd amt id : Int) {c : Cnd} (hok : c.Ok) : (opC kd amt c id).length = 39 := by simp [opC, hok.len]
set_option maxRecDepth 100000 in
set_option maxHeartbeats 8000000 in
theorem rop_any (A : Option Addr) (cap len : Nat) (b : List Int) (kd amt id : Int) (c : Cnd) (w : World) (HOK : Hid c.Ok) (HW : Hid (CndW c)) (HAI : Hid ((0 ≤ amt ∧ amt ≤ 18446744073709551615) ∧ (0 ≤ id ∧ id ≤ 18446744073709551615))) (hS : Oct.Src w A cap b) (HL : Hid (b.length = len)) (hl : len ≤ 800000) :
    Calls Tryd.prog 12 #[.slice A len cap, .agg (opC kd amt c id).toArray] w fun e w' => ∃ v', e = .returned v' ∧ Oct.Own w' w.heap.size v' (b ++ opD kd amt c id) ∧ Below w.heap.size w w' := by
  have HIC : Hid ((Tryd.prog.info? 30).map (·.size) = some c.cells.length) := Lib.hid (by rw [HOK.out.len]; exact info53)
  go_enter Tryd.func12, Tryd.ntmps12
  go_upto_region 1 with fail
  have HP0 : Hid (Blk (w.alloc (.cells (opC kd amt c id).toArray 32)) w.heap.size 32 (opC kd amt c id)) := Lib.hid (Blk.new w 32 (opC kd amt c id))
  have HBV : Hid (Below w.heap.size w (w.alloc (.cells (opC kd amt c id).toArray 32))) := Lib.hid ((Below.refl _ _).alloc (Nat.le_refl _) _)
  have S := Lib.hid (Oct.Src.below hS HBV.out)
  clear hS
  generalize w.alloc (.cells (opC kd amt c id).toArray 32) = V at HP0 HBV S ⊢
  have HLP := Lib.hid HP0.out.lt
  obtain ⟨gp, hgp⟩ : ∃ x, w.heap.size = x := ⟨_, rfl⟩
  rw [hgp] at HP0 HLP ⊢
  clear hgp
  have P := HP0
  have E := Lib.hid (Below.refl V.heap.size V)
  have hBz : Below V.heap.size V V.drew := below_drewN (Below.refl _ _) 1
  have EX0 : Hid (Below V.heap.size V V.drew) := Lib.hid (E.out.trans (hBz.mono E.out.size))
  have PX0 : Hid (Blk V.drew gp 32 (opC kd amt c id)) := Lib.hid (P.out.below hBz P.out.lt)
  have SX0 : Hid (Oct.Src V.drew A cap b) := Lib.hid (Oct.Src.below S.out hBz)
  clear hBz
  refine wp_region_held_drew (S := fun w' => Blk w' gp 32 (opC kd amt c id)) (by kernel_rfl) (PX0.out) (fun hHeld => ?_)
  generalize V.drew = X0 at hHeld EX0 PX0 SX0 ⊢
  refine wpAnyH_take (i := 1) (v := .slice A len cap) rfl (by kernel_rfl) (by kernel_rfl) (by kernel_rfl) (fun _ _ _ h => h) (Or.inl ⟨by rfl, fun w _ => by rfl⟩) hHeld ?_
  show wpAnyH _ _ _ _ _ _ _ (Act.put _ (some 6) _) _
  simp only [Act.put, List.setIfInBounds_toArray, List.set_cons_zero, List.set_cons_succ]
  refine wpAnyH_take (i := 3) (v := .pointer (some ⟨gp, 0, none⟩)) rfl (by kernel_rfl) (by kernel_rfl) (by kernel_rfl) (fun _ _ _ h => h) (Or.inl ⟨by rfl, by intro w' h; go_simp⟩) hHeld ?_
  show wpAnyH _ _ _ _ _ _ _ (Act.put _ (some 8) _) _
  simp only [Act.put, List.setIfInBounds_toArray, List.set_cons_zero, List.set_cons_succ]
  refine wpAnyH_take (i := 4) (v := .int .i64 kd) rfl (by kernel_rfl) (by kernel_rfl) (by kernel_rfl) (fun _ _ _ h => h) (Or.inl ⟨by rfl, by intro w' h; have k0 := (Blk.cell h 0).trans (opC0); go_simp⟩) hHeld ?_
  show wpAnyH _ _ _ _ _ _ _ (Act.put _ (some 9) _) _
  simp only [Act.put, List.setIfInBounds_toArray, List.set_cons_zero, List.set_cons_succ]
  refine wpAnyH_take (i := 5) (v := .int .u8 (kd % 256)) rfl (by kernel_rfl) (by kernel_rfl) (by kernel_rfl) (fun _ _ _ h => h) (Or.inl ⟨by rfl, fun w' h => by unfold execOp; go_simp; try (first | rfl | (rw [IntKind.wrap_u8]))⟩) hHeld ?_
  show wpAnyH _ _ _ _ _ _ _ (Act.put _ (some 10) _) _
  simp only [Act.put, List.setIfInBounds_toArray, List.set_cons_zero, List.set_cons_succ]
  refine wpAnyH_ready (rs := [0, 6]) (by kernel_rfl) (by simp) ?_
  refine AllReadyH.cons rfl (fun K hK => ?_) (AllReadyH.cons rfl (fun K hK => ?_) AllReadyH.nil)
  · refine step_lay rfl 35 0 #[] rfl #[] (by simp) (.slice (some ⟨X0.heap.size, 0, none⟩) 0 0) (X0.alloc (.cells #[] 5)) (by kernel_rfl) ?_
    have hB : Below X0.heap.size X0 (X0.alloc (.cells #[] 5)) := (Below.refl _ _).alloc (Nat.le_refl _) _
    have hO := Oct.own_fresh (X := X0) (base := V.heap.size) EX0.out.size
    generalize X0.alloc (.cells #[] 5) = X1 at hB hO ⊢
    obtain ⟨g5, hg5⟩ : ∃ x, X0.heap.size = x := ⟨_, rfl⟩
    rw [hg5] at hO ⊢
    have EX1 : Hid (Below V.heap.size V X1) := Lib.hid (EX0.out.trans (hB.mono EX0.out.size))
    have PX1 : Hid (Blk X1 gp 32 (opC kd amt c id)) := Lib.hid (PX0.out.below hB PX0.out.lt)
    have SX1 : Hid (Oct.Src X1 A cap b) := Lib.hid (Oct.Src.below SX0.out hB)
    have OX1 : Hid (Oct.Own X1 V.heap.size (.slice (some ⟨g5, 0, none⟩) 0 0) []) := Lib.hid (hO)
    clear EX0 PX0 SX0 hB hO hg5
    refine hK.out _ _ (PX1.out) (fun hHeld => ?_)
    clear hK K
    show wpAnyH _ _ _ _ _ _ _ (Act.put _ (some 5) _) _
    simp only [Act.put, List.setIfInBounds_toArray, List.set_cons_zero, List.set_cons_succ]
    refine wpAnyH_ready (rs := [2, 6]) (by kernel_rfl) (by simp) ?_
    refine AllReadyH.cons rfl (fun K hK => ?_) (AllReadyH.cons rfl (fun K hK => ?_) AllReadyH.nil)
    · refine step_app rfl (.tmp 5) (.tmp 6) 35 35 rfl Tryd.underlying35 Tryd.underlying35 V.heap.size (.slice (some ⟨g5, 0, none⟩) 0 0) [] b rfl OX1.out A len cap rfl HL.out.symm SX1.out (by simp [HL.out]; omega) EX1.out.size ?_
      intro v7 X2 hO hG hL
      have EX2 : Hid (Below V.heap.size V X2) := Lib.hid (EX1.out.trans (Oct.grown_below hG EX1.out.size (fun g hg => (World.ownsRow.lt OX1.out g hg).1)))
      have PX2 : Hid (Blk X2 gp 32 (opC kd amt c id)) := Lib.hid (PX1.out.grown hG (fun e => by have := (World.ownsRow.lt OX1.out gp e.symm).1; have := HLP.out; omega))
      have OX2 : Hid (Oct.Own X2 V.heap.size v7 ([] ++ b)) := Lib.hid (hO)
      clear EX1 PX1 hO hG hL OX1
      refine hK.out _ _ (PX2.out) (fun hHeld => ?_)
      clear hK K
      show wpAnyH _ _ _ _ _ _ _ (Act.put _ (some 7) _) _
      simp only [Act.put, List.setIfInBounds_toArray, List.set_cons_zero, List.set_cons_succ]
      refine wpAnyH_ready (rs := [6]) (by kernel_rfl) (by simp) ?_
      refine AllReadyH.cons rfl (fun K hK => ?_) AllReadyH.nil
      refine step_lay rfl 35 1 #[(0, .tmp 10)] rfl #[(0, .int .u8 (kd % 256))] (by simp [Act.eval]) (.slice (some ⟨X2.heap.size, 0, none⟩) 1 1) (X2.alloc (.cells #[.int .u8 (kd % 256)] 5)) (by kernel_rfl) ?_
      have hB : Below X2.heap.size X2 (X2.alloc (.cells #[.int .u8 (kd % 256)] 5)) := (Below.refl _ _).alloc (Nat.le_refl _) _
      have hK := Blk.new X2 5 [.int .u8 (kd % 256)]
      generalize X2.alloc (.cells #[.int .u8 (kd % 256)] 5) = X3 at hB hK ⊢
      obtain ⟨g11, hg11⟩ : ∃ x, X2.heap.size = x := ⟨_, rfl⟩
      rw [hg11] at hK ⊢
      have EX3 : Hid (Below V.heap.size V X3) := Lib.hid (EX2.out.trans (hB.mono EX2.out.size))
      have PX3 : Hid (Blk X3 gp 32 (opC kd amt c id)) := Lib.hid (PX2.out.below hB PX2.out.lt)
      have OX3 : Hid (Oct.Own X3 V.heap.size v7 ([] ++ b)) := Lib.hid (Oct.Own.below OX2.out hB)
      have KX3 : Hid (Blk X3 g11 5 [.int .u8 (kd % 256)]) := Lib.hid (hK)
      clear EX2 PX2 OX2 hB hK hg11
      refine hK.out _ _ (PX3.out) (fun hHeld => ?_)
      clear hK K
      show wpAnyH _ _ _ _ _ _ _ (Act.put _ (some 11) _) _
      simp only [Act.put, List.setIfInBounds_toArray, List.set_cons_zero, List.set_cons_succ]
      refine wpAnyH_ready (rs := [7]) (by kernel_rfl) (by simp) ?_
      refine AllReadyH.cons rfl (fun K hK => ?_) AllReadyH.nil
      refine step_app rfl (.tmp 7) (.tmp 11) 35 35 rfl Tryd.underlying35 Tryd.underlying35 V.heap.size v7 ([] ++ b) [kd % 256] rfl OX3.out (some ⟨g11, 0, none⟩) 1 1 rfl rfl (src_blk KX3.out) (by simp [HL.out]; omega) EX3.out.size ?_
      intro v12 X4 hO hG hL
      have EX4 : Hid (Below V.heap.size V X4) := Lib.hid (EX3.out.trans (Oct.grown_below hG EX3.out.size (fun g hg => (World.ownsRow.lt OX3.out g hg).1)))
      have PX4 : Hid (Blk X4 gp 32 (opC kd amt c id)) := Lib.hid (PX3.out.grown hG (fun e => by have := (World.ownsRow.lt OX3.out gp e.symm).1; have := HLP.out; omega))
      have OX4 : Hid (Oct.Own X4 V.heap.size v12 (([] ++ b) ++ [kd % 256])) := Lib.hid (hO)
      clear EX3 PX3 hO hG hL OX3 KX3
      refine hK.out _ _ (PX4.out) (fun hHeld => ?_)
      clear hK K
      show wpAnyH _ _ _ _ _ _ _ (Act.put _ (some 12) _) _
      simp only [Act.put, List.setIfInBounds_toArray, List.set_cons_zero, List.set_cons_succ]
      refine wpAnyH_take (i := 8) (v := v12) rfl (by kernel_rfl) (by kernel_rfl) (by kernel_rfl) (fun _ _ _ h => h) (Or.inl ⟨by rfl, fun w _ => by rfl⟩) hHeld ?_
      show wpAnyH _ _ _ _ _ _ _ (Act.put _ (some 0) _) _
      simp only [Act.put, List.setIfInBounds_toArray, List.set_cons_zero]
      refine wpAnyH_done (by kernel_rfl) ?_ _
      clear hHeld
      go_upto_region 2 with fail
      obtain ⟨A1, c1, hv1, hs1⟩ := Oct.Own.src OX4.out
      obtain ⟨n1, hn⟩ : ∃ n, (([] ++ b) ++ [kd % 256]).length = n := ⟨_, rfl⟩
      have HB1 : Hid (n1 ≤ 900000) := Lib.hid (by rw [← hn]; simp [Oct.numV_length, HL.out]; omega)
      rw [hn] at hv1
      subst hv1
      have HN1 := Lib.hid hn
      clear hn
      have SX4 := Lib.hid hs1
      clear hs1
      have hBz : Below X4.heap.size X4 X4.drew := below_drewN (Below.refl _ _) 1
      have EZ0 : Hid (Below V.heap.size V X4.drew) := Lib.hid (EX4.out.trans (hBz.mono EX4.out.size))
      have PZ0 : Hid (Blk X4.drew gp 32 (opC kd amt c id)) := Lib.hid (PX4.out.below hBz PX4.out.lt)
      have SZ0 : Hid (Oct.Src X4.drew A1 c1 (([] ++ b) ++ [kd % 256])) := Lib.hid (Oct.Src.below SX4.out hBz)
      clear hBz
      refine wp_region_held_drew (S := fun w' => Blk w' gp 32 (opC kd amt c id)) (by kernel_rfl) (PZ0.out) (fun hHeld => ?_)
      generalize X4.drew = Z0 at hHeld EZ0 PZ0 SZ0 ⊢
      refine wpAnyH_take (i := 0) (v := .slice A1 n1 c1) rfl (by kernel_rfl) (by kernel_rfl) (by kernel_rfl) (fun _ _ _ h => h) (Or.inl ⟨by rfl, fun w _ => by rfl⟩) hHeld ?_
      show wpAnyH _ _ _ _ _ _ _ (Act.put _ (some 13) _) _
      simp only [Act.put, List.setIfInBounds_toArray, List.set_cons_zero, List.set_cons_succ]
      refine wpAnyH_take (i := 1) (v := .pointer (some ⟨gp, 1, none⟩)) rfl (by kernel_rfl) (by kernel_rfl) (by kernel_rfl) (fun _ _ _ h => h) (Or.inl ⟨by rfl, by intro w' h; go_simp⟩) hHeld ?_
      show wpAnyH _ _ _ _ _ _ _ (Act.put _ (some 14) _) _
      simp only [Act.put, List.setIfInBounds_toArray, List.set_cons_zero, List.set_cons_succ]
      refine wpAnyH_take (i := 2) (v := .int .u64 amt) rfl (by kernel_rfl) (by kernel_rfl) (by kernel_rfl) (fun _ _ _ h => h) (Or.inl ⟨by rfl, by intro w' h; have k0 := (Blk.cell h 1).trans (opC1); go_simp⟩) hHeld ?_
      show wpAnyH _ _ _ _ _ _ _ (Act.put _ (some 15) _) _
      simp only [Act.put, List.setIfInBounds_toArray, List.set_cons_zero, List.set_cons_succ]
      refine wpAnyH_take (i := 4) (v := .pointer (some ⟨gp, 38, none⟩)) rfl (by kernel_rfl) (by kernel_rfl) (by kernel_rfl) (fun _ _ _ h => h) (Or.inl ⟨by rfl, by intro w' h; go_simp⟩) hHeld ?_
      show wpAnyH _ _ _ _ _ _ _ (Act.put _ (some 17) _) _
      simp only [Act.put, List.setIfInBounds_toArray, List.set_cons_zero, List.set_cons_succ]
      refine wpAnyH_take (i := 5) (v := .int .u64 id) rfl (by kernel_rfl) (by kernel_rfl) (by kernel_rfl) (fun _ _ _ h => h) (Or.inl ⟨by rfl, by intro w' h; have k0 := (Blk.cell h 38).trans (opC38 kd amt id HOK.out); go_simp⟩) hHeld ?_
      show wpAnyH _ _ _ _ _ _ _ (Act.put _ (some 18) _) _
      simp only [Act.put, List.setIfInBounds_toArray, List.set_cons_zero, List.set_cons_succ]
      refine wpAnyH_take (i := 7) (v := .pointer (some ⟨gp, 2, none⟩)) rfl (by kernel_rfl) (by kernel_rfl) (by kernel_rfl) (fun _ _ _ h => h) (Or.inl ⟨by rfl, by intro w' h; go_simp⟩) hHeld ?_
      show wpAnyH _ _ _ _ _ _ _ (Act.put _ (some 20) _) _
      simp only [Act.put, List.setIfInBounds_toArray, List.set_cons_zero, List.set_cons_succ]
      refine wpAnyH_take (i := 8) (v := .agg c.cells.toArray) rfl (by kernel_rfl) (by kernel_rfl) (by kernel_rfl) (fun _ _ _ h => h) (yieldsIf_load_mid rfl 30 (.tmp 20) rfl gp 2 rfl c.cells _ (fun w' h => opC_cond h) Tryd.underlying30 rfl HIC.out) hHeld ?_
      show wpAnyH _ _ _ _ _ _ _ (Act.put _ (some 21) _) _
      simp only [Act.put, List.setIfInBounds_toArray, List.set_cons_zero, List.set_cons_succ]
      refine wpAnyH_ready (rs := [3]) (by kernel_rfl) (by simp) ?_
      refine AllReadyH.cons rfl (fun K hK => ?_) AllReadyH.nil
      refine step_call rfl 31 #[.tmp 13, .tmp 15, .const (.int .i64 8)] #[35, 23, 3] rfl #[.slice A1 n1 c1, .int .u64 amt, .int .i64 8] (by simp [Act.eval]) (by go_simp) (Oct.num_any A1 c1 n1 (([] ++ b) ++ [kd % 256]) amt 8 (by omega) Z0 SZ0.out HN1.out (by have := HB1.out; omega) HAI.out.1.1 HAI.out.1.2) ?_
      rintro e X1 ⟨v16, rfl, hO, hB⟩
      obtain ⟨A16, c16, hv, hs⟩ := Oct.Own.src hO
      obtain ⟨n16, hn⟩ : ∃ n, ((([] ++ b) ++ [kd % 256]) ++ Oct.numV 8 amt).length = n := ⟨_, rfl⟩
      have HB16 : Hid (n16 ≤ 900000) := Lib.hid (by rw [← hn]; simp [Oct.numV_length, HL.out]; omega)
      rw [hn] at hv
      subst hv
      have HN16 := Lib.hid hn
      clear hn hO
      have EX1 : Hid (Below V.heap.size V X1) := Lib.hid (EZ0.out.trans (hB.mono EZ0.out.size))
      have PX1 : Hid (Blk X1 gp 32 (opC kd amt c id)) := Lib.hid (PZ0.out.below hB PZ0.out.lt)
      have SX1 : Hid (Oct.Src X1 A16 c16 ((([] ++ b) ++ [kd % 256]) ++ Oct.numV 8 amt)) := Lib.hid (hs)
      clear EZ0 PZ0 hB hs
      refine ⟨_, rfl, hK.out _ _ (PX1.out) (fun hHeld => ?_)⟩
      clear hK K
      show wpAnyH _ _ _ _ _ _ _ (Act.put _ (some 16) _) _
      simp only [Act.put, List.setIfInBounds_toArray, List.set_cons_zero, List.set_cons_succ]
      refine wpAnyH_ready (rs := [6]) (by kernel_rfl) (by simp) ?_
      refine AllReadyH.cons rfl (fun K hK => ?_) AllReadyH.nil
      refine step_call rfl 31 #[.tmp 16, .tmp 18, .const (.int .i64 8)] #[35, 23, 3] rfl #[.slice A16 n16 c16, .int .u64 id, .int .i64 8] (by simp [Act.eval]) (by go_simp) (Oct.num_any A16 c16 n16 ((([] ++ b) ++ [kd % 256]) ++ Oct.numV 8 amt) id 8 (by omega) X1 SX1.out HN16.out (by have := HB16.out; omega) HAI.out.2.1 HAI.out.2.2) ?_
      rintro e X2 ⟨v19, rfl, hO, hB⟩
      obtain ⟨A19, c19, hv, hs⟩ := Oct.Own.src hO
      obtain ⟨n19, hn⟩ : ∃ n, (((([] ++ b) ++ [kd % 256]) ++ Oct.numV 8 amt) ++ Oct.numV 8 id).length = n := ⟨_, rfl⟩
      have HB19 : Hid (n19 ≤ 900000) := Lib.hid (by rw [← hn]; simp [Oct.numV_length, HL.out]; omega)
      rw [hn] at hv
      subst hv
      have HN19 := Lib.hid hn
      clear hn hO
      have EX2 : Hid (Below V.heap.size V X2) := Lib.hid (EX1.out.trans (hB.mono EX1.out.size))
      have PX2 : Hid (Blk X2 gp 32 (opC kd amt c id)) := Lib.hid (PX1.out.below hB PX1.out.lt)
      have SX2 : Hid (Oct.Src X2 A19 c19 (((([] ++ b) ++ [kd % 256]) ++ Oct.numV 8 amt) ++ Oct.numV 8 id)) := Lib.hid (hs)
      clear EX1 PX1 hB hs
      refine ⟨_, rfl, hK.out _ _ (PX2.out) (fun hHeld => ?_)⟩
      clear hK K
      show wpAnyH _ _ _ _ _ _ _ (Act.put _ (some 19) _) _
      simp only [Act.put, List.setIfInBounds_toArray, List.set_cons_zero, List.set_cons_succ]
      refine wpAnyH_ready (rs := [9]) (by kernel_rfl) (by simp) ?_
      refine AllReadyH.cons rfl (fun K hK => ?_) AllReadyH.nil
      refine step_call rfl 32 #[.tmp 19, .tmp 21] #[35, 30] rfl #[.slice A19 n19 c19, .agg c.cells.toArray] (by simp [Act.eval]) (by go_simp) (rcond_any A19 c19 n19 (((([] ++ b) ++ [kd % 256]) ++ Oct.numV 8 amt) ++ Oct.numV 8 id) c X2 HOK HW SX2.out HN19 HB19.out) ?_
      rintro e X3 ⟨v22, rfl, hO, hB⟩
      have EX3 : Hid (Below V.heap.size V X3) := Lib.hid (EX2.out.trans (hB.mono EX2.out.size))
      have PX3 : Hid (Blk X3 gp 32 (opC kd amt c id)) := Lib.hid (PX2.out.below hB PX2.out.lt)
      have OX3 : Hid (Oct.Own X3 V.heap.size v22 ((((([] ++ b) ++ [kd % 256]) ++ Oct.numV 8 amt) ++ Oct.numV 8 id) ++ condD c)) := Lib.hid (own_base hO EX2.out.size)
      clear EX2 PX2 hB hO
      refine ⟨_, rfl, hK.out _ _ (PX3.out) (fun hHeld => ?_)⟩
      clear hK K
      show wpAnyH _ _ _ _ _ _ _ (Act.put _ (some 22) _) _
      simp only [Act.put, List.setIfInBounds_toArray, List.set_cons_zero, List.set_cons_succ]
      refine wpAnyH_take (i := 10) (v := v22) rfl (by kernel_rfl) (by kernel_rfl) (by kernel_rfl) (fun _ _ _ h => h) (Or.inl ⟨by rfl, fun w _ => by rfl⟩) hHeld ?_
      show wpAnyH _ _ _ _ _ _ _ (Act.put _ (some 4) _) _
      simp only [Act.put, List.setIfInBounds_toArray, List.set_cons_zero, List.set_cons_succ]
      refine wpAnyH_done (by kernel_rfl) ?_ _
      clear hHeld
      go_wp2_with fail
      go_ret
      refine ⟨v22, rfl, ?_, HBV.out.trans (EX3.out.mono HBV.out.size)⟩
      have h := own_base (c := w.heap.size) OX3.out HBV.out.size
      rw [show b ++ opD kd amt c id = ((((([] ++ b) ++ [kd % 256]) ++ Oct.numV 8 amt) ++ Oct.numV 8 id) ++ condD c) by simp [opD, List.append_assoc]]
      exact h
    · refine step_lay rfl 35 1 #[(0, .tmp 10)] rfl #[(0, .int .u8 (kd % 256))] (by simp [Act.eval]) (.slice (some ⟨X1.heap.size, 0, none⟩) 1 1) (X1.alloc (.cells #[.int .u8 (kd % 256)] 5)) (by kernel_rfl) ?_
      have hB : Below X1.heap.size X1 (X1.alloc (.cells #[.int .u8 (kd % 256)] 5)) := (Below.refl _ _).alloc (Nat.le_refl _) _
      have hK := Blk.new X1 5 [.int .u8 (kd % 256)]
      generalize X1.alloc (.cells #[.int .u8 (kd % 256)] 5) = X2 at hB hK ⊢
      obtain ⟨g11, hg11⟩ : ∃ x, X1.heap.size = x := ⟨_, rfl⟩
      have NE : Hid (g5 ≠ g11) := Lib.hid (by have := (World.ownsRow.lt OX1.out g5 rfl).2; omega)
      rw [hg11] at hK ⊢
      have EX2 : Hid (Below V.heap.size V X2) := Lib.hid (EX1.out.trans (hB.mono EX1.out.size))
      have PX2 : Hid (Blk X2 gp 32 (opC kd amt c id)) := Lib.hid (PX1.out.below hB PX1.out.lt)
      have SX2 : Hid (Oct.Src X2 A cap b) := Lib.hid (Oct.Src.below SX1.out hB)
      have OX2 : Hid (Oct.Own X2 V.heap.size (.slice (some ⟨g5, 0, none⟩) 0 0) []) := Lib.hid (Oct.Own.below OX1.out hB)
      have KX2 : Hid (Blk X2 g11 5 [.int .u8 (kd % 256)]) := Lib.hid (hK)
      clear EX1 PX1 SX1 OX1 hB hK hg11
      refine hK.out _ _ (PX2.out) (fun hHeld => ?_)
      clear hK K
      show wpAnyH _ _ _ _ _ _ _ (Act.put _ (some 11) _) _
      simp only [Act.put, List.setIfInBounds_toArray, List.set_cons_zero, List.set_cons_succ]
      refine wpAnyH_ready (rs := [2]) (by kernel_rfl) (by simp) ?_
      refine AllReadyH.cons rfl (fun K hK => ?_) AllReadyH.nil
      refine step_app rfl (.tmp 5) (.tmp 6) 35 35 rfl Tryd.underlying35 Tryd.underlying35 V.heap.size (.slice (some ⟨g5, 0, none⟩) 0 0) [] b rfl OX2.out A len cap rfl HL.out.symm SX2.out (by simp [HL.out]; omega) EX2.out.size ?_
      intro v7 X3 hO hG hL
      have EX3 : Hid (Below V.heap.size V X3) := Lib.hid (EX2.out.trans (Oct.grown_below hG EX2.out.size (fun g hg => (World.ownsRow.lt OX2.out g hg).1)))
      have PX3 : Hid (Blk X3 gp 32 (opC kd amt c id)) := Lib.hid (PX2.out.grown hG (fun e => by have := (World.ownsRow.lt OX2.out gp e.symm).1; have := HLP.out; omega))
      have KX3 : Hid (Blk X3 g11 5 [.int .u8 (kd % 256)]) := Lib.hid (KX2.out.grown hG (fun e => by have e' : some g11 = some g5 := e; injection e' with e'; exact NE.out e'.symm))
      have OX3 : Hid (Oct.Own X3 V.heap.size v7 ([] ++ b)) := Lib.hid (hO)
      clear EX2 PX2 KX2 hO hG hL OX2
      refine hK.out _ _ (PX3.out) (fun hHeld => ?_)
      clear hK K
      show wpAnyH _ _ _ _ _ _ _ (Act.put _ (some 7) _) _
      simp only [Act.put, List.setIfInBounds_toArray, List.set_cons_zero, List.set_cons_succ]
      refine wpAnyH_ready (rs := [7]) (by kernel_rfl) (by simp) ?_
      refine AllReadyH.cons rfl (fun K hK => ?_) AllReadyH.nil
      refine step_app rfl (.tmp 7) (.tmp 11) 35 35 rfl Tryd.underlying35 Tryd.underlying35 V.heap.size v7 ([] ++ b) [kd % 256] rfl OX3.out (some ⟨g11, 0, none⟩) 1 1 rfl rfl (src_blk KX3.out) (by simp [HL.out]; omega) EX3.out.size ?_
      intro v12 X4 hO hG hL
      have EX4 : Hid (Below V.heap.size V X4) := Lib.hid (EX3.out.trans (Oct.grown_below hG EX3.out.size (fun g hg => (World.ownsRow.lt OX3.out g hg).1)))
      have PX4 : Hid (Blk X4 gp 32 (opC kd amt c id)) := Lib.hid (PX3.out.grown hG (fun e => by have := (World.ownsRow.lt OX3.out gp e.symm).1; have := HLP.out; omega))
      have OX4 : Hid (Oct.Own X4 V.heap.size v12 (([] ++ b) ++ [kd % 256])) := Lib.hid (hO)
      clear EX3 PX3 hO hG hL OX3 KX3
      refine hK.out _ _ (PX4.out) (fun hHeld => ?_)
      clear hK K
      show wpAnyH _ _ _ _ _ _ _ (Act.put _ (some 12) _) _
      simp only [Act.put, List.setIfInBounds_toArray, List.set_cons_zero, List.set_cons_succ]
      refine wpAnyH_take (i := 8) (v := v12) rfl (by kernel_rfl) (by kernel_rfl) (by kernel_rfl) (fun _ _ _ h => h) (Or.inl ⟨by rfl, fun w _ => by rfl⟩) hHeld ?_
      show wpAnyH _ _ _ _ _ _ _ (Act.put _ (some 0) _) _
      simp only [Act.put, List.setIfInBounds_toArray, List.set_cons_zero]
      refine wpAnyH_done (by kernel_rfl) ?_ _
      clear hHeld
      go_upto_region 2 with fail
      obtain ⟨A1, c1, hv1, hs1⟩ := Oct.Own.src OX4.out
      obtain ⟨n1, hn⟩ : ∃ n, (([] ++ b) ++ [kd % 256]).length = n := ⟨_, rfl⟩
      have HB1 : Hid (n1 ≤ 900000) := Lib.hid (by rw [← hn]; simp [Oct.numV_length, HL.out]; omega)
      rw [hn] at hv1
      subst hv1
      have HN1 := Lib.hid hn
      clear hn
      have SX4 := Lib.hid hs1
      clear hs1
      have hBz : Below X4.heap.size X4 X4.drew := below_drewN (Below.refl _ _) 1
      have EZ0 : Hid (Below V.heap.size V X4.drew) := Lib.hid (EX4.out.trans (hBz.mono EX4.out.size))
      have PZ0 : Hid (Blk X4.drew gp 32 (opC kd amt c id)) := Lib.hid (PX4.out.below hBz PX4.out.lt)
      have SZ0 : Hid (Oct.Src X4.drew A1 c1 (([] ++ b) ++ [kd % 256])) := Lib.hid (Oct.Src.below SX4.out hBz)
      clear hBz
      refine wp_region_held_drew (S := fun w' => Blk w' gp 32 (opC kd amt c id)) (by kernel_rfl) (PZ0.out) (fun hHeld => ?_)
      generalize X4.drew = Z0 at hHeld EZ0 PZ0 SZ0 ⊢
      refine wpAnyH_take (i := 0) (v := .slice A1 n1 c1) rfl (by kernel_rfl) (by kernel_rfl) (by kernel_rfl) (fun _ _ _ h => h) (Or.inl ⟨by rfl, fun w _ => by rfl⟩) hHeld ?_
      show wpAnyH _ _ _ _ _ _ _ (Act.put _ (some 13) _) _
      simp only [Act.put, List.setIfInBounds_toArray, List.set_cons_zero, List.set_cons_succ]
      refine wpAnyH_take (i := 1) (v := .pointer (some ⟨gp, 1, none⟩)) rfl (by kernel_rfl) (by kernel_rfl) (by kernel_rfl) (fun _ _ _ h => h) (Or.inl ⟨by rfl, by intro w' h; go_simp⟩) hHeld ?_
      show wpAnyH _ _ _ _ _ _ _ (Act.put _ (some 14) _) _
      simp only [Act.put, List.setIfInBounds_toArray, List.set_cons_zero, List.set_cons_succ]
      refine wpAnyH_take (i := 2) (v := .int .u64 amt) rfl (by kernel_rfl) (by kernel_rfl) (by kernel_rfl) (fun _ _ _ h => h) (Or.inl ⟨by rfl, by intro w' h; have k0 := (Blk.cell h 1).trans (opC1); go_simp⟩) hHeld ?_
      show wpAnyH _ _ _ _ _ _ _ (Act.put _ (some 15) _) _
      simp only [Act.put, List.setIfInBounds_toArray, List.set_cons_zero, List.set_cons_succ]
      refine wpAnyH_take (i := 4) (v := .pointer (some ⟨gp, 38, none⟩)) rfl (by kernel_rfl) (by kernel_rfl) (by kernel_rfl) (fun _ _ _ h => h) (Or.inl ⟨by rfl, by intro w' h; go_simp⟩) hHeld ?_
      show wpAnyH _ _ _ _ _ _ _ (Act.put _ (some 17) _) _
      simp only [Act.put, List.setIfInBounds_toArray, List.set_cons_zero, List.set_cons_succ]
      refine wpAnyH_take (i := 5) (v := .int .u64 id) rfl (by kernel_rfl) (by kernel_rfl) (by kernel_rfl) (fun _ _ _ h => h) (Or.inl ⟨by rfl, by intro w' h; have k0 := (Blk.cell h 38).trans (opC38 kd amt id HOK.out); go_simp⟩) hHeld ?_
      show wpAnyH _ _ _ _ _ _ _ (Act.put _ (some 18) _) _
      simp only [Act.put, List.setIfInBounds_toArray, List.set_cons_zero, List.set_cons_succ]
      refine wpAnyH_take (i := 7) (v := .pointer (some ⟨gp, 2, none⟩)) rfl (by kernel_rfl) (by kernel_rfl) (by kernel_rfl) (fun _ _ _ h => h) (Or.inl ⟨by rfl, by intro w' h; go_simp⟩) hHeld ?_
      show wpAnyH _ _ _ _ _ _ _ (Act.put _ (some 20) _) _
      simp only [Act.put, List.setIfInBounds_toArray, List.set_cons_zero, List.set_cons_succ]
      refine wpAnyH_take (i := 8) (v := .agg c.cells.toArray) rfl (by kernel_rfl) (by kernel_rfl) (by kernel_rfl) (fun _ _ _ h => h) (yieldsIf_load_mid rfl 30 (.tmp 20) rfl gp 2 rfl c.cells _ (fun w' h => opC_cond h) Tryd.underlying30 rfl HIC.out) hHeld ?_
      show wpAnyH _ _ _ _ _ _ _ (Act.put _ (some 21) _) _
      simp only [Act.put, List.setIfInBounds_toArray, List.set_cons_zero, List.set_cons_succ]
      refine wpAnyH_ready (rs := [3]) (by kernel_rfl) (by simp) ?_
      refine AllReadyH.cons rfl (fun K hK => ?_) AllReadyH.nil
      refine step_call rfl 31 #[.tmp 13, .tmp 15, .const (.int .i64 8)] #[35, 23, 3] rfl #[.slice A1 n1 c1, .int .u64 amt, .int .i64 8] (by simp [Act.eval]) (by go_simp) (Oct.num_any A1 c1 n1 (([] ++ b) ++ [kd % 256]) amt 8 (by omega) Z0 SZ0.out HN1.out (by have := HB1.out; omega) HAI.out.1.1 HAI.out.1.2) ?_
      rintro e X1 ⟨v16, rfl, hO, hB⟩
      obtain ⟨A16, c16, hv, hs⟩ := Oct.Own.src hO
      obtain ⟨n16, hn⟩ : ∃ n, ((([] ++ b) ++ [kd % 256]) ++ Oct.numV 8 amt).length = n := ⟨_, rfl⟩
      have HB16 : Hid (n16 ≤ 900000) := Lib.hid (by rw [← hn]; simp [Oct.numV_length, HL.out]; omega)
      rw [hn] at hv
      subst hv
      have HN16 := Lib.hid hn
      clear hn hO
      have EX1 : Hid (Below V.heap.size V X1) := Lib.hid (EZ0.out.trans (hB.mono EZ0.out.size))
      have PX1 : Hid (Blk X1 gp 32 (opC kd amt c id)) := Lib.hid (PZ0.out.below hB PZ0.out.lt)
      have SX1 : Hid (Oct.Src X1 A16 c16 ((([] ++ b) ++ [kd % 256]) ++ Oct.numV 8 amt)) := Lib.hid (hs)
      clear EZ0 PZ0 hB hs
      refine ⟨_, rfl, hK.out _ _ (PX1.out) (fun hHeld => ?_)⟩
      clear hK K
      show wpAnyH _ _ _ _ _ _ _ (Act.put _ (some 16) _) _
      simp only [Act.put, List.setIfInBounds_toArray, List.set_cons_zero, List.set_cons_succ]
      refine wpAnyH_ready (rs := [6]) (by kernel_rfl) (by simp) ?_
      refine AllReadyH.cons rfl (fun K hK => ?_) AllReadyH.nil
      refine step_call rfl 31 #[.tmp 16, .tmp 18, .const (.int .i64 8)] #[35, 23, 3] rfl #[.slice A16 n16 c16, .int .u64 id, .int .i64 8] (by simp [Act.eval]) (by go_simp) (Oct.num_any A16 c16 n16 ((([] ++ b) ++ [kd % 256]) ++ Oct.numV 8 amt) id 8 (by omega) X1 SX1.out HN16.out (by have := HB16.out; omega) HAI.out.2.1 HAI.out.2.2) ?_
      rintro e X2 ⟨v19, rfl, hO, hB⟩
      obtain ⟨A19, c19, hv, hs⟩ := Oct.Own.src hO
      obtain ⟨n19, hn⟩ : ∃ n, (((([] ++ b) ++ [kd % 256]) ++ Oct.numV 8 amt) ++ Oct.numV 8 id).length = n := ⟨_, rfl⟩
      have HB19 : Hid (n19 ≤ 900000) := Lib.hid (by rw [← hn]; simp [Oct.numV_length, HL.out]; omega)
      rw [hn] at hv
      subst hv
      have HN19 := Lib.hid hn
      clear hn hO
      have EX2 : Hid (Below V.heap.size V X2) := Lib.hid (EX1.out.trans (hB.mono EX1.out.size))
      have PX2 : Hid (Blk X2 gp 32 (opC kd amt c id)) := Lib.hid (PX1.out.below hB PX1.out.lt)
      have SX2 : Hid (Oct.Src X2 A19 c19 (((([] ++ b) ++ [kd % 256]) ++ Oct.numV 8 amt) ++ Oct.numV 8 id)) := Lib.hid (hs)
      clear EX1 PX1 hB hs
      refine ⟨_, rfl, hK.out _ _ (PX2.out) (fun hHeld => ?_)⟩
      clear hK K
      show wpAnyH _ _ _ _ _ _ _ (Act.put _ (some 19) _) _
      simp only [Act.put, List.setIfInBounds_toArray, List.set_cons_zero, List.set_cons_succ]
      refine wpAnyH_ready (rs := [9]) (by kernel_rfl) (by simp) ?_
      refine AllReadyH.cons rfl (fun K hK => ?_) AllReadyH.nil
      refine step_call rfl 32 #[.tmp 19, .tmp 21] #[35, 30] rfl #[.slice A19 n19 c19, .agg c.cells.toArray] (by simp [Act.eval]) (by go_simp) (rcond_any A19 c19 n19 (((([] ++ b) ++ [kd % 256]) ++ Oct.numV 8 amt) ++ Oct.numV 8 id) c X2 HOK HW SX2.out HN19 HB19.out) ?_
      rintro e X3 ⟨v22, rfl, hO, hB⟩
      have EX3 : Hid (Below V.heap.size V X3) := Lib.hid (EX2.out.trans (hB.mono EX2.out.size))
      have PX3 : Hid (Blk X3 gp 32 (opC kd amt c id)) := Lib.hid (PX2.out.below hB PX2.out.lt)
      have OX3 : Hid (Oct.Own X3 V.heap.size v22 ((((([] ++ b) ++ [kd % 256]) ++ Oct.numV 8 amt) ++ Oct.numV 8 id) ++ condD c)) := Lib.hid (own_base hO EX2.out.size)
      clear EX2 PX2 hB hO
      refine ⟨_, rfl, hK.out _ _ (PX3.out) (fun hHeld => ?_)⟩
      clear hK K
      show wpAnyH _ _ _ _ _ _ _ (Act.put _ (some 22) _) _
      simp only [Act.put, List.setIfInBounds_toArray, List.set_cons_zero, List.set_cons_succ]
      refine wpAnyH_take (i := 10) (v := v22) rfl (by kernel_rfl) (by kernel_rfl) (by kernel_rfl) (fun _ _ _ h => h) (Or.inl ⟨by rfl, fun w _ => by rfl⟩) hHeld ?_
      show wpAnyH _ _ _ _ _ _ _ (Act.put _ (some 4) _) _
      simp only [Act.put, List.setIfInBounds_toArray, List.set_cons_zero, List.set_cons_succ]
      refine wpAnyH_done (by kernel_rfl) ?_ _
      clear hHeld
      go_wp2_with fail
      go_ret
      refine ⟨v22, rfl, ?_, HBV.out.trans (EX3.out.mono HBV.out.size)⟩
      have h := own_base (c := w.heap.size) OX3.out HBV.out.size
      rw [show b ++ opD kd amt c id = ((((([] ++ b) ++ [kd % 256]) ++ Oct.numV 8 amt) ++ Oct.numV 8 id) ++ condD c) by simp [opD, List.append_assoc]]
      exact h
  · refine step_lay rfl 35 1 #[(0, .tmp 10)] rfl #[(0, .int .u8 (kd % 256))] (by simp [Act.eval]) (.slice (some ⟨X0.heap.size, 0, none⟩) 1 1) (X0.alloc (.cells #[.int .u8 (kd % 256)] 5)) (by kernel_rfl) ?_
    have hB : Below X0.heap.size X0 (X0.alloc (.cells #[.int .u8 (kd % 256)] 5)) := (Below.refl _ _).alloc (Nat.le_refl _) _
    have hK := Blk.new X0 5 [.int .u8 (kd % 256)]
    generalize X0.alloc (.cells #[.int .u8 (kd % 256)] 5) = X1 at hB hK ⊢
    obtain ⟨g11, hg11⟩ : ∃ x, X0.heap.size = x := ⟨_, rfl⟩
    rw [hg11] at hK ⊢
    have EX1 : Hid (Below V.heap.size V X1) := Lib.hid (EX0.out.trans (hB.mono EX0.out.size))
    have PX1 : Hid (Blk X1 gp 32 (opC kd amt c id)) := Lib.hid (PX0.out.below hB PX0.out.lt)
    have SX1 : Hid (Oct.Src X1 A cap b) := Lib.hid (Oct.Src.below SX0.out hB)
    have KX1 : Hid (Blk X1 g11 5 [.int .u8 (kd % 256)]) := Lib.hid (hK)
    clear EX0 PX0 SX0 hB hK hg11
    refine hK.out _ _ (PX1.out) (fun hHeld => ?_)
    clear hK K
    show wpAnyH _ _ _ _ _ _ _ (Act.put _ (some 11) _) _
    simp only [Act.put, List.setIfInBounds_toArray, List.set_cons_zero, List.set_cons_succ]
    refine wpAnyH_ready (rs := [0]) (by kernel_rfl) (by simp) ?_
    refine AllReadyH.cons rfl (fun K hK => ?_) AllReadyH.nil
    refine step_lay rfl 35 0 #[] rfl #[] (by simp) (.slice (some ⟨X1.heap.size, 0, none⟩) 0 0) (X1.alloc (.cells #[] 5)) (by kernel_rfl) ?_
    have hB : Below X1.heap.size X1 (X1.alloc (.cells #[] 5)) := (Below.refl _ _).alloc (Nat.le_refl _) _
    have hO := Oct.own_fresh (X := X1) (base := V.heap.size) EX1.out.size
    generalize X1.alloc (.cells #[] 5) = X2 at hB hO ⊢
    obtain ⟨g5, hg5⟩ : ∃ x, X1.heap.size = x := ⟨_, rfl⟩
    have NE : Hid (g5 ≠ g11) := Lib.hid (by have := KX1.out.lt; omega)
    rw [hg5] at hO ⊢
    have EX2 : Hid (Below V.heap.size V X2) := Lib.hid (EX1.out.trans (hB.mono EX1.out.size))
    have PX2 : Hid (Blk X2 gp 32 (opC kd amt c id)) := Lib.hid (PX1.out.below hB PX1.out.lt)
    have SX2 : Hid (Oct.Src X2 A cap b) := Lib.hid (Oct.Src.below SX1.out hB)
    have KX2 : Hid (Blk X2 g11 5 [.int .u8 (kd % 256)]) := Lib.hid (KX1.out.below hB KX1.out.lt)
    have OX2 : Hid (Oct.Own X2 V.heap.size (.slice (some ⟨g5, 0, none⟩) 0 0) []) := Lib.hid (hO)
    clear EX1 PX1 SX1 KX1 hB hO hg5
    refine hK.out _ _ (PX2.out) (fun hHeld => ?_)
    clear hK K
    show wpAnyH _ _ _ _ _ _ _ (Act.put _ (some 5) _) _
    simp only [Act.put, List.setIfInBounds_toArray, List.set_cons_zero, List.set_cons_succ]
    refine wpAnyH_ready (rs := [2]) (by kernel_rfl) (by simp) ?_
    refine AllReadyH.cons rfl (fun K hK => ?_) AllReadyH.nil
    refine step_app rfl (.tmp 5) (.tmp 6) 35 35 rfl Tryd.underlying35 Tryd.underlying35 V.heap.size (.slice (some ⟨g5, 0, none⟩) 0 0) [] b rfl OX2.out A len cap rfl HL.out.symm SX2.out (by simp [HL.out]; omega) EX2.out.size ?_
    intro v7 X3 hO hG hL
    have EX3 : Hid (Below V.heap.size V X3) := Lib.hid (EX2.out.trans (Oct.grown_below hG EX2.out.size (fun g hg => (World.ownsRow.lt OX2.out g hg).1)))
    have PX3 : Hid (Blk X3 gp 32 (opC kd amt c id)) := Lib.hid (PX2.out.grown hG (fun e => by have := (World.ownsRow.lt OX2.out gp e.symm).1; have := HLP.out; omega))
    have KX3 : Hid (Blk X3 g11 5 [.int .u8 (kd % 256)]) := Lib.hid (KX2.out.grown hG (fun e => by have e' : some g11 = some g5 := e; injection e' with e'; exact NE.out e'.symm))
    have OX3 : Hid (Oct.Own X3 V.heap.size v7 ([] ++ b)) := Lib.hid (hO)
    clear EX2 PX2 KX2 hO hG hL OX2
    refine hK.out _ _ (PX3.out) (fun hHeld => ?_)
    clear hK K
    show wpAnyH _ _ _ _ _ _ _ (Act.put _ (some 7) _) _
    simp only [Act.put, List.setIfInBounds_toArray, List.set_cons_zero, List.set_cons_succ]
    refine wpAnyH_ready (rs := [7]) (by kernel_rfl) (by simp) ?_
    refine AllReadyH.cons rfl (fun K hK => ?_) AllReadyH.nil
    refine step_app rfl (.tmp 7) (.tmp 11) 35 35 rfl Tryd.underlying35 Tryd.underlying35 V.heap.size v7 ([] ++ b) [kd % 256] rfl OX3.out (some ⟨g11, 0, none⟩) 1 1 rfl rfl (src_blk KX3.out) (by simp [HL.out]; omega) EX3.out.size ?_
    intro v12 X4 hO hG hL
    have EX4 : Hid (Below V.heap.size V X4) := Lib.hid (EX3.out.trans (Oct.grown_below hG EX3.out.size (fun g hg => (World.ownsRow.lt OX3.out g hg).1)))
    have PX4 : Hid (Blk X4 gp 32 (opC kd amt c id)) := Lib.hid (PX3.out.grown hG (fun e => by have := (World.ownsRow.lt OX3.out gp e.symm).1; have := HLP.out; omega))
    have OX4 : Hid (Oct.Own X4 V.heap.size v12 (([] ++ b) ++ [kd % 256])) := Lib.hid (hO)
    clear EX3 PX3 hO hG hL OX3 KX3
    refine hK.out _ _ (PX4.out) (fun hHeld => ?_)
    clear hK K
    show wpAnyH _ _ _ _ _ _ _ (Act.put _ (some 12) _) _
    simp only [Act.put, List.setIfInBounds_toArray, List.set_cons_zero, List.set_cons_succ]
    refine wpAnyH_take (i := 8) (v := v12) rfl (by kernel_rfl) (by kernel_rfl) (by kernel_rfl) (fun _ _ _ h => h) (Or.inl ⟨by rfl, fun w _ => by rfl⟩) hHeld ?_
    show wpAnyH _ _ _ _ _ _ _ (Act.put _ (some 0) _) _
    simp only [Act.put, List.setIfInBounds_toArray, List.set_cons_zero]
    refine wpAnyH_done (by kernel_rfl) ?_ _
    clear hHeld
    go_upto_region 2 with fail
    obtain ⟨A1, c1, hv1, hs1⟩ := Oct.Own.src OX4.out
    obtain ⟨n1, hn⟩ : ∃ n, (([] ++ b) ++ [kd % 256]).length = n := ⟨_, rfl⟩
    have HB1 : Hid (n1 ≤ 900000) := Lib.hid (by rw [← hn]; simp [Oct.numV_length, HL.out]; omega)
    rw [hn] at hv1
    subst hv1
    have HN1 := Lib.hid hn
    clear hn
    have SX4 := Lib.hid hs1
    clear hs1
    have hBz : Below X4.heap.size X4 X4.drew := below_drewN (Below.refl _ _) 1
    have EZ0 : Hid (Below V.heap.size V X4.drew) := Lib.hid (EX4.out.trans (hBz.mono EX4.out.size))
    have PZ0 : Hid (Blk X4.drew gp 32 (opC kd amt c id)) := Lib.hid (PX4.out.below hBz PX4.out.lt)
    have SZ0 : Hid (Oct.Src X4.drew A1 c1 (([] ++ b) ++ [kd % 256])) := Lib.hid (Oct.Src.below SX4.out hBz)
    clear hBz
    refine wp_region_held_drew (S := fun w' => Blk w' gp 32 (opC kd amt c id)) (by kernel_rfl) (PZ0.out) (fun hHeld => ?_)
    generalize X4.drew = Z0 at hHeld EZ0 PZ0 SZ0 ⊢
    refine wpAnyH_take (i := 0) (v := .slice A1 n1 c1) rfl (by kernel_rfl) (by kernel_rfl) (by kernel_rfl) (fun _ _ _ h => h) (Or.inl ⟨by rfl, fun w _ => by rfl⟩) hHeld ?_
    show wpAnyH _ _ _ _ _ _ _ (Act.put _ (some 13) _) _
    simp only [Act.put, List.setIfInBounds_toArray, List.set_cons_zero, List.set_cons_succ]
    refine wpAnyH_take (i := 1) (v := .pointer (some ⟨gp, 1, none⟩)) rfl (by kernel_rfl) (by kernel_rfl) (by kernel_rfl) (fun _ _ _ h => h) (Or.inl ⟨by rfl, by intro w' h; go_simp⟩) hHeld ?_
    show wpAnyH _ _ _ _ _ _ _ (Act.put _ (some 14) _) _
    simp only [Act.put, List.setIfInBounds_toArray, List.set_cons_zero, List.set_cons_succ]
    refine wpAnyH_take (i := 2) (v := .int .u64 amt) rfl (by kernel_rfl) (by kernel_rfl) (by kernel_rfl) (fun _ _ _ h => h) (Or.inl ⟨by rfl, by intro w' h; have k0 := (Blk.cell h 1).trans (opC1); go_simp⟩) hHeld ?_
    show wpAnyH _ _ _ _ _ _ _ (Act.put _ (some 15) _) _
    simp only [Act.put, List.setIfInBounds_toArray, List.set_cons_zero, List.set_cons_succ]
    refine wpAnyH_take (i := 4) (v := .pointer (some ⟨gp, 38, none⟩)) rfl (by kernel_rfl) (by kernel_rfl) (by kernel_rfl) (fun _ _ _ h => h) (Or.inl ⟨by rfl, by intro w' h; go_simp⟩) hHeld ?_
    show wpAnyH _ _ _ _ _ _ _ (Act.put _ (some 17) _) _
    simp only [Act.put, List.setIfInBounds_toArray, List.set_cons_zero, List.set_cons_succ]
    refine wpAnyH_take (i := 5) (v := .int .u64 id) rfl (by kernel_rfl) (by kernel_rfl) (by kernel_rfl) (fun _ _ _ h => h) (Or.inl ⟨by rfl, by intro w' h; have k0 := (Blk.cell h 38).trans (opC38 kd amt id HOK.out); go_simp⟩) hHeld ?_
    show wpAnyH _ _ _ _ _ _ _ (Act.put _ (some 18) _) _
    simp only [Act.put, List.setIfInBounds_toArray, List.set_cons_zero, List.set_cons_succ]
    refine wpAnyH_take (i := 7) (v := .pointer (some ⟨gp, 2, none⟩)) rfl (by kernel_rfl) (by kernel_rfl) (by kernel_rfl) (fun _ _ _ h => h) (Or.inl ⟨by rfl, by intro w' h; go_simp⟩) hHeld ?_
    show wpAnyH _ _ _ _ _ _ _ (Act.put _ (some 20) _) _
    simp only [Act.put, List.setIfInBounds_toArray, List.set_cons_zero, List.set_cons_succ]
    refine wpAnyH_take (i := 8) (v := .agg c.cells.toArray) rfl (by kernel_rfl) (by kernel_rfl) (by kernel_rfl) (fun _ _ _ h => h) (yieldsIf_load_mid rfl 30 (.tmp 20) rfl gp 2 rfl c.cells _ (fun w' h => opC_cond h) Tryd.underlying30 rfl HIC.out) hHeld ?_
    show wpAnyH _ _ _ _ _ _ _ (Act.put _ (some 21) _) _
    simp only [Act.put, List.setIfInBounds_toArray, List.set_cons_zero, List.set_cons_succ]
    refine wpAnyH_ready (rs := [3]) (by kernel_rfl) (by simp) ?_
    refine AllReadyH.cons rfl (fun K hK => ?_) AllReadyH.nil
    refine step_call rfl 31 #[.tmp 13, .tmp 15, .const (.int .i64 8)] #[35, 23, 3] rfl #[.slice A1 n1 c1, .int .u64 amt, .int .i64 8] (by simp [Act.eval]) (by go_simp) (Oct.num_any A1 c1 n1 (([] ++ b) ++ [kd % 256]) amt 8 (by omega) Z0 SZ0.out HN1.out (by have := HB1.out; omega) HAI.out.1.1 HAI.out.1.2) ?_
    rintro e X1 ⟨v16, rfl, hO, hB⟩
    obtain ⟨A16, c16, hv, hs⟩ := Oct.Own.src hO
    obtain ⟨n16, hn⟩ : ∃ n, ((([] ++ b) ++ [kd % 256]) ++ Oct.numV 8 amt).length = n := ⟨_, rfl⟩
    have HB16 : Hid (n16 ≤ 900000) := Lib.hid (by rw [← hn]; simp [Oct.numV_length, HL.out]; omega)
    rw [hn] at hv
    subst hv
    have HN16 := Lib.hid hn
    clear hn hO
    have EX1 : Hid (Below V.heap.size V X1) := Lib.hid (EZ0.out.trans (hB.mono EZ0.out.size))
    have PX1 : Hid (Blk X1 gp 32 (opC kd amt c id)) := Lib.hid (PZ0.out.below hB PZ0.out.lt)
    have SX1 : Hid (Oct.Src X1 A16 c16 ((([] ++ b) ++ [kd % 256]) ++ Oct.numV 8 amt)) := Lib.hid (hs)
    clear EZ0 PZ0 hB hs
    refine ⟨_, rfl, hK.out _ _ (PX1.out) (fun hHeld => ?_)⟩
    clear hK K
    show wpAnyH _ _ _ _ _ _ _ (Act.put _ (some 16) _) _
    simp only [Act.put, List.setIfInBounds_toArray, List.set_cons_zero, List.set_cons_succ]
    refine wpAnyH_ready (rs := [6]) (by kernel_rfl) (by simp) ?_
    refine AllReadyH.cons rfl (fun K hK => ?_) AllReadyH.nil
    refine step_call rfl 31 #[.tmp 16, .tmp 18, .const (.int .i64 8)] #[35, 23, 3] rfl #[.slice A16 n16 c16, .int .u64 id, .int .i64 8] (by simp [Act.eval]) (by go_simp) (Oct.num_any A16 c16 n16 ((([] ++ b) ++ [kd % 256]) ++ Oct.numV 8 amt) id 8 (by omega) X1 SX1.out HN16.out (by have := HB16.out; omega) HAI.out.2.1 HAI.out.2.2) ?_
    rintro e X2 ⟨v19, rfl, hO, hB⟩
    obtain ⟨A19, c19, hv, hs⟩ := Oct.Own.src hO
    obtain ⟨n19, hn⟩ : ∃ n, (((([] ++ b) ++ [kd % 256]) ++ Oct.numV 8 amt) ++ Oct.numV 8 id).length = n := ⟨_, rfl⟩
    have HB19 : Hid (n19 ≤ 900000) := Lib.hid (by rw [← hn]; simp [Oct.numV_length, HL.out]; omega)
    rw [hn] at hv
    subst hv
    have HN19 := Lib.hid hn
    clear hn hO
    have EX2 : Hid (Below V.heap.size V X2) := Lib.hid (EX1.out.trans (hB.mono EX1.out.size))
    have PX2 : Hid (Blk X2 gp 32 (opC kd amt c id)) := Lib.hid (PX1.out.below hB PX1.out.lt)
    have SX2 : Hid (Oct.Src X2 A19 c19 (((([] ++ b) ++ [kd % 256]) ++ Oct.numV 8 amt) ++ Oct.numV 8 id)) := Lib.hid (hs)
    clear EX1 PX1 hB hs
    refine ⟨_, rfl, hK.out _ _ (PX2.out) (fun hHeld => ?_)⟩
    clear hK K
    show wpAnyH _ _ _ _ _ _ _ (Act.put _ (some 19) _) _
    simp only [Act.put, List.setIfInBounds_toArray, List.set_cons_zero, List.set_cons_succ]
    refine wpAnyH_ready (rs := [9]) (by kernel_rfl) (by simp) ?_
    refine AllReadyH.cons rfl (fun K hK => ?_) AllReadyH.nil
    refine step_call rfl 32 #[.tmp 19, .tmp 21] #[35, 30] rfl #[.slice A19 n19 c19, .agg c.cells.toArray] (by simp [Act.eval]) (by go_simp) (rcond_any A19 c19 n19 (((([] ++ b) ++ [kd % 256]) ++ Oct.numV 8 amt) ++ Oct.numV 8 id) c X2 HOK HW SX2.out HN19 HB19.out) ?_
    rintro e X3 ⟨v22, rfl, hO, hB⟩
    have EX3 : Hid (Below V.heap.size V X3) := Lib.hid (EX2.out.trans (hB.mono EX2.out.size))
    have PX3 : Hid (Blk X3 gp 32 (opC kd amt c id)) := Lib.hid (PX2.out.below hB PX2.out.lt)
    have OX3 : Hid (Oct.Own X3 V.heap.size v22 ((((([] ++ b) ++ [kd % 256]) ++ Oct.numV 8 amt) ++ Oct.numV 8 id) ++ condD c)) := Lib.hid (own_base hO EX2.out.size)
    clear EX2 PX2 hB hO
    refine ⟨_, rfl, hK.out _ _ (PX3.out) (fun hHeld => ?_)⟩
    clear hK K
    show wpAnyH _ _ _ _ _ _ _ (Act.put _ (some 22) _) _
    simp only [Act.put, List.setIfInBounds_toArray, List.set_cons_zero, List.set_cons_succ]
    refine wpAnyH_take (i := 10) (v := v22) rfl (by kernel_rfl) (by kernel_rfl) (by kernel_rfl) (fun _ _ _ h => h) (Or.inl ⟨by rfl, fun w _ => by rfl⟩) hHeld ?_
    show wpAnyH _ _ _ _ _ _ _ (Act.put _ (some 4) _) _
    simp only [Act.put, List.setIfInBounds_toArray, List.set_cons_zero, List.set_cons_succ]
    refine wpAnyH_done (by kernel_rfl) ?_ _
    clear hHeld
    go_wp2_with fail
    go_ret
    refine ⟨v22, rfl, ?_, HBV.out.trans (EX3.out.mono HBV.out.size)⟩
    have h := own_base (c := w.heap.size) OX3.out HBV.out.size
    rw [show b ++ opD kd amt c id = ((((([] ++ b) ++ [kd % 256]) ++ Oct.numV 8 amt) ++ Oct.numV 8 id) ++ condD c) by simp [opD, List.append_assoc]]
    exact h
end Go.Proofs.YtbdjlnejlkiijaaDoorRRR
