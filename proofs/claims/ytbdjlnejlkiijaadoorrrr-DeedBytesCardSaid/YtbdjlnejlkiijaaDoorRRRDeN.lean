/-
  ref13.State (9): a state's bytes behind bytes, the document's.
-/
import Derived.Test.YtbdjlnejlkiijaaDoorRRRDeM
import Derived.Test.YtbdjlnejlkiijaaDoorRRRDeH
namespace Go.Proofs.YtbdjlnejlkiijaaDoorRRR
open Go.RowKit Go.Proofs.YtbdjlnejlkiijaaDoorRRR.Oct
set_option linter.unusedVariables false
set_option linter.unusedSimpArgs false

/-- A state's bytes, as the document lays them. -/
def stD (ch rd m0 m1 t0 t1 : Int) (cs : List Cnd) : List Int := Oct.numV 4 ch ++ Oct.numV 8 rd ++ (Oct.numV 8 m0 ++ Oct.numV 8 m1) ++ (Oct.numV 8 t0 ++ Oct.numV 8 t1) ++ [(cs.length : Int) % 256] ++ cs.flatMap condD
theorem fm_snoc (cs : List Cnd) (k : Nat) (c : Cnd) (hk : k < cs.length) (hc : cs.getD k cnd0 = c) : (cs.take (k + 1)).flatMap condD = (cs.take k).flatMap condD ++ condD c := by
  have e : cs[k] = c := by rw [← hc]; simp [List.getD, hk]
  rw [List.take_succ_eq_append_getElem hk, List.flatMap_append, e]
  simp
theorem condD_len (c : Cnd) (h : c.Ok) : (condD c).length = 57 := by simp [condD, Oct.numV_length, h.h]
theorem fm_len : ∀ (cs : List Cnd), (∀ c ∈ cs, c.Ok) → (cs.flatMap condD).length = cs.length * 57
  | [], _ => rfl
  | c :: r, h => by
    rw [List.flatMap_cons, List.length_append, condD_len c (h c (by simp)), fm_len r fun x hx => h x (by simp [hx]), List.length_cons]
    omega
set_option maxRecDepth 100000 in
set_option maxHeartbeats 8000000 in
theorem rstate_any (A : Option Addr) (cap len : Nat) (b : List Int) (ch rd m0 m1 t0 t1 : Int) (As : Option Addr) (n cp : Nat) (cs : List Cnd) (w : World) (HC : Hid (CRow w As cs)) (HLC : Hid (cs.length = n)) (hn : n ≤ 1000) (HCW : Hid (∀ c ∈ cs, CndW c))
    (HWD : Hid ((0 ≤ ch ∧ ch ≤ 4294967295) ∧ (0 ≤ rd ∧ rd ≤ 18446744073709551615) ∧ (0 ≤ m0 ∧ m0 ≤ 18446744073709551615) ∧ (0 ≤ m1 ∧ m1 ≤ 18446744073709551615) ∧ (0 ≤ t0 ∧ t0 ≤ 18446744073709551615) ∧ (0 ≤ t1 ∧ t1 ≤ 18446744073709551615))) (hS : Oct.Src w A cap b) (HL : Hid (b.length = len)) (hl : len ≤ 500000) :
    Calls Tryd.prog 9 #[.slice A len cap, .agg #[.int .u32 ch, .int .u64 rd, .int .u64 m0, .int .u64 m1, .int .u64 t0, .int .u64 t1, .slice As n cp]] w fun e w' => ∃ v', e = .returned v' ∧ Oct.Own w' w.heap.size v' (b ++ stD ch rd m0 m1 t0 t1 cs) ∧ Below w.heap.size w w' := by
  go_enter Tryd.func9, Tryd.ntmps9
  go_upto_region 1 with fail
  have HP0 : Hid (Blk (w.alloc (.cells #[.int .u32 ch, .int .u64 rd, .int .u64 m0, .int .u64 m1, .int .u64 t0, .int .u64 t1, .slice As n cp] 27)) w.heap.size 27 [.int .u32 ch, .int .u64 rd, .int .u64 m0, .int .u64 m1, .int .u64 t0, .int .u64 t1, .slice As n cp]) := Lib.hid (Blk.new w 27 [.int .u32 ch, .int .u64 rd, .int .u64 m0, .int .u64 m1, .int .u64 t0, .int .u64 t1, .slice As n cp])
  have HBV : Hid (Below w.heap.size w (w.alloc (.cells #[.int .u32 ch, .int .u64 rd, .int .u64 m0, .int .u64 m1, .int .u64 t0, .int .u64 t1, .slice As n cp] 27))) := Lib.hid ((Below.refl _ _).alloc (Nat.le_refl _) _)
  have S := Lib.hid (Oct.Src.below hS HBV.out)
  clear hS
  generalize w.alloc (.cells #[.int .u32 ch, .int .u64 rd, .int .u64 m0, .int .u64 m1, .int .u64 t0, .int .u64 t1, .slice As n cp] 27) = V at HP0 HBV S ⊢
  have HLP := Lib.hid HP0.out.lt
  obtain ⟨gp, hgp⟩ : ∃ x, w.heap.size = x := ⟨_, rfl⟩
  rw [hgp] at HP0 HLP ⊢
  clear hgp
  have P := HP0
  have E := Lib.hid (Below.refl V.heap.size V)
  have hBz : Below V.heap.size V V.drew := below_drewN (Below.refl _ _) 1
  have EX0 : Hid (Below V.heap.size V V.drew) := Lib.hid (E.out.trans (hBz.mono E.out.size))
  have PX0 : Hid (Blk V.drew gp 27 [.int .u32 ch, .int .u64 rd, .int .u64 m0, .int .u64 m1, .int .u64 t0, .int .u64 t1, .slice As n cp]) := Lib.hid (P.out.below hBz P.out.lt)
  have SX0 : Hid (Oct.Src V.drew A cap b) := Lib.hid (Oct.Src.below S.out hBz)
  clear hBz
  refine wp_region_held_drew (S := fun w' => Blk w' gp 27 [.int .u32 ch, .int .u64 rd, .int .u64 m0, .int .u64 m1, .int .u64 t0, .int .u64 t1, .slice As n cp]) (by kernel_rfl) (PX0.out) (fun hHeld => ?_)
  generalize V.drew = X0 at hHeld EX0 PX0 SX0 ⊢
  refine wpAnyH_take (i := 0) (v := .slice A len cap) rfl (by kernel_rfl) (by kernel_rfl) (by kernel_rfl) (fun _ _ _ h => h) (Or.inl ⟨by rfl, fun w _ => by rfl⟩) hHeld ?_
  show wpAnyH _ _ _ _ _ _ _ (Act.put _ (some 6) _) _
  simp only [Act.put, List.setIfInBounds_toArray, List.set_cons_zero, List.set_cons_succ]
  refine wpAnyH_take (i := 1) (v := .pointer (some ⟨gp, 0, none⟩)) rfl (by kernel_rfl) (by kernel_rfl) (by kernel_rfl) (fun _ _ _ h => h) (Or.inl ⟨by rfl, by intro w' h; go_simp⟩) hHeld ?_
  show wpAnyH _ _ _ _ _ _ _ (Act.put _ (some 7) _) _
  simp only [Act.put, List.setIfInBounds_toArray, List.set_cons_zero, List.set_cons_succ]
  refine wpAnyH_take (i := 2) (v := .int .u32 ch) rfl (by kernel_rfl) (by kernel_rfl) (by kernel_rfl) (fun _ _ _ h => h) (Or.inl ⟨by rfl, by intro w' h; have k0 := Blk.cell h 0; simp only [List.getElem?_cons_zero, List.getElem?_cons_succ] at k0; go_simp⟩) hHeld ?_
  show wpAnyH _ _ _ _ _ _ _ (Act.put _ (some 8) _) _
  simp only [Act.put, List.setIfInBounds_toArray, List.set_cons_zero, List.set_cons_succ]
  refine wpAnyH_take (i := 3) (v := .int .u64 ch) rfl (by kernel_rfl) (by kernel_rfl) (by kernel_rfl) (fun _ _ _ h => h) (Or.inl ⟨by rfl, fun w' h => by have e1 := HWD.out.1.1; have e2 := HWD.out.1.2; unfold execOp; go_simp; try (first | rfl | (rw [IntKind.wrap_u64]; congr 2; omega))⟩) hHeld ?_
  show wpAnyH _ _ _ _ _ _ _ (Act.put _ (some 9) _) _
  simp only [Act.put, List.setIfInBounds_toArray, List.set_cons_zero, List.set_cons_succ]
  refine wpAnyH_take (i := 5) (v := .pointer (some ⟨gp, 1, none⟩)) rfl (by kernel_rfl) (by kernel_rfl) (by kernel_rfl) (fun _ _ _ h => h) (Or.inl ⟨by rfl, by intro w' h; go_simp⟩) hHeld ?_
  show wpAnyH _ _ _ _ _ _ _ (Act.put _ (some 11) _) _
  simp only [Act.put, List.setIfInBounds_toArray, List.set_cons_zero, List.set_cons_succ]
  refine wpAnyH_take (i := 6) (v := .int .u64 rd) rfl (by kernel_rfl) (by kernel_rfl) (by kernel_rfl) (fun _ _ _ h => h) (Or.inl ⟨by rfl, by intro w' h; have k0 := Blk.cell h 1; simp only [List.getElem?_cons_zero, List.getElem?_cons_succ] at k0; go_simp⟩) hHeld ?_
  show wpAnyH _ _ _ _ _ _ _ (Act.put _ (some 12) _) _
  simp only [Act.put, List.setIfInBounds_toArray, List.set_cons_zero, List.set_cons_succ]
  refine wpAnyH_ready (rs := [4]) (by kernel_rfl) (by simp) ?_
  refine AllReadyH.cons rfl (fun K hK => ?_) AllReadyH.nil
  refine step_call rfl 31 #[.tmp 6, .tmp 9, .const (.int .i64 4)] #[35, 23, 3] rfl #[.slice A len cap, .int .u64 ch, .int .i64 4] (by simp [Act.eval]) (by go_simp) (Oct.num_any A cap len b ch 4 (by omega) X0 SX0.out HL.out (by omega) HWD.out.1.1 (by have := HWD.out.1.2; omega)) ?_
  rintro e X1 ⟨v10, rfl, hO, hB⟩
  obtain ⟨A10, c10, hv, hs⟩ := Oct.Own.src hO
  obtain ⟨n10, hn⟩ : ∃ n, (b ++ Oct.numV 4 ch).length = n := ⟨_, rfl⟩
  have HB10 : Hid (n10 ≤ 900000) := Lib.hid (by rw [← hn]; simp [Oct.numV_length, HL.out]; omega)
  rw [hn] at hv
  subst hv
  have HN10 := Lib.hid hn
  clear hn hO
  have EX1 : Hid (Below V.heap.size V X1) := Lib.hid (EX0.out.trans (hB.mono EX0.out.size))
  have PX1 : Hid (Blk X1 gp 27 [.int .u32 ch, .int .u64 rd, .int .u64 m0, .int .u64 m1, .int .u64 t0, .int .u64 t1, .slice As n cp]) := Lib.hid (PX0.out.below hB PX0.out.lt)
  have SX1 : Hid (Oct.Src X1 A10 c10 (b ++ Oct.numV 4 ch)) := Lib.hid (hs)
  clear EX0 PX0 hB hs
  refine ⟨_, rfl, hK.out _ _ (PX1.out) (fun hHeld => ?_)⟩
  clear hK K
  show wpAnyH _ _ _ _ _ _ _ (Act.put _ (some 10) _) _
  simp only [Act.put, List.setIfInBounds_toArray, List.set_cons_zero, List.set_cons_succ]
  refine wpAnyH_ready (rs := [7]) (by kernel_rfl) (by simp) ?_
  refine AllReadyH.cons rfl (fun K hK => ?_) AllReadyH.nil
  refine step_call rfl 31 #[.tmp 10, .tmp 12, .const (.int .i64 8)] #[35, 23, 3] rfl #[.slice A10 n10 c10, .int .u64 rd, .int .i64 8] (by simp [Act.eval]) (by go_simp) (Oct.num_any A10 c10 n10 (b ++ Oct.numV 4 ch) rd 8 (by omega) X1 SX1.out HN10.out (by have := HB10.out; omega) HWD.out.2.1.1 HWD.out.2.1.2) ?_
  rintro e X2 ⟨v13, rfl, hO, hB⟩
  obtain ⟨A13, c13, hv, hs⟩ := Oct.Own.src hO
  obtain ⟨n13, hn⟩ : ∃ n, ((b ++ Oct.numV 4 ch) ++ Oct.numV 8 rd).length = n := ⟨_, rfl⟩
  have HB13 : Hid (n13 ≤ 900000) := Lib.hid (by rw [← hn]; simp [Oct.numV_length, HL.out]; omega)
  rw [hn] at hv
  subst hv
  have HN13 := Lib.hid hn
  clear hn hO
  have EX2 : Hid (Below V.heap.size V X2) := Lib.hid (EX1.out.trans (hB.mono EX1.out.size))
  have PX2 : Hid (Blk X2 gp 27 [.int .u32 ch, .int .u64 rd, .int .u64 m0, .int .u64 m1, .int .u64 t0, .int .u64 t1, .slice As n cp]) := Lib.hid (PX1.out.below hB PX1.out.lt)
  have SX2 : Hid (Oct.Src X2 A13 c13 ((b ++ Oct.numV 4 ch) ++ Oct.numV 8 rd)) := Lib.hid (hs)
  clear EX1 PX1 hB hs
  refine ⟨_, rfl, hK.out _ _ (PX2.out) (fun hHeld => ?_)⟩
  clear hK K
  show wpAnyH _ _ _ _ _ _ _ (Act.put _ (some 13) _) _
  simp only [Act.put, List.setIfInBounds_toArray, List.set_cons_zero, List.set_cons_succ]
  refine wpAnyH_take (i := 8) (v := .slice A13 n13 c13) rfl (by kernel_rfl) (by kernel_rfl) (by kernel_rfl) (fun _ _ _ h => h) (Or.inl ⟨by rfl, fun w _ => by rfl⟩) hHeld ?_
  show wpAnyH _ _ _ _ _ _ _ (Act.put _ (some 0) _) _
  simp only [Act.put, List.setIfInBounds_toArray, List.set_cons_zero]
  refine wpAnyH_done (by kernel_rfl) ?_ _
  clear hHeld
  go_upto_region 2 with fail
  have hBz : Below X2.heap.size X2 X2.drew := below_drewN (Below.refl _ _) 1
  have EZ0 : Hid (Below V.heap.size V X2.drew) := Lib.hid (EX2.out.trans (hBz.mono EX2.out.size))
  have PZ0 : Hid (Blk X2.drew gp 27 [.int .u32 ch, .int .u64 rd, .int .u64 m0, .int .u64 m1, .int .u64 t0, .int .u64 t1, .slice As n cp]) := Lib.hid (PX2.out.below hBz PX2.out.lt)
  have SZ0 : Hid (Oct.Src X2.drew A13 c13 ((b ++ Oct.numV 4 ch) ++ Oct.numV 8 rd)) := Lib.hid (Oct.Src.below SX2.out hBz)
  clear hBz
  refine wp_region_held_drew (S := fun w' => Blk w' gp 27 [.int .u32 ch, .int .u64 rd, .int .u64 m0, .int .u64 m1, .int .u64 t0, .int .u64 t1, .slice As n cp]) (by kernel_rfl) (PZ0.out) (fun hHeld => ?_)
  generalize X2.drew = Z0 at hHeld EZ0 PZ0 SZ0 ⊢
  refine wpAnyH_take (i := 0) (v := .slice A13 n13 c13) rfl (by kernel_rfl) (by kernel_rfl) (by kernel_rfl) (fun _ _ _ h => h) (Or.inl ⟨by rfl, fun w _ => by rfl⟩) hHeld ?_
  show wpAnyH _ _ _ _ _ _ _ (Act.put _ (some 14) _) _
  simp only [Act.put, List.setIfInBounds_toArray, List.set_cons_zero, List.set_cons_succ]
  refine wpAnyH_take (i := 1) (v := .pointer (some ⟨gp, 2, none⟩)) rfl (by kernel_rfl) (by kernel_rfl) (by kernel_rfl) (fun _ _ _ h => h) (Or.inl ⟨by rfl, by intro w' h; go_simp⟩) hHeld ?_
  show wpAnyH _ _ _ _ _ _ _ (Act.put _ (some 15) _) _
  simp only [Act.put, List.setIfInBounds_toArray, List.set_cons_zero, List.set_cons_succ]
  refine wpAnyH_take (i := 2) (v := .pointer (some ⟨gp, 2, none⟩)) rfl (by kernel_rfl) (by kernel_rfl) (by kernel_rfl) (fun _ _ _ h => h) (Or.inl ⟨by rfl, by intro w' h; go_simp⟩) hHeld ?_
  show wpAnyH _ _ _ _ _ _ _ (Act.put _ (some 16) _) _
  simp only [Act.put, List.setIfInBounds_toArray, List.set_cons_zero, List.set_cons_succ]
  refine wpAnyH_take (i := 3) (v := .int .u64 m0) rfl (by kernel_rfl) (by kernel_rfl) (by kernel_rfl) (fun _ _ _ h => h) (Or.inl ⟨by rfl, by intro w' h; have k0 := Blk.cell h 2; simp only [List.getElem?_cons_zero, List.getElem?_cons_succ] at k0; go_simp⟩) hHeld ?_
  show wpAnyH _ _ _ _ _ _ _ (Act.put _ (some 17) _) _
  simp only [Act.put, List.setIfInBounds_toArray, List.set_cons_zero, List.set_cons_succ]
  refine wpAnyH_take (i := 5) (v := .pointer (some ⟨gp, 2, none⟩)) rfl (by kernel_rfl) (by kernel_rfl) (by kernel_rfl) (fun _ _ _ h => h) (Or.inl ⟨by rfl, by intro w' h; go_simp⟩) hHeld ?_
  show wpAnyH _ _ _ _ _ _ _ (Act.put _ (some 19) _) _
  simp only [Act.put, List.setIfInBounds_toArray, List.set_cons_zero, List.set_cons_succ]
  refine wpAnyH_take (i := 6) (v := .pointer (some ⟨gp, 3, none⟩)) rfl (by kernel_rfl) (by kernel_rfl) (by kernel_rfl) (fun _ _ _ h => h) (Or.inl ⟨by rfl, by intro w' h; go_simp⟩) hHeld ?_
  show wpAnyH _ _ _ _ _ _ _ (Act.put _ (some 20) _) _
  simp only [Act.put, List.setIfInBounds_toArray, List.set_cons_zero, List.set_cons_succ]
  refine wpAnyH_take (i := 7) (v := .int .u64 m1) rfl (by kernel_rfl) (by kernel_rfl) (by kernel_rfl) (fun _ _ _ h => h) (Or.inl ⟨by rfl, by intro w' h; have k0 := Blk.cell h 3; simp only [List.getElem?_cons_zero, List.getElem?_cons_succ] at k0; go_simp⟩) hHeld ?_
  show wpAnyH _ _ _ _ _ _ _ (Act.put _ (some 21) _) _
  simp only [Act.put, List.setIfInBounds_toArray, List.set_cons_zero, List.set_cons_succ]
  refine wpAnyH_ready (rs := [4]) (by kernel_rfl) (by simp) ?_
  refine AllReadyH.cons rfl (fun K hK => ?_) AllReadyH.nil
  refine step_call rfl 31 #[.tmp 14, .tmp 17, .const (.int .i64 8)] #[35, 23, 3] rfl #[.slice A13 n13 c13, .int .u64 m0, .int .i64 8] (by simp [Act.eval]) (by go_simp) (Oct.num_any A13 c13 n13 ((b ++ Oct.numV 4 ch) ++ Oct.numV 8 rd) m0 8 (by omega) Z0 SZ0.out HN13.out (by have := HB13.out; omega) HWD.out.2.2.1.1 HWD.out.2.2.1.2) ?_
  rintro e X1 ⟨v18, rfl, hO, hB⟩
  obtain ⟨A18, c18, hv, hs⟩ := Oct.Own.src hO
  obtain ⟨n18, hn⟩ : ∃ n, (((b ++ Oct.numV 4 ch) ++ Oct.numV 8 rd) ++ Oct.numV 8 m0).length = n := ⟨_, rfl⟩
  have HB18 : Hid (n18 ≤ 900000) := Lib.hid (by rw [← hn]; simp [Oct.numV_length, HL.out]; omega)
  rw [hn] at hv
  subst hv
  have HN18 := Lib.hid hn
  clear hn hO
  have EX1 : Hid (Below V.heap.size V X1) := Lib.hid (EZ0.out.trans (hB.mono EZ0.out.size))
  have PX1 : Hid (Blk X1 gp 27 [.int .u32 ch, .int .u64 rd, .int .u64 m0, .int .u64 m1, .int .u64 t0, .int .u64 t1, .slice As n cp]) := Lib.hid (PZ0.out.below hB PZ0.out.lt)
  have SX1 : Hid (Oct.Src X1 A18 c18 (((b ++ Oct.numV 4 ch) ++ Oct.numV 8 rd) ++ Oct.numV 8 m0)) := Lib.hid (hs)
  clear EZ0 PZ0 hB hs
  refine ⟨_, rfl, hK.out _ _ (PX1.out) (fun hHeld => ?_)⟩
  clear hK K
  show wpAnyH _ _ _ _ _ _ _ (Act.put _ (some 18) _) _
  simp only [Act.put, List.setIfInBounds_toArray, List.set_cons_zero, List.set_cons_succ]
  refine wpAnyH_ready (rs := [8]) (by kernel_rfl) (by simp) ?_
  refine AllReadyH.cons rfl (fun K hK => ?_) AllReadyH.nil
  refine step_call rfl 31 #[.tmp 18, .tmp 21, .const (.int .i64 8)] #[35, 23, 3] rfl #[.slice A18 n18 c18, .int .u64 m1, .int .i64 8] (by simp [Act.eval]) (by go_simp) (Oct.num_any A18 c18 n18 (((b ++ Oct.numV 4 ch) ++ Oct.numV 8 rd) ++ Oct.numV 8 m0) m1 8 (by omega) X1 SX1.out HN18.out (by have := HB18.out; omega) HWD.out.2.2.2.1.1 HWD.out.2.2.2.1.2) ?_
  rintro e X2 ⟨v22, rfl, hO, hB⟩
  obtain ⟨A22, c22, hv, hs⟩ := Oct.Own.src hO
  obtain ⟨n22, hn⟩ : ∃ n, ((((b ++ Oct.numV 4 ch) ++ Oct.numV 8 rd) ++ Oct.numV 8 m0) ++ Oct.numV 8 m1).length = n := ⟨_, rfl⟩
  have HB22 : Hid (n22 ≤ 900000) := Lib.hid (by rw [← hn]; simp [Oct.numV_length, HL.out]; omega)
  rw [hn] at hv
  subst hv
  have HN22 := Lib.hid hn
  clear hn hO
  have EX2 : Hid (Below V.heap.size V X2) := Lib.hid (EX1.out.trans (hB.mono EX1.out.size))
  have PX2 : Hid (Blk X2 gp 27 [.int .u32 ch, .int .u64 rd, .int .u64 m0, .int .u64 m1, .int .u64 t0, .int .u64 t1, .slice As n cp]) := Lib.hid (PX1.out.below hB PX1.out.lt)
  have SX2 : Hid (Oct.Src X2 A22 c22 ((((b ++ Oct.numV 4 ch) ++ Oct.numV 8 rd) ++ Oct.numV 8 m0) ++ Oct.numV 8 m1)) := Lib.hid (hs)
  clear EX1 PX1 hB hs
  refine ⟨_, rfl, hK.out _ _ (PX2.out) (fun hHeld => ?_)⟩
  clear hK K
  show wpAnyH _ _ _ _ _ _ _ (Act.put _ (some 22) _) _
  simp only [Act.put, List.setIfInBounds_toArray, List.set_cons_zero, List.set_cons_succ]
  refine wpAnyH_take (i := 9) (v := .slice A22 n22 c22) rfl (by kernel_rfl) (by kernel_rfl) (by kernel_rfl) (fun _ _ _ h => h) (Or.inl ⟨by rfl, fun w _ => by rfl⟩) hHeld ?_
  show wpAnyH _ _ _ _ _ _ _ (Act.put _ (some 0) _) _
  simp only [Act.put, List.setIfInBounds_toArray, List.set_cons_zero]
  refine wpAnyH_done (by kernel_rfl) ?_ _
  clear hHeld
  go_upto_region 3 with fail
  have hBz : Below X2.heap.size X2 X2.drew := below_drewN (Below.refl _ _) 1
  have EU0 : Hid (Below V.heap.size V X2.drew) := Lib.hid (EX2.out.trans (hBz.mono EX2.out.size))
  have PU0 : Hid (Blk X2.drew gp 27 [.int .u32 ch, .int .u64 rd, .int .u64 m0, .int .u64 m1, .int .u64 t0, .int .u64 t1, .slice As n cp]) := Lib.hid (PX2.out.below hBz PX2.out.lt)
  have SU0 : Hid (Oct.Src X2.drew A22 c22 ((((b ++ Oct.numV 4 ch) ++ Oct.numV 8 rd) ++ Oct.numV 8 m0) ++ Oct.numV 8 m1)) := Lib.hid (Oct.Src.below SX2.out hBz)
  clear hBz
  refine wp_region_held_drew (S := fun w' => Blk w' gp 27 [.int .u32 ch, .int .u64 rd, .int .u64 m0, .int .u64 m1, .int .u64 t0, .int .u64 t1, .slice As n cp]) (by kernel_rfl) (PU0.out) (fun hHeld => ?_)
  generalize X2.drew = U0 at hHeld EU0 PU0 SU0 ⊢
  refine wpAnyH_take (i := 0) (v := .slice A22 n22 c22) rfl (by kernel_rfl) (by kernel_rfl) (by kernel_rfl) (fun _ _ _ h => h) (Or.inl ⟨by rfl, fun w _ => by rfl⟩) hHeld ?_
  show wpAnyH _ _ _ _ _ _ _ (Act.put _ (some 23) _) _
  simp only [Act.put, List.setIfInBounds_toArray, List.set_cons_zero, List.set_cons_succ]
  refine wpAnyH_take (i := 1) (v := .pointer (some ⟨gp, 4, none⟩)) rfl (by kernel_rfl) (by kernel_rfl) (by kernel_rfl) (fun _ _ _ h => h) (Or.inl ⟨by rfl, by intro w' h; go_simp⟩) hHeld ?_
  show wpAnyH _ _ _ _ _ _ _ (Act.put _ (some 24) _) _
  simp only [Act.put, List.setIfInBounds_toArray, List.set_cons_zero, List.set_cons_succ]
  refine wpAnyH_take (i := 2) (v := .pointer (some ⟨gp, 4, none⟩)) rfl (by kernel_rfl) (by kernel_rfl) (by kernel_rfl) (fun _ _ _ h => h) (Or.inl ⟨by rfl, by intro w' h; go_simp⟩) hHeld ?_
  show wpAnyH _ _ _ _ _ _ _ (Act.put _ (some 25) _) _
  simp only [Act.put, List.setIfInBounds_toArray, List.set_cons_zero, List.set_cons_succ]
  refine wpAnyH_take (i := 3) (v := .int .u64 t0) rfl (by kernel_rfl) (by kernel_rfl) (by kernel_rfl) (fun _ _ _ h => h) (Or.inl ⟨by rfl, by intro w' h; have k0 := Blk.cell h 4; simp only [List.getElem?_cons_zero, List.getElem?_cons_succ] at k0; go_simp⟩) hHeld ?_
  show wpAnyH _ _ _ _ _ _ _ (Act.put _ (some 26) _) _
  simp only [Act.put, List.setIfInBounds_toArray, List.set_cons_zero, List.set_cons_succ]
  refine wpAnyH_take (i := 5) (v := .pointer (some ⟨gp, 4, none⟩)) rfl (by kernel_rfl) (by kernel_rfl) (by kernel_rfl) (fun _ _ _ h => h) (Or.inl ⟨by rfl, by intro w' h; go_simp⟩) hHeld ?_
  show wpAnyH _ _ _ _ _ _ _ (Act.put _ (some 28) _) _
  simp only [Act.put, List.setIfInBounds_toArray, List.set_cons_zero, List.set_cons_succ]
  refine wpAnyH_take (i := 6) (v := .pointer (some ⟨gp, 5, none⟩)) rfl (by kernel_rfl) (by kernel_rfl) (by kernel_rfl) (fun _ _ _ h => h) (Or.inl ⟨by rfl, by intro w' h; go_simp⟩) hHeld ?_
  show wpAnyH _ _ _ _ _ _ _ (Act.put _ (some 29) _) _
  simp only [Act.put, List.setIfInBounds_toArray, List.set_cons_zero, List.set_cons_succ]
  refine wpAnyH_take (i := 7) (v := .int .u64 t1) rfl (by kernel_rfl) (by kernel_rfl) (by kernel_rfl) (fun _ _ _ h => h) (Or.inl ⟨by rfl, by intro w' h; have k0 := Blk.cell h 5; simp only [List.getElem?_cons_zero, List.getElem?_cons_succ] at k0; go_simp⟩) hHeld ?_
  show wpAnyH _ _ _ _ _ _ _ (Act.put _ (some 30) _) _
  simp only [Act.put, List.setIfInBounds_toArray, List.set_cons_zero, List.set_cons_succ]
  refine wpAnyH_ready (rs := [4]) (by kernel_rfl) (by simp) ?_
  refine AllReadyH.cons rfl (fun K hK => ?_) AllReadyH.nil
  refine step_call rfl 31 #[.tmp 23, .tmp 26, .const (.int .i64 8)] #[35, 23, 3] rfl #[.slice A22 n22 c22, .int .u64 t0, .int .i64 8] (by simp [Act.eval]) (by go_simp) (Oct.num_any A22 c22 n22 ((((b ++ Oct.numV 4 ch) ++ Oct.numV 8 rd) ++ Oct.numV 8 m0) ++ Oct.numV 8 m1) t0 8 (by omega) U0 SU0.out HN22.out (by have := HB22.out; omega) HWD.out.2.2.2.2.1.1 HWD.out.2.2.2.2.1.2) ?_
  rintro e X1 ⟨v27, rfl, hO, hB⟩
  obtain ⟨A27, c27, hv, hs⟩ := Oct.Own.src hO
  obtain ⟨n27, hn⟩ : ∃ n, (((((b ++ Oct.numV 4 ch) ++ Oct.numV 8 rd) ++ Oct.numV 8 m0) ++ Oct.numV 8 m1) ++ Oct.numV 8 t0).length = n := ⟨_, rfl⟩
  have HB27 : Hid (n27 ≤ 900000) := Lib.hid (by rw [← hn]; simp [Oct.numV_length, HL.out]; omega)
  rw [hn] at hv
  subst hv
  have HN27 := Lib.hid hn
  clear hn hO
  have EX1 : Hid (Below V.heap.size V X1) := Lib.hid (EU0.out.trans (hB.mono EU0.out.size))
  have PX1 : Hid (Blk X1 gp 27 [.int .u32 ch, .int .u64 rd, .int .u64 m0, .int .u64 m1, .int .u64 t0, .int .u64 t1, .slice As n cp]) := Lib.hid (PU0.out.below hB PU0.out.lt)
  have SX1 : Hid (Oct.Src X1 A27 c27 (((((b ++ Oct.numV 4 ch) ++ Oct.numV 8 rd) ++ Oct.numV 8 m0) ++ Oct.numV 8 m1) ++ Oct.numV 8 t0)) := Lib.hid (hs)
  clear EU0 PU0 hB hs
  refine ⟨_, rfl, hK.out _ _ (PX1.out) (fun hHeld => ?_)⟩
  clear hK K
  show wpAnyH _ _ _ _ _ _ _ (Act.put _ (some 27) _) _
  simp only [Act.put, List.setIfInBounds_toArray, List.set_cons_zero, List.set_cons_succ]
  refine wpAnyH_ready (rs := [8]) (by kernel_rfl) (by simp) ?_
  refine AllReadyH.cons rfl (fun K hK => ?_) AllReadyH.nil
  refine step_call rfl 31 #[.tmp 27, .tmp 30, .const (.int .i64 8)] #[35, 23, 3] rfl #[.slice A27 n27 c27, .int .u64 t1, .int .i64 8] (by simp [Act.eval]) (by go_simp) (Oct.num_any A27 c27 n27 (((((b ++ Oct.numV 4 ch) ++ Oct.numV 8 rd) ++ Oct.numV 8 m0) ++ Oct.numV 8 m1) ++ Oct.numV 8 t0) t1 8 (by omega) X1 SX1.out HN27.out (by have := HB27.out; omega) HWD.out.2.2.2.2.2.1 HWD.out.2.2.2.2.2.2) ?_
  rintro e X2 ⟨v31, rfl, hO, hB⟩
  have EX2 : Hid (Below V.heap.size V X2) := Lib.hid (EX1.out.trans (hB.mono EX1.out.size))
  have PX2 : Hid (Blk X2 gp 27 [.int .u32 ch, .int .u64 rd, .int .u64 m0, .int .u64 m1, .int .u64 t0, .int .u64 t1, .slice As n cp]) := Lib.hid (PX1.out.below hB PX1.out.lt)
  have OX2 : Hid (Oct.Own X2 V.heap.size v31 ((((((b ++ Oct.numV 4 ch) ++ Oct.numV 8 rd) ++ Oct.numV 8 m0) ++ Oct.numV 8 m1) ++ Oct.numV 8 t0) ++ Oct.numV 8 t1)) := Lib.hid (own_base hO EX1.out.size)
  clear EX1 PX1 hB hO
  refine ⟨_, rfl, hK.out _ _ (PX2.out) (fun hHeld => ?_)⟩
  clear hK K
  show wpAnyH _ _ _ _ _ _ _ (Act.put _ (some 31) _) _
  simp only [Act.put, List.setIfInBounds_toArray, List.set_cons_zero, List.set_cons_succ]
  refine wpAnyH_take (i := 9) (v := v31) rfl (by kernel_rfl) (by kernel_rfl) (by kernel_rfl) (fun _ _ _ h => h) (Or.inl ⟨by rfl, fun w _ => by rfl⟩) hHeld ?_
  show wpAnyH _ _ _ _ _ _ _ (Act.put _ (some 0) _) _
  simp only [Act.put, List.setIfInBounds_toArray, List.set_cons_zero]
  refine wpAnyH_done (by kernel_rfl) ?_ _
  clear hHeld
  have k6 := Blk.cell PX2.out 6
  simp only [List.getElem?_cons_zero, List.getElem?_cons_succ] at k6
  have HLT := Lib.hid (Oct.Src.lit X2 #[.int .u8 ((n : Int) % 256)] [(n : Int) % 256] rfl)
  have E := EX2; have P := PX2; have O := OX2
  clear EX2 PX2 OX2
  have hBa : Below X2.heap.size X2 (X2.alloc (.cells #[.int .u8 ((n : Int) % 256)] 5)) := (Below.refl _ _).alloc (Nat.le_refl _) _
  have OA : Hid (Oct.Own (X2.alloc (.cells #[.int .u8 ((n : Int) % 256)] 5)) V.heap.size v31 ((((((b ++ Oct.numV 4 ch) ++ Oct.numV 8 rd) ++ Oct.numV 8 m0) ++ Oct.numV 8 m1) ++ Oct.numV 8 t0) ++ Oct.numV 8 t1)) := Lib.hid (Oct.Own.below O.out hBa)
  have EA : Hid (Below V.heap.size V (X2.alloc (.cells #[.int .u8 ((n : Int) % 256)] 5))) := Lib.hid (E.out.trans (hBa.mono E.out.size))
  have PA : Hid (Blk (X2.alloc (.cells #[.int .u8 ((n : Int) % 256)] 5)) gp 27 [.int .u32 ch, .int .u64 rd, .int .u64 m0, .int .u64 m1, .int .u64 t0, .int .u64 t1, .slice As n cp]) := Lib.hid (P.out.below hBa P.out.lt)
  clear hBa
  go_upto_region 5 with (at_builtin; go_loud (refine Oct.wpList_app rfl (.tmp 32) (.tmp 37) 35 35 rfl Tryd.underlying35 Tryd.underlying35 V.heap.size v31 ((((((b ++ Oct.numV 4 ch) ++ Oct.numV 8 rd) ++ Oct.numV 8 m0) ++ Oct.numV 8 m1) ++ Oct.numV 8 t0) ++ Oct.numV 8 t1) [(n : Int) % 256] rfl OA.out (some ⟨X2.heap.size, 0, none⟩) 1 1 rfl rfl HLT.out ?c1 ?c2 ?_))
  case c1 => simp [Oct.numV_length, HL.out]; omega
  case c2 => exact EA.out.size
  intro v38 Y hO hG hL
  have E2 : Hid (Below V.heap.size V Y) := Lib.hid (EA.out.trans (Oct.grown_below hG EA.out.size (fun g hg => (World.ownsRow.lt OA.out g hg).1)))
  have P2 := Lib.hid (PA.out.grown hG (fun e => by have := (World.ownsRow.lt OA.out gp e.symm).1; have := HLP.out; omega))
  replace hO : Oct.Own Y V.heap.size v38 (((((((b ++ Oct.numV 4 ch) ++ Oct.numV 8 rd) ++ Oct.numV 8 m0) ++ Oct.numV 8 m1) ++ Oct.numV 8 t0) ++ Oct.numV 8 t1) ++ [(n : Int) % 256]) := by simpa only [List.append_assoc] using hO
  obtain ⟨A5, c5, hv, _⟩ := Oct.Own.src hO
  obtain ⟨n5, hn⟩ : ∃ n5, (((((((b ++ Oct.numV 4 ch) ++ Oct.numV 8 rd) ++ Oct.numV 8 m0) ++ Oct.numV 8 m1) ++ Oct.numV 8 t0) ++ Oct.numV 8 t1) ++ [(n : Int) % 256]).length = n5 := ⟨_, rfl⟩
  have HB5 : Hid (n5 ≤ 600000) := Lib.hid (by rw [← hn]; simp [Oct.numV_length, HL.out]; omega)
  rw [hn] at hv
  subst hv
  have HN5 := Lib.hid hn
  have O2 := Lib.hid hO
  clear hn hO hG hL OA EA PA HLT E P O k6
  go_wp2_with fail
  go_loopw [0, 5] (fun s i wr => ∃ (k : Nat) (A : Option Addr) (L c : Nat), k ≤ n ∧ s = .slice A L c ∧ i = .int .i64 k ∧ Hid (Oct.Own wr V.heap.size (.slice A L c) ((((((((b ++ Oct.numV 4 ch) ++ Oct.numV 8 rd) ++ Oct.numV 8 m0) ++ Oct.numV 8 m1) ++ Oct.numV 8 t0) ++ Oct.numV 8 t1) ++ [(n : Int) % 256]) ++ (cs.take k).flatMap condD)) ∧ Hid (((((((((b ++ Oct.numV 4 ch) ++ Oct.numV 8 rd) ++ Oct.numV 8 m0) ++ Oct.numV 8 m1) ++ Oct.numV 8 t0) ++ Oct.numV 8 t1) ++ [(n : Int) % 256]) ++ (cs.take k).flatMap condD).length = L) ∧ Hid (Below V.heap.size V wr) ∧ Hid (Blk wr gp 27 [.int .u32 ch, .int .u64 rd, .int .u64 m0, .int .u64 m1, .int .u64 t0, .int .u64 t1, .slice As n cp])) (fun _ i _ => n - (intOf i).toNat)
  case atStart => exact ⟨0, A5, n5, c5, Nat.zero_le _, rfl, rfl, Lib.hid (by simpa using O2.out), Lib.hid (by simpa using HN5.out), E2, P2⟩
  case round =>
    clear O2 E2 P2
    obtain ⟨k, A, L, c, hk, rfl, rfl, O, HNL, E, P⟩ := hrel
    have k6 := Blk.cell P.out 6
    simp only [List.getElem?_cons_zero, List.getElem?_cons_succ] at k6
    by_cases hlt : k < n
    · have hk' : k < cs.length := by rw [HLC.out]; exact hlt
      obtain ⟨b1, o1, cn, rfl, hb1, hc1, hr1, hok1⟩ := HC.out.get hk'
      have hBW := HBV.out.trans (E.out.mono HBV.out.size)
      have RG1 := Lib.hid (range_below hr1 hBW hb1)
      have HOK := Lib.hid hok1
      have HW1 : Hid (CndW cn) := Lib.hid (HCW.out cn (hc1 ▸ getD_mem hk'))
      have HF := Lib.hid (fm_snoc cs k cn hk' hc1)
      have HLL : Hid (L ≤ 900000) := Lib.hid (by
        have h := HNL.out
        have h5 := HN5.out
        have h6 := HB5.out
        have h7 := fm_len (cs.take k) (fun x hx => HC.out.ok x (List.mem_of_mem_take hx))
        rw [List.length_append, h5, h7, List.length_take] at h
        omega)
      have HSO : Hid (Oct.Src wr A c ((((((((b ++ Oct.numV 4 ch) ++ Oct.numV 8 rd) ++ Oct.numV 8 m0) ++ Oct.numV 8 m1) ++ Oct.numV 8 t0) ++ Oct.numV 8 t1) ++ [(n : Int) % 256]) ++ (cs.take k).flatMap condD)) := Lib.hid (by
        obtain ⟨A', c', hv, hs⟩ := Oct.Own.src O.out
        injection hv with e1 e2 e3
        rw [e1, e3]
        exact hs)
      have hz2 : Hid ((Tryd.prog.info? 30).map (·.size) = some cn.cells.length) := Lib.hid (by rw [hok1.len]; exact info53)
      clear hc1 hr1 hb1 hok1 hk' hBW O
      go_wp2_with (first | (refine wpList_load_mid rfl 30 (.tmp 50) rfl b1 (o1 + k * 36) rfl cn.cells _ RG1.out Tryd.underlying30 rfl hz2.out ?_) | fail)
      refine (rcond_any A c L ((((((((b ++ Oct.numV 4 ch) ++ Oct.numV 8 rd) ++ Oct.numV 8 m0) ++ Oct.numV 8 m1) ++ Oct.numV 8 t0) ++ Oct.numV 8 t1) ++ [(n : Int) % 256]) ++ (cs.take k).flatMap condD) cn wr HOK HW1 HSO.out HNL HLL.out).mono ?_
      rintro e Y2 ⟨v, rfl, hO, hB⟩
      have hO2 := own_base (c := V.heap.size) hO E.out.size
      rw [List.append_assoc, ← HF.out] at hO2
      obtain ⟨A7, c7, hv, _⟩ := Oct.Own.src hO2
      obtain ⟨n7, hn⟩ : ∃ n7, ((((((((b ++ Oct.numV 4 ch) ++ Oct.numV 8 rd) ++ Oct.numV 8 m0) ++ Oct.numV 8 m1) ++ Oct.numV 8 t0) ++ Oct.numV 8 t1) ++ [(n : Int) % 256]) ++ (cs.take (k + 1)).flatMap condD).length = n7 := ⟨_, rfl⟩
      rw [hn] at hv
      subst hv
      have O7 := Lib.hid hO2
      have HN7 := Lib.hid hn
      have E7 := Lib.hid (E.out.trans (hB.mono E.out.size))
      have P7 := Lib.hid (P.out.below hB P.out.lt)
      clear hO hO2 hB hn E P k6 HSO HNL RG1
      go_wp2_with fail
      go_roundw
      case rel => exact ⟨k + 1, A7, n7, c7, by omega, rfl, by go_num, O7, HN7, E7, P7⟩
      case measure => simp [intOf] <;> omega
    · have hkn : k = n := by omega
      subst hkn
      have HBW : Hid (Below w.heap.size w wr) := Lib.hid (HBV.out.trans (E.out.mono HBV.out.size))
      have HOE := Lib.hid (own_base (c := w.heap.size) O.out HBV.out.size)
      go_wp2_with fail
      go_ret
      refine ⟨_, rfl, ?_, HBW.out⟩
      have h := HOE.out
      rw [List.take_of_length_le (by rw [HLC.out]; exact Nat.le_refl _)] at h
      rw [show b ++ stD ch rd m0 m1 t0 t1 cs = (((((((b ++ Oct.numV 4 ch) ++ Oct.numV 8 rd) ++ Oct.numV 8 m0) ++ Oct.numV 8 m1) ++ Oct.numV 8 t0) ++ Oct.numV 8 t1) ++ [(k : Int) % 256]) ++ cs.flatMap condD by rw [stD, HLC.out]; simp [List.append_assoc]]
      exact h
end Go.Proofs.YtbdjlnejlkiijaaDoorRRR
