/-
  tollhouselaw13.DeedBytes (3): a state's bytes and sum, a wish's bytes.
-/
import Derived.Test.YtbdjlnejlkiijaaDoorRRRDeQa
namespace Go.Proofs.YtbdjlnejlkiijaaDoorRRR
open Go.RowKit
set_option linter.unusedVariables false
set_option linter.unusedSimpArgs false
set_option maxRecDepth 100000 in
set_option maxHeartbeats 16000000 in
theorem deedBytes_walk (ch rd m0 m1 t0 t1 : Int) (As : Option Addr) (n cp : Nat) (cs : List Cnd) (kd amt id : Int) (c : Cnd) (w : World) (HT : Hid (Tab w)) (HC : Hid (CRow w As cs)) (HLC : Hid (cs.length = n)) (hnm : n ≤ 9223372036854775807) (HCW : Hid (∀ c ∈ cs, CndW c)) (HCB : Hid (∀ c ∈ cs, CndB c))
 (HWD : Hid ((0 ≤ ch ∧ ch ≤ 4294967295) ∧ (0 ≤ rd ∧ rd ≤ 18446744073709551615) ∧ (0 ≤ m0 ∧ m0 ≤ 18446744073709551615) ∧ (0 ≤ m1 ∧ m1 ≤ 18446744073709551615) ∧ (0 ≤ t0 ∧ t0 ≤ 18446744073709551615) ∧ (0 ≤ t1 ∧ t1 ≤ 18446744073709551615))) (HOK : Hid c.Ok) (HW : Hid (CndW c)) (HAI : Hid ((0 ≤ amt ∧ amt ≤ 18446744073709551615) ∧ (0 ≤ id ∧ id ≤ 18446744073709551615))) :
 Calls Tryd.prog 3 #[.agg #[.int .u32 ch, .int .u64 rd, .int .u64 m0, .int .u64 m1, .int .u64 t0, .int .u64 t1, .slice As n cp], .agg (opC kd amt c id).toArray] w fun e w' => e = .returned (.bool true) ∧ Below w.heap.size w w' := by
 have HI32 := Lib.hid (info32 kd amt c id HOK.out)
 go_enter Tryd.func3, Tryd.ntmps3
 go_upto_region 1 with fail
 have HP0 : Hid (Blk ((w.alloc (.cells #[.int .u32 ch, .int .u64 rd, .int .u64 m0, .int .u64 m1, .int .u64 t0, .int .u64 t1, .slice As n cp] 27)).alloc (.cells (opC kd amt c id).toArray 32)) w.heap.size 27 ([.int .u32 ch, .int .u64 rd, .int .u64 m0, .int .u64 m1, .int .u64 t0, .int .u64 t1, .slice As n cp])) := Lib.hid (by
  have h := (Blk.new w 27 ([.int .u32 ch, .int .u64 rd, .int .u64 m0, .int .u64 m1, .int .u64 t0, .int .u64 t1, .slice As n cp])).alloc (.cells (opC kd amt c id).toArray 32)
  exact h)
 have HU0 : Hid (Blk ((w.alloc (.cells #[.int .u32 ch, .int .u64 rd, .int .u64 m0, .int .u64 m1, .int .u64 t0, .int .u64 t1, .slice As n cp] 27)).alloc (.cells (opC kd amt c id).toArray 32)) (w.heap.size + 1) 32 ((opC kd amt c id))) := Lib.hid (by
  have h := Blk.new (w.alloc (.cells #[.int .u32 ch, .int .u64 rd, .int .u64 m0, .int .u64 m1, .int .u64 t0, .int .u64 t1, .slice As n cp] 27)) 32 ((opC kd amt c id))
  rw [World.size_alloc] at h
  exact h)
 have HBV : Hid (Below w.heap.size w ((w.alloc (.cells #[.int .u32 ch, .int .u64 rd, .int .u64 m0, .int .u64 m1, .int .u64 t0, .int .u64 t1, .slice As n cp] 27)).alloc (.cells (opC kd amt c id).toArray 32))) := Lib.hid (((Below.refl _ _).alloc (Nat.le_refl _) _).alloc (by simp) _)
 generalize ((w.alloc (.cells #[.int .u32 ch, .int .u64 rd, .int .u64 m0, .int .u64 m1, .int .u64 t0, .int .u64 t1, .slice As n cp] 27)).alloc (.cells (opC kd amt c id).toArray 32)) = V at HP0 HU0 HBV ⊢
 have HLP := Lib.hid HP0.out.lt
 have HLU := Lib.hid HU0.out.lt
 obtain ⟨go, hgo⟩ : ∃ x, w.heap.size + 1 = x := ⟨_, rfl⟩
 rw [hgo] at HU0 HLU ⊢
 clear hgo
 obtain ⟨gp, hgp⟩ : ∃ x, w.heap.size = x := ⟨_, rfl⟩
 rw [hgp] at HP0 HLP ⊢
 clear hgp
 have HRP : Hid (V.rangeAt gp 0 [.int .u32 ch, .int .u64 rd, .int .u64 m0, .int .u64 m1, .int .u64 t0, .int .u64 t1, .slice As n cp]) := Lib.hid (Blk.all HP0.out)
 go_wp2_with (first | (refine wpList_load_mid rfl 27 (.tmp 2) rfl gp 0 rfl [.int .u32 ch, .int .u64 rd, .int .u64 m0, .int .u64 m1, .int .u64 t0, .int .u64 t1, .slice As n cp] _ HRP.out Tryd.underlying27 rfl info27 ?_) | fail)
 refine (light_any ch rd m0 m1 t0 t1 As n cp V hnm).mono ?_
 rintro e V2 ⟨rfl, hB⟩
 have HBV2 := Lib.hid (HBV.out.trans (hB.mono HBV.out.size))
 have HP2 := Lib.hid (HP0.out.below hB HP0.out.lt)
 have HU2 := Lib.hid (HU0.out.below hB HU0.out.lt)
 have HLP2 := Lib.hid HP2.out.lt
 have HLU2 := Lib.hid HU2.out.lt
 clear hB HBV HP0 HU0 HLP HLU HRP
 have HBV := HBV2
 have HP0 := HP2
 have HU0 := HU2
 have HLP := HLP2
 have HLU := HLU2
 clear HBV2 HP2 HU2 HLP2 HLU2
 by_cases hn30 : (n : Int) ≤ 30
 ·rw [show decide ((n : Int) ≤ 30) = true from decide_eq_true hn30]
  have hn : n ≤ 1000 := by omega
  obtain ⟨n1, hn1⟩ : ∃ x, ([5] ++ stD ch rd m0 m1 t0 t1 cs).length = x := ⟨_, rfl⟩
  have HN1 := Lib.hid hn1
  obtain ⟨n2, hn2⟩ : ∃ x, ([5] ++ opD kd amt c id).length = x := ⟨_, rfl⟩
  have HN2 := Lib.hid hn2
  clear hn1 hn2
  have HEQ : Hid (∀ W : World, (binOp .eql 52 (.agg (w8 (dsum ch rd m0 m1 t0 t1 cs)).toArray) (.agg (w8 (dsumD ch rd m0 m1 t0 t1 cs)).toArray)).run Tryd.prog W = .ok (.bool true) W) := Lib.hid (fun W => by rw [dsum_eq ch rd m0 m1 t0 t1 cs HWD.out HCW.out]; exact eql_same _ (dsumD_length _ _ _ _ _ _ _) W)
  go_upto_region 3 with fail
  have P := HP0
  have U := HU0
  have E := Lib.hid (Below.refl V2.heap.size V2)
  have hBz : Below V2.heap.size V2 V2.drew := below_drewN (Below.refl _ _) 1
  have EX0 := Lib.hid (E.out.trans (hBz.mono E.out.size))
  have PX0 := Lib.hid (P.out.below hBz P.out.lt)
  have UX0 := Lib.hid (U.out.below hBz U.out.lt)
  clear hBz
  refine wp_region_held_drew (S := fun w' => Blk w' gp 27 [.int .u32 ch, .int .u64 rd, .int .u64 m0, .int .u64 m1, .int .u64 t0, .int .u64 t1, .slice As n cp] ∧ Blk w' go 32 (opC kd amt c id)) (by kernel_rfl) (⟨PX0.out, UX0.out⟩) (fun hHeld => ?_)
  generalize V2.drew = X0 at hHeld EX0 PX0 UX0 ⊢
  refine wpAnyH_cut (fun ops Q => ∀ (X : World) (g11 : Nat) (a13 : Option Addr) (c13 : Nat) (A14 : Option Addr) (c14 : Nat) (g16 : Nat) (A18 : Option Addr) (c18 : Nat), Hid (Below V2.heap.size V2 X) → Hid (Blk X gp 27 [.int .u32 ch, .int .u64 rd, .int .u64 m0, .int .u64 m1, .int .u64 t0, .int .u64 t1, .slice As n cp]) → Hid (Blk X go 32 (opC kd amt c id)) → wpAnyH Tryd.prog .any ops Q (fun w' => Blk w' gp 27 [.int .u32 ch, .int .u64 rd, .int .u64 m0, .int .u64 m1, .int .u64 t0, .int .u64 t1, .slice As n cp] ∧ Blk w' go 32 (opC kd amt c id)) 19 #[true, true, true, true, true, true, true, true, true, true, true, true, true, true, false, true, false, false, false, false, true, false, false, false, false, false, false, false, false, false, false, false, false, false, false] { tmps := #[.agg #[.int .u32 ch, .int .u64 rd, .int .u64 m0, .int .u64 m1, .int .u64 t0, .int .u64 t1, .slice As n cp], .agg (opC kd amt c id).toArray, .pointer (some ⟨gp, 0, none⟩), .pointer (some ⟨go, 0, none⟩), .bool false, .agg #[.int .u32 ch, .int .u64 rd, .int .u64 m0, .int .u64 m1, .int .u64 t0, .int .u64 t1, .slice As n cp], .bool true, .bool false, undef, .bool true, .bool true, .slice (some ⟨g11, 0, none⟩) 1 1, .agg #[.int .u32 ch, .int .u64 rd, .int .u64 m0, .int .u64 m1, .int .u64 t0, .int .u64 t1, .slice As n cp], .agg #[.int .u32 ch, .int .u64 rd, .int .u64 m0, .int .u64 m1, .int .u64 t0, .int .u64 t1, .slice a13 n c13], .slice A14 n1 c14, .string (Oct.txt ([5] ++ stD ch rd m0 m1 t0 t1 cs)), .slice (some ⟨g16, 0, none⟩) 1 1, .agg #[.int .u32 ch, .int .u64 rd, .int .u64 m0, .int .u64 m1, .int .u64 t0, .int .u64 t1, .slice As n cp], .slice A18 n1 c18, .string (Oct.txt ([5] ++ stD ch rd m0 m1 t0 t1 cs)), .bool true, .bool true, .bool true, undef, .agg (opC kd amt c id).toArray, undef, undef, undef, undef, .agg (opC kd amt c id).toArray, undef, undef, undef, undef, undef, undef, undef, undef, undef, undef, undef, undef, undef], defers := [] } X) ?tl1 (fun tail1 => ?main1)
  case main1 =>
   refine wpAnyH_ready (rs := [0]) (by kernel_rfl) (by simp) ?_
   refine AllReadyH.cons rfl (fun K hK => ?_) AllReadyH.nil
   refine step_call rfl 6 #[] #[] rfl #[] (by simp) (by go_simp) (awake_any X0) ?_
   rintro e X1 ⟨rfl, hB⟩
   have EX1 := Lib.hid (EX0.out.trans (hB.mono EX0.out.size))
   have PX1 := Lib.hid (PX0.out.below hB PX0.out.lt)
   have UX1 := Lib.hid (UX0.out.below hB UX0.out.lt)
   clear EX0 PX0 UX0 hB
   refine ⟨_, rfl, hK.out _ _ (⟨PX1.out, UX1.out⟩) (fun hHeld => ?_)⟩
   clear hK K
   show wpAnyH _ _ _ _ _ _ _ (Act.put _ (some 9) _) _
   simp only [Act.put, L1, L2, L3]
   refine wpAnyH_take (i := 1) (v := .bool true) rfl (by kernel_rfl) (by kernel_rfl) (by kernel_rfl) (fun _ _ _ h => h) (Or.inl ⟨by rfl, fun w _ => by rfl⟩) hHeld ?_
   show wpAnyH _ _ _ _ _ _ _ (Act.put _ (some 10) _) _
   simp only [Act.put, L1, L2, L3]
   refine wpAnyH_take (i := 3) (v := .agg #[.int .u32 ch, .int .u64 rd, .int .u64 m0, .int .u64 m1, .int .u64 t0, .int .u64 t1, .slice As n cp]) rfl (by kernel_rfl) (by kernel_rfl) (by kernel_rfl) (fun _ _ _ h => h) (yieldsIf_load_mid (by rfl) 27 (.tmp 2) rfl gp 0 rfl [.int .u32 ch, .int .u64 rd, .int .u64 m0, .int .u64 m1, .int .u64 t0, .int .u64 t1, .slice As n cp] _ (fun w' h => Blk.all h.1) Tryd.underlying27 rfl info27) hHeld ?_
   show wpAnyH _ _ _ _ _ _ _ (Act.put _ (some 12) _) _
   simp only [Act.put, L1, L2, L3]
   refine wpAnyH_take (i := 8) (v := .agg #[.int .u32 ch, .int .u64 rd, .int .u64 m0, .int .u64 m1, .int .u64 t0, .int .u64 t1, .slice As n cp]) rfl (by kernel_rfl) (by kernel_rfl) (by kernel_rfl) (fun _ _ _ h => h) (yieldsIf_load_mid (by rfl) 27 (.tmp 2) rfl gp 0 rfl [.int .u32 ch, .int .u64 rd, .int .u64 m0, .int .u64 m1, .int .u64 t0, .int .u64 t1, .slice As n cp] _ (fun w' h => Blk.all h.1) Tryd.underlying27 rfl info27) hHeld ?_
   show wpAnyH _ _ _ _ _ _ _ (Act.put _ (some 17) _) _
   simp only [Act.put, L1, L2, L3]
   refine wpAnyH_ready (rs := [2, 4, 7]) (by kernel_rfl) (by simp) ?_
   refine AllReadyH.cons rfl (fun K hK => ?_) (AllReadyH.cons rfl (fun K hK => ?_) (AllReadyH.cons rfl (fun K hK => ?_) AllReadyH.nil))
   ·refine step_lay rfl 36 1 #[(0, .const (.int .u8 5))] rfl #[(0, .int .u8 5)] (by simp [Act.eval]) (.slice (some ⟨X1.heap.size, 0, none⟩) 1 1) (X1.alloc (.cells #[.int .u8 5] 5)) (by kernel_rfl) ?_
    have hB : Below X1.heap.size X1 (X1.alloc (.cells #[.int .u8 5] 5)) := (Below.refl _ _).alloc (Nat.le_refl _) _
    have hO : Oct.Own (X1.alloc (.cells #[.int .u8 5] 5)) V2.heap.size (.slice (some ⟨X1.heap.size, 0, none⟩) 1 1) [5] := own_base (own_five X1) EX1.out.size
    generalize X1.alloc (.cells #[.int .u8 5] 5) = X2 at hB hO ⊢
    obtain ⟨g11, hg⟩ : ∃ x, X1.heap.size = x := ⟨_, rfl⟩
    rw [hg] at hO ⊢
    have EX2 := Lib.hid (EX1.out.trans (hB.mono EX1.out.size))
    have PX2 := Lib.hid (PX1.out.below hB PX1.out.lt)
    have UX2 := Lib.hid (UX1.out.below hB UX1.out.lt)
    have OX2 : Hid (Oct.Own X2 V2.heap.size (.slice (some ⟨g11, 0, none⟩) 1 1) [5]) := Lib.hid (hO)
    clear EX1 PX1 UX1 hB hg hO
    refine hK.out _ _ (⟨PX2.out, UX2.out⟩) (fun hHeld => ?_)
    clear hK K
    show wpAnyH _ _ _ _ _ _ _ (Act.put _ (some 11) _) _
    simp only [Act.put, L1, L2, L3]
    refine wpAnyH_ready (rs := [4, 7]) (by kernel_rfl) (by simp) ?_
    refine AllReadyH.cons rfl (fun K hK => ?_) (AllReadyH.cons rfl (fun K hK => ?_) AllReadyH.nil)
    ·refine step_call rfl 8 #[.tmp 12] #[27] rfl #[.agg #[.int .u32 ch, .int .u64 rd, .int .u64 m0, .int .u64 m1, .int .u64 t0, .int .u64 t1, .slice As n cp]] (by simp [Act.eval]) (by go_simp) (to_any ch rd m0 m1 t0 t1 As n cp cs X2 (Lib.hid (HC.out.below (HBV.out.trans (EX2.out.mono HBV.out.size)))).out HLC.out hn) ?_
     rintro e X3 ⟨a13, c13, rfl, hO, hB⟩
     have EX3 := Lib.hid (EX2.out.trans (hB.mono EX2.out.size))
     have PX3 := Lib.hid (PX2.out.below hB PX2.out.lt)
     have UX3 := Lib.hid (UX2.out.below hB UX2.out.lt)
     have OX3 : Hid (Oct.Own X3 V2.heap.size (.slice (some ⟨g11, 0, none⟩) 1 1) [5]) := Lib.hid (Oct.Own.below OX2.out hB)
     have CX3 : Hid (CRow X3 a13 cs) := Lib.hid (CRow.of_own (by rw [HLC.out]; exact hO) HC.out.ok)
     clear EX2 PX2 UX2 OX2 hB hO
     refine ⟨_, rfl, hK.out _ _ (⟨PX3.out, UX3.out⟩) (fun hHeld => ?_)⟩
     clear hK K
     show wpAnyH _ _ _ _ _ _ _ (Act.put _ (some 13) _) _
     simp only [Act.put, L1, L2, L3]
     refine wpAnyH_ready (rs := [5, 7]) (by kernel_rfl) (by simp) ?_
     refine AllReadyH.cons rfl (fun K hK => ?_) (AllReadyH.cons rfl (fun K hK => ?_) AllReadyH.nil)
     ·refine step_call rfl 7 #[.tmp 11, .tmp 13] #[36, 40] rfl #[.slice (some ⟨g11, 0, none⟩) 1 1, .agg #[.int .u32 ch, .int .u64 rd, .int .u64 m0, .int .u64 m1, .int .u64 t0, .int .u64 t1, .slice a13 n c13]] (by simp [Act.eval]) (by go_simp) (deedlay_any ch rd m0 m1 t0 t1 a13 n c13 cs (.slice (some ⟨g11, 0, none⟩) 1 1) V2.heap.size [5] X3 CX3 HLC hn HCW HWD OX3 (Lib.hid EX3.out.size) (Lib.hid (by simp))) ?_
      rintro e X4 ⟨v14, rfl, hO, hG, hL⟩
      rw [stL_eq ch rd m0 m1 t0 t1 cs HWD.out HCW.out] at hO
      obtain ⟨A14, c14, hv, _⟩ := Oct.Own.src hO
      rw [HN1.out] at hv
      subst hv
      have EX4 := Lib.hid (EX3.out.trans (Oct.grown_below hG EX3.out.size (fun g hg => (World.ownsRow.lt OX3.out g hg).1)))
      have PX4 := Lib.hid (PX3.out.grown hG (fun e => by have := (World.ownsRow.lt OX3.out gp e.symm).1; have := HLP.out; omega))
      have UX4 := Lib.hid (UX3.out.grown hG (fun e => by have := (World.ownsRow.lt OX3.out go e.symm).1; have := HLU.out; omega))
      have NX4 : Hid (Oct.Own X4 V2.heap.size (.slice A14 n1 c14) ([5] ++ stD ch rd m0 m1 t0 t1 cs)) := Lib.hid (hO)
      clear EX3 PX3 UX3 hO hG hL OX3 CX3
      refine ⟨_, rfl, hK.out _ _ (⟨PX4.out, UX4.out⟩) (fun hHeld => ?_)⟩
      clear hK K
      show wpAnyH _ _ _ _ _ _ _ (Act.put _ (some 14) _) _
      simp only [Act.put, L1, L2, L3]
      refine wpAnyH_ready (rs := [6, 7]) (by kernel_rfl) (by simp) ?_
      refine AllReadyH.cons rfl (fun K hK => ?_) (AllReadyH.cons rfl (fun K hK => ?_) AllReadyH.nil)
      ·refine step_val rfl (.string (Oct.txt ([5] ++ stD ch rd m0 m1 t0 t1 cs))) X4 (run_conv_op rfl rfl (Oct.to_string X4 A14 c14 n1 ([5] ++ stD ch rd m0 m1 t0 t1 cs) HN1.out.symm (own_srcI NX4.out))) ?_
       refine hK.out _ _ (⟨PX4.out, UX4.out⟩) (fun hHeld => ?_)
       clear hK K
       show wpAnyH _ _ _ _ _ _ _ (Act.put _ (some 15) _) _
       simp only [Act.put, L1, L2, L3]
       refine wpAnyH_ready (rs := [7]) (by kernel_rfl) (by simp) ?_
       refine AllReadyH.cons rfl (fun K hK => ?_) AllReadyH.nil
       refine step_lay rfl 35 1 #[(0, .const (.int .u8 5))] rfl #[(0, .int .u8 5)] (by simp [Act.eval]) (.slice (some ⟨X4.heap.size, 0, none⟩) 1 1) (X4.alloc (.cells #[.int .u8 5] 5)) (by kernel_rfl) ?_
       have hB : Below X4.heap.size X4 (X4.alloc (.cells #[.int .u8 5] 5)) := (Below.refl _ _).alloc (Nat.le_refl _) _
       have hK := Blk.new X4 5 [.int .u8 5]
       generalize X4.alloc (.cells #[.int .u8 5] 5) = X6 at hB hK ⊢
       obtain ⟨g16, hg⟩ : ∃ x, X4.heap.size = x := ⟨_, rfl⟩
       rw [hg] at hK ⊢
       have EX6 := Lib.hid (EX4.out.trans (hB.mono EX4.out.size))
       have PX6 := Lib.hid (PX4.out.below hB PX4.out.lt)
       have UX6 := Lib.hid (UX4.out.below hB UX4.out.lt)
       have KX6 : Hid (Blk X6 g16 5 [.int .u8 5]) := Lib.hid (hK)
       clear EX4 PX4 UX4 hB hg hK
       refine hK.out _ _ (⟨PX6.out, UX6.out⟩) (fun hHeld => ?_)
       clear hK K
       show wpAnyH _ _ _ _ _ _ _ (Act.put _ (some 16) _) _
       simp only [Act.put, L1, L2, L3]
       refine wpAnyH_ready (rs := [9]) (by kernel_rfl) (by simp) ?_
       refine AllReadyH.cons rfl (fun K hK => ?_) AllReadyH.nil
       refine step_call rfl 9 #[.tmp 16, .tmp 17] #[35, 27] rfl #[.slice (some ⟨g16, 0, none⟩) 1 1, .agg #[.int .u32 ch, .int .u64 rd, .int .u64 m0, .int .u64 m1, .int .u64 t0, .int .u64 t1, .slice As n cp]] (by simp [Act.eval]) (by go_simp) (rstate_any (some ⟨g16, 0, none⟩) 1 1 [5] ch rd m0 m1 t0 t1 As n cp cs X6 (Lib.hid (HC.out.below (HBV.out.trans (EX6.out.mono HBV.out.size)))) HLC hn HCW HWD (src_blk KX6.out) (Lib.hid rfl) (by omega)) ?_
       rintro e X7 ⟨v18, rfl, hO, hB⟩
       replace hO := own_base (c := V2.heap.size) hO EX6.out.size
       obtain ⟨A18, c18, hv, _⟩ := Oct.Own.src hO
       rw [HN1.out] at hv
       subst hv
       have EX7 := Lib.hid (EX6.out.trans (hB.mono EX6.out.size))
       have PX7 := Lib.hid (PX6.out.below hB PX6.out.lt)
       have UX7 := Lib.hid (UX6.out.below hB UX6.out.lt)
       have MX7 : Hid (Oct.Own X7 V2.heap.size (.slice A18 n1 c18) ([5] ++ stD ch rd m0 m1 t0 t1 cs)) := Lib.hid (hO)
       clear EX6 PX6 UX6 hB hO
       refine ⟨_, rfl, hK.out _ _ (⟨PX7.out, UX7.out⟩) (fun hHeld => ?_)⟩
       clear hK K
       show wpAnyH _ _ _ _ _ _ _ (Act.put _ (some 18) _) _
       simp only [Act.put, L1, L2, L3]
       refine wpAnyH_ready (rs := [10]) (by kernel_rfl) (by simp) ?_
       refine AllReadyH.cons rfl (fun K hK => ?_) AllReadyH.nil
       refine step_val rfl (.string (Oct.txt ([5] ++ stD ch rd m0 m1 t0 t1 cs))) X7 (run_conv_op rfl rfl (to_string35 X7 A18 c18 n1 ([5] ++ stD ch rd m0 m1 t0 t1 cs) HN1.out.symm (own_srcI MX7.out))) ?_
       refine hK.out _ _ (⟨PX7.out, UX7.out⟩) (fun hHeld => ?_)
       clear hK K
       show wpAnyH _ _ _ _ _ _ _ (Act.put _ (some 19) _) _
       simp only [Act.put, L1, L2, L3]
       refine wpAnyH_take (i := 11) (v := .bool true) rfl (by kernel_rfl) (by kernel_rfl) (by kernel_rfl) (fun _ _ _ h => h) (Or.inl ⟨by rfl, fun w' h => run_eq_str rfl rfl rfl w'⟩) hHeld ?_
       show wpAnyH _ _ _ _ _ _ _ (Act.put _ (some 20) _) _
       simp only [Act.put, L1, L2, L3]
       refine wpAnyH_take (i := 12) (v := .bool true) rfl (by kernel_rfl) (by kernel_rfl) (by kernel_rfl) (fun _ _ _ h => h) (Or.inl ⟨by rfl, by intro w hSw; first | rfl | go_simp⟩) hHeld ?_
       show wpAnyH _ _ _ _ _ _ _ (Act.put _ (some 21) _) _
       simp only [Act.put, L1, L2, L3]
       refine wpAnyH_take (i := 13) (v := .bool true) rfl (by kernel_rfl) (by kernel_rfl) (by kernel_rfl) (fun _ _ _ h => h) (Or.inl ⟨by rfl, fun w _ => by rfl⟩) hHeld ?_
       show wpAnyH _ _ _ _ _ _ _ (Act.put _ (some 22) _) _
       simp only [Act.put, L1, L2, L3]
       refine wpAnyH_take (i := 15) (v := .agg (opC kd amt c id).toArray) rfl (by kernel_rfl) (by kernel_rfl) (by kernel_rfl) (fun _ _ _ h => h) (yieldsIf_load_mid (by rfl) 32 (.tmp 3) rfl go 0 rfl (opC kd amt c id) _ (fun w' h => Blk.all h.2) Tryd.underlying32 rfl HI32.out) hHeld ?_
       show wpAnyH _ _ _ _ _ _ _ (Act.put _ (some 24) _) _
       simp only [Act.put, L1, L2, L3]
       refine wpAnyH_take (i := 20) (v := .agg (opC kd amt c id).toArray) rfl (by kernel_rfl) (by kernel_rfl) (by kernel_rfl) (fun _ _ _ h => h) (yieldsIf_load_mid (by rfl) 32 (.tmp 3) rfl go 0 rfl (opC kd amt c id) _ (fun w' h => Blk.all h.2) Tryd.underlying32 rfl HI32.out) hHeld ?_
       show wpAnyH _ _ _ _ _ _ _ (Act.put _ (some 29) _) _
       simp only [Act.put, L1, L2, L3]
       refine wpAnyH_at (fuel := 19) (L := #[true, true, true, true, true, true, true, true, true, true, true, true, true, true, false, true, false, false, false, false, true, false, false, false, false, false, false, false, false, false, false, false, false, false, false]) (by kernel_rfl) (by kernel_rfl) ?_
       exact tail1 X7 g11 a13 c13 A14 c14 g16 A18 c18 EX7 PX7 UX7
      ·refine step_lay rfl 35 1 #[(0, .const (.int .u8 5))] rfl #[(0, .int .u8 5)] (by simp [Act.eval]) (.slice (some ⟨X4.heap.size, 0, none⟩) 1 1) (X4.alloc (.cells #[.int .u8 5] 5)) (by kernel_rfl) ?_
       have hB : Below X4.heap.size X4 (X4.alloc (.cells #[.int .u8 5] 5)) := (Below.refl _ _).alloc (Nat.le_refl _) _
       have hK := Blk.new X4 5 [.int .u8 5]
       generalize X4.alloc (.cells #[.int .u8 5] 5) = X5 at hB hK ⊢
       obtain ⟨g16, hg⟩ : ∃ x, X4.heap.size = x := ⟨_, rfl⟩
       rw [hg] at hK ⊢
       have EX5 := Lib.hid (EX4.out.trans (hB.mono EX4.out.size))
       have PX5 := Lib.hid (PX4.out.below hB PX4.out.lt)
       have UX5 := Lib.hid (UX4.out.below hB UX4.out.lt)
       have NX5 : Hid (Oct.Own X5 V2.heap.size (.slice A14 n1 c14) ([5] ++ stD ch rd m0 m1 t0 t1 cs)) := Lib.hid (Oct.Own.below NX4.out hB)
       have KX5 : Hid (Blk X5 g16 5 [.int .u8 5]) := Lib.hid (hK)
       clear EX4 PX4 UX4 NX4 hB hg hK
       refine hK.out _ _ (⟨PX5.out, UX5.out⟩) (fun hHeld => ?_)
       clear hK K
       show wpAnyH _ _ _ _ _ _ _ (Act.put _ (some 16) _) _
       simp only [Act.put, L1, L2, L3]
       refine wpAnyH_ready (rs := [6, 9]) (by kernel_rfl) (by simp) ?_
       refine AllReadyH.cons rfl (fun K hK => ?_) (AllReadyH.cons rfl (fun K hK => ?_) AllReadyH.nil)
       ·refine step_val rfl (.string (Oct.txt ([5] ++ stD ch rd m0 m1 t0 t1 cs))) X5 (run_conv_op rfl rfl (Oct.to_string X5 A14 c14 n1 ([5] ++ stD ch rd m0 m1 t0 t1 cs) HN1.out.symm (own_srcI NX5.out))) ?_
        refine hK.out _ _ (⟨PX5.out, UX5.out⟩) (fun hHeld => ?_)
        clear hK K
        show wpAnyH _ _ _ _ _ _ _ (Act.put _ (some 15) _) _
        simp only [Act.put, L1, L2, L3]
        refine wpAnyH_ready (rs := [9]) (by kernel_rfl) (by simp) ?_
        refine AllReadyH.cons rfl (fun K hK => ?_) AllReadyH.nil
        refine step_call rfl 9 #[.tmp 16, .tmp 17] #[35, 27] rfl #[.slice (some ⟨g16, 0, none⟩) 1 1, .agg #[.int .u32 ch, .int .u64 rd, .int .u64 m0, .int .u64 m1, .int .u64 t0, .int .u64 t1, .slice As n cp]] (by simp [Act.eval]) (by go_simp) (rstate_any (some ⟨g16, 0, none⟩) 1 1 [5] ch rd m0 m1 t0 t1 As n cp cs X5 (Lib.hid (HC.out.below (HBV.out.trans (EX5.out.mono HBV.out.size)))) HLC hn HCW HWD (src_blk KX5.out) (Lib.hid rfl) (by omega)) ?_
        rintro e X7 ⟨v18, rfl, hO, hB⟩
        replace hO := own_base (c := V2.heap.size) hO EX5.out.size
        obtain ⟨A18, c18, hv, _⟩ := Oct.Own.src hO
        rw [HN1.out] at hv
        subst hv
        have EX7 := Lib.hid (EX5.out.trans (hB.mono EX5.out.size))
        have PX7 := Lib.hid (PX5.out.below hB PX5.out.lt)
        have UX7 := Lib.hid (UX5.out.below hB UX5.out.lt)
        have MX7 : Hid (Oct.Own X7 V2.heap.size (.slice A18 n1 c18) ([5] ++ stD ch rd m0 m1 t0 t1 cs)) := Lib.hid (hO)
        clear EX5 PX5 UX5 hB hO
        refine ⟨_, rfl, hK.out _ _ (⟨PX7.out, UX7.out⟩) (fun hHeld => ?_)⟩
        clear hK K
        show wpAnyH _ _ _ _ _ _ _ (Act.put _ (some 18) _) _
        simp only [Act.put, L1, L2, L3]
        refine wpAnyH_ready (rs := [10]) (by kernel_rfl) (by simp) ?_
        refine AllReadyH.cons rfl (fun K hK => ?_) AllReadyH.nil
        refine step_val rfl (.string (Oct.txt ([5] ++ stD ch rd m0 m1 t0 t1 cs))) X7 (run_conv_op rfl rfl (to_string35 X7 A18 c18 n1 ([5] ++ stD ch rd m0 m1 t0 t1 cs) HN1.out.symm (own_srcI MX7.out))) ?_
        refine hK.out _ _ (⟨PX7.out, UX7.out⟩) (fun hHeld => ?_)
        clear hK K
        show wpAnyH _ _ _ _ _ _ _ (Act.put _ (some 19) _) _
        simp only [Act.put, L1, L2, L3]
        refine wpAnyH_take (i := 11) (v := .bool true) rfl (by kernel_rfl) (by kernel_rfl) (by kernel_rfl) (fun _ _ _ h => h) (Or.inl ⟨by rfl, fun w' h => run_eq_str rfl rfl rfl w'⟩) hHeld ?_
        show wpAnyH _ _ _ _ _ _ _ (Act.put _ (some 20) _) _
        simp only [Act.put, L1, L2, L3]
        refine wpAnyH_take (i := 12) (v := .bool true) rfl (by kernel_rfl) (by kernel_rfl) (by kernel_rfl) (fun _ _ _ h => h) (Or.inl ⟨by rfl, by intro w hSw; first | rfl | go_simp⟩) hHeld ?_
        show wpAnyH _ _ _ _ _ _ _ (Act.put _ (some 21) _) _
        simp only [Act.put, L1, L2, L3]
        refine wpAnyH_take (i := 13) (v := .bool true) rfl (by kernel_rfl) (by kernel_rfl) (by kernel_rfl) (fun _ _ _ h => h) (Or.inl ⟨by rfl, fun w _ => by rfl⟩) hHeld ?_
        show wpAnyH _ _ _ _ _ _ _ (Act.put _ (some 22) _) _
        simp only [Act.put, L1, L2, L3]
        refine wpAnyH_take (i := 15) (v := .agg (opC kd amt c id).toArray) rfl (by kernel_rfl) (by kernel_rfl) (by kernel_rfl) (fun _ _ _ h => h) (yieldsIf_load_mid (by rfl) 32 (.tmp 3) rfl go 0 rfl (opC kd amt c id) _ (fun w' h => Blk.all h.2) Tryd.underlying32 rfl HI32.out) hHeld ?_
        show wpAnyH _ _ _ _ _ _ _ (Act.put _ (some 24) _) _
        simp only [Act.put, L1, L2, L3]
        refine wpAnyH_take (i := 20) (v := .agg (opC kd amt c id).toArray) rfl (by kernel_rfl) (by kernel_rfl) (by kernel_rfl) (fun _ _ _ h => h) (yieldsIf_load_mid (by rfl) 32 (.tmp 3) rfl go 0 rfl (opC kd amt c id) _ (fun w' h => Blk.all h.2) Tryd.underlying32 rfl HI32.out) hHeld ?_
        show wpAnyH _ _ _ _ _ _ _ (Act.put _ (some 29) _) _
        simp only [Act.put, L1, L2, L3]
        refine wpAnyH_at (fuel := 19) (L := #[true, true, true, true, true, true, true, true, true, true, true, true, true, true, false, true, false, false, false, false, true, false, false, false, false, false, false, false, false, false, false, false, false, false, false]) (by kernel_rfl) (by kernel_rfl) ?_
        exact tail1 X7 g11 a13 c13 A14 c14 g16 A18 c18 EX7 PX7 UX7
       ·refine step_call rfl 9 #[.tmp 16, .tmp 17] #[35, 27] rfl #[.slice (some ⟨g16, 0, none⟩) 1 1, .agg #[.int .u32 ch, .int .u64 rd, .int .u64 m0, .int .u64 m1, .int .u64 t0, .int .u64 t1, .slice As n cp]] (by simp [Act.eval]) (by go_simp) (rstate_any (some ⟨g16, 0, none⟩) 1 1 [5] ch rd m0 m1 t0 t1 As n cp cs X5 (Lib.hid (HC.out.below (HBV.out.trans (EX5.out.mono HBV.out.size)))) HLC hn HCW HWD (src_blk KX5.out) (Lib.hid rfl) (by omega)) ?_
        rintro e X6 ⟨v18, rfl, hO, hB⟩
        replace hO := own_base (c := V2.heap.size) hO EX5.out.size
        obtain ⟨A18, c18, hv, _⟩ := Oct.Own.src hO
        rw [HN1.out] at hv
        subst hv
        have EX6 := Lib.hid (EX5.out.trans (hB.mono EX5.out.size))
        have PX6 := Lib.hid (PX5.out.below hB PX5.out.lt)
        have UX6 := Lib.hid (UX5.out.below hB UX5.out.lt)
        have NX6 : Hid (Oct.Own X6 V2.heap.size (.slice A14 n1 c14) ([5] ++ stD ch rd m0 m1 t0 t1 cs)) := Lib.hid (Oct.Own.below NX5.out hB)
        have MX6 : Hid (Oct.Own X6 V2.heap.size (.slice A18 n1 c18) ([5] ++ stD ch rd m0 m1 t0 t1 cs)) := Lib.hid (hO)
        clear EX5 PX5 UX5 NX5 hB hO
        refine ⟨_, rfl, hK.out _ _ (⟨PX6.out, UX6.out⟩) (fun hHeld => ?_)⟩
        clear hK K
        show wpAnyH _ _ _ _ _ _ _ (Act.put _ (some 18) _) _
        simp only [Act.put, L1, L2, L3]
        refine wpAnyH_ready (rs := [6, 10]) (by kernel_rfl) (by simp) ?_
        refine AllReadyH.cons rfl (fun K hK => ?_) (AllReadyH.cons rfl (fun K hK => ?_) AllReadyH.nil)
        ·refine step_val rfl (.string (Oct.txt ([5] ++ stD ch rd m0 m1 t0 t1 cs))) X6 (run_conv_op rfl rfl (Oct.to_string X6 A14 c14 n1 ([5] ++ stD ch rd m0 m1 t0 t1 cs) HN1.out.symm (own_srcI NX6.out))) ?_
         refine hK.out _ _ (⟨PX6.out, UX6.out⟩) (fun hHeld => ?_)
         clear hK K
         show wpAnyH _ _ _ _ _ _ _ (Act.put _ (some 15) _) _
         simp only [Act.put, L1, L2, L3]
         refine wpAnyH_ready (rs := [10]) (by kernel_rfl) (by simp) ?_
         refine AllReadyH.cons rfl (fun K hK => ?_) AllReadyH.nil
         refine step_val rfl (.string (Oct.txt ([5] ++ stD ch rd m0 m1 t0 t1 cs))) X6 (run_conv_op rfl rfl (to_string35 X6 A18 c18 n1 ([5] ++ stD ch rd m0 m1 t0 t1 cs) HN1.out.symm (own_srcI MX6.out))) ?_
         refine hK.out _ _ (⟨PX6.out, UX6.out⟩) (fun hHeld => ?_)
         clear hK K
         show wpAnyH _ _ _ _ _ _ _ (Act.put _ (some 19) _) _
         simp only [Act.put, L1, L2, L3]
         refine wpAnyH_take (i := 11) (v := .bool true) rfl (by kernel_rfl) (by kernel_rfl) (by kernel_rfl) (fun _ _ _ h => h) (Or.inl ⟨by rfl, fun w' h => run_eq_str rfl rfl rfl w'⟩) hHeld ?_
         show wpAnyH _ _ _ _ _ _ _ (Act.put _ (some 20) _) _
         simp only [Act.put, L1, L2, L3]
         refine wpAnyH_take (i := 12) (v := .bool true) rfl (by kernel_rfl) (by kernel_rfl) (by kernel_rfl) (fun _ _ _ h => h) (Or.inl ⟨by rfl, by intro w hSw; first | rfl | go_simp⟩) hHeld ?_
         show wpAnyH _ _ _ _ _ _ _ (Act.put _ (some 21) _) _
         simp only [Act.put, L1, L2, L3]
         refine wpAnyH_take (i := 13) (v := .bool true) rfl (by kernel_rfl) (by kernel_rfl) (by kernel_rfl) (fun _ _ _ h => h) (Or.inl ⟨by rfl, fun w _ => by rfl⟩) hHeld ?_
         show wpAnyH _ _ _ _ _ _ _ (Act.put _ (some 22) _) _
         simp only [Act.put, L1, L2, L3]
         refine wpAnyH_take (i := 15) (v := .agg (opC kd amt c id).toArray) rfl (by kernel_rfl) (by kernel_rfl) (by kernel_rfl) (fun _ _ _ h => h) (yieldsIf_load_mid (by rfl) 32 (.tmp 3) rfl go 0 rfl (opC kd amt c id) _ (fun w' h => Blk.all h.2) Tryd.underlying32 rfl HI32.out) hHeld ?_
         show wpAnyH _ _ _ _ _ _ _ (Act.put _ (some 24) _) _
         simp only [Act.put, L1, L2, L3]
         refine wpAnyH_take (i := 20) (v := .agg (opC kd amt c id).toArray) rfl (by kernel_rfl) (by kernel_rfl) (by kernel_rfl) (fun _ _ _ h => h) (yieldsIf_load_mid (by rfl) 32 (.tmp 3) rfl go 0 rfl (opC kd amt c id) _ (fun w' h => Blk.all h.2) Tryd.underlying32 rfl HI32.out) hHeld ?_
         show wpAnyH _ _ _ _ _ _ _ (Act.put _ (some 29) _) _
         simp only [Act.put, L1, L2, L3]
         refine wpAnyH_at (fuel := 19) (L := #[true, true, true, true, true, true, true, true, true, true, true, true, true, true, false, true, false, false, false, false, true, false, false, false, false, false, false, false, false, false, false, false, false, false, false]) (by kernel_rfl) (by kernel_rfl) ?_
         exact tail1 X6 g11 a13 c13 A14 c14 g16 A18 c18 EX6 PX6 UX6
        ·refine step_val rfl (.string (Oct.txt ([5] ++ stD ch rd m0 m1 t0 t1 cs))) X6 (run_conv_op rfl rfl (to_string35 X6 A18 c18 n1 ([5] ++ stD ch rd m0 m1 t0 t1 cs) HN1.out.symm (own_srcI MX6.out))) ?_
         refine hK.out _ _ (⟨PX6.out, UX6.out⟩) (fun hHeld => ?_)
         clear hK K
         show wpAnyH _ _ _ _ _ _ _ (Act.put _ (some 19) _) _
         simp only [Act.put, L1, L2, L3]
         refine wpAnyH_ready (rs := [6]) (by kernel_rfl) (by simp) ?_
         refine AllReadyH.cons rfl (fun K hK => ?_) AllReadyH.nil
         refine step_val rfl (.string (Oct.txt ([5] ++ stD ch rd m0 m1 t0 t1 cs))) X6 (run_conv_op rfl rfl (Oct.to_string X6 A14 c14 n1 ([5] ++ stD ch rd m0 m1 t0 t1 cs) HN1.out.symm (own_srcI NX6.out))) ?_
         refine hK.out _ _ (⟨PX6.out, UX6.out⟩) (fun hHeld => ?_)
         clear hK K
         show wpAnyH _ _ _ _ _ _ _ (Act.put _ (some 15) _) _
         simp only [Act.put, L1, L2, L3]
         refine wpAnyH_take (i := 11) (v := .bool true) rfl (by kernel_rfl) (by kernel_rfl) (by kernel_rfl) (fun _ _ _ h => h) (Or.inl ⟨by rfl, fun w' h => run_eq_str rfl rfl rfl w'⟩) hHeld ?_
         show wpAnyH _ _ _ _ _ _ _ (Act.put _ (some 20) _) _
         simp only [Act.put, L1, L2, L3]
         refine wpAnyH_take (i := 12) (v := .bool true) rfl (by kernel_rfl) (by kernel_rfl) (by kernel_rfl) (fun _ _ _ h => h) (Or.inl ⟨by rfl, by intro w hSw; first | rfl | go_simp⟩) hHeld ?_
         show wpAnyH _ _ _ _ _ _ _ (Act.put _ (some 21) _) _
         simp only [Act.put, L1, L2, L3]
         refine wpAnyH_take (i := 13) (v := .bool true) rfl (by kernel_rfl) (by kernel_rfl) (by kernel_rfl) (fun _ _ _ h => h) (Or.inl ⟨by rfl, fun w _ => by rfl⟩) hHeld ?_
         show wpAnyH _ _ _ _ _ _ _ (Act.put _ (some 22) _) _
         simp only [Act.put, L1, L2, L3]
         refine wpAnyH_take (i := 15) (v := .agg (opC kd amt c id).toArray) rfl (by kernel_rfl) (by kernel_rfl) (by kernel_rfl) (fun _ _ _ h => h) (yieldsIf_load_mid (by rfl) 32 (.tmp 3) rfl go 0 rfl (opC kd amt c id) _ (fun w' h => Blk.all h.2) Tryd.underlying32 rfl HI32.out) hHeld ?_
         show wpAnyH _ _ _ _ _ _ _ (Act.put _ (some 24) _) _
         simp only [Act.put, L1, L2, L3]
         refine wpAnyH_take (i := 20) (v := .agg (opC kd amt c id).toArray) rfl (by kernel_rfl) (by kernel_rfl) (by kernel_rfl) (fun _ _ _ h => h) (yieldsIf_load_mid (by rfl) 32 (.tmp 3) rfl go 0 rfl (opC kd amt c id) _ (fun w' h => Blk.all h.2) Tryd.underlying32 rfl HI32.out) hHeld ?_
         show wpAnyH _ _ _ _ _ _ _ (Act.put _ (some 29) _) _
         simp only [Act.put, L1, L2, L3]
         refine wpAnyH_at (fuel := 19) (L := #[true, true, true, true, true, true, true, true, true, true, true, true, true, true, false, true, false, false, false, false, true, false, false, false, false, false, false, false, false, false, false, false, false, false, false]) (by kernel_rfl) (by kernel_rfl) ?_
         exact tail1 X6 g11 a13 c13 A14 c14 g16 A18 c18 EX6 PX6 UX6
     ·refine step_lay rfl 35 1 #[(0, .const (.int .u8 5))] rfl #[(0, .int .u8 5)] (by simp [Act.eval]) (.slice (some ⟨X3.heap.size, 0, none⟩) 1 1) (X3.alloc (.cells #[.int .u8 5] 5)) (by kernel_rfl) ?_
      have hB : Below X3.heap.size X3 (X3.alloc (.cells #[.int .u8 5] 5)) := (Below.refl _ _).alloc (Nat.le_refl _) _
      have hK := Blk.new X3 5 [.int .u8 5]
      generalize X3.alloc (.cells #[.int .u8 5] 5) = X4 at hB hK ⊢
      obtain ⟨g16, hg⟩ : ∃ x, X3.heap.size = x := ⟨_, rfl⟩
      have NE : Hid (g11 ≠ g16) := Lib.hid (by have := (World.ownsRow.lt OX3.out g11 rfl).2; omega)
      rw [hg] at hK ⊢
      have EX4 := Lib.hid (EX3.out.trans (hB.mono EX3.out.size))
      have PX4 := Lib.hid (PX3.out.below hB PX3.out.lt)
      have UX4 := Lib.hid (UX3.out.below hB UX3.out.lt)
      have OX4 : Hid (Oct.Own X4 V2.heap.size (.slice (some ⟨g11, 0, none⟩) 1 1) [5]) := Lib.hid (Oct.Own.below OX3.out hB)
      have CX4 : Hid (CRow X4 a13 cs) := Lib.hid (CRow.below CX3.out hB)
      have KX4 : Hid (Blk X4 g16 5 [.int .u8 5]) := Lib.hid (hK)
      clear EX3 PX3 UX3 OX3 CX3 hB hg hK
      refine hK.out _ _ (⟨PX4.out, UX4.out⟩) (fun hHeld => ?_)
      clear hK K
      show wpAnyH _ _ _ _ _ _ _ (Act.put _ (some 16) _) _
      simp only [Act.put, L1, L2, L3]
      refine wpAnyH_ready (rs := [5]) (by kernel_rfl) (by simp) ?_
      refine AllReadyH.cons rfl (fun K hK => ?_) AllReadyH.nil
      refine step_call rfl 7 #[.tmp 11, .tmp 13] #[36, 40] rfl #[.slice (some ⟨g11, 0, none⟩) 1 1, .agg #[.int .u32 ch, .int .u64 rd, .int .u64 m0, .int .u64 m1, .int .u64 t0, .int .u64 t1, .slice a13 n c13]] (by simp [Act.eval]) (by go_simp) (deedlay_any ch rd m0 m1 t0 t1 a13 n c13 cs (.slice (some ⟨g11, 0, none⟩) 1 1) V2.heap.size [5] X4 CX4 HLC hn HCW HWD OX4 (Lib.hid EX4.out.size) (Lib.hid (by simp))) ?_
      rintro e X5 ⟨v14, rfl, hO, hG, hL⟩
      rw [stL_eq ch rd m0 m1 t0 t1 cs HWD.out HCW.out] at hO
      obtain ⟨A14, c14, hv, _⟩ := Oct.Own.src hO
      rw [HN1.out] at hv
      subst hv
      have EX5 := Lib.hid (EX4.out.trans (Oct.grown_below hG EX4.out.size (fun g hg => (World.ownsRow.lt OX4.out g hg).1)))
      have PX5 := Lib.hid (PX4.out.grown hG (fun e => by have := (World.ownsRow.lt OX4.out gp e.symm).1; have := HLP.out; omega))
      have UX5 := Lib.hid (UX4.out.grown hG (fun e => by have := (World.ownsRow.lt OX4.out go e.symm).1; have := HLU.out; omega))
      have KX5 : Hid (Blk X5 g16 5 [.int .u8 5]) := Lib.hid (KX4.out.grown hG (fun e => by have e' : some g16 = some g11 := e; injection e' with e'; exact NE.out e'.symm))
      have NX5 : Hid (Oct.Own X5 V2.heap.size (.slice A14 n1 c14) ([5] ++ stD ch rd m0 m1 t0 t1 cs)) := Lib.hid (hO)
      clear EX4 PX4 UX4 KX4 hO hG hL OX4 CX4
      refine ⟨_, rfl, hK.out _ _ (⟨PX5.out, UX5.out⟩) (fun hHeld => ?_)⟩
      clear hK K
      show wpAnyH _ _ _ _ _ _ _ (Act.put _ (some 14) _) _
      simp only [Act.put, L1, L2, L3]
      refine wpAnyH_ready (rs := [6, 9]) (by kernel_rfl) (by simp) ?_
      refine AllReadyH.cons rfl (fun K hK => ?_) (AllReadyH.cons rfl (fun K hK => ?_) AllReadyH.nil)
      ·refine step_val rfl (.string (Oct.txt ([5] ++ stD ch rd m0 m1 t0 t1 cs))) X5 (run_conv_op rfl rfl (Oct.to_string X5 A14 c14 n1 ([5] ++ stD ch rd m0 m1 t0 t1 cs) HN1.out.symm (own_srcI NX5.out))) ?_
       refine hK.out _ _ (⟨PX5.out, UX5.out⟩) (fun hHeld => ?_)
       clear hK K
       show wpAnyH _ _ _ _ _ _ _ (Act.put _ (some 15) _) _
       simp only [Act.put, L1, L2, L3]
       refine wpAnyH_ready (rs := [9]) (by kernel_rfl) (by simp) ?_
       refine AllReadyH.cons rfl (fun K hK => ?_) AllReadyH.nil
       refine step_call rfl 9 #[.tmp 16, .tmp 17] #[35, 27] rfl #[.slice (some ⟨g16, 0, none⟩) 1 1, .agg #[.int .u32 ch, .int .u64 rd, .int .u64 m0, .int .u64 m1, .int .u64 t0, .int .u64 t1, .slice As n cp]] (by simp [Act.eval]) (by go_simp) (rstate_any (some ⟨g16, 0, none⟩) 1 1 [5] ch rd m0 m1 t0 t1 As n cp cs X5 (Lib.hid (HC.out.below (HBV.out.trans (EX5.out.mono HBV.out.size)))) HLC hn HCW HWD (src_blk KX5.out) (Lib.hid rfl) (by omega)) ?_
       rintro e X7 ⟨v18, rfl, hO, hB⟩
       replace hO := own_base (c := V2.heap.size) hO EX5.out.size
       obtain ⟨A18, c18, hv, _⟩ := Oct.Own.src hO
       rw [HN1.out] at hv
       subst hv
       have EX7 := Lib.hid (EX5.out.trans (hB.mono EX5.out.size))
       have PX7 := Lib.hid (PX5.out.below hB PX5.out.lt)
       have UX7 := Lib.hid (UX5.out.below hB UX5.out.lt)
       have MX7 : Hid (Oct.Own X7 V2.heap.size (.slice A18 n1 c18) ([5] ++ stD ch rd m0 m1 t0 t1 cs)) := Lib.hid (hO)
       clear EX5 PX5 UX5 hB hO
       refine ⟨_, rfl, hK.out _ _ (⟨PX7.out, UX7.out⟩) (fun hHeld => ?_)⟩
       clear hK K
       show wpAnyH _ _ _ _ _ _ _ (Act.put _ (some 18) _) _
       simp only [Act.put, L1, L2, L3]
       refine wpAnyH_ready (rs := [10]) (by kernel_rfl) (by simp) ?_
       refine AllReadyH.cons rfl (fun K hK => ?_) AllReadyH.nil
       refine step_val rfl (.string (Oct.txt ([5] ++ stD ch rd m0 m1 t0 t1 cs))) X7 (run_conv_op rfl rfl (to_string35 X7 A18 c18 n1 ([5] ++ stD ch rd m0 m1 t0 t1 cs) HN1.out.symm (own_srcI MX7.out))) ?_
       refine hK.out _ _ (⟨PX7.out, UX7.out⟩) (fun hHeld => ?_)
       clear hK K
       show wpAnyH _ _ _ _ _ _ _ (Act.put _ (some 19) _) _
       simp only [Act.put, L1, L2, L3]
       refine wpAnyH_take (i := 11) (v := .bool true) rfl (by kernel_rfl) (by kernel_rfl) (by kernel_rfl) (fun _ _ _ h => h) (Or.inl ⟨by rfl, fun w' h => run_eq_str rfl rfl rfl w'⟩) hHeld ?_
       show wpAnyH _ _ _ _ _ _ _ (Act.put _ (some 20) _) _
       simp only [Act.put, L1, L2, L3]
       refine wpAnyH_take (i := 12) (v := .bool true) rfl (by kernel_rfl) (by kernel_rfl) (by kernel_rfl) (fun _ _ _ h => h) (Or.inl ⟨by rfl, by intro w hSw; first | rfl | go_simp⟩) hHeld ?_
       show wpAnyH _ _ _ _ _ _ _ (Act.put _ (some 21) _) _
       simp only [Act.put, L1, L2, L3]
       refine wpAnyH_take (i := 13) (v := .bool true) rfl (by kernel_rfl) (by kernel_rfl) (by kernel_rfl) (fun _ _ _ h => h) (Or.inl ⟨by rfl, fun w _ => by rfl⟩) hHeld ?_
       show wpAnyH _ _ _ _ _ _ _ (Act.put _ (some 22) _) _
       simp only [Act.put, L1, L2, L3]
       refine wpAnyH_take (i := 15) (v := .agg (opC kd amt c id).toArray) rfl (by kernel_rfl) (by kernel_rfl) (by kernel_rfl) (fun _ _ _ h => h) (yieldsIf_load_mid (by rfl) 32 (.tmp 3) rfl go 0 rfl (opC kd amt c id) _ (fun w' h => Blk.all h.2) Tryd.underlying32 rfl HI32.out) hHeld ?_
       show wpAnyH _ _ _ _ _ _ _ (Act.put _ (some 24) _) _
       simp only [Act.put, L1, L2, L3]
       refine wpAnyH_take (i := 20) (v := .agg (opC kd amt c id).toArray) rfl (by kernel_rfl) (by kernel_rfl) (by kernel_rfl) (fun _ _ _ h => h) (yieldsIf_load_mid (by rfl) 32 (.tmp 3) rfl go 0 rfl (opC kd amt c id) _ (fun w' h => Blk.all h.2) Tryd.underlying32 rfl HI32.out) hHeld ?_
       show wpAnyH _ _ _ _ _ _ _ (Act.put _ (some 29) _) _
       simp only [Act.put, L1, L2, L3]
       refine wpAnyH_at (fuel := 19) (L := #[true, true, true, true, true, true, true, true, true, true, true, true, true, true, false, true, false, false, false, false, true, false, false, false, false, false, false, false, false, false, false, false, false, false, false]) (by kernel_rfl) (by kernel_rfl) ?_
       exact tail1 X7 g11 a13 c13 A14 c14 g16 A18 c18 EX7 PX7 UX7
      ·refine step_call rfl 9 #[.tmp 16, .tmp 17] #[35, 27] rfl #[.slice (some ⟨g16, 0, none⟩) 1 1, .agg #[.int .u32 ch, .int .u64 rd, .int .u64 m0, .int .u64 m1, .int .u64 t0, .int .u64 t1, .slice As n cp]] (by simp [Act.eval]) (by go_simp) (rstate_any (some ⟨g16, 0, none⟩) 1 1 [5] ch rd m0 m1 t0 t1 As n cp cs X5 (Lib.hid (HC.out.below (HBV.out.trans (EX5.out.mono HBV.out.size)))) HLC hn HCW HWD (src_blk KX5.out) (Lib.hid rfl) (by omega)) ?_
       rintro e X6 ⟨v18, rfl, hO, hB⟩
       replace hO := own_base (c := V2.heap.size) hO EX5.out.size
       obtain ⟨A18, c18, hv, _⟩ := Oct.Own.src hO
       rw [HN1.out] at hv
       subst hv
       have EX6 := Lib.hid (EX5.out.trans (hB.mono EX5.out.size))
       have PX6 := Lib.hid (PX5.out.below hB PX5.out.lt)
       have UX6 := Lib.hid (UX5.out.below hB UX5.out.lt)
       have NX6 : Hid (Oct.Own X6 V2.heap.size (.slice A14 n1 c14) ([5] ++ stD ch rd m0 m1 t0 t1 cs)) := Lib.hid (Oct.Own.below NX5.out hB)
       have MX6 : Hid (Oct.Own X6 V2.heap.size (.slice A18 n1 c18) ([5] ++ stD ch rd m0 m1 t0 t1 cs)) := Lib.hid (hO)
       clear EX5 PX5 UX5 NX5 hB hO
       refine ⟨_, rfl, hK.out _ _ (⟨PX6.out, UX6.out⟩) (fun hHeld => ?_)⟩
       clear hK K
       show wpAnyH _ _ _ _ _ _ _ (Act.put _ (some 18) _) _
       simp only [Act.put, L1, L2, L3]
       refine wpAnyH_ready (rs := [6, 10]) (by kernel_rfl) (by simp) ?_
       refine AllReadyH.cons rfl (fun K hK => ?_) (AllReadyH.cons rfl (fun K hK => ?_) AllReadyH.nil)
       ·refine step_val rfl (.string (Oct.txt ([5] ++ stD ch rd m0 m1 t0 t1 cs))) X6 (run_conv_op rfl rfl (Oct.to_string X6 A14 c14 n1 ([5] ++ stD ch rd m0 m1 t0 t1 cs) HN1.out.symm (own_srcI NX6.out))) ?_
        refine hK.out _ _ (⟨PX6.out, UX6.out⟩) (fun hHeld => ?_)
        clear hK K
        show wpAnyH _ _ _ _ _ _ _ (Act.put _ (some 15) _) _
        simp only [Act.put, L1, L2, L3]
        refine wpAnyH_ready (rs := [10]) (by kernel_rfl) (by simp) ?_
        refine AllReadyH.cons rfl (fun K hK => ?_) AllReadyH.nil
        refine step_val rfl (.string (Oct.txt ([5] ++ stD ch rd m0 m1 t0 t1 cs))) X6 (run_conv_op rfl rfl (to_string35 X6 A18 c18 n1 ([5] ++ stD ch rd m0 m1 t0 t1 cs) HN1.out.symm (own_srcI MX6.out))) ?_
        refine hK.out _ _ (⟨PX6.out, UX6.out⟩) (fun hHeld => ?_)
        clear hK K
        show wpAnyH _ _ _ _ _ _ _ (Act.put _ (some 19) _) _
        simp only [Act.put, L1, L2, L3]
        refine wpAnyH_take (i := 11) (v := .bool true) rfl (by kernel_rfl) (by kernel_rfl) (by kernel_rfl) (fun _ _ _ h => h) (Or.inl ⟨by rfl, fun w' h => run_eq_str rfl rfl rfl w'⟩) hHeld ?_
        show wpAnyH _ _ _ _ _ _ _ (Act.put _ (some 20) _) _
        simp only [Act.put, L1, L2, L3]
        refine wpAnyH_take (i := 12) (v := .bool true) rfl (by kernel_rfl) (by kernel_rfl) (by kernel_rfl) (fun _ _ _ h => h) (Or.inl ⟨by rfl, by intro w hSw; first | rfl | go_simp⟩) hHeld ?_
        show wpAnyH _ _ _ _ _ _ _ (Act.put _ (some 21) _) _
        simp only [Act.put, L1, L2, L3]
        refine wpAnyH_take (i := 13) (v := .bool true) rfl (by kernel_rfl) (by kernel_rfl) (by kernel_rfl) (fun _ _ _ h => h) (Or.inl ⟨by rfl, fun w _ => by rfl⟩) hHeld ?_
        show wpAnyH _ _ _ _ _ _ _ (Act.put _ (some 22) _) _
        simp only [Act.put, L1, L2, L3]
        refine wpAnyH_take (i := 15) (v := .agg (opC kd amt c id).toArray) rfl (by kernel_rfl) (by kernel_rfl) (by kernel_rfl) (fun _ _ _ h => h) (yieldsIf_load_mid (by rfl) 32 (.tmp 3) rfl go 0 rfl (opC kd amt c id) _ (fun w' h => Blk.all h.2) Tryd.underlying32 rfl HI32.out) hHeld ?_
        show wpAnyH _ _ _ _ _ _ _ (Act.put _ (some 24) _) _
        simp only [Act.put, L1, L2, L3]
        refine wpAnyH_take (i := 20) (v := .agg (opC kd amt c id).toArray) rfl (by kernel_rfl) (by kernel_rfl) (by kernel_rfl) (fun _ _ _ h => h) (yieldsIf_load_mid (by rfl) 32 (.tmp 3) rfl go 0 rfl (opC kd amt c id) _ (fun w' h => Blk.all h.2) Tryd.underlying32 rfl HI32.out) hHeld ?_
        show wpAnyH _ _ _ _ _ _ _ (Act.put _ (some 29) _) _
        simp only [Act.put, L1, L2, L3]
        refine wpAnyH_at (fuel := 19) (L := #[true, true, true, true, true, true, true, true, true, true, true, true, true, true, false, true, false, false, false, false, true, false, false, false, false, false, false, false, false, false, false, false, false, false, false]) (by kernel_rfl) (by kernel_rfl) ?_
        exact tail1 X6 g11 a13 c13 A14 c14 g16 A18 c18 EX6 PX6 UX6
       ·refine step_val rfl (.string (Oct.txt ([5] ++ stD ch rd m0 m1 t0 t1 cs))) X6 (run_conv_op rfl rfl (to_string35 X6 A18 c18 n1 ([5] ++ stD ch rd m0 m1 t0 t1 cs) HN1.out.symm (own_srcI MX6.out))) ?_
        refine hK.out _ _ (⟨PX6.out, UX6.out⟩) (fun hHeld => ?_)
        clear hK K
        show wpAnyH _ _ _ _ _ _ _ (Act.put _ (some 19) _) _
        simp only [Act.put, L1, L2, L3]
        refine wpAnyH_ready (rs := [6]) (by kernel_rfl) (by simp) ?_
        refine AllReadyH.cons rfl (fun K hK => ?_) AllReadyH.nil
        refine step_val rfl (.string (Oct.txt ([5] ++ stD ch rd m0 m1 t0 t1 cs))) X6 (run_conv_op rfl rfl (Oct.to_string X6 A14 c14 n1 ([5] ++ stD ch rd m0 m1 t0 t1 cs) HN1.out.symm (own_srcI NX6.out))) ?_
        refine hK.out _ _ (⟨PX6.out, UX6.out⟩) (fun hHeld => ?_)
        clear hK K
        show wpAnyH _ _ _ _ _ _ _ (Act.put _ (some 15) _) _
        simp only [Act.put, L1, L2, L3]
        refine wpAnyH_take (i := 11) (v := .bool true) rfl (by kernel_rfl) (by kernel_rfl) (by kernel_rfl) (fun _ _ _ h => h) (Or.inl ⟨by rfl, fun w' h => run_eq_str rfl rfl rfl w'⟩) hHeld ?_
        show wpAnyH _ _ _ _ _ _ _ (Act.put _ (some 20) _) _
        simp only [Act.put, L1, L2, L3]
        refine wpAnyH_take (i := 12) (v := .bool true) rfl (by kernel_rfl) (by kernel_rfl) (by kernel_rfl) (fun _ _ _ h => h) (Or.inl ⟨by rfl, by intro w hSw; first | rfl | go_simp⟩) hHeld ?_
        show wpAnyH _ _ _ _ _ _ _ (Act.put _ (some 21) _) _
        simp only [Act.put, L1, L2, L3]
        refine wpAnyH_take (i := 13) (v := .bool true) rfl (by kernel_rfl) (by kernel_rfl) (by kernel_rfl) (fun _ _ _ h => h) (Or.inl ⟨by rfl, fun w _ => by rfl⟩) hHeld ?_
        show wpAnyH _ _ _ _ _ _ _ (Act.put _ (some 22) _) _
        simp only [Act.put, L1, L2, L3]
        refine wpAnyH_take (i := 15) (v := .agg (opC kd amt c id).toArray) rfl (by kernel_rfl) (by kernel_rfl) (by kernel_rfl) (fun _ _ _ h => h) (yieldsIf_load_mid (by rfl) 32 (.tmp 3) rfl go 0 rfl (opC kd amt c id) _ (fun w' h => Blk.all h.2) Tryd.underlying32 rfl HI32.out) hHeld ?_
        show wpAnyH _ _ _ _ _ _ _ (Act.put _ (some 24) _) _
        simp only [Act.put, L1, L2, L3]
        refine wpAnyH_take (i := 20) (v := .agg (opC kd amt c id).toArray) rfl (by kernel_rfl) (by kernel_rfl) (by kernel_rfl) (fun _ _ _ h => h) (yieldsIf_load_mid (by rfl) 32 (.tmp 3) rfl go 0 rfl (opC kd amt c id) _ (fun w' h => Blk.all h.2) Tryd.underlying32 rfl HI32.out) hHeld ?_
        show wpAnyH _ _ _ _ _ _ _ (Act.put _ (some 29) _) _
        simp only [Act.put, L1, L2, L3]
        refine wpAnyH_at (fuel := 19) (L := #[true, true, true, true, true, true, true, true, true, true, true, true, true, true, false, true, false, false, false, false, true, false, false, false, false, false, false, false, false, false, false, false, false, false, false]) (by kernel_rfl) (by kernel_rfl) ?_
        exact tail1 X6 g11 a13 c13 A14 c14 g16 A18 c18 EX6 PX6 UX6
    ·refine step_lay rfl 35 1 #[(0, .const (.int .u8 5))] rfl #[(0, .int .u8 5)] (by simp [Act.eval]) (.slice (some ⟨X2.heap.size, 0, none⟩) 1 1) (X2.alloc (.cells #[.int .u8 5] 5)) (by kernel_rfl) ?_
     have hB : Below X2.heap.size X2 (X2.alloc (.cells #[.int .u8 5] 5)) := (Below.refl _ _).alloc (Nat.le_refl _) _
     have hK := Blk.new X2 5 [.int .u8 5]
     generalize X2.alloc (.cells #[.int .u8 5] 5) = X3 at hB hK ⊢
     obtain ⟨g16, hg⟩ : ∃ x, X2.heap.size = x := ⟨_, rfl⟩
     have NE : Hid (g11 ≠ g16) := Lib.hid (by have := (World.ownsRow.lt OX2.out g11 rfl).2; omega)
     rw [hg] at hK ⊢
     have EX3 := Lib.hid (EX2.out.trans (hB.mono EX2.out.size))
     have PX3 := Lib.hid (PX2.out.below hB PX2.out.lt)
     have UX3 := Lib.hid (UX2.out.below hB UX2.out.lt)
     have OX3 : Hid (Oct.Own X3 V2.heap.size (.slice (some ⟨g11, 0, none⟩) 1 1) [5]) := Lib.hid (Oct.Own.below OX2.out hB)
     have KX3 : Hid (Blk X3 g16 5 [.int .u8 5]) := Lib.hid (hK)
     clear EX2 PX2 UX2 OX2 hB hg hK
     refine hK.out _ _ (⟨PX3.out, UX3.out⟩) (fun hHeld => ?_)
     clear hK K
     show wpAnyH _ _ _ _ _ _ _ (Act.put _ (some 16) _) _
     simp only [Act.put, L1, L2, L3]
     refine wpAnyH_ready (rs := [4]) (by kernel_rfl) (by simp) ?_
     refine AllReadyH.cons rfl (fun K hK => ?_) AllReadyH.nil
     refine step_call rfl 8 #[.tmp 12] #[27] rfl #[.agg #[.int .u32 ch, .int .u64 rd, .int .u64 m0, .int .u64 m1, .int .u64 t0, .int .u64 t1, .slice As n cp]] (by simp [Act.eval]) (by go_simp) (to_any ch rd m0 m1 t0 t1 As n cp cs X3 (Lib.hid (HC.out.below (HBV.out.trans (EX3.out.mono HBV.out.size)))).out HLC.out hn) ?_
     rintro e X4 ⟨a13, c13, rfl, hO, hB⟩
     have EX4 := Lib.hid (EX3.out.trans (hB.mono EX3.out.size))
     have PX4 := Lib.hid (PX3.out.below hB PX3.out.lt)
     have UX4 := Lib.hid (UX3.out.below hB UX3.out.lt)
     have OX4 : Hid (Oct.Own X4 V2.heap.size (.slice (some ⟨g11, 0, none⟩) 1 1) [5]) := Lib.hid (Oct.Own.below OX3.out hB)
     have KX4 : Hid (Blk X4 g16 5 [.int .u8 5]) := Lib.hid (KX3.out.below hB KX3.out.lt)
     have CX4 : Hid (CRow X4 a13 cs) := Lib.hid (CRow.of_own (by rw [HLC.out]; exact hO) HC.out.ok)
     clear EX3 PX3 UX3 OX3 KX3 hB hO
     refine ⟨_, rfl, hK.out _ _ (⟨PX4.out, UX4.out⟩) (fun hHeld => ?_)⟩
     clear hK K
     show wpAnyH _ _ _ _ _ _ _ (Act.put _ (some 13) _) _
     simp only [Act.put, L1, L2, L3]
     refine wpAnyH_ready (rs := [5]) (by kernel_rfl) (by simp) ?_
     refine AllReadyH.cons rfl (fun K hK => ?_) AllReadyH.nil
     refine step_call rfl 7 #[.tmp 11, .tmp 13] #[36, 40] rfl #[.slice (some ⟨g11, 0, none⟩) 1 1, .agg #[.int .u32 ch, .int .u64 rd, .int .u64 m0, .int .u64 m1, .int .u64 t0, .int .u64 t1, .slice a13 n c13]] (by simp [Act.eval]) (by go_simp) (deedlay_any ch rd m0 m1 t0 t1 a13 n c13 cs (.slice (some ⟨g11, 0, none⟩) 1 1) V2.heap.size [5] X4 CX4 HLC hn HCW HWD OX4 (Lib.hid EX4.out.size) (Lib.hid (by simp))) ?_
     rintro e X5 ⟨v14, rfl, hO, hG, hL⟩
     rw [stL_eq ch rd m0 m1 t0 t1 cs HWD.out HCW.out] at hO
     obtain ⟨A14, c14, hv, _⟩ := Oct.Own.src hO
     rw [HN1.out] at hv
     subst hv
     have EX5 := Lib.hid (EX4.out.trans (Oct.grown_below hG EX4.out.size (fun g hg => (World.ownsRow.lt OX4.out g hg).1)))
     have PX5 := Lib.hid (PX4.out.grown hG (fun e => by have := (World.ownsRow.lt OX4.out gp e.symm).1; have := HLP.out; omega))
     have UX5 := Lib.hid (UX4.out.grown hG (fun e => by have := (World.ownsRow.lt OX4.out go e.symm).1; have := HLU.out; omega))
     have KX5 : Hid (Blk X5 g16 5 [.int .u8 5]) := Lib.hid (KX4.out.grown hG (fun e => by have e' : some g16 = some g11 := e; injection e' with e'; exact NE.out e'.symm))
     have NX5 : Hid (Oct.Own X5 V2.heap.size (.slice A14 n1 c14) ([5] ++ stD ch rd m0 m1 t0 t1 cs)) := Lib.hid (hO)
     clear EX4 PX4 UX4 KX4 hO hG hL OX4 CX4
     refine ⟨_, rfl, hK.out _ _ (⟨PX5.out, UX5.out⟩) (fun hHeld => ?_)⟩
     clear hK K
     show wpAnyH _ _ _ _ _ _ _ (Act.put _ (some 14) _) _
     simp only [Act.put, L1, L2, L3]
     refine wpAnyH_ready (rs := [6, 9]) (by kernel_rfl) (by simp) ?_
     refine AllReadyH.cons rfl (fun K hK => ?_) (AllReadyH.cons rfl (fun K hK => ?_) AllReadyH.nil)
     ·refine step_val rfl (.string (Oct.txt ([5] ++ stD ch rd m0 m1 t0 t1 cs))) X5 (run_conv_op rfl rfl (Oct.to_string X5 A14 c14 n1 ([5] ++ stD ch rd m0 m1 t0 t1 cs) HN1.out.symm (own_srcI NX5.out))) ?_
      refine hK.out _ _ (⟨PX5.out, UX5.out⟩) (fun hHeld => ?_)
      clear hK K
      show wpAnyH _ _ _ _ _ _ _ (Act.put _ (some 15) _) _
      simp only [Act.put, L1, L2, L3]
      refine wpAnyH_ready (rs := [9]) (by kernel_rfl) (by simp) ?_
      refine AllReadyH.cons rfl (fun K hK => ?_) AllReadyH.nil
      refine step_call rfl 9 #[.tmp 16, .tmp 17] #[35, 27] rfl #[.slice (some ⟨g16, 0, none⟩) 1 1, .agg #[.int .u32 ch, .int .u64 rd, .int .u64 m0, .int .u64 m1, .int .u64 t0, .int .u64 t1, .slice As n cp]] (by simp [Act.eval]) (by go_simp) (rstate_any (some ⟨g16, 0, none⟩) 1 1 [5] ch rd m0 m1 t0 t1 As n cp cs X5 (Lib.hid (HC.out.below (HBV.out.trans (EX5.out.mono HBV.out.size)))) HLC hn HCW HWD (src_blk KX5.out) (Lib.hid rfl) (by omega)) ?_
      rintro e X7 ⟨v18, rfl, hO, hB⟩
      replace hO := own_base (c := V2.heap.size) hO EX5.out.size
      obtain ⟨A18, c18, hv, _⟩ := Oct.Own.src hO
      rw [HN1.out] at hv
      subst hv
      have EX7 := Lib.hid (EX5.out.trans (hB.mono EX5.out.size))
      have PX7 := Lib.hid (PX5.out.below hB PX5.out.lt)
      have UX7 := Lib.hid (UX5.out.below hB UX5.out.lt)
      have MX7 : Hid (Oct.Own X7 V2.heap.size (.slice A18 n1 c18) ([5] ++ stD ch rd m0 m1 t0 t1 cs)) := Lib.hid (hO)
      clear EX5 PX5 UX5 hB hO
      refine ⟨_, rfl, hK.out _ _ (⟨PX7.out, UX7.out⟩) (fun hHeld => ?_)⟩
      clear hK K
      show wpAnyH _ _ _ _ _ _ _ (Act.put _ (some 18) _) _
      simp only [Act.put, L1, L2, L3]
      refine wpAnyH_ready (rs := [10]) (by kernel_rfl) (by simp) ?_
      refine AllReadyH.cons rfl (fun K hK => ?_) AllReadyH.nil
      refine step_val rfl (.string (Oct.txt ([5] ++ stD ch rd m0 m1 t0 t1 cs))) X7 (run_conv_op rfl rfl (to_string35 X7 A18 c18 n1 ([5] ++ stD ch rd m0 m1 t0 t1 cs) HN1.out.symm (own_srcI MX7.out))) ?_
      refine hK.out _ _ (⟨PX7.out, UX7.out⟩) (fun hHeld => ?_)
      clear hK K
      show wpAnyH _ _ _ _ _ _ _ (Act.put _ (some 19) _) _
      simp only [Act.put, L1, L2, L3]
      refine wpAnyH_take (i := 11) (v := .bool true) rfl (by kernel_rfl) (by kernel_rfl) (by kernel_rfl) (fun _ _ _ h => h) (Or.inl ⟨by rfl, fun w' h => run_eq_str rfl rfl rfl w'⟩) hHeld ?_
      show wpAnyH _ _ _ _ _ _ _ (Act.put _ (some 20) _) _
      simp only [Act.put, L1, L2, L3]
      refine wpAnyH_take (i := 12) (v := .bool true) rfl (by kernel_rfl) (by kernel_rfl) (by kernel_rfl) (fun _ _ _ h => h) (Or.inl ⟨by rfl, by intro w hSw; first | rfl | go_simp⟩) hHeld ?_
      show wpAnyH _ _ _ _ _ _ _ (Act.put _ (some 21) _) _
      simp only [Act.put, L1, L2, L3]
      refine wpAnyH_take (i := 13) (v := .bool true) rfl (by kernel_rfl) (by kernel_rfl) (by kernel_rfl) (fun _ _ _ h => h) (Or.inl ⟨by rfl, fun w _ => by rfl⟩) hHeld ?_
      show wpAnyH _ _ _ _ _ _ _ (Act.put _ (some 22) _) _
      simp only [Act.put, L1, L2, L3]
      refine wpAnyH_take (i := 15) (v := .agg (opC kd amt c id).toArray) rfl (by kernel_rfl) (by kernel_rfl) (by kernel_rfl) (fun _ _ _ h => h) (yieldsIf_load_mid (by rfl) 32 (.tmp 3) rfl go 0 rfl (opC kd amt c id) _ (fun w' h => Blk.all h.2) Tryd.underlying32 rfl HI32.out) hHeld ?_
      show wpAnyH _ _ _ _ _ _ _ (Act.put _ (some 24) _) _
      simp only [Act.put, L1, L2, L3]
      refine wpAnyH_take (i := 20) (v := .agg (opC kd amt c id).toArray) rfl (by kernel_rfl) (by kernel_rfl) (by kernel_rfl) (fun _ _ _ h => h) (yieldsIf_load_mid (by rfl) 32 (.tmp 3) rfl go 0 rfl (opC kd amt c id) _ (fun w' h => Blk.all h.2) Tryd.underlying32 rfl HI32.out) hHeld ?_
      show wpAnyH _ _ _ _ _ _ _ (Act.put _ (some 29) _) _
      simp only [Act.put, L1, L2, L3]
      refine wpAnyH_at (fuel := 19) (L := #[true, true, true, true, true, true, true, true, true, true, true, true, true, true, false, true, false, false, false, false, true, false, false, false, false, false, false, false, false, false, false, false, false, false, false]) (by kernel_rfl) (by kernel_rfl) ?_
      exact tail1 X7 g11 a13 c13 A14 c14 g16 A18 c18 EX7 PX7 UX7
     ·refine step_call rfl 9 #[.tmp 16, .tmp 17] #[35, 27] rfl #[.slice (some ⟨g16, 0, none⟩) 1 1, .agg #[.int .u32 ch, .int .u64 rd, .int .u64 m0, .int .u64 m1, .int .u64 t0, .int .u64 t1, .slice As n cp]] (by simp [Act.eval]) (by go_simp) (rstate_any (some ⟨g16, 0, none⟩) 1 1 [5] ch rd m0 m1 t0 t1 As n cp cs X5 (Lib.hid (HC.out.below (HBV.out.trans (EX5.out.mono HBV.out.size)))) HLC hn HCW HWD (src_blk KX5.out) (Lib.hid rfl) (by omega)) ?_
      rintro e X6 ⟨v18, rfl, hO, hB⟩
      replace hO := own_base (c := V2.heap.size) hO EX5.out.size
      obtain ⟨A18, c18, hv, _⟩ := Oct.Own.src hO
      rw [HN1.out] at hv
      subst hv
      have EX6 := Lib.hid (EX5.out.trans (hB.mono EX5.out.size))
      have PX6 := Lib.hid (PX5.out.below hB PX5.out.lt)
      have UX6 := Lib.hid (UX5.out.below hB UX5.out.lt)
      have NX6 : Hid (Oct.Own X6 V2.heap.size (.slice A14 n1 c14) ([5] ++ stD ch rd m0 m1 t0 t1 cs)) := Lib.hid (Oct.Own.below NX5.out hB)
      have MX6 : Hid (Oct.Own X6 V2.heap.size (.slice A18 n1 c18) ([5] ++ stD ch rd m0 m1 t0 t1 cs)) := Lib.hid (hO)
      clear EX5 PX5 UX5 NX5 hB hO
      refine ⟨_, rfl, hK.out _ _ (⟨PX6.out, UX6.out⟩) (fun hHeld => ?_)⟩
      clear hK K
      show wpAnyH _ _ _ _ _ _ _ (Act.put _ (some 18) _) _
      simp only [Act.put, L1, L2, L3]
      refine wpAnyH_ready (rs := [6, 10]) (by kernel_rfl) (by simp) ?_
      refine AllReadyH.cons rfl (fun K hK => ?_) (AllReadyH.cons rfl (fun K hK => ?_) AllReadyH.nil)
      ·refine step_val rfl (.string (Oct.txt ([5] ++ stD ch rd m0 m1 t0 t1 cs))) X6 (run_conv_op rfl rfl (Oct.to_string X6 A14 c14 n1 ([5] ++ stD ch rd m0 m1 t0 t1 cs) HN1.out.symm (own_srcI NX6.out))) ?_
       refine hK.out _ _ (⟨PX6.out, UX6.out⟩) (fun hHeld => ?_)
       clear hK K
       show wpAnyH _ _ _ _ _ _ _ (Act.put _ (some 15) _) _
       simp only [Act.put, L1, L2, L3]
       refine wpAnyH_ready (rs := [10]) (by kernel_rfl) (by simp) ?_
       refine AllReadyH.cons rfl (fun K hK => ?_) AllReadyH.nil
       refine step_val rfl (.string (Oct.txt ([5] ++ stD ch rd m0 m1 t0 t1 cs))) X6 (run_conv_op rfl rfl (to_string35 X6 A18 c18 n1 ([5] ++ stD ch rd m0 m1 t0 t1 cs) HN1.out.symm (own_srcI MX6.out))) ?_
       refine hK.out _ _ (⟨PX6.out, UX6.out⟩) (fun hHeld => ?_)
       clear hK K
       show wpAnyH _ _ _ _ _ _ _ (Act.put _ (some 19) _) _
       simp only [Act.put, L1, L2, L3]
       refine wpAnyH_take (i := 11) (v := .bool true) rfl (by kernel_rfl) (by kernel_rfl) (by kernel_rfl) (fun _ _ _ h => h) (Or.inl ⟨by rfl, fun w' h => run_eq_str rfl rfl rfl w'⟩) hHeld ?_
       show wpAnyH _ _ _ _ _ _ _ (Act.put _ (some 20) _) _
       simp only [Act.put, L1, L2, L3]
       refine wpAnyH_take (i := 12) (v := .bool true) rfl (by kernel_rfl) (by kernel_rfl) (by kernel_rfl) (fun _ _ _ h => h) (Or.inl ⟨by rfl, by intro w hSw; first | rfl | go_simp⟩) hHeld ?_
       show wpAnyH _ _ _ _ _ _ _ (Act.put _ (some 21) _) _
       simp only [Act.put, L1, L2, L3]
       refine wpAnyH_take (i := 13) (v := .bool true) rfl (by kernel_rfl) (by kernel_rfl) (by kernel_rfl) (fun _ _ _ h => h) (Or.inl ⟨by rfl, fun w _ => by rfl⟩) hHeld ?_
       show wpAnyH _ _ _ _ _ _ _ (Act.put _ (some 22) _) _
       simp only [Act.put, L1, L2, L3]
       refine wpAnyH_take (i := 15) (v := .agg (opC kd amt c id).toArray) rfl (by kernel_rfl) (by kernel_rfl) (by kernel_rfl) (fun _ _ _ h => h) (yieldsIf_load_mid (by rfl) 32 (.tmp 3) rfl go 0 rfl (opC kd amt c id) _ (fun w' h => Blk.all h.2) Tryd.underlying32 rfl HI32.out) hHeld ?_
       show wpAnyH _ _ _ _ _ _ _ (Act.put _ (some 24) _) _
       simp only [Act.put, L1, L2, L3]
       refine wpAnyH_take (i := 20) (v := .agg (opC kd amt c id).toArray) rfl (by kernel_rfl) (by kernel_rfl) (by kernel_rfl) (fun _ _ _ h => h) (yieldsIf_load_mid (by rfl) 32 (.tmp 3) rfl go 0 rfl (opC kd amt c id) _ (fun w' h => Blk.all h.2) Tryd.underlying32 rfl HI32.out) hHeld ?_
       show wpAnyH _ _ _ _ _ _ _ (Act.put _ (some 29) _) _
       simp only [Act.put, L1, L2, L3]
       refine wpAnyH_at (fuel := 19) (L := #[true, true, true, true, true, true, true, true, true, true, true, true, true, true, false, true, false, false, false, false, true, false, false, false, false, false, false, false, false, false, false, false, false, false, false]) (by kernel_rfl) (by kernel_rfl) ?_
       exact tail1 X6 g11 a13 c13 A14 c14 g16 A18 c18 EX6 PX6 UX6
      ·refine step_val rfl (.string (Oct.txt ([5] ++ stD ch rd m0 m1 t0 t1 cs))) X6 (run_conv_op rfl rfl (to_string35 X6 A18 c18 n1 ([5] ++ stD ch rd m0 m1 t0 t1 cs) HN1.out.symm (own_srcI MX6.out))) ?_
       refine hK.out _ _ (⟨PX6.out, UX6.out⟩) (fun hHeld => ?_)
       clear hK K
       show wpAnyH _ _ _ _ _ _ _ (Act.put _ (some 19) _) _
       simp only [Act.put, L1, L2, L3]
       refine wpAnyH_ready (rs := [6]) (by kernel_rfl) (by simp) ?_
       refine AllReadyH.cons rfl (fun K hK => ?_) AllReadyH.nil
       refine step_val rfl (.string (Oct.txt ([5] ++ stD ch rd m0 m1 t0 t1 cs))) X6 (run_conv_op rfl rfl (Oct.to_string X6 A14 c14 n1 ([5] ++ stD ch rd m0 m1 t0 t1 cs) HN1.out.symm (own_srcI NX6.out))) ?_
       refine hK.out _ _ (⟨PX6.out, UX6.out⟩) (fun hHeld => ?_)
       clear hK K
       show wpAnyH _ _ _ _ _ _ _ (Act.put _ (some 15) _) _
       simp only [Act.put, L1, L2, L3]
       refine wpAnyH_take (i := 11) (v := .bool true) rfl (by kernel_rfl) (by kernel_rfl) (by kernel_rfl) (fun _ _ _ h => h) (Or.inl ⟨by rfl, fun w' h => run_eq_str rfl rfl rfl w'⟩) hHeld ?_
       show wpAnyH _ _ _ _ _ _ _ (Act.put _ (some 20) _) _
       simp only [Act.put, L1, L2, L3]
       refine wpAnyH_take (i := 12) (v := .bool true) rfl (by kernel_rfl) (by kernel_rfl) (by kernel_rfl) (fun _ _ _ h => h) (Or.inl ⟨by rfl, by intro w hSw; first | rfl | go_simp⟩) hHeld ?_
       show wpAnyH _ _ _ _ _ _ _ (Act.put _ (some 21) _) _
       simp only [Act.put, L1, L2, L3]
       refine wpAnyH_take (i := 13) (v := .bool true) rfl (by kernel_rfl) (by kernel_rfl) (by kernel_rfl) (fun _ _ _ h => h) (Or.inl ⟨by rfl, fun w _ => by rfl⟩) hHeld ?_
       show wpAnyH _ _ _ _ _ _ _ (Act.put _ (some 22) _) _
       simp only [Act.put, L1, L2, L3]
       refine wpAnyH_take (i := 15) (v := .agg (opC kd amt c id).toArray) rfl (by kernel_rfl) (by kernel_rfl) (by kernel_rfl) (fun _ _ _ h => h) (yieldsIf_load_mid (by rfl) 32 (.tmp 3) rfl go 0 rfl (opC kd amt c id) _ (fun w' h => Blk.all h.2) Tryd.underlying32 rfl HI32.out) hHeld ?_
       show wpAnyH _ _ _ _ _ _ _ (Act.put _ (some 24) _) _
       simp only [Act.put, L1, L2, L3]
       refine wpAnyH_take (i := 20) (v := .agg (opC kd amt c id).toArray) rfl (by kernel_rfl) (by kernel_rfl) (by kernel_rfl) (fun _ _ _ h => h) (yieldsIf_load_mid (by rfl) 32 (.tmp 3) rfl go 0 rfl (opC kd amt c id) _ (fun w' h => Blk.all h.2) Tryd.underlying32 rfl HI32.out) hHeld ?_
       show wpAnyH _ _ _ _ _ _ _ (Act.put _ (some 29) _) _
       simp only [Act.put, L1, L2, L3]
       refine wpAnyH_at (fuel := 19) (L := #[true, true, true, true, true, true, true, true, true, true, true, true, true, true, false, true, false, false, false, false, true, false, false, false, false, false, false, false, false, false, false, false, false, false, false]) (by kernel_rfl) (by kernel_rfl) ?_
       exact tail1 X6 g11 a13 c13 A14 c14 g16 A18 c18 EX6 PX6 UX6
   ·refine step_call rfl 8 #[.tmp 12] #[27] rfl #[.agg #[.int .u32 ch, .int .u64 rd, .int .u64 m0, .int .u64 m1, .int .u64 t0, .int .u64 t1, .slice As n cp]] (by simp [Act.eval]) (by go_simp) (to_any ch rd m0 m1 t0 t1 As n cp cs X1 (Lib.hid (HC.out.below (HBV.out.trans (EX1.out.mono HBV.out.size)))).out HLC.out hn) ?_
    rintro e X2 ⟨a13, c13, rfl, hO, hB⟩
    have EX2 := Lib.hid (EX1.out.trans (hB.mono EX1.out.size))
    have PX2 := Lib.hid (PX1.out.below hB PX1.out.lt)
    have UX2 := Lib.hid (UX1.out.below hB UX1.out.lt)
    have CX2 : Hid (CRow X2 a13 cs) := Lib.hid (CRow.of_own (by rw [HLC.out]; exact hO) HC.out.ok)
    clear EX1 PX1 UX1 hB hO
    refine ⟨_, rfl, hK.out _ _ (⟨PX2.out, UX2.out⟩) (fun hHeld => ?_)⟩
    clear hK K
    show wpAnyH _ _ _ _ _ _ _ (Act.put _ (some 13) _) _
    simp only [Act.put, L1, L2, L3]
    refine wpAnyH_ready (rs := [2, 7]) (by kernel_rfl) (by simp) ?_
    refine AllReadyH.cons rfl (fun K hK => ?_) (AllReadyH.cons rfl (fun K hK => ?_) AllReadyH.nil)
    ·refine step_lay rfl 36 1 #[(0, .const (.int .u8 5))] rfl #[(0, .int .u8 5)] (by simp [Act.eval]) (.slice (some ⟨X2.heap.size, 0, none⟩) 1 1) (X2.alloc (.cells #[.int .u8 5] 5)) (by kernel_rfl) ?_
     have hB : Below X2.heap.size X2 (X2.alloc (.cells #[.int .u8 5] 5)) := (Below.refl _ _).alloc (Nat.le_refl _) _
     have hO : Oct.Own (X2.alloc (.cells #[.int .u8 5] 5)) V2.heap.size (.slice (some ⟨X2.heap.size, 0, none⟩) 1 1) [5] := own_base (own_five X2) EX2.out.size
     generalize X2.alloc (.cells #[.int .u8 5] 5) = X3 at hB hO ⊢
     obtain ⟨g11, hg⟩ : ∃ x, X2.heap.size = x := ⟨_, rfl⟩
     rw [hg] at hO ⊢
     have EX3 := Lib.hid (EX2.out.trans (hB.mono EX2.out.size))
     have PX3 := Lib.hid (PX2.out.below hB PX2.out.lt)
     have UX3 := Lib.hid (UX2.out.below hB UX2.out.lt)
     have CX3 : Hid (CRow X3 a13 cs) := Lib.hid (CRow.below CX2.out hB)
     have OX3 : Hid (Oct.Own X3 V2.heap.size (.slice (some ⟨g11, 0, none⟩) 1 1) [5]) := Lib.hid (hO)
     clear EX2 PX2 UX2 CX2 hB hg hO
     refine hK.out _ _ (⟨PX3.out, UX3.out⟩) (fun hHeld => ?_)
     clear hK K
     show wpAnyH _ _ _ _ _ _ _ (Act.put _ (some 11) _) _
     simp only [Act.put, L1, L2, L3]
     refine wpAnyH_ready (rs := [5, 7]) (by kernel_rfl) (by simp) ?_
     refine AllReadyH.cons rfl (fun K hK => ?_) (AllReadyH.cons rfl (fun K hK => ?_) AllReadyH.nil)
     ·refine step_call rfl 7 #[.tmp 11, .tmp 13] #[36, 40] rfl #[.slice (some ⟨g11, 0, none⟩) 1 1, .agg #[.int .u32 ch, .int .u64 rd, .int .u64 m0, .int .u64 m1, .int .u64 t0, .int .u64 t1, .slice a13 n c13]] (by simp [Act.eval]) (by go_simp) (deedlay_any ch rd m0 m1 t0 t1 a13 n c13 cs (.slice (some ⟨g11, 0, none⟩) 1 1) V2.heap.size [5] X3 CX3 HLC hn HCW HWD OX3 (Lib.hid EX3.out.size) (Lib.hid (by simp))) ?_
      rintro e X4 ⟨v14, rfl, hO, hG, hL⟩
      rw [stL_eq ch rd m0 m1 t0 t1 cs HWD.out HCW.out] at hO
      obtain ⟨A14, c14, hv, _⟩ := Oct.Own.src hO
      rw [HN1.out] at hv
      subst hv
      have EX4 := Lib.hid (EX3.out.trans (Oct.grown_below hG EX3.out.size (fun g hg => (World.ownsRow.lt OX3.out g hg).1)))
      have PX4 := Lib.hid (PX3.out.grown hG (fun e => by have := (World.ownsRow.lt OX3.out gp e.symm).1; have := HLP.out; omega))
      have UX4 := Lib.hid (UX3.out.grown hG (fun e => by have := (World.ownsRow.lt OX3.out go e.symm).1; have := HLU.out; omega))
      have NX4 : Hid (Oct.Own X4 V2.heap.size (.slice A14 n1 c14) ([5] ++ stD ch rd m0 m1 t0 t1 cs)) := Lib.hid (hO)
      clear EX3 PX3 UX3 hO hG hL OX3 CX3
      refine ⟨_, rfl, hK.out _ _ (⟨PX4.out, UX4.out⟩) (fun hHeld => ?_)⟩
      clear hK K
      show wpAnyH _ _ _ _ _ _ _ (Act.put _ (some 14) _) _
      simp only [Act.put, L1, L2, L3]
      refine wpAnyH_ready (rs := [6, 7]) (by kernel_rfl) (by simp) ?_
      refine AllReadyH.cons rfl (fun K hK => ?_) (AllReadyH.cons rfl (fun K hK => ?_) AllReadyH.nil)
      ·refine step_val rfl (.string (Oct.txt ([5] ++ stD ch rd m0 m1 t0 t1 cs))) X4 (run_conv_op rfl rfl (Oct.to_string X4 A14 c14 n1 ([5] ++ stD ch rd m0 m1 t0 t1 cs) HN1.out.symm (own_srcI NX4.out))) ?_
       refine hK.out _ _ (⟨PX4.out, UX4.out⟩) (fun hHeld => ?_)
       clear hK K
       show wpAnyH _ _ _ _ _ _ _ (Act.put _ (some 15) _) _
       simp only [Act.put, L1, L2, L3]
       refine wpAnyH_ready (rs := [7]) (by kernel_rfl) (by simp) ?_
       refine AllReadyH.cons rfl (fun K hK => ?_) AllReadyH.nil
       refine step_lay rfl 35 1 #[(0, .const (.int .u8 5))] rfl #[(0, .int .u8 5)] (by simp [Act.eval]) (.slice (some ⟨X4.heap.size, 0, none⟩) 1 1) (X4.alloc (.cells #[.int .u8 5] 5)) (by kernel_rfl) ?_
       have hB : Below X4.heap.size X4 (X4.alloc (.cells #[.int .u8 5] 5)) := (Below.refl _ _).alloc (Nat.le_refl _) _
       have hK := Blk.new X4 5 [.int .u8 5]
       generalize X4.alloc (.cells #[.int .u8 5] 5) = X6 at hB hK ⊢
       obtain ⟨g16, hg⟩ : ∃ x, X4.heap.size = x := ⟨_, rfl⟩
       rw [hg] at hK ⊢
       have EX6 := Lib.hid (EX4.out.trans (hB.mono EX4.out.size))
       have PX6 := Lib.hid (PX4.out.below hB PX4.out.lt)
       have UX6 := Lib.hid (UX4.out.below hB UX4.out.lt)
       have KX6 : Hid (Blk X6 g16 5 [.int .u8 5]) := Lib.hid (hK)
       clear EX4 PX4 UX4 hB hg hK
       refine hK.out _ _ (⟨PX6.out, UX6.out⟩) (fun hHeld => ?_)
       clear hK K
       show wpAnyH _ _ _ _ _ _ _ (Act.put _ (some 16) _) _
       simp only [Act.put, L1, L2, L3]
       refine wpAnyH_ready (rs := [9]) (by kernel_rfl) (by simp) ?_
       refine AllReadyH.cons rfl (fun K hK => ?_) AllReadyH.nil
       refine step_call rfl 9 #[.tmp 16, .tmp 17] #[35, 27] rfl #[.slice (some ⟨g16, 0, none⟩) 1 1, .agg #[.int .u32 ch, .int .u64 rd, .int .u64 m0, .int .u64 m1, .int .u64 t0, .int .u64 t1, .slice As n cp]] (by simp [Act.eval]) (by go_simp) (rstate_any (some ⟨g16, 0, none⟩) 1 1 [5] ch rd m0 m1 t0 t1 As n cp cs X6 (Lib.hid (HC.out.below (HBV.out.trans (EX6.out.mono HBV.out.size)))) HLC hn HCW HWD (src_blk KX6.out) (Lib.hid rfl) (by omega)) ?_
       rintro e X7 ⟨v18, rfl, hO, hB⟩
       replace hO := own_base (c := V2.heap.size) hO EX6.out.size
       obtain ⟨A18, c18, hv, _⟩ := Oct.Own.src hO
       rw [HN1.out] at hv
       subst hv
       have EX7 := Lib.hid (EX6.out.trans (hB.mono EX6.out.size))
       have PX7 := Lib.hid (PX6.out.below hB PX6.out.lt)
       have UX7 := Lib.hid (UX6.out.below hB UX6.out.lt)
       have MX7 : Hid (Oct.Own X7 V2.heap.size (.slice A18 n1 c18) ([5] ++ stD ch rd m0 m1 t0 t1 cs)) := Lib.hid (hO)
       clear EX6 PX6 UX6 hB hO
       refine ⟨_, rfl, hK.out _ _ (⟨PX7.out, UX7.out⟩) (fun hHeld => ?_)⟩
       clear hK K
       show wpAnyH _ _ _ _ _ _ _ (Act.put _ (some 18) _) _
       simp only [Act.put, L1, L2, L3]
       refine wpAnyH_ready (rs := [10]) (by kernel_rfl) (by simp) ?_
       refine AllReadyH.cons rfl (fun K hK => ?_) AllReadyH.nil
       refine step_val rfl (.string (Oct.txt ([5] ++ stD ch rd m0 m1 t0 t1 cs))) X7 (run_conv_op rfl rfl (to_string35 X7 A18 c18 n1 ([5] ++ stD ch rd m0 m1 t0 t1 cs) HN1.out.symm (own_srcI MX7.out))) ?_
       refine hK.out _ _ (⟨PX7.out, UX7.out⟩) (fun hHeld => ?_)
       clear hK K
       show wpAnyH _ _ _ _ _ _ _ (Act.put _ (some 19) _) _
       simp only [Act.put, L1, L2, L3]
       refine wpAnyH_take (i := 11) (v := .bool true) rfl (by kernel_rfl) (by kernel_rfl) (by kernel_rfl) (fun _ _ _ h => h) (Or.inl ⟨by rfl, fun w' h => run_eq_str rfl rfl rfl w'⟩) hHeld ?_
       show wpAnyH _ _ _ _ _ _ _ (Act.put _ (some 20) _) _
       simp only [Act.put, L1, L2, L3]
       refine wpAnyH_take (i := 12) (v := .bool true) rfl (by kernel_rfl) (by kernel_rfl) (by kernel_rfl) (fun _ _ _ h => h) (Or.inl ⟨by rfl, by intro w hSw; first | rfl | go_simp⟩) hHeld ?_
       show wpAnyH _ _ _ _ _ _ _ (Act.put _ (some 21) _) _
       simp only [Act.put, L1, L2, L3]
       refine wpAnyH_take (i := 13) (v := .bool true) rfl (by kernel_rfl) (by kernel_rfl) (by kernel_rfl) (fun _ _ _ h => h) (Or.inl ⟨by rfl, fun w _ => by rfl⟩) hHeld ?_
       show wpAnyH _ _ _ _ _ _ _ (Act.put _ (some 22) _) _
       simp only [Act.put, L1, L2, L3]
       refine wpAnyH_take (i := 15) (v := .agg (opC kd amt c id).toArray) rfl (by kernel_rfl) (by kernel_rfl) (by kernel_rfl) (fun _ _ _ h => h) (yieldsIf_load_mid (by rfl) 32 (.tmp 3) rfl go 0 rfl (opC kd amt c id) _ (fun w' h => Blk.all h.2) Tryd.underlying32 rfl HI32.out) hHeld ?_
       show wpAnyH _ _ _ _ _ _ _ (Act.put _ (some 24) _) _
       simp only [Act.put, L1, L2, L3]
       refine wpAnyH_take (i := 20) (v := .agg (opC kd amt c id).toArray) rfl (by kernel_rfl) (by kernel_rfl) (by kernel_rfl) (fun _ _ _ h => h) (yieldsIf_load_mid (by rfl) 32 (.tmp 3) rfl go 0 rfl (opC kd amt c id) _ (fun w' h => Blk.all h.2) Tryd.underlying32 rfl HI32.out) hHeld ?_
       show wpAnyH _ _ _ _ _ _ _ (Act.put _ (some 29) _) _
       simp only [Act.put, L1, L2, L3]
       refine wpAnyH_at (fuel := 19) (L := #[true, true, true, true, true, true, true, true, true, true, true, true, true, true, false, true, false, false, false, false, true, false, false, false, false, false, false, false, false, false, false, false, false, false, false]) (by kernel_rfl) (by kernel_rfl) ?_
       exact tail1 X7 g11 a13 c13 A14 c14 g16 A18 c18 EX7 PX7 UX7
      ·refine step_lay rfl 35 1 #[(0, .const (.int .u8 5))] rfl #[(0, .int .u8 5)] (by simp [Act.eval]) (.slice (some ⟨X4.heap.size, 0, none⟩) 1 1) (X4.alloc (.cells #[.int .u8 5] 5)) (by kernel_rfl) ?_
       have hB : Below X4.heap.size X4 (X4.alloc (.cells #[.int .u8 5] 5)) := (Below.refl _ _).alloc (Nat.le_refl _) _
       have hK := Blk.new X4 5 [.int .u8 5]
       generalize X4.alloc (.cells #[.int .u8 5] 5) = X5 at hB hK ⊢
       obtain ⟨g16, hg⟩ : ∃ x, X4.heap.size = x := ⟨_, rfl⟩
       rw [hg] at hK ⊢
       have EX5 := Lib.hid (EX4.out.trans (hB.mono EX4.out.size))
       have PX5 := Lib.hid (PX4.out.below hB PX4.out.lt)
       have UX5 := Lib.hid (UX4.out.below hB UX4.out.lt)
       have NX5 : Hid (Oct.Own X5 V2.heap.size (.slice A14 n1 c14) ([5] ++ stD ch rd m0 m1 t0 t1 cs)) := Lib.hid (Oct.Own.below NX4.out hB)
       have KX5 : Hid (Blk X5 g16 5 [.int .u8 5]) := Lib.hid (hK)
       clear EX4 PX4 UX4 NX4 hB hg hK
       refine hK.out _ _ (⟨PX5.out, UX5.out⟩) (fun hHeld => ?_)
       clear hK K
       show wpAnyH _ _ _ _ _ _ _ (Act.put _ (some 16) _) _
       simp only [Act.put, L1, L2, L3]
       refine wpAnyH_ready (rs := [6, 9]) (by kernel_rfl) (by simp) ?_
       refine AllReadyH.cons rfl (fun K hK => ?_) (AllReadyH.cons rfl (fun K hK => ?_) AllReadyH.nil)
       ·refine step_val rfl (.string (Oct.txt ([5] ++ stD ch rd m0 m1 t0 t1 cs))) X5 (run_conv_op rfl rfl (Oct.to_string X5 A14 c14 n1 ([5] ++ stD ch rd m0 m1 t0 t1 cs) HN1.out.symm (own_srcI NX5.out))) ?_
        refine hK.out _ _ (⟨PX5.out, UX5.out⟩) (fun hHeld => ?_)
        clear hK K
        show wpAnyH _ _ _ _ _ _ _ (Act.put _ (some 15) _) _
        simp only [Act.put, L1, L2, L3]
        refine wpAnyH_ready (rs := [9]) (by kernel_rfl) (by simp) ?_
        refine AllReadyH.cons rfl (fun K hK => ?_) AllReadyH.nil
        refine step_call rfl 9 #[.tmp 16, .tmp 17] #[35, 27] rfl #[.slice (some ⟨g16, 0, none⟩) 1 1, .agg #[.int .u32 ch, .int .u64 rd, .int .u64 m0, .int .u64 m1, .int .u64 t0, .int .u64 t1, .slice As n cp]] (by simp [Act.eval]) (by go_simp) (rstate_any (some ⟨g16, 0, none⟩) 1 1 [5] ch rd m0 m1 t0 t1 As n cp cs X5 (Lib.hid (HC.out.below (HBV.out.trans (EX5.out.mono HBV.out.size)))) HLC hn HCW HWD (src_blk KX5.out) (Lib.hid rfl) (by omega)) ?_
        rintro e X7 ⟨v18, rfl, hO, hB⟩
        replace hO := own_base (c := V2.heap.size) hO EX5.out.size
        obtain ⟨A18, c18, hv, _⟩ := Oct.Own.src hO
        rw [HN1.out] at hv
        subst hv
        have EX7 := Lib.hid (EX5.out.trans (hB.mono EX5.out.size))
        have PX7 := Lib.hid (PX5.out.below hB PX5.out.lt)
        have UX7 := Lib.hid (UX5.out.below hB UX5.out.lt)
        have MX7 : Hid (Oct.Own X7 V2.heap.size (.slice A18 n1 c18) ([5] ++ stD ch rd m0 m1 t0 t1 cs)) := Lib.hid (hO)
        clear EX5 PX5 UX5 hB hO
        refine ⟨_, rfl, hK.out _ _ (⟨PX7.out, UX7.out⟩) (fun hHeld => ?_)⟩
        clear hK K
        show wpAnyH _ _ _ _ _ _ _ (Act.put _ (some 18) _) _
        simp only [Act.put, L1, L2, L3]
        refine wpAnyH_ready (rs := [10]) (by kernel_rfl) (by simp) ?_
        refine AllReadyH.cons rfl (fun K hK => ?_) AllReadyH.nil
        refine step_val rfl (.string (Oct.txt ([5] ++ stD ch rd m0 m1 t0 t1 cs))) X7 (run_conv_op rfl rfl (to_string35 X7 A18 c18 n1 ([5] ++ stD ch rd m0 m1 t0 t1 cs) HN1.out.symm (own_srcI MX7.out))) ?_
        refine hK.out _ _ (⟨PX7.out, UX7.out⟩) (fun hHeld => ?_)
        clear hK K
        show wpAnyH _ _ _ _ _ _ _ (Act.put _ (some 19) _) _
        simp only [Act.put, L1, L2, L3]
        refine wpAnyH_take (i := 11) (v := .bool true) rfl (by kernel_rfl) (by kernel_rfl) (by kernel_rfl) (fun _ _ _ h => h) (Or.inl ⟨by rfl, fun w' h => run_eq_str rfl rfl rfl w'⟩) hHeld ?_
        show wpAnyH _ _ _ _ _ _ _ (Act.put _ (some 20) _) _
        simp only [Act.put, L1, L2, L3]
        refine wpAnyH_take (i := 12) (v := .bool true) rfl (by kernel_rfl) (by kernel_rfl) (by kernel_rfl) (fun _ _ _ h => h) (Or.inl ⟨by rfl, by intro w hSw; first | rfl | go_simp⟩) hHeld ?_
        show wpAnyH _ _ _ _ _ _ _ (Act.put _ (some 21) _) _
        simp only [Act.put, L1, L2, L3]
        refine wpAnyH_take (i := 13) (v := .bool true) rfl (by kernel_rfl) (by kernel_rfl) (by kernel_rfl) (fun _ _ _ h => h) (Or.inl ⟨by rfl, fun w _ => by rfl⟩) hHeld ?_
        show wpAnyH _ _ _ _ _ _ _ (Act.put _ (some 22) _) _
        simp only [Act.put, L1, L2, L3]
        refine wpAnyH_take (i := 15) (v := .agg (opC kd amt c id).toArray) rfl (by kernel_rfl) (by kernel_rfl) (by kernel_rfl) (fun _ _ _ h => h) (yieldsIf_load_mid (by rfl) 32 (.tmp 3) rfl go 0 rfl (opC kd amt c id) _ (fun w' h => Blk.all h.2) Tryd.underlying32 rfl HI32.out) hHeld ?_
        show wpAnyH _ _ _ _ _ _ _ (Act.put _ (some 24) _) _
        simp only [Act.put, L1, L2, L3]
        refine wpAnyH_take (i := 20) (v := .agg (opC kd amt c id).toArray) rfl (by kernel_rfl) (by kernel_rfl) (by kernel_rfl) (fun _ _ _ h => h) (yieldsIf_load_mid (by rfl) 32 (.tmp 3) rfl go 0 rfl (opC kd amt c id) _ (fun w' h => Blk.all h.2) Tryd.underlying32 rfl HI32.out) hHeld ?_
        show wpAnyH _ _ _ _ _ _ _ (Act.put _ (some 29) _) _
        simp only [Act.put, L1, L2, L3]
        refine wpAnyH_at (fuel := 19) (L := #[true, true, true, true, true, true, true, true, true, true, true, true, true, true, false, true, false, false, false, false, true, false, false, false, false, false, false, false, false, false, false, false, false, false, false]) (by kernel_rfl) (by kernel_rfl) ?_
        exact tail1 X7 g11 a13 c13 A14 c14 g16 A18 c18 EX7 PX7 UX7
       ·refine step_call rfl 9 #[.tmp 16, .tmp 17] #[35, 27] rfl #[.slice (some ⟨g16, 0, none⟩) 1 1, .agg #[.int .u32 ch, .int .u64 rd, .int .u64 m0, .int .u64 m1, .int .u64 t0, .int .u64 t1, .slice As n cp]] (by simp [Act.eval]) (by go_simp) (rstate_any (some ⟨g16, 0, none⟩) 1 1 [5] ch rd m0 m1 t0 t1 As n cp cs X5 (Lib.hid (HC.out.below (HBV.out.trans (EX5.out.mono HBV.out.size)))) HLC hn HCW HWD (src_blk KX5.out) (Lib.hid rfl) (by omega)) ?_
        rintro e X6 ⟨v18, rfl, hO, hB⟩
        replace hO := own_base (c := V2.heap.size) hO EX5.out.size
        obtain ⟨A18, c18, hv, _⟩ := Oct.Own.src hO
        rw [HN1.out] at hv
        subst hv
        have EX6 := Lib.hid (EX5.out.trans (hB.mono EX5.out.size))
        have PX6 := Lib.hid (PX5.out.below hB PX5.out.lt)
        have UX6 := Lib.hid (UX5.out.below hB UX5.out.lt)
        have NX6 : Hid (Oct.Own X6 V2.heap.size (.slice A14 n1 c14) ([5] ++ stD ch rd m0 m1 t0 t1 cs)) := Lib.hid (Oct.Own.below NX5.out hB)
        have MX6 : Hid (Oct.Own X6 V2.heap.size (.slice A18 n1 c18) ([5] ++ stD ch rd m0 m1 t0 t1 cs)) := Lib.hid (hO)
        clear EX5 PX5 UX5 NX5 hB hO
        refine ⟨_, rfl, hK.out _ _ (⟨PX6.out, UX6.out⟩) (fun hHeld => ?_)⟩
        clear hK K
        show wpAnyH _ _ _ _ _ _ _ (Act.put _ (some 18) _) _
        simp only [Act.put, L1, L2, L3]
        refine wpAnyH_ready (rs := [6, 10]) (by kernel_rfl) (by simp) ?_
        refine AllReadyH.cons rfl (fun K hK => ?_) (AllReadyH.cons rfl (fun K hK => ?_) AllReadyH.nil)
        ·refine step_val rfl (.string (Oct.txt ([5] ++ stD ch rd m0 m1 t0 t1 cs))) X6 (run_conv_op rfl rfl (Oct.to_string X6 A14 c14 n1 ([5] ++ stD ch rd m0 m1 t0 t1 cs) HN1.out.symm (own_srcI NX6.out))) ?_
         refine hK.out _ _ (⟨PX6.out, UX6.out⟩) (fun hHeld => ?_)
         clear hK K
         show wpAnyH _ _ _ _ _ _ _ (Act.put _ (some 15) _) _
         simp only [Act.put, L1, L2, L3]
         refine wpAnyH_ready (rs := [10]) (by kernel_rfl) (by simp) ?_
         refine AllReadyH.cons rfl (fun K hK => ?_) AllReadyH.nil
         refine step_val rfl (.string (Oct.txt ([5] ++ stD ch rd m0 m1 t0 t1 cs))) X6 (run_conv_op rfl rfl (to_string35 X6 A18 c18 n1 ([5] ++ stD ch rd m0 m1 t0 t1 cs) HN1.out.symm (own_srcI MX6.out))) ?_
         refine hK.out _ _ (⟨PX6.out, UX6.out⟩) (fun hHeld => ?_)
         clear hK K
         show wpAnyH _ _ _ _ _ _ _ (Act.put _ (some 19) _) _
         simp only [Act.put, L1, L2, L3]
         refine wpAnyH_take (i := 11) (v := .bool true) rfl (by kernel_rfl) (by kernel_rfl) (by kernel_rfl) (fun _ _ _ h => h) (Or.inl ⟨by rfl, fun w' h => run_eq_str rfl rfl rfl w'⟩) hHeld ?_
         show wpAnyH _ _ _ _ _ _ _ (Act.put _ (some 20) _) _
         simp only [Act.put, L1, L2, L3]
         refine wpAnyH_take (i := 12) (v := .bool true) rfl (by kernel_rfl) (by kernel_rfl) (by kernel_rfl) (fun _ _ _ h => h) (Or.inl ⟨by rfl, by intro w hSw; first | rfl | go_simp⟩) hHeld ?_
         show wpAnyH _ _ _ _ _ _ _ (Act.put _ (some 21) _) _
         simp only [Act.put, L1, L2, L3]
         refine wpAnyH_take (i := 13) (v := .bool true) rfl (by kernel_rfl) (by kernel_rfl) (by kernel_rfl) (fun _ _ _ h => h) (Or.inl ⟨by rfl, fun w _ => by rfl⟩) hHeld ?_
         show wpAnyH _ _ _ _ _ _ _ (Act.put _ (some 22) _) _
         simp only [Act.put, L1, L2, L3]
         refine wpAnyH_take (i := 15) (v := .agg (opC kd amt c id).toArray) rfl (by kernel_rfl) (by kernel_rfl) (by kernel_rfl) (fun _ _ _ h => h) (yieldsIf_load_mid (by rfl) 32 (.tmp 3) rfl go 0 rfl (opC kd amt c id) _ (fun w' h => Blk.all h.2) Tryd.underlying32 rfl HI32.out) hHeld ?_
         show wpAnyH _ _ _ _ _ _ _ (Act.put _ (some 24) _) _
         simp only [Act.put, L1, L2, L3]
         refine wpAnyH_take (i := 20) (v := .agg (opC kd amt c id).toArray) rfl (by kernel_rfl) (by kernel_rfl) (by kernel_rfl) (fun _ _ _ h => h) (yieldsIf_load_mid (by rfl) 32 (.tmp 3) rfl go 0 rfl (opC kd amt c id) _ (fun w' h => Blk.all h.2) Tryd.underlying32 rfl HI32.out) hHeld ?_
         show wpAnyH _ _ _ _ _ _ _ (Act.put _ (some 29) _) _
         simp only [Act.put, L1, L2, L3]
         refine wpAnyH_at (fuel := 19) (L := #[true, true, true, true, true, true, true, true, true, true, true, true, true, true, false, true, false, false, false, false, true, false, false, false, false, false, false, false, false, false, false, false, false, false, false]) (by kernel_rfl) (by kernel_rfl) ?_
         exact tail1 X6 g11 a13 c13 A14 c14 g16 A18 c18 EX6 PX6 UX6
        ·refine step_val rfl (.string (Oct.txt ([5] ++ stD ch rd m0 m1 t0 t1 cs))) X6 (run_conv_op rfl rfl (to_string35 X6 A18 c18 n1 ([5] ++ stD ch rd m0 m1 t0 t1 cs) HN1.out.symm (own_srcI MX6.out))) ?_
         refine hK.out _ _ (⟨PX6.out, UX6.out⟩) (fun hHeld => ?_)
         clear hK K
         show wpAnyH _ _ _ _ _ _ _ (Act.put _ (some 19) _) _
         simp only [Act.put, L1, L2, L3]
         refine wpAnyH_ready (rs := [6]) (by kernel_rfl) (by simp) ?_
         refine AllReadyH.cons rfl (fun K hK => ?_) AllReadyH.nil
         refine step_val rfl (.string (Oct.txt ([5] ++ stD ch rd m0 m1 t0 t1 cs))) X6 (run_conv_op rfl rfl (Oct.to_string X6 A14 c14 n1 ([5] ++ stD ch rd m0 m1 t0 t1 cs) HN1.out.symm (own_srcI NX6.out))) ?_
         refine hK.out _ _ (⟨PX6.out, UX6.out⟩) (fun hHeld => ?_)
         clear hK K
         show wpAnyH _ _ _ _ _ _ _ (Act.put _ (some 15) _) _
         simp only [Act.put, L1, L2, L3]
         refine wpAnyH_take (i := 11) (v := .bool true) rfl (by kernel_rfl) (by kernel_rfl) (by kernel_rfl) (fun _ _ _ h => h) (Or.inl ⟨by rfl, fun w' h => run_eq_str rfl rfl rfl w'⟩) hHeld ?_
         show wpAnyH _ _ _ _ _ _ _ (Act.put _ (some 20) _) _
         simp only [Act.put, L1, L2, L3]
         refine wpAnyH_take (i := 12) (v := .bool true) rfl (by kernel_rfl) (by kernel_rfl) (by kernel_rfl) (fun _ _ _ h => h) (Or.inl ⟨by rfl, by intro w hSw; first | rfl | go_simp⟩) hHeld ?_
         show wpAnyH _ _ _ _ _ _ _ (Act.put _ (some 21) _) _
         simp only [Act.put, L1, L2, L3]
         refine wpAnyH_take (i := 13) (v := .bool true) rfl (by kernel_rfl) (by kernel_rfl) (by kernel_rfl) (fun _ _ _ h => h) (Or.inl ⟨by rfl, fun w _ => by rfl⟩) hHeld ?_
         show wpAnyH _ _ _ _ _ _ _ (Act.put _ (some 22) _) _
         simp only [Act.put, L1, L2, L3]
         refine wpAnyH_take (i := 15) (v := .agg (opC kd amt c id).toArray) rfl (by kernel_rfl) (by kernel_rfl) (by kernel_rfl) (fun _ _ _ h => h) (yieldsIf_load_mid (by rfl) 32 (.tmp 3) rfl go 0 rfl (opC kd amt c id) _ (fun w' h => Blk.all h.2) Tryd.underlying32 rfl HI32.out) hHeld ?_
         show wpAnyH _ _ _ _ _ _ _ (Act.put _ (some 24) _) _
         simp only [Act.put, L1, L2, L3]
         refine wpAnyH_take (i := 20) (v := .agg (opC kd amt c id).toArray) rfl (by kernel_rfl) (by kernel_rfl) (by kernel_rfl) (fun _ _ _ h => h) (yieldsIf_load_mid (by rfl) 32 (.tmp 3) rfl go 0 rfl (opC kd amt c id) _ (fun w' h => Blk.all h.2) Tryd.underlying32 rfl HI32.out) hHeld ?_
         show wpAnyH _ _ _ _ _ _ _ (Act.put _ (some 29) _) _
         simp only [Act.put, L1, L2, L3]
         refine wpAnyH_at (fuel := 19) (L := #[true, true, true, true, true, true, true, true, true, true, true, true, true, true, false, true, false, false, false, false, true, false, false, false, false, false, false, false, false, false, false, false, false, false, false]) (by kernel_rfl) (by kernel_rfl) ?_
         exact tail1 X6 g11 a13 c13 A14 c14 g16 A18 c18 EX6 PX6 UX6
     ·refine step_lay rfl 35 1 #[(0, .const (.int .u8 5))] rfl #[(0, .int .u8 5)] (by simp [Act.eval]) (.slice (some ⟨X3.heap.size, 0, none⟩) 1 1) (X3.alloc (.cells #[.int .u8 5] 5)) (by kernel_rfl) ?_
      have hB : Below X3.heap.size X3 (X3.alloc (.cells #[.int .u8 5] 5)) := (Below.refl _ _).alloc (Nat.le_refl _) _
      have hK := Blk.new X3 5 [.int .u8 5]
      generalize X3.alloc (.cells #[.int .u8 5] 5) = X4 at hB hK ⊢
      obtain ⟨g16, hg⟩ : ∃ x, X3.heap.size = x := ⟨_, rfl⟩
      have NE : Hid (g11 ≠ g16) := Lib.hid (by have := (World.ownsRow.lt OX3.out g11 rfl).2; omega)
      rw [hg] at hK ⊢
      have EX4 := Lib.hid (EX3.out.trans (hB.mono EX3.out.size))
      have PX4 := Lib.hid (PX3.out.below hB PX3.out.lt)
      have UX4 := Lib.hid (UX3.out.below hB UX3.out.lt)
      have CX4 : Hid (CRow X4 a13 cs) := Lib.hid (CRow.below CX3.out hB)
      have OX4 : Hid (Oct.Own X4 V2.heap.size (.slice (some ⟨g11, 0, none⟩) 1 1) [5]) := Lib.hid (Oct.Own.below OX3.out hB)
      have KX4 : Hid (Blk X4 g16 5 [.int .u8 5]) := Lib.hid (hK)
      clear EX3 PX3 UX3 CX3 OX3 hB hg hK
      refine hK.out _ _ (⟨PX4.out, UX4.out⟩) (fun hHeld => ?_)
      clear hK K
      show wpAnyH _ _ _ _ _ _ _ (Act.put _ (some 16) _) _
      simp only [Act.put, L1, L2, L3]
      refine wpAnyH_ready (rs := [5]) (by kernel_rfl) (by simp) ?_
      refine AllReadyH.cons rfl (fun K hK => ?_) AllReadyH.nil
      refine step_call rfl 7 #[.tmp 11, .tmp 13] #[36, 40] rfl #[.slice (some ⟨g11, 0, none⟩) 1 1, .agg #[.int .u32 ch, .int .u64 rd, .int .u64 m0, .int .u64 m1, .int .u64 t0, .int .u64 t1, .slice a13 n c13]] (by simp [Act.eval]) (by go_simp) (deedlay_any ch rd m0 m1 t0 t1 a13 n c13 cs (.slice (some ⟨g11, 0, none⟩) 1 1) V2.heap.size [5] X4 CX4 HLC hn HCW HWD OX4 (Lib.hid EX4.out.size) (Lib.hid (by simp))) ?_
      rintro e X5 ⟨v14, rfl, hO, hG, hL⟩
      rw [stL_eq ch rd m0 m1 t0 t1 cs HWD.out HCW.out] at hO
      obtain ⟨A14, c14, hv, _⟩ := Oct.Own.src hO
      rw [HN1.out] at hv
      subst hv
      have EX5 := Lib.hid (EX4.out.trans (Oct.grown_below hG EX4.out.size (fun g hg => (World.ownsRow.lt OX4.out g hg).1)))
      have PX5 := Lib.hid (PX4.out.grown hG (fun e => by have := (World.ownsRow.lt OX4.out gp e.symm).1; have := HLP.out; omega))
      have UX5 := Lib.hid (UX4.out.grown hG (fun e => by have := (World.ownsRow.lt OX4.out go e.symm).1; have := HLU.out; omega))
      have KX5 : Hid (Blk X5 g16 5 [.int .u8 5]) := Lib.hid (KX4.out.grown hG (fun e => by have e' : some g16 = some g11 := e; injection e' with e'; exact NE.out e'.symm))
      have NX5 : Hid (Oct.Own X5 V2.heap.size (.slice A14 n1 c14) ([5] ++ stD ch rd m0 m1 t0 t1 cs)) := Lib.hid (hO)
      clear EX4 PX4 UX4 KX4 hO hG hL OX4 CX4
      refine ⟨_, rfl, hK.out _ _ (⟨PX5.out, UX5.out⟩) (fun hHeld => ?_)⟩
      clear hK K
      show wpAnyH _ _ _ _ _ _ _ (Act.put _ (some 14) _) _
      simp only [Act.put, L1, L2, L3]
      refine wpAnyH_ready (rs := [6, 9]) (by kernel_rfl) (by simp) ?_
      refine AllReadyH.cons rfl (fun K hK => ?_) (AllReadyH.cons rfl (fun K hK => ?_) AllReadyH.nil)
      ·refine step_val rfl (.string (Oct.txt ([5] ++ stD ch rd m0 m1 t0 t1 cs))) X5 (run_conv_op rfl rfl (Oct.to_string X5 A14 c14 n1 ([5] ++ stD ch rd m0 m1 t0 t1 cs) HN1.out.symm (own_srcI NX5.out))) ?_
       refine hK.out _ _ (⟨PX5.out, UX5.out⟩) (fun hHeld => ?_)
       clear hK K
       show wpAnyH _ _ _ _ _ _ _ (Act.put _ (some 15) _) _
       simp only [Act.put, L1, L2, L3]
       refine wpAnyH_ready (rs := [9]) (by kernel_rfl) (by simp) ?_
       refine AllReadyH.cons rfl (fun K hK => ?_) AllReadyH.nil
       refine step_call rfl 9 #[.tmp 16, .tmp 17] #[35, 27] rfl #[.slice (some ⟨g16, 0, none⟩) 1 1, .agg #[.int .u32 ch, .int .u64 rd, .int .u64 m0, .int .u64 m1, .int .u64 t0, .int .u64 t1, .slice As n cp]] (by simp [Act.eval]) (by go_simp) (rstate_any (some ⟨g16, 0, none⟩) 1 1 [5] ch rd m0 m1 t0 t1 As n cp cs X5 (Lib.hid (HC.out.below (HBV.out.trans (EX5.out.mono HBV.out.size)))) HLC hn HCW HWD (src_blk KX5.out) (Lib.hid rfl) (by omega)) ?_
       rintro e X7 ⟨v18, rfl, hO, hB⟩
       replace hO := own_base (c := V2.heap.size) hO EX5.out.size
       obtain ⟨A18, c18, hv, _⟩ := Oct.Own.src hO
       rw [HN1.out] at hv
       subst hv
       have EX7 := Lib.hid (EX5.out.trans (hB.mono EX5.out.size))
       have PX7 := Lib.hid (PX5.out.below hB PX5.out.lt)
       have UX7 := Lib.hid (UX5.out.below hB UX5.out.lt)
       have MX7 : Hid (Oct.Own X7 V2.heap.size (.slice A18 n1 c18) ([5] ++ stD ch rd m0 m1 t0 t1 cs)) := Lib.hid (hO)
       clear EX5 PX5 UX5 hB hO
       refine ⟨_, rfl, hK.out _ _ (⟨PX7.out, UX7.out⟩) (fun hHeld => ?_)⟩
       clear hK K
       show wpAnyH _ _ _ _ _ _ _ (Act.put _ (some 18) _) _
       simp only [Act.put, L1, L2, L3]
       refine wpAnyH_ready (rs := [10]) (by kernel_rfl) (by simp) ?_
       refine AllReadyH.cons rfl (fun K hK => ?_) AllReadyH.nil
       refine step_val rfl (.string (Oct.txt ([5] ++ stD ch rd m0 m1 t0 t1 cs))) X7 (run_conv_op rfl rfl (to_string35 X7 A18 c18 n1 ([5] ++ stD ch rd m0 m1 t0 t1 cs) HN1.out.symm (own_srcI MX7.out))) ?_
       refine hK.out _ _ (⟨PX7.out, UX7.out⟩) (fun hHeld => ?_)
       clear hK K
       show wpAnyH _ _ _ _ _ _ _ (Act.put _ (some 19) _) _
       simp only [Act.put, L1, L2, L3]
       refine wpAnyH_take (i := 11) (v := .bool true) rfl (by kernel_rfl) (by kernel_rfl) (by kernel_rfl) (fun _ _ _ h => h) (Or.inl ⟨by rfl, fun w' h => run_eq_str rfl rfl rfl w'⟩) hHeld ?_
       show wpAnyH _ _ _ _ _ _ _ (Act.put _ (some 20) _) _
       simp only [Act.put, L1, L2, L3]
       refine wpAnyH_take (i := 12) (v := .bool true) rfl (by kernel_rfl) (by kernel_rfl) (by kernel_rfl) (fun _ _ _ h => h) (Or.inl ⟨by rfl, by intro w hSw; first | rfl | go_simp⟩) hHeld ?_
       show wpAnyH _ _ _ _ _ _ _ (Act.put _ (some 21) _) _
       simp only [Act.put, L1, L2, L3]
       refine wpAnyH_take (i := 13) (v := .bool true) rfl (by kernel_rfl) (by kernel_rfl) (by kernel_rfl) (fun _ _ _ h => h) (Or.inl ⟨by rfl, fun w _ => by rfl⟩) hHeld ?_
       show wpAnyH _ _ _ _ _ _ _ (Act.put _ (some 22) _) _
       simp only [Act.put, L1, L2, L3]
       refine wpAnyH_take (i := 15) (v := .agg (opC kd amt c id).toArray) rfl (by kernel_rfl) (by kernel_rfl) (by kernel_rfl) (fun _ _ _ h => h) (yieldsIf_load_mid (by rfl) 32 (.tmp 3) rfl go 0 rfl (opC kd amt c id) _ (fun w' h => Blk.all h.2) Tryd.underlying32 rfl HI32.out) hHeld ?_
       show wpAnyH _ _ _ _ _ _ _ (Act.put _ (some 24) _) _
       simp only [Act.put, L1, L2, L3]
       refine wpAnyH_take (i := 20) (v := .agg (opC kd amt c id).toArray) rfl (by kernel_rfl) (by kernel_rfl) (by kernel_rfl) (fun _ _ _ h => h) (yieldsIf_load_mid (by rfl) 32 (.tmp 3) rfl go 0 rfl (opC kd amt c id) _ (fun w' h => Blk.all h.2) Tryd.underlying32 rfl HI32.out) hHeld ?_
       show wpAnyH _ _ _ _ _ _ _ (Act.put _ (some 29) _) _
       simp only [Act.put, L1, L2, L3]
       refine wpAnyH_at (fuel := 19) (L := #[true, true, true, true, true, true, true, true, true, true, true, true, true, true, false, true, false, false, false, false, true, false, false, false, false, false, false, false, false, false, false, false, false, false, false]) (by kernel_rfl) (by kernel_rfl) ?_
       exact tail1 X7 g11 a13 c13 A14 c14 g16 A18 c18 EX7 PX7 UX7
      ·refine step_call rfl 9 #[.tmp 16, .tmp 17] #[35, 27] rfl #[.slice (some ⟨g16, 0, none⟩) 1 1, .agg #[.int .u32 ch, .int .u64 rd, .int .u64 m0, .int .u64 m1, .int .u64 t0, .int .u64 t1, .slice As n cp]] (by simp [Act.eval]) (by go_simp) (rstate_any (some ⟨g16, 0, none⟩) 1 1 [5] ch rd m0 m1 t0 t1 As n cp cs X5 (Lib.hid (HC.out.below (HBV.out.trans (EX5.out.mono HBV.out.size)))) HLC hn HCW HWD (src_blk KX5.out) (Lib.hid rfl) (by omega)) ?_
       rintro e X6 ⟨v18, rfl, hO, hB⟩
       replace hO := own_base (c := V2.heap.size) hO EX5.out.size
       obtain ⟨A18, c18, hv, _⟩ := Oct.Own.src hO
       rw [HN1.out] at hv
       subst hv
       have EX6 := Lib.hid (EX5.out.trans (hB.mono EX5.out.size))
       have PX6 := Lib.hid (PX5.out.below hB PX5.out.lt)
       have UX6 := Lib.hid (UX5.out.below hB UX5.out.lt)
       have NX6 : Hid (Oct.Own X6 V2.heap.size (.slice A14 n1 c14) ([5] ++ stD ch rd m0 m1 t0 t1 cs)) := Lib.hid (Oct.Own.below NX5.out hB)
       have MX6 : Hid (Oct.Own X6 V2.heap.size (.slice A18 n1 c18) ([5] ++ stD ch rd m0 m1 t0 t1 cs)) := Lib.hid (hO)
       clear EX5 PX5 UX5 NX5 hB hO
       refine ⟨_, rfl, hK.out _ _ (⟨PX6.out, UX6.out⟩) (fun hHeld => ?_)⟩
       clear hK K
       show wpAnyH _ _ _ _ _ _ _ (Act.put _ (some 18) _) _
       simp only [Act.put, L1, L2, L3]
       refine wpAnyH_ready (rs := [6, 10]) (by kernel_rfl) (by simp) ?_
       refine AllReadyH.cons rfl (fun K hK => ?_) (AllReadyH.cons rfl (fun K hK => ?_) AllReadyH.nil)
       ·refine step_val rfl (.string (Oct.txt ([5] ++ stD ch rd m0 m1 t0 t1 cs))) X6 (run_conv_op rfl rfl (Oct.to_string X6 A14 c14 n1 ([5] ++ stD ch rd m0 m1 t0 t1 cs) HN1.out.symm (own_srcI NX6.out))) ?_
        refine hK.out _ _ (⟨PX6.out, UX6.out⟩) (fun hHeld => ?_)
        clear hK K
        show wpAnyH _ _ _ _ _ _ _ (Act.put _ (some 15) _) _
        simp only [Act.put, L1, L2, L3]
        refine wpAnyH_ready (rs := [10]) (by kernel_rfl) (by simp) ?_
        refine AllReadyH.cons rfl (fun K hK => ?_) AllReadyH.nil
        refine step_val rfl (.string (Oct.txt ([5] ++ stD ch rd m0 m1 t0 t1 cs))) X6 (run_conv_op rfl rfl (to_string35 X6 A18 c18 n1 ([5] ++ stD ch rd m0 m1 t0 t1 cs) HN1.out.symm (own_srcI MX6.out))) ?_
        refine hK.out _ _ (⟨PX6.out, UX6.out⟩) (fun hHeld => ?_)
        clear hK K
        show wpAnyH _ _ _ _ _ _ _ (Act.put _ (some 19) _) _
        simp only [Act.put, L1, L2, L3]
        refine wpAnyH_take (i := 11) (v := .bool true) rfl (by kernel_rfl) (by kernel_rfl) (by kernel_rfl) (fun _ _ _ h => h) (Or.inl ⟨by rfl, fun w' h => run_eq_str rfl rfl rfl w'⟩) hHeld ?_
        show wpAnyH _ _ _ _ _ _ _ (Act.put _ (some 20) _) _
        simp only [Act.put, L1, L2, L3]
        refine wpAnyH_take (i := 12) (v := .bool true) rfl (by kernel_rfl) (by kernel_rfl) (by kernel_rfl) (fun _ _ _ h => h) (Or.inl ⟨by rfl, by intro w hSw; first | rfl | go_simp⟩) hHeld ?_
        show wpAnyH _ _ _ _ _ _ _ (Act.put _ (some 21) _) _
        simp only [Act.put, L1, L2, L3]
        refine wpAnyH_take (i := 13) (v := .bool true) rfl (by kernel_rfl) (by kernel_rfl) (by kernel_rfl) (fun _ _ _ h => h) (Or.inl ⟨by rfl, fun w _ => by rfl⟩) hHeld ?_
        show wpAnyH _ _ _ _ _ _ _ (Act.put _ (some 22) _) _
        simp only [Act.put, L1, L2, L3]
        refine wpAnyH_take (i := 15) (v := .agg (opC kd amt c id).toArray) rfl (by kernel_rfl) (by kernel_rfl) (by kernel_rfl) (fun _ _ _ h => h) (yieldsIf_load_mid (by rfl) 32 (.tmp 3) rfl go 0 rfl (opC kd amt c id) _ (fun w' h => Blk.all h.2) Tryd.underlying32 rfl HI32.out) hHeld ?_
        show wpAnyH _ _ _ _ _ _ _ (Act.put _ (some 24) _) _
        simp only [Act.put, L1, L2, L3]
        refine wpAnyH_take (i := 20) (v := .agg (opC kd amt c id).toArray) rfl (by kernel_rfl) (by kernel_rfl) (by kernel_rfl) (fun _ _ _ h => h) (yieldsIf_load_mid (by rfl) 32 (.tmp 3) rfl go 0 rfl (opC kd amt c id) _ (fun w' h => Blk.all h.2) Tryd.underlying32 rfl HI32.out) hHeld ?_
        show wpAnyH _ _ _ _ _ _ _ (Act.put _ (some 29) _) _
        simp only [Act.put, L1, L2, L3]
        refine wpAnyH_at (fuel := 19) (L := #[true, true, true, true, true, true, true, true, true, true, true, true, true, true, false, true, false, false, false, false, true, false, false, false, false, false, false, false, false, false, false, false, false, false, false]) (by kernel_rfl) (by kernel_rfl) ?_
        exact tail1 X6 g11 a13 c13 A14 c14 g16 A18 c18 EX6 PX6 UX6
       ·refine step_val rfl (.string (Oct.txt ([5] ++ stD ch rd m0 m1 t0 t1 cs))) X6 (run_conv_op rfl rfl (to_string35 X6 A18 c18 n1 ([5] ++ stD ch rd m0 m1 t0 t1 cs) HN1.out.symm (own_srcI MX6.out))) ?_
        refine hK.out _ _ (⟨PX6.out, UX6.out⟩) (fun hHeld => ?_)
        clear hK K
        show wpAnyH _ _ _ _ _ _ _ (Act.put _ (some 19) _) _
        simp only [Act.put, L1, L2, L3]
        refine wpAnyH_ready (rs := [6]) (by kernel_rfl) (by simp) ?_
        refine AllReadyH.cons rfl (fun K hK => ?_) AllReadyH.nil
        refine step_val rfl (.string (Oct.txt ([5] ++ stD ch rd m0 m1 t0 t1 cs))) X6 (run_conv_op rfl rfl (Oct.to_string X6 A14 c14 n1 ([5] ++ stD ch rd m0 m1 t0 t1 cs) HN1.out.symm (own_srcI NX6.out))) ?_
        refine hK.out _ _ (⟨PX6.out, UX6.out⟩) (fun hHeld => ?_)
        clear hK K
        show wpAnyH _ _ _ _ _ _ _ (Act.put _ (some 15) _) _
        simp only [Act.put, L1, L2, L3]
        refine wpAnyH_take (i := 11) (v := .bool true) rfl (by kernel_rfl) (by kernel_rfl) (by kernel_rfl) (fun _ _ _ h => h) (Or.inl ⟨by rfl, fun w' h => run_eq_str rfl rfl rfl w'⟩) hHeld ?_
        show wpAnyH _ _ _ _ _ _ _ (Act.put _ (some 20) _) _
        simp only [Act.put, L1, L2, L3]
        refine wpAnyH_take (i := 12) (v := .bool true) rfl (by kernel_rfl) (by kernel_rfl) (by kernel_rfl) (fun _ _ _ h => h) (Or.inl ⟨by rfl, by intro w hSw; first | rfl | go_simp⟩) hHeld ?_
        show wpAnyH _ _ _ _ _ _ _ (Act.put _ (some 21) _) _
        simp only [Act.put, L1, L2, L3]
        refine wpAnyH_take (i := 13) (v := .bool true) rfl (by kernel_rfl) (by kernel_rfl) (by kernel_rfl) (fun _ _ _ h => h) (Or.inl ⟨by rfl, fun w _ => by rfl⟩) hHeld ?_
        show wpAnyH _ _ _ _ _ _ _ (Act.put _ (some 22) _) _
        simp only [Act.put, L1, L2, L3]
        refine wpAnyH_take (i := 15) (v := .agg (opC kd amt c id).toArray) rfl (by kernel_rfl) (by kernel_rfl) (by kernel_rfl) (fun _ _ _ h => h) (yieldsIf_load_mid (by rfl) 32 (.tmp 3) rfl go 0 rfl (opC kd amt c id) _ (fun w' h => Blk.all h.2) Tryd.underlying32 rfl HI32.out) hHeld ?_
        show wpAnyH _ _ _ _ _ _ _ (Act.put _ (some 24) _) _
        simp only [Act.put, L1, L2, L3]
        refine wpAnyH_take (i := 20) (v := .agg (opC kd amt c id).toArray) rfl (by kernel_rfl) (by kernel_rfl) (by kernel_rfl) (fun _ _ _ h => h) (yieldsIf_load_mid (by rfl) 32 (.tmp 3) rfl go 0 rfl (opC kd amt c id) _ (fun w' h => Blk.all h.2) Tryd.underlying32 rfl HI32.out) hHeld ?_
        show wpAnyH _ _ _ _ _ _ _ (Act.put _ (some 29) _) _
        simp only [Act.put, L1, L2, L3]
        refine wpAnyH_at (fuel := 19) (L := #[true, true, true, true, true, true, true, true, true, true, true, true, true, true, false, true, false, false, false, false, true, false, false, false, false, false, false, false, false, false, false, false, false, false, false]) (by kernel_rfl) (by kernel_rfl) ?_
        exact tail1 X6 g11 a13 c13 A14 c14 g16 A18 c18 EX6 PX6 UX6
    ·refine step_lay rfl 35 1 #[(0, .const (.int .u8 5))] rfl #[(0, .int .u8 5)] (by simp [Act.eval]) (.slice (some ⟨X2.heap.size, 0, none⟩) 1 1) (X2.alloc (.cells #[.int .u8 5] 5)) (by kernel_rfl) ?_
     have hB : Below X2.heap.size X2 (X2.alloc (.cells #[.int .u8 5] 5)) := (Below.refl _ _).alloc (Nat.le_refl _) _
     have hK := Blk.new X2 5 [.int .u8 5]
     generalize X2.alloc (.cells #[.int .u8 5] 5) = X3 at hB hK ⊢
     obtain ⟨g16, hg⟩ : ∃ x, X2.heap.size = x := ⟨_, rfl⟩
     rw [hg] at hK ⊢
     have EX3 := Lib.hid (EX2.out.trans (hB.mono EX2.out.size))
     have PX3 := Lib.hid (PX2.out.below hB PX2.out.lt)
     have UX3 := Lib.hid (UX2.out.below hB UX2.out.lt)
     have CX3 : Hid (CRow X3 a13 cs) := Lib.hid (CRow.below CX2.out hB)
     have KX3 : Hid (Blk X3 g16 5 [.int .u8 5]) := Lib.hid (hK)
     clear EX2 PX2 UX2 CX2 hB hg hK
     refine hK.out _ _ (⟨PX3.out, UX3.out⟩) (fun hHeld => ?_)
     clear hK K
     show wpAnyH _ _ _ _ _ _ _ (Act.put _ (some 16) _) _
     simp only [Act.put, L1, L2, L3]
     refine wpAnyH_ready (rs := [2]) (by kernel_rfl) (by simp) ?_
     refine AllReadyH.cons rfl (fun K hK => ?_) AllReadyH.nil
     refine step_lay rfl 36 1 #[(0, .const (.int .u8 5))] rfl #[(0, .int .u8 5)] (by simp [Act.eval]) (.slice (some ⟨X3.heap.size, 0, none⟩) 1 1) (X3.alloc (.cells #[.int .u8 5] 5)) (by kernel_rfl) ?_
     have hB : Below X3.heap.size X3 (X3.alloc (.cells #[.int .u8 5] 5)) := (Below.refl _ _).alloc (Nat.le_refl _) _
     have hO : Oct.Own (X3.alloc (.cells #[.int .u8 5] 5)) V2.heap.size (.slice (some ⟨X3.heap.size, 0, none⟩) 1 1) [5] := own_base (own_five X3) EX3.out.size
     generalize X3.alloc (.cells #[.int .u8 5] 5) = X4 at hB hO ⊢
     obtain ⟨g11, hg⟩ : ∃ x, X3.heap.size = x := ⟨_, rfl⟩
     have NE : Hid (g11 ≠ g16) := Lib.hid (by have := KX3.out.lt; omega)
     rw [hg] at hO ⊢
     have EX4 := Lib.hid (EX3.out.trans (hB.mono EX3.out.size))
     have PX4 := Lib.hid (PX3.out.below hB PX3.out.lt)
     have UX4 := Lib.hid (UX3.out.below hB UX3.out.lt)
     have CX4 : Hid (CRow X4 a13 cs) := Lib.hid (CRow.below CX3.out hB)
     have KX4 : Hid (Blk X4 g16 5 [.int .u8 5]) := Lib.hid (KX3.out.below hB KX3.out.lt)
     have OX4 : Hid (Oct.Own X4 V2.heap.size (.slice (some ⟨g11, 0, none⟩) 1 1) [5]) := Lib.hid (hO)
     clear EX3 PX3 UX3 CX3 KX3 hB hg hO
     refine hK.out _ _ (⟨PX4.out, UX4.out⟩) (fun hHeld => ?_)
     clear hK K
     show wpAnyH _ _ _ _ _ _ _ (Act.put _ (some 11) _) _
     simp only [Act.put, L1, L2, L3]
     refine wpAnyH_ready (rs := [5]) (by kernel_rfl) (by simp) ?_
     refine AllReadyH.cons rfl (fun K hK => ?_) AllReadyH.nil
     refine step_call rfl 7 #[.tmp 11, .tmp 13] #[36, 40] rfl #[.slice (some ⟨g11, 0, none⟩) 1 1, .agg #[.int .u32 ch, .int .u64 rd, .int .u64 m0, .int .u64 m1, .int .u64 t0, .int .u64 t1, .slice a13 n c13]] (by simp [Act.eval]) (by go_simp) (deedlay_any ch rd m0 m1 t0 t1 a13 n c13 cs (.slice (some ⟨g11, 0, none⟩) 1 1) V2.heap.size [5] X4 CX4 HLC hn HCW HWD OX4 (Lib.hid EX4.out.size) (Lib.hid (by simp))) ?_
     rintro e X5 ⟨v14, rfl, hO, hG, hL⟩
     rw [stL_eq ch rd m0 m1 t0 t1 cs HWD.out HCW.out] at hO
     obtain ⟨A14, c14, hv, _⟩ := Oct.Own.src hO
     rw [HN1.out] at hv
     subst hv
     have EX5 := Lib.hid (EX4.out.trans (Oct.grown_below hG EX4.out.size (fun g hg => (World.ownsRow.lt OX4.out g hg).1)))
     have PX5 := Lib.hid (PX4.out.grown hG (fun e => by have := (World.ownsRow.lt OX4.out gp e.symm).1; have := HLP.out; omega))
     have UX5 := Lib.hid (UX4.out.grown hG (fun e => by have := (World.ownsRow.lt OX4.out go e.symm).1; have := HLU.out; omega))
     have KX5 : Hid (Blk X5 g16 5 [.int .u8 5]) := Lib.hid (KX4.out.grown hG (fun e => by have e' : some g16 = some g11 := e; injection e' with e'; exact NE.out e'.symm))
     have NX5 : Hid (Oct.Own X5 V2.heap.size (.slice A14 n1 c14) ([5] ++ stD ch rd m0 m1 t0 t1 cs)) := Lib.hid (hO)
     clear EX4 PX4 UX4 KX4 hO hG hL OX4 CX4
     refine ⟨_, rfl, hK.out _ _ (⟨PX5.out, UX5.out⟩) (fun hHeld => ?_)⟩
     clear hK K
     show wpAnyH _ _ _ _ _ _ _ (Act.put _ (some 14) _) _
     simp only [Act.put, L1, L2, L3]
     refine wpAnyH_ready (rs := [6, 9]) (by kernel_rfl) (by simp) ?_
     refine AllReadyH.cons rfl (fun K hK => ?_) (AllReadyH.cons rfl (fun K hK => ?_) AllReadyH.nil)
     ·refine step_val rfl (.string (Oct.txt ([5] ++ stD ch rd m0 m1 t0 t1 cs))) X5 (run_conv_op rfl rfl (Oct.to_string X5 A14 c14 n1 ([5] ++ stD ch rd m0 m1 t0 t1 cs) HN1.out.symm (own_srcI NX5.out))) ?_
      refine hK.out _ _ (⟨PX5.out, UX5.out⟩) (fun hHeld => ?_)
      clear hK K
      show wpAnyH _ _ _ _ _ _ _ (Act.put _ (some 15) _) _
      simp only [Act.put, L1, L2, L3]
      refine wpAnyH_ready (rs := [9]) (by kernel_rfl) (by simp) ?_
      refine AllReadyH.cons rfl (fun K hK => ?_) AllReadyH.nil
      refine step_call rfl 9 #[.tmp 16, .tmp 17] #[35, 27] rfl #[.slice (some ⟨g16, 0, none⟩) 1 1, .agg #[.int .u32 ch, .int .u64 rd, .int .u64 m0, .int .u64 m1, .int .u64 t0, .int .u64 t1, .slice As n cp]] (by simp [Act.eval]) (by go_simp) (rstate_any (some ⟨g16, 0, none⟩) 1 1 [5] ch rd m0 m1 t0 t1 As n cp cs X5 (Lib.hid (HC.out.below (HBV.out.trans (EX5.out.mono HBV.out.size)))) HLC hn HCW HWD (src_blk KX5.out) (Lib.hid rfl) (by omega)) ?_
      rintro e X7 ⟨v18, rfl, hO, hB⟩
      replace hO := own_base (c := V2.heap.size) hO EX5.out.size
      obtain ⟨A18, c18, hv, _⟩ := Oct.Own.src hO
      rw [HN1.out] at hv
      subst hv
      have EX7 := Lib.hid (EX5.out.trans (hB.mono EX5.out.size))
      have PX7 := Lib.hid (PX5.out.below hB PX5.out.lt)
      have UX7 := Lib.hid (UX5.out.below hB UX5.out.lt)
      have MX7 : Hid (Oct.Own X7 V2.heap.size (.slice A18 n1 c18) ([5] ++ stD ch rd m0 m1 t0 t1 cs)) := Lib.hid (hO)
      clear EX5 PX5 UX5 hB hO
      refine ⟨_, rfl, hK.out _ _ (⟨PX7.out, UX7.out⟩) (fun hHeld => ?_)⟩
      clear hK K
      show wpAnyH _ _ _ _ _ _ _ (Act.put _ (some 18) _) _
      simp only [Act.put, L1, L2, L3]
      refine wpAnyH_ready (rs := [10]) (by kernel_rfl) (by simp) ?_
      refine AllReadyH.cons rfl (fun K hK => ?_) AllReadyH.nil
      refine step_val rfl (.string (Oct.txt ([5] ++ stD ch rd m0 m1 t0 t1 cs))) X7 (run_conv_op rfl rfl (to_string35 X7 A18 c18 n1 ([5] ++ stD ch rd m0 m1 t0 t1 cs) HN1.out.symm (own_srcI MX7.out))) ?_
      refine hK.out _ _ (⟨PX7.out, UX7.out⟩) (fun hHeld => ?_)
      clear hK K
      show wpAnyH _ _ _ _ _ _ _ (Act.put _ (some 19) _) _
      simp only [Act.put, L1, L2, L3]
      refine wpAnyH_take (i := 11) (v := .bool true) rfl (by kernel_rfl) (by kernel_rfl) (by kernel_rfl) (fun _ _ _ h => h) (Or.inl ⟨by rfl, fun w' h => run_eq_str rfl rfl rfl w'⟩) hHeld ?_
      show wpAnyH _ _ _ _ _ _ _ (Act.put _ (some 20) _) _
      simp only [Act.put, L1, L2, L3]
      refine wpAnyH_take (i := 12) (v := .bool true) rfl (by kernel_rfl) (by kernel_rfl) (by kernel_rfl) (fun _ _ _ h => h) (Or.inl ⟨by rfl, by intro w hSw; first | rfl | go_simp⟩) hHeld ?_
      show wpAnyH _ _ _ _ _ _ _ (Act.put _ (some 21) _) _
      simp only [Act.put, L1, L2, L3]
      refine wpAnyH_take (i := 13) (v := .bool true) rfl (by kernel_rfl) (by kernel_rfl) (by kernel_rfl) (fun _ _ _ h => h) (Or.inl ⟨by rfl, fun w _ => by rfl⟩) hHeld ?_
      show wpAnyH _ _ _ _ _ _ _ (Act.put _ (some 22) _) _
      simp only [Act.put, L1, L2, L3]
      refine wpAnyH_take (i := 15) (v := .agg (opC kd amt c id).toArray) rfl (by kernel_rfl) (by kernel_rfl) (by kernel_rfl) (fun _ _ _ h => h) (yieldsIf_load_mid (by rfl) 32 (.tmp 3) rfl go 0 rfl (opC kd amt c id) _ (fun w' h => Blk.all h.2) Tryd.underlying32 rfl HI32.out) hHeld ?_
      show wpAnyH _ _ _ _ _ _ _ (Act.put _ (some 24) _) _
      simp only [Act.put, L1, L2, L3]
      refine wpAnyH_take (i := 20) (v := .agg (opC kd amt c id).toArray) rfl (by kernel_rfl) (by kernel_rfl) (by kernel_rfl) (fun _ _ _ h => h) (yieldsIf_load_mid (by rfl) 32 (.tmp 3) rfl go 0 rfl (opC kd amt c id) _ (fun w' h => Blk.all h.2) Tryd.underlying32 rfl HI32.out) hHeld ?_
      show wpAnyH _ _ _ _ _ _ _ (Act.put _ (some 29) _) _
      simp only [Act.put, L1, L2, L3]
      refine wpAnyH_at (fuel := 19) (L := #[true, true, true, true, true, true, true, true, true, true, true, true, true, true, false, true, false, false, false, false, true, false, false, false, false, false, false, false, false, false, false, false, false, false, false]) (by kernel_rfl) (by kernel_rfl) ?_
      exact tail1 X7 g11 a13 c13 A14 c14 g16 A18 c18 EX7 PX7 UX7
     ·refine step_call rfl 9 #[.tmp 16, .tmp 17] #[35, 27] rfl #[.slice (some ⟨g16, 0, none⟩) 1 1, .agg #[.int .u32 ch, .int .u64 rd, .int .u64 m0, .int .u64 m1, .int .u64 t0, .int .u64 t1, .slice As n cp]] (by simp [Act.eval]) (by go_simp) (rstate_any (some ⟨g16, 0, none⟩) 1 1 [5] ch rd m0 m1 t0 t1 As n cp cs X5 (Lib.hid (HC.out.below (HBV.out.trans (EX5.out.mono HBV.out.size)))) HLC hn HCW HWD (src_blk KX5.out) (Lib.hid rfl) (by omega)) ?_
      rintro e X6 ⟨v18, rfl, hO, hB⟩
      replace hO := own_base (c := V2.heap.size) hO EX5.out.size
      obtain ⟨A18, c18, hv, _⟩ := Oct.Own.src hO
      rw [HN1.out] at hv
      subst hv
      have EX6 := Lib.hid (EX5.out.trans (hB.mono EX5.out.size))
      have PX6 := Lib.hid (PX5.out.below hB PX5.out.lt)
      have UX6 := Lib.hid (UX5.out.below hB UX5.out.lt)
      have NX6 : Hid (Oct.Own X6 V2.heap.size (.slice A14 n1 c14) ([5] ++ stD ch rd m0 m1 t0 t1 cs)) := Lib.hid (Oct.Own.below NX5.out hB)
      have MX6 : Hid (Oct.Own X6 V2.heap.size (.slice A18 n1 c18) ([5] ++ stD ch rd m0 m1 t0 t1 cs)) := Lib.hid (hO)
      clear EX5 PX5 UX5 NX5 hB hO
      refine ⟨_, rfl, hK.out _ _ (⟨PX6.out, UX6.out⟩) (fun hHeld => ?_)⟩
      clear hK K
      show wpAnyH _ _ _ _ _ _ _ (Act.put _ (some 18) _) _
      simp only [Act.put, L1, L2, L3]
      refine wpAnyH_ready (rs := [6, 10]) (by kernel_rfl) (by simp) ?_
      refine AllReadyH.cons rfl (fun K hK => ?_) (AllReadyH.cons rfl (fun K hK => ?_) AllReadyH.nil)
      ·refine step_val rfl (.string (Oct.txt ([5] ++ stD ch rd m0 m1 t0 t1 cs))) X6 (run_conv_op rfl rfl (Oct.to_string X6 A14 c14 n1 ([5] ++ stD ch rd m0 m1 t0 t1 cs) HN1.out.symm (own_srcI NX6.out))) ?_
       refine hK.out _ _ (⟨PX6.out, UX6.out⟩) (fun hHeld => ?_)
       clear hK K
       show wpAnyH _ _ _ _ _ _ _ (Act.put _ (some 15) _) _
       simp only [Act.put, L1, L2, L3]
       refine wpAnyH_ready (rs := [10]) (by kernel_rfl) (by simp) ?_
       refine AllReadyH.cons rfl (fun K hK => ?_) AllReadyH.nil
       refine step_val rfl (.string (Oct.txt ([5] ++ stD ch rd m0 m1 t0 t1 cs))) X6 (run_conv_op rfl rfl (to_string35 X6 A18 c18 n1 ([5] ++ stD ch rd m0 m1 t0 t1 cs) HN1.out.symm (own_srcI MX6.out))) ?_
       refine hK.out _ _ (⟨PX6.out, UX6.out⟩) (fun hHeld => ?_)
       clear hK K
       show wpAnyH _ _ _ _ _ _ _ (Act.put _ (some 19) _) _
       simp only [Act.put, L1, L2, L3]
       refine wpAnyH_take (i := 11) (v := .bool true) rfl (by kernel_rfl) (by kernel_rfl) (by kernel_rfl) (fun _ _ _ h => h) (Or.inl ⟨by rfl, fun w' h => run_eq_str rfl rfl rfl w'⟩) hHeld ?_
       show wpAnyH _ _ _ _ _ _ _ (Act.put _ (some 20) _) _
       simp only [Act.put, L1, L2, L3]
       refine wpAnyH_take (i := 12) (v := .bool true) rfl (by kernel_rfl) (by kernel_rfl) (by kernel_rfl) (fun _ _ _ h => h) (Or.inl ⟨by rfl, by intro w hSw; first | rfl | go_simp⟩) hHeld ?_
       show wpAnyH _ _ _ _ _ _ _ (Act.put _ (some 21) _) _
       simp only [Act.put, L1, L2, L3]
       refine wpAnyH_take (i := 13) (v := .bool true) rfl (by kernel_rfl) (by kernel_rfl) (by kernel_rfl) (fun _ _ _ h => h) (Or.inl ⟨by rfl, fun w _ => by rfl⟩) hHeld ?_
       show wpAnyH _ _ _ _ _ _ _ (Act.put _ (some 22) _) _
       simp only [Act.put, L1, L2, L3]
       refine wpAnyH_take (i := 15) (v := .agg (opC kd amt c id).toArray) rfl (by kernel_rfl) (by kernel_rfl) (by kernel_rfl) (fun _ _ _ h => h) (yieldsIf_load_mid (by rfl) 32 (.tmp 3) rfl go 0 rfl (opC kd amt c id) _ (fun w' h => Blk.all h.2) Tryd.underlying32 rfl HI32.out) hHeld ?_
       show wpAnyH _ _ _ _ _ _ _ (Act.put _ (some 24) _) _
       simp only [Act.put, L1, L2, L3]
       refine wpAnyH_take (i := 20) (v := .agg (opC kd amt c id).toArray) rfl (by kernel_rfl) (by kernel_rfl) (by kernel_rfl) (fun _ _ _ h => h) (yieldsIf_load_mid (by rfl) 32 (.tmp 3) rfl go 0 rfl (opC kd amt c id) _ (fun w' h => Blk.all h.2) Tryd.underlying32 rfl HI32.out) hHeld ?_
       show wpAnyH _ _ _ _ _ _ _ (Act.put _ (some 29) _) _
       simp only [Act.put, L1, L2, L3]
       refine wpAnyH_at (fuel := 19) (L := #[true, true, true, true, true, true, true, true, true, true, true, true, true, true, false, true, false, false, false, false, true, false, false, false, false, false, false, false, false, false, false, false, false, false, false]) (by kernel_rfl) (by kernel_rfl) ?_
       exact tail1 X6 g11 a13 c13 A14 c14 g16 A18 c18 EX6 PX6 UX6
      ·refine step_val rfl (.string (Oct.txt ([5] ++ stD ch rd m0 m1 t0 t1 cs))) X6 (run_conv_op rfl rfl (to_string35 X6 A18 c18 n1 ([5] ++ stD ch rd m0 m1 t0 t1 cs) HN1.out.symm (own_srcI MX6.out))) ?_
       refine hK.out _ _ (⟨PX6.out, UX6.out⟩) (fun hHeld => ?_)
       clear hK K
       show wpAnyH _ _ _ _ _ _ _ (Act.put _ (some 19) _) _
       simp only [Act.put, L1, L2, L3]
       refine wpAnyH_ready (rs := [6]) (by kernel_rfl) (by simp) ?_
       refine AllReadyH.cons rfl (fun K hK => ?_) AllReadyH.nil
       refine step_val rfl (.string (Oct.txt ([5] ++ stD ch rd m0 m1 t0 t1 cs))) X6 (run_conv_op rfl rfl (Oct.to_string X6 A14 c14 n1 ([5] ++ stD ch rd m0 m1 t0 t1 cs) HN1.out.symm (own_srcI NX6.out))) ?_
       refine hK.out _ _ (⟨PX6.out, UX6.out⟩) (fun hHeld => ?_)
       clear hK K
       show wpAnyH _ _ _ _ _ _ _ (Act.put _ (some 15) _) _
       simp only [Act.put, L1, L2, L3]
       refine wpAnyH_take (i := 11) (v := .bool true) rfl (by kernel_rfl) (by kernel_rfl) (by kernel_rfl) (fun _ _ _ h => h) (Or.inl ⟨by rfl, fun w' h => run_eq_str rfl rfl rfl w'⟩) hHeld ?_
       show wpAnyH _ _ _ _ _ _ _ (Act.put _ (some 20) _) _
       simp only [Act.put, L1, L2, L3]
       refine wpAnyH_take (i := 12) (v := .bool true) rfl (by kernel_rfl) (by kernel_rfl) (by kernel_rfl) (fun _ _ _ h => h) (Or.inl ⟨by rfl, by intro w hSw; first | rfl | go_simp⟩) hHeld ?_
       show wpAnyH _ _ _ _ _ _ _ (Act.put _ (some 21) _) _
       simp only [Act.put, L1, L2, L3]
       refine wpAnyH_take (i := 13) (v := .bool true) rfl (by kernel_rfl) (by kernel_rfl) (by kernel_rfl) (fun _ _ _ h => h) (Or.inl ⟨by rfl, fun w _ => by rfl⟩) hHeld ?_
       show wpAnyH _ _ _ _ _ _ _ (Act.put _ (some 22) _) _
       simp only [Act.put, L1, L2, L3]
       refine wpAnyH_take (i := 15) (v := .agg (opC kd amt c id).toArray) rfl (by kernel_rfl) (by kernel_rfl) (by kernel_rfl) (fun _ _ _ h => h) (yieldsIf_load_mid (by rfl) 32 (.tmp 3) rfl go 0 rfl (opC kd amt c id) _ (fun w' h => Blk.all h.2) Tryd.underlying32 rfl HI32.out) hHeld ?_
       show wpAnyH _ _ _ _ _ _ _ (Act.put _ (some 24) _) _
       simp only [Act.put, L1, L2, L3]
       refine wpAnyH_take (i := 20) (v := .agg (opC kd amt c id).toArray) rfl (by kernel_rfl) (by kernel_rfl) (by kernel_rfl) (fun _ _ _ h => h) (yieldsIf_load_mid (by rfl) 32 (.tmp 3) rfl go 0 rfl (opC kd amt c id) _ (fun w' h => Blk.all h.2) Tryd.underlying32 rfl HI32.out) hHeld ?_
       show wpAnyH _ _ _ _ _ _ _ (Act.put _ (some 29) _) _
       simp only [Act.put, L1, L2, L3]
       refine wpAnyH_at (fuel := 19) (L := #[true, true, true, true, true, true, true, true, true, true, true, true, true, true, false, true, false, false, false, false, true, false, false, false, false, false, false, false, false, false, false, false, false, false, false]) (by kernel_rfl) (by kernel_rfl) ?_
       exact tail1 X6 g11 a13 c13 A14 c14 g16 A18 c18 EX6 PX6 UX6
   ·refine step_lay rfl 35 1 #[(0, .const (.int .u8 5))] rfl #[(0, .int .u8 5)] (by simp [Act.eval]) (.slice (some ⟨X1.heap.size, 0, none⟩) 1 1) (X1.alloc (.cells #[.int .u8 5] 5)) (by kernel_rfl) ?_
    have hB : Below X1.heap.size X1 (X1.alloc (.cells #[.int .u8 5] 5)) := (Below.refl _ _).alloc (Nat.le_refl _) _
    have hK := Blk.new X1 5 [.int .u8 5]
    generalize X1.alloc (.cells #[.int .u8 5] 5) = X2 at hB hK ⊢
    obtain ⟨g16, hg⟩ : ∃ x, X1.heap.size = x := ⟨_, rfl⟩
    rw [hg] at hK ⊢
    have EX2 := Lib.hid (EX1.out.trans (hB.mono EX1.out.size))
    have PX2 := Lib.hid (PX1.out.below hB PX1.out.lt)
    have UX2 := Lib.hid (UX1.out.below hB UX1.out.lt)
    have KX2 : Hid (Blk X2 g16 5 [.int .u8 5]) := Lib.hid (hK)
    clear EX1 PX1 UX1 hB hg hK
    refine hK.out _ _ (⟨PX2.out, UX2.out⟩) (fun hHeld => ?_)
    clear hK K
    show wpAnyH _ _ _ _ _ _ _ (Act.put _ (some 16) _) _
    simp only [Act.put, L1, L2, L3]
    refine wpAnyH_ready (rs := [2, 4]) (by kernel_rfl) (by simp) ?_
    refine AllReadyH.cons rfl (fun K hK => ?_) (AllReadyH.cons rfl (fun K hK => ?_) AllReadyH.nil)
    ·refine step_lay rfl 36 1 #[(0, .const (.int .u8 5))] rfl #[(0, .int .u8 5)] (by simp [Act.eval]) (.slice (some ⟨X2.heap.size, 0, none⟩) 1 1) (X2.alloc (.cells #[.int .u8 5] 5)) (by kernel_rfl) ?_
     have hB : Below X2.heap.size X2 (X2.alloc (.cells #[.int .u8 5] 5)) := (Below.refl _ _).alloc (Nat.le_refl _) _
     have hO : Oct.Own (X2.alloc (.cells #[.int .u8 5] 5)) V2.heap.size (.slice (some ⟨X2.heap.size, 0, none⟩) 1 1) [5] := own_base (own_five X2) EX2.out.size
     generalize X2.alloc (.cells #[.int .u8 5] 5) = X3 at hB hO ⊢
     obtain ⟨g11, hg⟩ : ∃ x, X2.heap.size = x := ⟨_, rfl⟩
     have NE : Hid (g11 ≠ g16) := Lib.hid (by have := KX2.out.lt; omega)
     rw [hg] at hO ⊢
     have EX3 := Lib.hid (EX2.out.trans (hB.mono EX2.out.size))
     have PX3 := Lib.hid (PX2.out.below hB PX2.out.lt)
     have UX3 := Lib.hid (UX2.out.below hB UX2.out.lt)
     have KX3 : Hid (Blk X3 g16 5 [.int .u8 5]) := Lib.hid (KX2.out.below hB KX2.out.lt)
     have OX3 : Hid (Oct.Own X3 V2.heap.size (.slice (some ⟨g11, 0, none⟩) 1 1) [5]) := Lib.hid (hO)
     clear EX2 PX2 UX2 KX2 hB hg hO
     refine hK.out _ _ (⟨PX3.out, UX3.out⟩) (fun hHeld => ?_)
     clear hK K
     show wpAnyH _ _ _ _ _ _ _ (Act.put _ (some 11) _) _
     simp only [Act.put, L1, L2, L3]
     refine wpAnyH_ready (rs := [4]) (by kernel_rfl) (by simp) ?_
     refine AllReadyH.cons rfl (fun K hK => ?_) AllReadyH.nil
     refine step_call rfl 8 #[.tmp 12] #[27] rfl #[.agg #[.int .u32 ch, .int .u64 rd, .int .u64 m0, .int .u64 m1, .int .u64 t0, .int .u64 t1, .slice As n cp]] (by simp [Act.eval]) (by go_simp) (to_any ch rd m0 m1 t0 t1 As n cp cs X3 (Lib.hid (HC.out.below (HBV.out.trans (EX3.out.mono HBV.out.size)))).out HLC.out hn) ?_
     rintro e X4 ⟨a13, c13, rfl, hO, hB⟩
     have EX4 := Lib.hid (EX3.out.trans (hB.mono EX3.out.size))
     have PX4 := Lib.hid (PX3.out.below hB PX3.out.lt)
     have UX4 := Lib.hid (UX3.out.below hB UX3.out.lt)
     have KX4 : Hid (Blk X4 g16 5 [.int .u8 5]) := Lib.hid (KX3.out.below hB KX3.out.lt)
     have OX4 : Hid (Oct.Own X4 V2.heap.size (.slice (some ⟨g11, 0, none⟩) 1 1) [5]) := Lib.hid (Oct.Own.below OX3.out hB)
     have CX4 : Hid (CRow X4 a13 cs) := Lib.hid (CRow.of_own (by rw [HLC.out]; exact hO) HC.out.ok)
     clear EX3 PX3 UX3 KX3 OX3 hB hO
     refine ⟨_, rfl, hK.out _ _ (⟨PX4.out, UX4.out⟩) (fun hHeld => ?_)⟩
     clear hK K
     show wpAnyH _ _ _ _ _ _ _ (Act.put _ (some 13) _) _
     simp only [Act.put, L1, L2, L3]
     refine wpAnyH_ready (rs := [5]) (by kernel_rfl) (by simp) ?_
     refine AllReadyH.cons rfl (fun K hK => ?_) AllReadyH.nil
     refine step_call rfl 7 #[.tmp 11, .tmp 13] #[36, 40] rfl #[.slice (some ⟨g11, 0, none⟩) 1 1, .agg #[.int .u32 ch, .int .u64 rd, .int .u64 m0, .int .u64 m1, .int .u64 t0, .int .u64 t1, .slice a13 n c13]] (by simp [Act.eval]) (by go_simp) (deedlay_any ch rd m0 m1 t0 t1 a13 n c13 cs (.slice (some ⟨g11, 0, none⟩) 1 1) V2.heap.size [5] X4 CX4 HLC hn HCW HWD OX4 (Lib.hid EX4.out.size) (Lib.hid (by simp))) ?_
     rintro e X5 ⟨v14, rfl, hO, hG, hL⟩
     rw [stL_eq ch rd m0 m1 t0 t1 cs HWD.out HCW.out] at hO
     obtain ⟨A14, c14, hv, _⟩ := Oct.Own.src hO
     rw [HN1.out] at hv
     subst hv
     have EX5 := Lib.hid (EX4.out.trans (Oct.grown_below hG EX4.out.size (fun g hg => (World.ownsRow.lt OX4.out g hg).1)))
     have PX5 := Lib.hid (PX4.out.grown hG (fun e => by have := (World.ownsRow.lt OX4.out gp e.symm).1; have := HLP.out; omega))
     have UX5 := Lib.hid (UX4.out.grown hG (fun e => by have := (World.ownsRow.lt OX4.out go e.symm).1; have := HLU.out; omega))
     have KX5 : Hid (Blk X5 g16 5 [.int .u8 5]) := Lib.hid (KX4.out.grown hG (fun e => by have e' : some g16 = some g11 := e; injection e' with e'; exact NE.out e'.symm))
     have NX5 : Hid (Oct.Own X5 V2.heap.size (.slice A14 n1 c14) ([5] ++ stD ch rd m0 m1 t0 t1 cs)) := Lib.hid (hO)
     clear EX4 PX4 UX4 KX4 hO hG hL OX4 CX4
     refine ⟨_, rfl, hK.out _ _ (⟨PX5.out, UX5.out⟩) (fun hHeld => ?_)⟩
     clear hK K
     show wpAnyH _ _ _ _ _ _ _ (Act.put _ (some 14) _) _
     simp only [Act.put, L1, L2, L3]
     refine wpAnyH_ready (rs := [6, 9]) (by kernel_rfl) (by simp) ?_
     refine AllReadyH.cons rfl (fun K hK => ?_) (AllReadyH.cons rfl (fun K hK => ?_) AllReadyH.nil)
     ·refine step_val rfl (.string (Oct.txt ([5] ++ stD ch rd m0 m1 t0 t1 cs))) X5 (run_conv_op rfl rfl (Oct.to_string X5 A14 c14 n1 ([5] ++ stD ch rd m0 m1 t0 t1 cs) HN1.out.symm (own_srcI NX5.out))) ?_
      refine hK.out _ _ (⟨PX5.out, UX5.out⟩) (fun hHeld => ?_)
      clear hK K
      show wpAnyH _ _ _ _ _ _ _ (Act.put _ (some 15) _) _
      simp only [Act.put, L1, L2, L3]
      refine wpAnyH_ready (rs := [9]) (by kernel_rfl) (by simp) ?_
      refine AllReadyH.cons rfl (fun K hK => ?_) AllReadyH.nil
      refine step_call rfl 9 #[.tmp 16, .tmp 17] #[35, 27] rfl #[.slice (some ⟨g16, 0, none⟩) 1 1, .agg #[.int .u32 ch, .int .u64 rd, .int .u64 m0, .int .u64 m1, .int .u64 t0, .int .u64 t1, .slice As n cp]] (by simp [Act.eval]) (by go_simp) (rstate_any (some ⟨g16, 0, none⟩) 1 1 [5] ch rd m0 m1 t0 t1 As n cp cs X5 (Lib.hid (HC.out.below (HBV.out.trans (EX5.out.mono HBV.out.size)))) HLC hn HCW HWD (src_blk KX5.out) (Lib.hid rfl) (by omega)) ?_
      rintro e X7 ⟨v18, rfl, hO, hB⟩
      replace hO := own_base (c := V2.heap.size) hO EX5.out.size
      obtain ⟨A18, c18, hv, _⟩ := Oct.Own.src hO
      rw [HN1.out] at hv
      subst hv
      have EX7 := Lib.hid (EX5.out.trans (hB.mono EX5.out.size))
      have PX7 := Lib.hid (PX5.out.below hB PX5.out.lt)
      have UX7 := Lib.hid (UX5.out.below hB UX5.out.lt)
      have MX7 : Hid (Oct.Own X7 V2.heap.size (.slice A18 n1 c18) ([5] ++ stD ch rd m0 m1 t0 t1 cs)) := Lib.hid (hO)
      clear EX5 PX5 UX5 hB hO
      refine ⟨_, rfl, hK.out _ _ (⟨PX7.out, UX7.out⟩) (fun hHeld => ?_)⟩
      clear hK K
      show wpAnyH _ _ _ _ _ _ _ (Act.put _ (some 18) _) _
      simp only [Act.put, L1, L2, L3]
      refine wpAnyH_ready (rs := [10]) (by kernel_rfl) (by simp) ?_
      refine AllReadyH.cons rfl (fun K hK => ?_) AllReadyH.nil
      refine step_val rfl (.string (Oct.txt ([5] ++ stD ch rd m0 m1 t0 t1 cs))) X7 (run_conv_op rfl rfl (to_string35 X7 A18 c18 n1 ([5] ++ stD ch rd m0 m1 t0 t1 cs) HN1.out.symm (own_srcI MX7.out))) ?_
      refine hK.out _ _ (⟨PX7.out, UX7.out⟩) (fun hHeld => ?_)
      clear hK K
      show wpAnyH _ _ _ _ _ _ _ (Act.put _ (some 19) _) _
      simp only [Act.put, L1, L2, L3]
      refine wpAnyH_take (i := 11) (v := .bool true) rfl (by kernel_rfl) (by kernel_rfl) (by kernel_rfl) (fun _ _ _ h => h) (Or.inl ⟨by rfl, fun w' h => run_eq_str rfl rfl rfl w'⟩) hHeld ?_
      show wpAnyH _ _ _ _ _ _ _ (Act.put _ (some 20) _) _
      simp only [Act.put, L1, L2, L3]
      refine wpAnyH_take (i := 12) (v := .bool true) rfl (by kernel_rfl) (by kernel_rfl) (by kernel_rfl) (fun _ _ _ h => h) (Or.inl ⟨by rfl, by intro w hSw; first | rfl | go_simp⟩) hHeld ?_
      show wpAnyH _ _ _ _ _ _ _ (Act.put _ (some 21) _) _
      simp only [Act.put, L1, L2, L3]
      refine wpAnyH_take (i := 13) (v := .bool true) rfl (by kernel_rfl) (by kernel_rfl) (by kernel_rfl) (fun _ _ _ h => h) (Or.inl ⟨by rfl, fun w _ => by rfl⟩) hHeld ?_
      show wpAnyH _ _ _ _ _ _ _ (Act.put _ (some 22) _) _
      simp only [Act.put, L1, L2, L3]
      refine wpAnyH_take (i := 15) (v := .agg (opC kd amt c id).toArray) rfl (by kernel_rfl) (by kernel_rfl) (by kernel_rfl) (fun _ _ _ h => h) (yieldsIf_load_mid (by rfl) 32 (.tmp 3) rfl go 0 rfl (opC kd amt c id) _ (fun w' h => Blk.all h.2) Tryd.underlying32 rfl HI32.out) hHeld ?_
      show wpAnyH _ _ _ _ _ _ _ (Act.put _ (some 24) _) _
      simp only [Act.put, L1, L2, L3]
      refine wpAnyH_take (i := 20) (v := .agg (opC kd amt c id).toArray) rfl (by kernel_rfl) (by kernel_rfl) (by kernel_rfl) (fun _ _ _ h => h) (yieldsIf_load_mid (by rfl) 32 (.tmp 3) rfl go 0 rfl (opC kd amt c id) _ (fun w' h => Blk.all h.2) Tryd.underlying32 rfl HI32.out) hHeld ?_
      show wpAnyH _ _ _ _ _ _ _ (Act.put _ (some 29) _) _
      simp only [Act.put, L1, L2, L3]
      refine wpAnyH_at (fuel := 19) (L := #[true, true, true, true, true, true, true, true, true, true, true, true, true, true, false, true, false, false, false, false, true, false, false, false, false, false, false, false, false, false, false, false, false, false, false]) (by kernel_rfl) (by kernel_rfl) ?_
      exact tail1 X7 g11 a13 c13 A14 c14 g16 A18 c18 EX7 PX7 UX7
     ·refine step_call rfl 9 #[.tmp 16, .tmp 17] #[35, 27] rfl #[.slice (some ⟨g16, 0, none⟩) 1 1, .agg #[.int .u32 ch, .int .u64 rd, .int .u64 m0, .int .u64 m1, .int .u64 t0, .int .u64 t1, .slice As n cp]] (by simp [Act.eval]) (by go_simp) (rstate_any (some ⟨g16, 0, none⟩) 1 1 [5] ch rd m0 m1 t0 t1 As n cp cs X5 (Lib.hid (HC.out.below (HBV.out.trans (EX5.out.mono HBV.out.size)))) HLC hn HCW HWD (src_blk KX5.out) (Lib.hid rfl) (by omega)) ?_
      rintro e X6 ⟨v18, rfl, hO, hB⟩
      replace hO := own_base (c := V2.heap.size) hO EX5.out.size
      obtain ⟨A18, c18, hv, _⟩ := Oct.Own.src hO
      rw [HN1.out] at hv
      subst hv
      have EX6 := Lib.hid (EX5.out.trans (hB.mono EX5.out.size))
      have PX6 := Lib.hid (PX5.out.below hB PX5.out.lt)
      have UX6 := Lib.hid (UX5.out.below hB UX5.out.lt)
      have NX6 : Hid (Oct.Own X6 V2.heap.size (.slice A14 n1 c14) ([5] ++ stD ch rd m0 m1 t0 t1 cs)) := Lib.hid (Oct.Own.below NX5.out hB)
      have MX6 : Hid (Oct.Own X6 V2.heap.size (.slice A18 n1 c18) ([5] ++ stD ch rd m0 m1 t0 t1 cs)) := Lib.hid (hO)
      clear EX5 PX5 UX5 NX5 hB hO
      refine ⟨_, rfl, hK.out _ _ (⟨PX6.out, UX6.out⟩) (fun hHeld => ?_)⟩
      clear hK K
      show wpAnyH _ _ _ _ _ _ _ (Act.put _ (some 18) _) _
      simp only [Act.put, L1, L2, L3]
      refine wpAnyH_ready (rs := [6, 10]) (by kernel_rfl) (by simp) ?_
      refine AllReadyH.cons rfl (fun K hK => ?_) (AllReadyH.cons rfl (fun K hK => ?_) AllReadyH.nil)
      ·refine step_val rfl (.string (Oct.txt ([5] ++ stD ch rd m0 m1 t0 t1 cs))) X6 (run_conv_op rfl rfl (Oct.to_string X6 A14 c14 n1 ([5] ++ stD ch rd m0 m1 t0 t1 cs) HN1.out.symm (own_srcI NX6.out))) ?_
       refine hK.out _ _ (⟨PX6.out, UX6.out⟩) (fun hHeld => ?_)
       clear hK K
       show wpAnyH _ _ _ _ _ _ _ (Act.put _ (some 15) _) _
       simp only [Act.put, L1, L2, L3]
       refine wpAnyH_ready (rs := [10]) (by kernel_rfl) (by simp) ?_
       refine AllReadyH.cons rfl (fun K hK => ?_) AllReadyH.nil
       refine step_val rfl (.string (Oct.txt ([5] ++ stD ch rd m0 m1 t0 t1 cs))) X6 (run_conv_op rfl rfl (to_string35 X6 A18 c18 n1 ([5] ++ stD ch rd m0 m1 t0 t1 cs) HN1.out.symm (own_srcI MX6.out))) ?_
       refine hK.out _ _ (⟨PX6.out, UX6.out⟩) (fun hHeld => ?_)
       clear hK K
       show wpAnyH _ _ _ _ _ _ _ (Act.put _ (some 19) _) _
       simp only [Act.put, L1, L2, L3]
       refine wpAnyH_take (i := 11) (v := .bool true) rfl (by kernel_rfl) (by kernel_rfl) (by kernel_rfl) (fun _ _ _ h => h) (Or.inl ⟨by rfl, fun w' h => run_eq_str rfl rfl rfl w'⟩) hHeld ?_
       show wpAnyH _ _ _ _ _ _ _ (Act.put _ (some 20) _) _
       simp only [Act.put, L1, L2, L3]
       refine wpAnyH_take (i := 12) (v := .bool true) rfl (by kernel_rfl) (by kernel_rfl) (by kernel_rfl) (fun _ _ _ h => h) (Or.inl ⟨by rfl, by intro w hSw; first | rfl | go_simp⟩) hHeld ?_
       show wpAnyH _ _ _ _ _ _ _ (Act.put _ (some 21) _) _
       simp only [Act.put, L1, L2, L3]
       refine wpAnyH_take (i := 13) (v := .bool true) rfl (by kernel_rfl) (by kernel_rfl) (by kernel_rfl) (fun _ _ _ h => h) (Or.inl ⟨by rfl, fun w _ => by rfl⟩) hHeld ?_
       show wpAnyH _ _ _ _ _ _ _ (Act.put _ (some 22) _) _
       simp only [Act.put, L1, L2, L3]
       refine wpAnyH_take (i := 15) (v := .agg (opC kd amt c id).toArray) rfl (by kernel_rfl) (by kernel_rfl) (by kernel_rfl) (fun _ _ _ h => h) (yieldsIf_load_mid (by rfl) 32 (.tmp 3) rfl go 0 rfl (opC kd amt c id) _ (fun w' h => Blk.all h.2) Tryd.underlying32 rfl HI32.out) hHeld ?_
       show wpAnyH _ _ _ _ _ _ _ (Act.put _ (some 24) _) _
       simp only [Act.put, L1, L2, L3]
       refine wpAnyH_take (i := 20) (v := .agg (opC kd amt c id).toArray) rfl (by kernel_rfl) (by kernel_rfl) (by kernel_rfl) (fun _ _ _ h => h) (yieldsIf_load_mid (by rfl) 32 (.tmp 3) rfl go 0 rfl (opC kd amt c id) _ (fun w' h => Blk.all h.2) Tryd.underlying32 rfl HI32.out) hHeld ?_
       show wpAnyH _ _ _ _ _ _ _ (Act.put _ (some 29) _) _
       simp only [Act.put, L1, L2, L3]
       refine wpAnyH_at (fuel := 19) (L := #[true, true, true, true, true, true, true, true, true, true, true, true, true, true, false, true, false, false, false, false, true, false, false, false, false, false, false, false, false, false, false, false, false, false, false]) (by kernel_rfl) (by kernel_rfl) ?_
       exact tail1 X6 g11 a13 c13 A14 c14 g16 A18 c18 EX6 PX6 UX6
      ·refine step_val rfl (.string (Oct.txt ([5] ++ stD ch rd m0 m1 t0 t1 cs))) X6 (run_conv_op rfl rfl (to_string35 X6 A18 c18 n1 ([5] ++ stD ch rd m0 m1 t0 t1 cs) HN1.out.symm (own_srcI MX6.out))) ?_
       refine hK.out _ _ (⟨PX6.out, UX6.out⟩) (fun hHeld => ?_)
       clear hK K
       show wpAnyH _ _ _ _ _ _ _ (Act.put _ (some 19) _) _
       simp only [Act.put, L1, L2, L3]
       refine wpAnyH_ready (rs := [6]) (by kernel_rfl) (by simp) ?_
       refine AllReadyH.cons rfl (fun K hK => ?_) AllReadyH.nil
       refine step_val rfl (.string (Oct.txt ([5] ++ stD ch rd m0 m1 t0 t1 cs))) X6 (run_conv_op rfl rfl (Oct.to_string X6 A14 c14 n1 ([5] ++ stD ch rd m0 m1 t0 t1 cs) HN1.out.symm (own_srcI NX6.out))) ?_
       refine hK.out _ _ (⟨PX6.out, UX6.out⟩) (fun hHeld => ?_)
       clear hK K
       show wpAnyH _ _ _ _ _ _ _ (Act.put _ (some 15) _) _
       simp only [Act.put, L1, L2, L3]
       refine wpAnyH_take (i := 11) (v := .bool true) rfl (by kernel_rfl) (by kernel_rfl) (by kernel_rfl) (fun _ _ _ h => h) (Or.inl ⟨by rfl, fun w' h => run_eq_str rfl rfl rfl w'⟩) hHeld ?_
       show wpAnyH _ _ _ _ _ _ _ (Act.put _ (some 20) _) _
       simp only [Act.put, L1, L2, L3]
       refine wpAnyH_take (i := 12) (v := .bool true) rfl (by kernel_rfl) (by kernel_rfl) (by kernel_rfl) (fun _ _ _ h => h) (Or.inl ⟨by rfl, by intro w hSw; first | rfl | go_simp⟩) hHeld ?_
       show wpAnyH _ _ _ _ _ _ _ (Act.put _ (some 21) _) _
       simp only [Act.put, L1, L2, L3]
       refine wpAnyH_take (i := 13) (v := .bool true) rfl (by kernel_rfl) (by kernel_rfl) (by kernel_rfl) (fun _ _ _ h => h) (Or.inl ⟨by rfl, fun w _ => by rfl⟩) hHeld ?_
       show wpAnyH _ _ _ _ _ _ _ (Act.put _ (some 22) _) _
       simp only [Act.put, L1, L2, L3]
       refine wpAnyH_take (i := 15) (v := .agg (opC kd amt c id).toArray) rfl (by kernel_rfl) (by kernel_rfl) (by kernel_rfl) (fun _ _ _ h => h) (yieldsIf_load_mid (by rfl) 32 (.tmp 3) rfl go 0 rfl (opC kd amt c id) _ (fun w' h => Blk.all h.2) Tryd.underlying32 rfl HI32.out) hHeld ?_
       show wpAnyH _ _ _ _ _ _ _ (Act.put _ (some 24) _) _
       simp only [Act.put, L1, L2, L3]
       refine wpAnyH_take (i := 20) (v := .agg (opC kd amt c id).toArray) rfl (by kernel_rfl) (by kernel_rfl) (by kernel_rfl) (fun _ _ _ h => h) (yieldsIf_load_mid (by rfl) 32 (.tmp 3) rfl go 0 rfl (opC kd amt c id) _ (fun w' h => Blk.all h.2) Tryd.underlying32 rfl HI32.out) hHeld ?_
       show wpAnyH _ _ _ _ _ _ _ (Act.put _ (some 29) _) _
       simp only [Act.put, L1, L2, L3]
       refine wpAnyH_at (fuel := 19) (L := #[true, true, true, true, true, true, true, true, true, true, true, true, true, true, false, true, false, false, false, false, true, false, false, false, false, false, false, false, false, false, false, false, false, false, false]) (by kernel_rfl) (by kernel_rfl) ?_
       exact tail1 X6 g11 a13 c13 A14 c14 g16 A18 c18 EX6 PX6 UX6
    ·refine step_call rfl 8 #[.tmp 12] #[27] rfl #[.agg #[.int .u32 ch, .int .u64 rd, .int .u64 m0, .int .u64 m1, .int .u64 t0, .int .u64 t1, .slice As n cp]] (by simp [Act.eval]) (by go_simp) (to_any ch rd m0 m1 t0 t1 As n cp cs X2 (Lib.hid (HC.out.below (HBV.out.trans (EX2.out.mono HBV.out.size)))).out HLC.out hn) ?_
     rintro e X3 ⟨a13, c13, rfl, hO, hB⟩
     have EX3 := Lib.hid (EX2.out.trans (hB.mono EX2.out.size))
     have PX3 := Lib.hid (PX2.out.below hB PX2.out.lt)
     have UX3 := Lib.hid (UX2.out.below hB UX2.out.lt)
     have KX3 : Hid (Blk X3 g16 5 [.int .u8 5]) := Lib.hid (KX2.out.below hB KX2.out.lt)
     have CX3 : Hid (CRow X3 a13 cs) := Lib.hid (CRow.of_own (by rw [HLC.out]; exact hO) HC.out.ok)
     clear EX2 PX2 UX2 KX2 hB hO
     refine ⟨_, rfl, hK.out _ _ (⟨PX3.out, UX3.out⟩) (fun hHeld => ?_)⟩
     clear hK K
     show wpAnyH _ _ _ _ _ _ _ (Act.put _ (some 13) _) _
     simp only [Act.put, L1, L2, L3]
     refine wpAnyH_ready (rs := [2]) (by kernel_rfl) (by simp) ?_
     refine AllReadyH.cons rfl (fun K hK => ?_) AllReadyH.nil
     refine step_lay rfl 36 1 #[(0, .const (.int .u8 5))] rfl #[(0, .int .u8 5)] (by simp [Act.eval]) (.slice (some ⟨X3.heap.size, 0, none⟩) 1 1) (X3.alloc (.cells #[.int .u8 5] 5)) (by kernel_rfl) ?_
     have hB : Below X3.heap.size X3 (X3.alloc (.cells #[.int .u8 5] 5)) := (Below.refl _ _).alloc (Nat.le_refl _) _
     have hO : Oct.Own (X3.alloc (.cells #[.int .u8 5] 5)) V2.heap.size (.slice (some ⟨X3.heap.size, 0, none⟩) 1 1) [5] := own_base (own_five X3) EX3.out.size
     generalize X3.alloc (.cells #[.int .u8 5] 5) = X4 at hB hO ⊢
     obtain ⟨g11, hg⟩ : ∃ x, X3.heap.size = x := ⟨_, rfl⟩
     have NE : Hid (g11 ≠ g16) := Lib.hid (by have := KX3.out.lt; omega)
     rw [hg] at hO ⊢
     have EX4 := Lib.hid (EX3.out.trans (hB.mono EX3.out.size))
     have PX4 := Lib.hid (PX3.out.below hB PX3.out.lt)
     have UX4 := Lib.hid (UX3.out.below hB UX3.out.lt)
     have KX4 : Hid (Blk X4 g16 5 [.int .u8 5]) := Lib.hid (KX3.out.below hB KX3.out.lt)
     have CX4 : Hid (CRow X4 a13 cs) := Lib.hid (CRow.below CX3.out hB)
     have OX4 : Hid (Oct.Own X4 V2.heap.size (.slice (some ⟨g11, 0, none⟩) 1 1) [5]) := Lib.hid (hO)
     clear EX3 PX3 UX3 KX3 CX3 hB hg hO
     refine hK.out _ _ (⟨PX4.out, UX4.out⟩) (fun hHeld => ?_)
     clear hK K
     show wpAnyH _ _ _ _ _ _ _ (Act.put _ (some 11) _) _
     simp only [Act.put, L1, L2, L3]
     refine wpAnyH_ready (rs := [5]) (by kernel_rfl) (by simp) ?_
     refine AllReadyH.cons rfl (fun K hK => ?_) AllReadyH.nil
     refine step_call rfl 7 #[.tmp 11, .tmp 13] #[36, 40] rfl #[.slice (some ⟨g11, 0, none⟩) 1 1, .agg #[.int .u32 ch, .int .u64 rd, .int .u64 m0, .int .u64 m1, .int .u64 t0, .int .u64 t1, .slice a13 n c13]] (by simp [Act.eval]) (by go_simp) (deedlay_any ch rd m0 m1 t0 t1 a13 n c13 cs (.slice (some ⟨g11, 0, none⟩) 1 1) V2.heap.size [5] X4 CX4 HLC hn HCW HWD OX4 (Lib.hid EX4.out.size) (Lib.hid (by simp))) ?_
     rintro e X5 ⟨v14, rfl, hO, hG, hL⟩
     rw [stL_eq ch rd m0 m1 t0 t1 cs HWD.out HCW.out] at hO
     obtain ⟨A14, c14, hv, _⟩ := Oct.Own.src hO
     rw [HN1.out] at hv
     subst hv
     have EX5 := Lib.hid (EX4.out.trans (Oct.grown_below hG EX4.out.size (fun g hg => (World.ownsRow.lt OX4.out g hg).1)))
     have PX5 := Lib.hid (PX4.out.grown hG (fun e => by have := (World.ownsRow.lt OX4.out gp e.symm).1; have := HLP.out; omega))
     have UX5 := Lib.hid (UX4.out.grown hG (fun e => by have := (World.ownsRow.lt OX4.out go e.symm).1; have := HLU.out; omega))
     have KX5 : Hid (Blk X5 g16 5 [.int .u8 5]) := Lib.hid (KX4.out.grown hG (fun e => by have e' : some g16 = some g11 := e; injection e' with e'; exact NE.out e'.symm))
     have NX5 : Hid (Oct.Own X5 V2.heap.size (.slice A14 n1 c14) ([5] ++ stD ch rd m0 m1 t0 t1 cs)) := Lib.hid (hO)
     clear EX4 PX4 UX4 KX4 hO hG hL OX4 CX4
     refine ⟨_, rfl, hK.out _ _ (⟨PX5.out, UX5.out⟩) (fun hHeld => ?_)⟩
     clear hK K
     show wpAnyH _ _ _ _ _ _ _ (Act.put _ (some 14) _) _
     simp only [Act.put, L1, L2, L3]
     refine wpAnyH_ready (rs := [6, 9]) (by kernel_rfl) (by simp) ?_
     refine AllReadyH.cons rfl (fun K hK => ?_) (AllReadyH.cons rfl (fun K hK => ?_) AllReadyH.nil)
     ·refine step_val rfl (.string (Oct.txt ([5] ++ stD ch rd m0 m1 t0 t1 cs))) X5 (run_conv_op rfl rfl (Oct.to_string X5 A14 c14 n1 ([5] ++ stD ch rd m0 m1 t0 t1 cs) HN1.out.symm (own_srcI NX5.out))) ?_
      refine hK.out _ _ (⟨PX5.out, UX5.out⟩) (fun hHeld => ?_)
      clear hK K
      show wpAnyH _ _ _ _ _ _ _ (Act.put _ (some 15) _) _
      simp only [Act.put, L1, L2, L3]
      refine wpAnyH_ready (rs := [9]) (by kernel_rfl) (by simp) ?_
      refine AllReadyH.cons rfl (fun K hK => ?_) AllReadyH.nil
      refine step_call rfl 9 #[.tmp 16, .tmp 17] #[35, 27] rfl #[.slice (some ⟨g16, 0, none⟩) 1 1, .agg #[.int .u32 ch, .int .u64 rd, .int .u64 m0, .int .u64 m1, .int .u64 t0, .int .u64 t1, .slice As n cp]] (by simp [Act.eval]) (by go_simp) (rstate_any (some ⟨g16, 0, none⟩) 1 1 [5] ch rd m0 m1 t0 t1 As n cp cs X5 (Lib.hid (HC.out.below (HBV.out.trans (EX5.out.mono HBV.out.size)))) HLC hn HCW HWD (src_blk KX5.out) (Lib.hid rfl) (by omega)) ?_
      rintro e X7 ⟨v18, rfl, hO, hB⟩
      replace hO := own_base (c := V2.heap.size) hO EX5.out.size
      obtain ⟨A18, c18, hv, _⟩ := Oct.Own.src hO
      rw [HN1.out] at hv
      subst hv
      have EX7 := Lib.hid (EX5.out.trans (hB.mono EX5.out.size))
      have PX7 := Lib.hid (PX5.out.below hB PX5.out.lt)
      have UX7 := Lib.hid (UX5.out.below hB UX5.out.lt)
      have MX7 : Hid (Oct.Own X7 V2.heap.size (.slice A18 n1 c18) ([5] ++ stD ch rd m0 m1 t0 t1 cs)) := Lib.hid (hO)
      clear EX5 PX5 UX5 hB hO
      refine ⟨_, rfl, hK.out _ _ (⟨PX7.out, UX7.out⟩) (fun hHeld => ?_)⟩
      clear hK K
      show wpAnyH _ _ _ _ _ _ _ (Act.put _ (some 18) _) _
      simp only [Act.put, L1, L2, L3]
      refine wpAnyH_ready (rs := [10]) (by kernel_rfl) (by simp) ?_
      refine AllReadyH.cons rfl (fun K hK => ?_) AllReadyH.nil
      refine step_val rfl (.string (Oct.txt ([5] ++ stD ch rd m0 m1 t0 t1 cs))) X7 (run_conv_op rfl rfl (to_string35 X7 A18 c18 n1 ([5] ++ stD ch rd m0 m1 t0 t1 cs) HN1.out.symm (own_srcI MX7.out))) ?_
      refine hK.out _ _ (⟨PX7.out, UX7.out⟩) (fun hHeld => ?_)
      clear hK K
      show wpAnyH _ _ _ _ _ _ _ (Act.put _ (some 19) _) _
      simp only [Act.put, L1, L2, L3]
      refine wpAnyH_take (i := 11) (v := .bool true) rfl (by kernel_rfl) (by kernel_rfl) (by kernel_rfl) (fun _ _ _ h => h) (Or.inl ⟨by rfl, fun w' h => run_eq_str rfl rfl rfl w'⟩) hHeld ?_
      show wpAnyH _ _ _ _ _ _ _ (Act.put _ (some 20) _) _
      simp only [Act.put, L1, L2, L3]
      refine wpAnyH_take (i := 12) (v := .bool true) rfl (by kernel_rfl) (by kernel_rfl) (by kernel_rfl) (fun _ _ _ h => h) (Or.inl ⟨by rfl, by intro w hSw; first | rfl | go_simp⟩) hHeld ?_
      show wpAnyH _ _ _ _ _ _ _ (Act.put _ (some 21) _) _
      simp only [Act.put, L1, L2, L3]
      refine wpAnyH_take (i := 13) (v := .bool true) rfl (by kernel_rfl) (by kernel_rfl) (by kernel_rfl) (fun _ _ _ h => h) (Or.inl ⟨by rfl, fun w _ => by rfl⟩) hHeld ?_
      show wpAnyH _ _ _ _ _ _ _ (Act.put _ (some 22) _) _
      simp only [Act.put, L1, L2, L3]
      refine wpAnyH_take (i := 15) (v := .agg (opC kd amt c id).toArray) rfl (by kernel_rfl) (by kernel_rfl) (by kernel_rfl) (fun _ _ _ h => h) (yieldsIf_load_mid (by rfl) 32 (.tmp 3) rfl go 0 rfl (opC kd amt c id) _ (fun w' h => Blk.all h.2) Tryd.underlying32 rfl HI32.out) hHeld ?_
      show wpAnyH _ _ _ _ _ _ _ (Act.put _ (some 24) _) _
      simp only [Act.put, L1, L2, L3]
      refine wpAnyH_take (i := 20) (v := .agg (opC kd amt c id).toArray) rfl (by kernel_rfl) (by kernel_rfl) (by kernel_rfl) (fun _ _ _ h => h) (yieldsIf_load_mid (by rfl) 32 (.tmp 3) rfl go 0 rfl (opC kd amt c id) _ (fun w' h => Blk.all h.2) Tryd.underlying32 rfl HI32.out) hHeld ?_
      show wpAnyH _ _ _ _ _ _ _ (Act.put _ (some 29) _) _
      simp only [Act.put, L1, L2, L3]
      refine wpAnyH_at (fuel := 19) (L := #[true, true, true, true, true, true, true, true, true, true, true, true, true, true, false, true, false, false, false, false, true, false, false, false, false, false, false, false, false, false, false, false, false, false, false]) (by kernel_rfl) (by kernel_rfl) ?_
      exact tail1 X7 g11 a13 c13 A14 c14 g16 A18 c18 EX7 PX7 UX7
     ·refine step_call rfl 9 #[.tmp 16, .tmp 17] #[35, 27] rfl #[.slice (some ⟨g16, 0, none⟩) 1 1, .agg #[.int .u32 ch, .int .u64 rd, .int .u64 m0, .int .u64 m1, .int .u64 t0, .int .u64 t1, .slice As n cp]] (by simp [Act.eval]) (by go_simp) (rstate_any (some ⟨g16, 0, none⟩) 1 1 [5] ch rd m0 m1 t0 t1 As n cp cs X5 (Lib.hid (HC.out.below (HBV.out.trans (EX5.out.mono HBV.out.size)))) HLC hn HCW HWD (src_blk KX5.out) (Lib.hid rfl) (by omega)) ?_
      rintro e X6 ⟨v18, rfl, hO, hB⟩
      replace hO := own_base (c := V2.heap.size) hO EX5.out.size
      obtain ⟨A18, c18, hv, _⟩ := Oct.Own.src hO
      rw [HN1.out] at hv
      subst hv
      have EX6 := Lib.hid (EX5.out.trans (hB.mono EX5.out.size))
      have PX6 := Lib.hid (PX5.out.below hB PX5.out.lt)
      have UX6 := Lib.hid (UX5.out.below hB UX5.out.lt)
      have NX6 : Hid (Oct.Own X6 V2.heap.size (.slice A14 n1 c14) ([5] ++ stD ch rd m0 m1 t0 t1 cs)) := Lib.hid (Oct.Own.below NX5.out hB)
      have MX6 : Hid (Oct.Own X6 V2.heap.size (.slice A18 n1 c18) ([5] ++ stD ch rd m0 m1 t0 t1 cs)) := Lib.hid (hO)
      clear EX5 PX5 UX5 NX5 hB hO
      refine ⟨_, rfl, hK.out _ _ (⟨PX6.out, UX6.out⟩) (fun hHeld => ?_)⟩
      clear hK K
      show wpAnyH _ _ _ _ _ _ _ (Act.put _ (some 18) _) _
      simp only [Act.put, L1, L2, L3]
      refine wpAnyH_ready (rs := [6, 10]) (by kernel_rfl) (by simp) ?_
      refine AllReadyH.cons rfl (fun K hK => ?_) (AllReadyH.cons rfl (fun K hK => ?_) AllReadyH.nil)
      ·refine step_val rfl (.string (Oct.txt ([5] ++ stD ch rd m0 m1 t0 t1 cs))) X6 (run_conv_op rfl rfl (Oct.to_string X6 A14 c14 n1 ([5] ++ stD ch rd m0 m1 t0 t1 cs) HN1.out.symm (own_srcI NX6.out))) ?_
       refine hK.out _ _ (⟨PX6.out, UX6.out⟩) (fun hHeld => ?_)
       clear hK K
       show wpAnyH _ _ _ _ _ _ _ (Act.put _ (some 15) _) _
       simp only [Act.put, L1, L2, L3]
       refine wpAnyH_ready (rs := [10]) (by kernel_rfl) (by simp) ?_
       refine AllReadyH.cons rfl (fun K hK => ?_) AllReadyH.nil
       refine step_val rfl (.string (Oct.txt ([5] ++ stD ch rd m0 m1 t0 t1 cs))) X6 (run_conv_op rfl rfl (to_string35 X6 A18 c18 n1 ([5] ++ stD ch rd m0 m1 t0 t1 cs) HN1.out.symm (own_srcI MX6.out))) ?_
       refine hK.out _ _ (⟨PX6.out, UX6.out⟩) (fun hHeld => ?_)
       clear hK K
       show wpAnyH _ _ _ _ _ _ _ (Act.put _ (some 19) _) _
       simp only [Act.put, L1, L2, L3]
       refine wpAnyH_take (i := 11) (v := .bool true) rfl (by kernel_rfl) (by kernel_rfl) (by kernel_rfl) (fun _ _ _ h => h) (Or.inl ⟨by rfl, fun w' h => run_eq_str rfl rfl rfl w'⟩) hHeld ?_
       show wpAnyH _ _ _ _ _ _ _ (Act.put _ (some 20) _) _
       simp only [Act.put, L1, L2, L3]
       refine wpAnyH_take (i := 12) (v := .bool true) rfl (by kernel_rfl) (by kernel_rfl) (by kernel_rfl) (fun _ _ _ h => h) (Or.inl ⟨by rfl, by intro w hSw; first | rfl | go_simp⟩) hHeld ?_
       show wpAnyH _ _ _ _ _ _ _ (Act.put _ (some 21) _) _
       simp only [Act.put, L1, L2, L3]
       refine wpAnyH_take (i := 13) (v := .bool true) rfl (by kernel_rfl) (by kernel_rfl) (by kernel_rfl) (fun _ _ _ h => h) (Or.inl ⟨by rfl, fun w _ => by rfl⟩) hHeld ?_
       show wpAnyH _ _ _ _ _ _ _ (Act.put _ (some 22) _) _
       simp only [Act.put, L1, L2, L3]
       refine wpAnyH_take (i := 15) (v := .agg (opC kd amt c id).toArray) rfl (by kernel_rfl) (by kernel_rfl) (by kernel_rfl) (fun _ _ _ h => h) (yieldsIf_load_mid (by rfl) 32 (.tmp 3) rfl go 0 rfl (opC kd amt c id) _ (fun w' h => Blk.all h.2) Tryd.underlying32 rfl HI32.out) hHeld ?_
       show wpAnyH _ _ _ _ _ _ _ (Act.put _ (some 24) _) _
       simp only [Act.put, L1, L2, L3]
       refine wpAnyH_take (i := 20) (v := .agg (opC kd amt c id).toArray) rfl (by kernel_rfl) (by kernel_rfl) (by kernel_rfl) (fun _ _ _ h => h) (yieldsIf_load_mid (by rfl) 32 (.tmp 3) rfl go 0 rfl (opC kd amt c id) _ (fun w' h => Blk.all h.2) Tryd.underlying32 rfl HI32.out) hHeld ?_
       show wpAnyH _ _ _ _ _ _ _ (Act.put _ (some 29) _) _
       simp only [Act.put, L1, L2, L3]
       refine wpAnyH_at (fuel := 19) (L := #[true, true, true, true, true, true, true, true, true, true, true, true, true, true, false, true, false, false, false, false, true, false, false, false, false, false, false, false, false, false, false, false, false, false, false]) (by kernel_rfl) (by kernel_rfl) ?_
       exact tail1 X6 g11 a13 c13 A14 c14 g16 A18 c18 EX6 PX6 UX6
      ·refine step_val rfl (.string (Oct.txt ([5] ++ stD ch rd m0 m1 t0 t1 cs))) X6 (run_conv_op rfl rfl (to_string35 X6 A18 c18 n1 ([5] ++ stD ch rd m0 m1 t0 t1 cs) HN1.out.symm (own_srcI MX6.out))) ?_
       refine hK.out _ _ (⟨PX6.out, UX6.out⟩) (fun hHeld => ?_)
       clear hK K
       show wpAnyH _ _ _ _ _ _ _ (Act.put _ (some 19) _) _
       simp only [Act.put, L1, L2, L3]
       refine wpAnyH_ready (rs := [6]) (by kernel_rfl) (by simp) ?_
       refine AllReadyH.cons rfl (fun K hK => ?_) AllReadyH.nil
       refine step_val rfl (.string (Oct.txt ([5] ++ stD ch rd m0 m1 t0 t1 cs))) X6 (run_conv_op rfl rfl (Oct.to_string X6 A14 c14 n1 ([5] ++ stD ch rd m0 m1 t0 t1 cs) HN1.out.symm (own_srcI NX6.out))) ?_
       refine hK.out _ _ (⟨PX6.out, UX6.out⟩) (fun hHeld => ?_)
       clear hK K
       show wpAnyH _ _ _ _ _ _ _ (Act.put _ (some 15) _) _
       simp only [Act.put, L1, L2, L3]
       refine wpAnyH_take (i := 11) (v := .bool true) rfl (by kernel_rfl) (by kernel_rfl) (by kernel_rfl) (fun _ _ _ h => h) (Or.inl ⟨by rfl, fun w' h => run_eq_str rfl rfl rfl w'⟩) hHeld ?_
       show wpAnyH _ _ _ _ _ _ _ (Act.put _ (some 20) _) _
       simp only [Act.put, L1, L2, L3]
       refine wpAnyH_take (i := 12) (v := .bool true) rfl (by kernel_rfl) (by kernel_rfl) (by kernel_rfl) (fun _ _ _ h => h) (Or.inl ⟨by rfl, by intro w hSw; first | rfl | go_simp⟩) hHeld ?_
       show wpAnyH _ _ _ _ _ _ _ (Act.put _ (some 21) _) _
       simp only [Act.put, L1, L2, L3]
       refine wpAnyH_take (i := 13) (v := .bool true) rfl (by kernel_rfl) (by kernel_rfl) (by kernel_rfl) (fun _ _ _ h => h) (Or.inl ⟨by rfl, fun w _ => by rfl⟩) hHeld ?_
       show wpAnyH _ _ _ _ _ _ _ (Act.put _ (some 22) _) _
       simp only [Act.put, L1, L2, L3]
       refine wpAnyH_take (i := 15) (v := .agg (opC kd amt c id).toArray) rfl (by kernel_rfl) (by kernel_rfl) (by kernel_rfl) (fun _ _ _ h => h) (yieldsIf_load_mid (by rfl) 32 (.tmp 3) rfl go 0 rfl (opC kd amt c id) _ (fun w' h => Blk.all h.2) Tryd.underlying32 rfl HI32.out) hHeld ?_
       show wpAnyH _ _ _ _ _ _ _ (Act.put _ (some 24) _) _
       simp only [Act.put, L1, L2, L3]
       refine wpAnyH_take (i := 20) (v := .agg (opC kd amt c id).toArray) rfl (by kernel_rfl) (by kernel_rfl) (by kernel_rfl) (fun _ _ _ h => h) (yieldsIf_load_mid (by rfl) 32 (.tmp 3) rfl go 0 rfl (opC kd amt c id) _ (fun w' h => Blk.all h.2) Tryd.underlying32 rfl HI32.out) hHeld ?_
       show wpAnyH _ _ _ _ _ _ _ (Act.put _ (some 29) _) _
       simp only [Act.put, L1, L2, L3]
       refine wpAnyH_at (fuel := 19) (L := #[true, true, true, true, true, true, true, true, true, true, true, true, true, true, false, true, false, false, false, false, true, false, false, false, false, false, false, false, false, false, false, false, false, false, false]) (by kernel_rfl) (by kernel_rfl) ?_
       exact tail1 X6 g11 a13 c13 A14 c14 g16 A18 c18 EX6 PX6 UX6
  case tl1 =>
   intro Y0 g11 a13 c13 A14 c14 g16 A18 c18 EY0 PY0 UY0
   have hHeld : (Blk Y0 gp 27 [.int .u32 ch, .int .u64 rd, .int .u64 m0, .int .u64 m1, .int .u64 t0, .int .u64 t1, .slice As n cp] ∧ Blk Y0 go 32 (opC kd amt c id)) := ⟨PY0.out, UY0.out⟩
   refine wpAnyH_cut (fun ops Q => ∀ (X : World) (g23 : Nat) (A26 : Option Addr) (c26 : Nat) (g28 : Nat) (A30 : Option Addr) (c30 : Nat), Hid (Below V2.heap.size V2 X) → Hid (Blk X gp 27 [.int .u32 ch, .int .u64 rd, .int .u64 m0, .int .u64 m1, .int .u64 t0, .int .u64 t1, .slice As n cp]) → Hid (Blk X go 32 (opC kd amt c id)) → wpAnyH Tryd.prog .any ops Q (fun w' => Blk w' gp 27 [.int .u32 ch, .int .u64 rd, .int .u64 m0, .int .u64 m1, .int .u64 t0, .int .u64 t1, .slice As n cp] ∧ Blk w' go 32 (opC kd amt c id)) 7 #[true, true, true, true, true, true, true, true, true, true, true, true, true, true, true, true, true, true, true, true, true, true, true, true, true, true, true, false, false, false, true, false, false, false, false] { tmps := #[.agg #[.int .u32 ch, .int .u64 rd, .int .u64 m0, .int .u64 m1, .int .u64 t0, .int .u64 t1, .slice As n cp], .agg (opC kd amt c id).toArray, .pointer (some ⟨gp, 0, none⟩), .pointer (some ⟨go, 0, none⟩), .bool false, .agg #[.int .u32 ch, .int .u64 rd, .int .u64 m0, .int .u64 m1, .int .u64 t0, .int .u64 t1, .slice As n cp], .bool true, .bool false, undef, .bool true, .bool true, .slice (some ⟨g11, 0, none⟩) 1 1, .agg #[.int .u32 ch, .int .u64 rd, .int .u64 m0, .int .u64 m1, .int .u64 t0, .int .u64 t1, .slice As n cp], .agg #[.int .u32 ch, .int .u64 rd, .int .u64 m0, .int .u64 m1, .int .u64 t0, .int .u64 t1, .slice a13 n c13], .slice A14 n1 c14, .string (Oct.txt ([5] ++ stD ch rd m0 m1 t0 t1 cs)), .slice (some ⟨g16, 0, none⟩) 1 1, .agg #[.int .u32 ch, .int .u64 rd, .int .u64 m0, .int .u64 m1, .int .u64 t0, .int .u64 t1, .slice As n cp], .slice A18 n1 c18, .string (Oct.txt ([5] ++ stD ch rd m0 m1 t0 t1 cs)), .bool true, .bool true, .bool true, .slice (some ⟨g23, 0, none⟩) 1 1, .agg (opC kd amt c id).toArray, .agg (opC kd amt c id).toArray, .slice A26 n2 c26, .string (Oct.txt ([5] ++ opD kd amt c id)), .slice (some ⟨g28, 0, none⟩) 1 1, .agg (opC kd amt c id).toArray, .slice A30 n2 c30, .string (Oct.txt ([5] ++ opD kd amt c id)), .bool true, .bool true, .bool true, .agg #[.int .u32 ch, .int .u64 rd, .int .u64 m0, .int .u64 m1, .int .u64 t0, .int .u64 t1, .slice As n cp], undef, undef, undef, .agg #[.int .u32 ch, .int .u64 rd, .int .u64 m0, .int .u64 m1, .int .u64 t0, .int .u64 t1, .slice As n cp], undef, undef, undef], defers := [] } X) ?tl2 (fun tail2 => ?main2)
   case main2 =>
    refine wpAnyH_ready (rs := [14, 16, 19]) (by kernel_rfl) (by simp) ?_
    refine AllReadyH.cons rfl (fun K hK => ?_) (AllReadyH.cons rfl (fun K hK => ?_) (AllReadyH.cons rfl (fun K hK => ?_) AllReadyH.nil))
    ·refine step_lay rfl 36 1 #[(0, .const (.int .u8 5))] rfl #[(0, .int .u8 5)] (by simp [Act.eval]) (.slice (some ⟨Y0.heap.size, 0, none⟩) 1 1) (Y0.alloc (.cells #[.int .u8 5] 5)) (by kernel_rfl) ?_
     have hB : Below Y0.heap.size Y0 (Y0.alloc (.cells #[.int .u8 5] 5)) := (Below.refl _ _).alloc (Nat.le_refl _) _
     have hO : Oct.Own (Y0.alloc (.cells #[.int .u8 5] 5)) V2.heap.size (.slice (some ⟨Y0.heap.size, 0, none⟩) 1 1) [5] := own_base (own_five Y0) EY0.out.size
     generalize Y0.alloc (.cells #[.int .u8 5] 5) = X1 at hB hO ⊢
     obtain ⟨g23, hg⟩ : ∃ x, Y0.heap.size = x := ⟨_, rfl⟩
     rw [hg] at hO ⊢
     have EX1 := Lib.hid (EY0.out.trans (hB.mono EY0.out.size))
     have PX1 := Lib.hid (PY0.out.below hB PY0.out.lt)
     have UX1 := Lib.hid (UY0.out.below hB UY0.out.lt)
     have OX1 : Hid (Oct.Own X1 V2.heap.size (.slice (some ⟨g23, 0, none⟩) 1 1) [5]) := Lib.hid (hO)
     clear EY0 PY0 UY0 hB hg hO
     refine hK.out _ _ (⟨PX1.out, UX1.out⟩) (fun hHeld => ?_)
     clear hK K
     show wpAnyH _ _ _ _ _ _ _ (Act.put _ (some 23) _) _
     simp only [Act.put, L1, L2, L3]
     refine wpAnyH_ready (rs := [16, 19]) (by kernel_rfl) (by simp) ?_
     refine AllReadyH.cons rfl (fun K hK => ?_) (AllReadyH.cons rfl (fun K hK => ?_) AllReadyH.nil)
     ·refine step_call rfl 11 #[.tmp 24] #[32] rfl #[.agg (opC kd amt c id).toArray] (by simp [Act.eval]) (by go_simp) (lop_any kd amt id c X1 HOK) ?_
      rintro e X2 ⟨rfl, hB⟩
      have EX2 := Lib.hid (EX1.out.trans (hB.mono EX1.out.size))
      have PX2 := Lib.hid (PX1.out.below hB PX1.out.lt)
      have UX2 := Lib.hid (UX1.out.below hB UX1.out.lt)
      have OX2 : Hid (Oct.Own X2 V2.heap.size (.slice (some ⟨g23, 0, none⟩) 1 1) [5]) := Lib.hid (Oct.Own.below OX1.out hB)
      clear EX1 PX1 UX1 OX1 hB
      refine ⟨_, rfl, hK.out _ _ (⟨PX2.out, UX2.out⟩) (fun hHeld => ?_)⟩
      clear hK K
      show wpAnyH _ _ _ _ _ _ _ (Act.put _ (some 25) _) _
      simp only [Act.put, L1, L2, L3]
      refine wpAnyH_ready (rs := [17, 19]) (by kernel_rfl) (by simp) ?_
      refine AllReadyH.cons rfl (fun K hK => ?_) (AllReadyH.cons rfl (fun K hK => ?_) AllReadyH.nil)
      ·refine step_call rfl 10 #[.tmp 23, .tmp 25] #[36, 49] rfl #[.slice (some ⟨g23, 0, none⟩) 1 1, .agg (opC kd amt c id).toArray] (by simp [Act.eval]) (by go_simp) (layop_any kd amt id c (.slice (some ⟨g23, 0, none⟩) 1 1) V2.heap.size [5] X2 HOK HW HAI OX2 (Lib.hid EX2.out.size) (Lib.hid (by simp))) ?_
       rintro e X3 ⟨v26, rfl, hO, hG, hL⟩
       rw [opL_eq kd amt id c HAI.out HW.out] at hO
       obtain ⟨A26, c26, hv, _⟩ := Oct.Own.src hO
       rw [HN2.out] at hv
       subst hv
       have EX3 := Lib.hid (EX2.out.trans (Oct.grown_below hG EX2.out.size (fun g hg => (World.ownsRow.lt OX2.out g hg).1)))
       have PX3 := Lib.hid (PX2.out.grown hG (fun e => by have := (World.ownsRow.lt OX2.out gp e.symm).1; have := HLP.out; omega))
       have UX3 := Lib.hid (UX2.out.grown hG (fun e => by have := (World.ownsRow.lt OX2.out go e.symm).1; have := HLU.out; omega))
       have NX3 : Hid (Oct.Own X3 V2.heap.size (.slice A26 n2 c26) ([5] ++ opD kd amt c id)) := Lib.hid (hO)
       clear EX2 PX2 UX2 hO hG hL OX2
       refine ⟨_, rfl, hK.out _ _ (⟨PX3.out, UX3.out⟩) (fun hHeld => ?_)⟩
       clear hK K
       show wpAnyH _ _ _ _ _ _ _ (Act.put _ (some 26) _) _
       simp only [Act.put, L1, L2, L3]
       refine wpAnyH_ready (rs := [18, 19]) (by kernel_rfl) (by simp) ?_
       refine AllReadyH.cons rfl (fun K hK => ?_) (AllReadyH.cons rfl (fun K hK => ?_) AllReadyH.nil)
       ·refine step_val rfl (.string (Oct.txt ([5] ++ opD kd amt c id))) X3 (run_conv_op rfl rfl (Oct.to_string X3 A26 c26 n2 ([5] ++ opD kd amt c id) HN2.out.symm (own_srcI NX3.out))) ?_
        refine hK.out _ _ (⟨PX3.out, UX3.out⟩) (fun hHeld => ?_)
        clear hK K
        show wpAnyH _ _ _ _ _ _ _ (Act.put _ (some 27) _) _
        simp only [Act.put, L1, L2, L3]
        refine wpAnyH_ready (rs := [19]) (by kernel_rfl) (by simp) ?_
        refine AllReadyH.cons rfl (fun K hK => ?_) AllReadyH.nil
        refine step_lay rfl 35 1 #[(0, .const (.int .u8 5))] rfl #[(0, .int .u8 5)] (by simp [Act.eval]) (.slice (some ⟨X3.heap.size, 0, none⟩) 1 1) (X3.alloc (.cells #[.int .u8 5] 5)) (by kernel_rfl) ?_
        have hB : Below X3.heap.size X3 (X3.alloc (.cells #[.int .u8 5] 5)) := (Below.refl _ _).alloc (Nat.le_refl _) _
        have hK := Blk.new X3 5 [.int .u8 5]
        generalize X3.alloc (.cells #[.int .u8 5] 5) = X5 at hB hK ⊢
        obtain ⟨g28, hg⟩ : ∃ x, X3.heap.size = x := ⟨_, rfl⟩
        rw [hg] at hK ⊢
        have EX5 := Lib.hid (EX3.out.trans (hB.mono EX3.out.size))
        have PX5 := Lib.hid (PX3.out.below hB PX3.out.lt)
        have UX5 := Lib.hid (UX3.out.below hB UX3.out.lt)
        have KX5 : Hid (Blk X5 g28 5 [.int .u8 5]) := Lib.hid (hK)
        clear EX3 PX3 UX3 hB hg hK
        refine hK.out _ _ (⟨PX5.out, UX5.out⟩) (fun hHeld => ?_)
        clear hK K
        show wpAnyH _ _ _ _ _ _ _ (Act.put _ (some 28) _) _
        simp only [Act.put, L1, L2, L3]
        refine wpAnyH_ready (rs := [21]) (by kernel_rfl) (by simp) ?_
        refine AllReadyH.cons rfl (fun K hK => ?_) AllReadyH.nil
        refine step_call rfl 12 #[.tmp 28, .tmp 29] #[35, 32] rfl #[.slice (some ⟨g28, 0, none⟩) 1 1, .agg (opC kd amt c id).toArray] (by simp [Act.eval]) (by go_simp) (rop_any (some ⟨g28, 0, none⟩) 1 1 [5] kd amt id c X5 HOK HW HAI (src_blk KX5.out) (Lib.hid rfl) (by omega)) ?_
        rintro e X6 ⟨v30, rfl, hO, hB⟩
        replace hO := own_base (c := V2.heap.size) hO EX5.out.size
        obtain ⟨A30, c30, hv, _⟩ := Oct.Own.src hO
        rw [HN2.out] at hv
        subst hv
        have EX6 := Lib.hid (EX5.out.trans (hB.mono EX5.out.size))
        have PX6 := Lib.hid (PX5.out.below hB PX5.out.lt)
        have UX6 := Lib.hid (UX5.out.below hB UX5.out.lt)
        have MX6 : Hid (Oct.Own X6 V2.heap.size (.slice A30 n2 c30) ([5] ++ opD kd amt c id)) := Lib.hid (hO)
        clear EX5 PX5 UX5 hB hO
        refine ⟨_, rfl, hK.out _ _ (⟨PX6.out, UX6.out⟩) (fun hHeld => ?_)⟩
        clear hK K
        show wpAnyH _ _ _ _ _ _ _ (Act.put _ (some 30) _) _
        simp only [Act.put, L1, L2, L3]
        refine wpAnyH_ready (rs := [22]) (by kernel_rfl) (by simp) ?_
        refine AllReadyH.cons rfl (fun K hK => ?_) AllReadyH.nil
        refine step_val rfl (.string (Oct.txt ([5] ++ opD kd amt c id))) X6 (run_conv_op rfl rfl (to_string35 X6 A30 c30 n2 ([5] ++ opD kd amt c id) HN2.out.symm (own_srcI MX6.out))) ?_
        refine hK.out _ _ (⟨PX6.out, UX6.out⟩) (fun hHeld => ?_)
        clear hK K
        show wpAnyH _ _ _ _ _ _ _ (Act.put _ (some 31) _) _
        simp only [Act.put, L1, L2, L3]
        refine wpAnyH_take (i := 23) (v := .bool true) rfl (by kernel_rfl) (by kernel_rfl) (by kernel_rfl) (fun _ _ _ h => h) (Or.inl ⟨by rfl, fun w' h => run_eq_str rfl rfl rfl w'⟩) hHeld ?_
        show wpAnyH _ _ _ _ _ _ _ (Act.put _ (some 32) _) _
        simp only [Act.put, L1, L2, L3]
        refine wpAnyH_take (i := 24) (v := .bool true) rfl (by kernel_rfl) (by kernel_rfl) (by kernel_rfl) (fun _ _ _ h => h) (Or.inl ⟨by rfl, by intro w hSw; first | rfl | go_simp⟩) hHeld ?_
        show wpAnyH _ _ _ _ _ _ _ (Act.put _ (some 33) _) _
        simp only [Act.put, L1, L2, L3]
        refine wpAnyH_take (i := 25) (v := .bool true) rfl (by kernel_rfl) (by kernel_rfl) (by kernel_rfl) (fun _ _ _ h => h) (Or.inl ⟨by rfl, fun w _ => by rfl⟩) hHeld ?_
        show wpAnyH _ _ _ _ _ _ _ (Act.put _ (some 34) _) _
        simp only [Act.put, L1, L2, L3]
        refine wpAnyH_take (i := 26) (v := .agg #[.int .u32 ch, .int .u64 rd, .int .u64 m0, .int .u64 m1, .int .u64 t0, .int .u64 t1, .slice As n cp]) rfl (by kernel_rfl) (by kernel_rfl) (by kernel_rfl) (fun _ _ _ h => h) (yieldsIf_load_mid (by rfl) 27 (.tmp 2) rfl gp 0 rfl [.int .u32 ch, .int .u64 rd, .int .u64 m0, .int .u64 m1, .int .u64 t0, .int .u64 t1, .slice As n cp] _ (fun w' h => Blk.all h.1) Tryd.underlying27 rfl info27) hHeld ?_
        show wpAnyH _ _ _ _ _ _ _ (Act.put _ (some 35) _) _
        simp only [Act.put, L1, L2, L3]
        refine wpAnyH_take (i := 30) (v := .agg #[.int .u32 ch, .int .u64 rd, .int .u64 m0, .int .u64 m1, .int .u64 t0, .int .u64 t1, .slice As n cp]) rfl (by kernel_rfl) (by kernel_rfl) (by kernel_rfl) (fun _ _ _ h => h) (yieldsIf_load_mid (by rfl) 27 (.tmp 2) rfl gp 0 rfl [.int .u32 ch, .int .u64 rd, .int .u64 m0, .int .u64 m1, .int .u64 t0, .int .u64 t1, .slice As n cp] _ (fun w' h => Blk.all h.1) Tryd.underlying27 rfl info27) hHeld ?_
        show wpAnyH _ _ _ _ _ _ _ (Act.put _ (some 39) _) _
        simp only [Act.put, L1, L2, L3]
        refine wpAnyH_at (fuel := 7) (L := #[true, true, true, true, true, true, true, true, true, true, true, true, true, true, true, true, true, true, true, true, true, true, true, true, true, true, true, false, false, false, true, false, false, false, false]) (by kernel_rfl) (by kernel_rfl) ?_
        exact tail2 X6 g23 A26 c26 g28 A30 c30 EX6 PX6 UX6
       ·refine step_lay rfl 35 1 #[(0, .const (.int .u8 5))] rfl #[(0, .int .u8 5)] (by simp [Act.eval]) (.slice (some ⟨X3.heap.size, 0, none⟩) 1 1) (X3.alloc (.cells #[.int .u8 5] 5)) (by kernel_rfl) ?_
        have hB : Below X3.heap.size X3 (X3.alloc (.cells #[.int .u8 5] 5)) := (Below.refl _ _).alloc (Nat.le_refl _) _
        have hK := Blk.new X3 5 [.int .u8 5]
        generalize X3.alloc (.cells #[.int .u8 5] 5) = X4 at hB hK ⊢
        obtain ⟨g28, hg⟩ : ∃ x, X3.heap.size = x := ⟨_, rfl⟩
        rw [hg] at hK ⊢
        have EX4 := Lib.hid (EX3.out.trans (hB.mono EX3.out.size))
        have PX4 := Lib.hid (PX3.out.below hB PX3.out.lt)
        have UX4 := Lib.hid (UX3.out.below hB UX3.out.lt)
        have NX4 : Hid (Oct.Own X4 V2.heap.size (.slice A26 n2 c26) ([5] ++ opD kd amt c id)) := Lib.hid (Oct.Own.below NX3.out hB)
        have KX4 : Hid (Blk X4 g28 5 [.int .u8 5]) := Lib.hid (hK)
        clear EX3 PX3 UX3 NX3 hB hg hK
        refine hK.out _ _ (⟨PX4.out, UX4.out⟩) (fun hHeld => ?_)
        clear hK K
        show wpAnyH _ _ _ _ _ _ _ (Act.put _ (some 28) _) _
        simp only [Act.put, L1, L2, L3]
        refine wpAnyH_ready (rs := [18, 21]) (by kernel_rfl) (by simp) ?_
        refine AllReadyH.cons rfl (fun K hK => ?_) (AllReadyH.cons rfl (fun K hK => ?_) AllReadyH.nil)
        ·refine step_val rfl (.string (Oct.txt ([5] ++ opD kd amt c id))) X4 (run_conv_op rfl rfl (Oct.to_string X4 A26 c26 n2 ([5] ++ opD kd amt c id) HN2.out.symm (own_srcI NX4.out))) ?_
         refine hK.out _ _ (⟨PX4.out, UX4.out⟩) (fun hHeld => ?_)
         clear hK K
         show wpAnyH _ _ _ _ _ _ _ (Act.put _ (some 27) _) _
         simp only [Act.put, L1, L2, L3]
         refine wpAnyH_ready (rs := [21]) (by kernel_rfl) (by simp) ?_
         refine AllReadyH.cons rfl (fun K hK => ?_) AllReadyH.nil
         refine step_call rfl 12 #[.tmp 28, .tmp 29] #[35, 32] rfl #[.slice (some ⟨g28, 0, none⟩) 1 1, .agg (opC kd amt c id).toArray] (by simp [Act.eval]) (by go_simp) (rop_any (some ⟨g28, 0, none⟩) 1 1 [5] kd amt id c X4 HOK HW HAI (src_blk KX4.out) (Lib.hid rfl) (by omega)) ?_
         rintro e X6 ⟨v30, rfl, hO, hB⟩
         replace hO := own_base (c := V2.heap.size) hO EX4.out.size
         obtain ⟨A30, c30, hv, _⟩ := Oct.Own.src hO
         rw [HN2.out] at hv
         subst hv
         have EX6 := Lib.hid (EX4.out.trans (hB.mono EX4.out.size))
         have PX6 := Lib.hid (PX4.out.below hB PX4.out.lt)
         have UX6 := Lib.hid (UX4.out.below hB UX4.out.lt)
         have MX6 : Hid (Oct.Own X6 V2.heap.size (.slice A30 n2 c30) ([5] ++ opD kd amt c id)) := Lib.hid (hO)
         clear EX4 PX4 UX4 hB hO
         refine ⟨_, rfl, hK.out _ _ (⟨PX6.out, UX6.out⟩) (fun hHeld => ?_)⟩
         clear hK K
         show wpAnyH _ _ _ _ _ _ _ (Act.put _ (some 30) _) _
         simp only [Act.put, L1, L2, L3]
         refine wpAnyH_ready (rs := [22]) (by kernel_rfl) (by simp) ?_
         refine AllReadyH.cons rfl (fun K hK => ?_) AllReadyH.nil
         refine step_val rfl (.string (Oct.txt ([5] ++ opD kd amt c id))) X6 (run_conv_op rfl rfl (to_string35 X6 A30 c30 n2 ([5] ++ opD kd amt c id) HN2.out.symm (own_srcI MX6.out))) ?_
         refine hK.out _ _ (⟨PX6.out, UX6.out⟩) (fun hHeld => ?_)
         clear hK K
         show wpAnyH _ _ _ _ _ _ _ (Act.put _ (some 31) _) _
         simp only [Act.put, L1, L2, L3]
         refine wpAnyH_take (i := 23) (v := .bool true) rfl (by kernel_rfl) (by kernel_rfl) (by kernel_rfl) (fun _ _ _ h => h) (Or.inl ⟨by rfl, fun w' h => run_eq_str rfl rfl rfl w'⟩) hHeld ?_
         show wpAnyH _ _ _ _ _ _ _ (Act.put _ (some 32) _) _
         simp only [Act.put, L1, L2, L3]
         refine wpAnyH_take (i := 24) (v := .bool true) rfl (by kernel_rfl) (by kernel_rfl) (by kernel_rfl) (fun _ _ _ h => h) (Or.inl ⟨by rfl, by intro w hSw; first | rfl | go_simp⟩) hHeld ?_
         show wpAnyH _ _ _ _ _ _ _ (Act.put _ (some 33) _) _
         simp only [Act.put, L1, L2, L3]
         refine wpAnyH_take (i := 25) (v := .bool true) rfl (by kernel_rfl) (by kernel_rfl) (by kernel_rfl) (fun _ _ _ h => h) (Or.inl ⟨by rfl, fun w _ => by rfl⟩) hHeld ?_
         show wpAnyH _ _ _ _ _ _ _ (Act.put _ (some 34) _) _
         simp only [Act.put, L1, L2, L3]
         refine wpAnyH_take (i := 26) (v := .agg #[.int .u32 ch, .int .u64 rd, .int .u64 m0, .int .u64 m1, .int .u64 t0, .int .u64 t1, .slice As n cp]) rfl (by kernel_rfl) (by kernel_rfl) (by kernel_rfl) (fun _ _ _ h => h) (yieldsIf_load_mid (by rfl) 27 (.tmp 2) rfl gp 0 rfl [.int .u32 ch, .int .u64 rd, .int .u64 m0, .int .u64 m1, .int .u64 t0, .int .u64 t1, .slice As n cp] _ (fun w' h => Blk.all h.1) Tryd.underlying27 rfl info27) hHeld ?_
         show wpAnyH _ _ _ _ _ _ _ (Act.put _ (some 35) _) _
         simp only [Act.put, L1, L2, L3]
         refine wpAnyH_take (i := 30) (v := .agg #[.int .u32 ch, .int .u64 rd, .int .u64 m0, .int .u64 m1, .int .u64 t0, .int .u64 t1, .slice As n cp]) rfl (by kernel_rfl) (by kernel_rfl) (by kernel_rfl) (fun _ _ _ h => h) (yieldsIf_load_mid (by rfl) 27 (.tmp 2) rfl gp 0 rfl [.int .u32 ch, .int .u64 rd, .int .u64 m0, .int .u64 m1, .int .u64 t0, .int .u64 t1, .slice As n cp] _ (fun w' h => Blk.all h.1) Tryd.underlying27 rfl info27) hHeld ?_
         show wpAnyH _ _ _ _ _ _ _ (Act.put _ (some 39) _) _
         simp only [Act.put, L1, L2, L3]
         refine wpAnyH_at (fuel := 7) (L := #[true, true, true, true, true, true, true, true, true, true, true, true, true, true, true, true, true, true, true, true, true, true, true, true, true, true, true, false, false, false, true, false, false, false, false]) (by kernel_rfl) (by kernel_rfl) ?_
         exact tail2 X6 g23 A26 c26 g28 A30 c30 EX6 PX6 UX6
        ·refine step_call rfl 12 #[.tmp 28, .tmp 29] #[35, 32] rfl #[.slice (some ⟨g28, 0, none⟩) 1 1, .agg (opC kd amt c id).toArray] (by simp [Act.eval]) (by go_simp) (rop_any (some ⟨g28, 0, none⟩) 1 1 [5] kd amt id c X4 HOK HW HAI (src_blk KX4.out) (Lib.hid rfl) (by omega)) ?_
         rintro e X5 ⟨v30, rfl, hO, hB⟩
         replace hO := own_base (c := V2.heap.size) hO EX4.out.size
         obtain ⟨A30, c30, hv, _⟩ := Oct.Own.src hO
         rw [HN2.out] at hv
         subst hv
         have EX5 := Lib.hid (EX4.out.trans (hB.mono EX4.out.size))
         have PX5 := Lib.hid (PX4.out.below hB PX4.out.lt)
         have UX5 := Lib.hid (UX4.out.below hB UX4.out.lt)
         have NX5 : Hid (Oct.Own X5 V2.heap.size (.slice A26 n2 c26) ([5] ++ opD kd amt c id)) := Lib.hid (Oct.Own.below NX4.out hB)
         have MX5 : Hid (Oct.Own X5 V2.heap.size (.slice A30 n2 c30) ([5] ++ opD kd amt c id)) := Lib.hid (hO)
         clear EX4 PX4 UX4 NX4 hB hO
         refine ⟨_, rfl, hK.out _ _ (⟨PX5.out, UX5.out⟩) (fun hHeld => ?_)⟩
         clear hK K
         show wpAnyH _ _ _ _ _ _ _ (Act.put _ (some 30) _) _
         simp only [Act.put, L1, L2, L3]
         refine wpAnyH_ready (rs := [18, 22]) (by kernel_rfl) (by simp) ?_
         refine AllReadyH.cons rfl (fun K hK => ?_) (AllReadyH.cons rfl (fun K hK => ?_) AllReadyH.nil)
         ·refine step_val rfl (.string (Oct.txt ([5] ++ opD kd amt c id))) X5 (run_conv_op rfl rfl (Oct.to_string X5 A26 c26 n2 ([5] ++ opD kd amt c id) HN2.out.symm (own_srcI NX5.out))) ?_
          refine hK.out _ _ (⟨PX5.out, UX5.out⟩) (fun hHeld => ?_)
          clear hK K
          show wpAnyH _ _ _ _ _ _ _ (Act.put _ (some 27) _) _
          simp only [Act.put, L1, L2, L3]
          refine wpAnyH_ready (rs := [22]) (by kernel_rfl) (by simp) ?_
          refine AllReadyH.cons rfl (fun K hK => ?_) AllReadyH.nil
          refine step_val rfl (.string (Oct.txt ([5] ++ opD kd amt c id))) X5 (run_conv_op rfl rfl (to_string35 X5 A30 c30 n2 ([5] ++ opD kd amt c id) HN2.out.symm (own_srcI MX5.out))) ?_
          refine hK.out _ _ (⟨PX5.out, UX5.out⟩) (fun hHeld => ?_)
          clear hK K
          show wpAnyH _ _ _ _ _ _ _ (Act.put _ (some 31) _) _
          simp only [Act.put, L1, L2, L3]
          refine wpAnyH_take (i := 23) (v := .bool true) rfl (by kernel_rfl) (by kernel_rfl) (by kernel_rfl) (fun _ _ _ h => h) (Or.inl ⟨by rfl, fun w' h => run_eq_str rfl rfl rfl w'⟩) hHeld ?_
          show wpAnyH _ _ _ _ _ _ _ (Act.put _ (some 32) _) _
          simp only [Act.put, L1, L2, L3]
          refine wpAnyH_take (i := 24) (v := .bool true) rfl (by kernel_rfl) (by kernel_rfl) (by kernel_rfl) (fun _ _ _ h => h) (Or.inl ⟨by rfl, by intro w hSw; first | rfl | go_simp⟩) hHeld ?_
          show wpAnyH _ _ _ _ _ _ _ (Act.put _ (some 33) _) _
          simp only [Act.put, L1, L2, L3]
          refine wpAnyH_take (i := 25) (v := .bool true) rfl (by kernel_rfl) (by kernel_rfl) (by kernel_rfl) (fun _ _ _ h => h) (Or.inl ⟨by rfl, fun w _ => by rfl⟩) hHeld ?_
          show wpAnyH _ _ _ _ _ _ _ (Act.put _ (some 34) _) _
          simp only [Act.put, L1, L2, L3]
          refine wpAnyH_take (i := 26) (v := .agg #[.int .u32 ch, .int .u64 rd, .int .u64 m0, .int .u64 m1, .int .u64 t0, .int .u64 t1, .slice As n cp]) rfl (by kernel_rfl) (by kernel_rfl) (by kernel_rfl) (fun _ _ _ h => h) (yieldsIf_load_mid (by rfl) 27 (.tmp 2) rfl gp 0 rfl [.int .u32 ch, .int .u64 rd, .int .u64 m0, .int .u64 m1, .int .u64 t0, .int .u64 t1, .slice As n cp] _ (fun w' h => Blk.all h.1) Tryd.underlying27 rfl info27) hHeld ?_
          show wpAnyH _ _ _ _ _ _ _ (Act.put _ (some 35) _) _
          simp only [Act.put, L1, L2, L3]
          refine wpAnyH_take (i := 30) (v := .agg #[.int .u32 ch, .int .u64 rd, .int .u64 m0, .int .u64 m1, .int .u64 t0, .int .u64 t1, .slice As n cp]) rfl (by kernel_rfl) (by kernel_rfl) (by kernel_rfl) (fun _ _ _ h => h) (yieldsIf_load_mid (by rfl) 27 (.tmp 2) rfl gp 0 rfl [.int .u32 ch, .int .u64 rd, .int .u64 m0, .int .u64 m1, .int .u64 t0, .int .u64 t1, .slice As n cp] _ (fun w' h => Blk.all h.1) Tryd.underlying27 rfl info27) hHeld ?_
          show wpAnyH _ _ _ _ _ _ _ (Act.put _ (some 39) _) _
          simp only [Act.put, L1, L2, L3]
          refine wpAnyH_at (fuel := 7) (L := #[true, true, true, true, true, true, true, true, true, true, true, true, true, true, true, true, true, true, true, true, true, true, true, true, true, true, true, false, false, false, true, false, false, false, false]) (by kernel_rfl) (by kernel_rfl) ?_
          exact tail2 X5 g23 A26 c26 g28 A30 c30 EX5 PX5 UX5
         ·refine step_val rfl (.string (Oct.txt ([5] ++ opD kd amt c id))) X5 (run_conv_op rfl rfl (to_string35 X5 A30 c30 n2 ([5] ++ opD kd amt c id) HN2.out.symm (own_srcI MX5.out))) ?_
          refine hK.out _ _ (⟨PX5.out, UX5.out⟩) (fun hHeld => ?_)
          clear hK K
          show wpAnyH _ _ _ _ _ _ _ (Act.put _ (some 31) _) _
          simp only [Act.put, L1, L2, L3]
          refine wpAnyH_ready (rs := [18]) (by kernel_rfl) (by simp) ?_
          refine AllReadyH.cons rfl (fun K hK => ?_) AllReadyH.nil
          refine step_val rfl (.string (Oct.txt ([5] ++ opD kd amt c id))) X5 (run_conv_op rfl rfl (Oct.to_string X5 A26 c26 n2 ([5] ++ opD kd amt c id) HN2.out.symm (own_srcI NX5.out))) ?_
          refine hK.out _ _ (⟨PX5.out, UX5.out⟩) (fun hHeld => ?_)
          clear hK K
          show wpAnyH _ _ _ _ _ _ _ (Act.put _ (some 27) _) _
          simp only [Act.put, L1, L2, L3]
          refine wpAnyH_take (i := 23) (v := .bool true) rfl (by kernel_rfl) (by kernel_rfl) (by kernel_rfl) (fun _ _ _ h => h) (Or.inl ⟨by rfl, fun w' h => run_eq_str rfl rfl rfl w'⟩) hHeld ?_
          show wpAnyH _ _ _ _ _ _ _ (Act.put _ (some 32) _) _
          simp only [Act.put, L1, L2, L3]
          refine wpAnyH_take (i := 24) (v := .bool true) rfl (by kernel_rfl) (by kernel_rfl) (by kernel_rfl) (fun _ _ _ h => h) (Or.inl ⟨by rfl, by intro w hSw; first | rfl | go_simp⟩) hHeld ?_
          show wpAnyH _ _ _ _ _ _ _ (Act.put _ (some 33) _) _
          simp only [Act.put, L1, L2, L3]
          refine wpAnyH_take (i := 25) (v := .bool true) rfl (by kernel_rfl) (by kernel_rfl) (by kernel_rfl) (fun _ _ _ h => h) (Or.inl ⟨by rfl, fun w _ => by rfl⟩) hHeld ?_
          show wpAnyH _ _ _ _ _ _ _ (Act.put _ (some 34) _) _
          simp only [Act.put, L1, L2, L3]
          refine wpAnyH_take (i := 26) (v := .agg #[.int .u32 ch, .int .u64 rd, .int .u64 m0, .int .u64 m1, .int .u64 t0, .int .u64 t1, .slice As n cp]) rfl (by kernel_rfl) (by kernel_rfl) (by kernel_rfl) (fun _ _ _ h => h) (yieldsIf_load_mid (by rfl) 27 (.tmp 2) rfl gp 0 rfl [.int .u32 ch, .int .u64 rd, .int .u64 m0, .int .u64 m1, .int .u64 t0, .int .u64 t1, .slice As n cp] _ (fun w' h => Blk.all h.1) Tryd.underlying27 rfl info27) hHeld ?_
          show wpAnyH _ _ _ _ _ _ _ (Act.put _ (some 35) _) _
          simp only [Act.put, L1, L2, L3]
          refine wpAnyH_take (i := 30) (v := .agg #[.int .u32 ch, .int .u64 rd, .int .u64 m0, .int .u64 m1, .int .u64 t0, .int .u64 t1, .slice As n cp]) rfl (by kernel_rfl) (by kernel_rfl) (by kernel_rfl) (fun _ _ _ h => h) (yieldsIf_load_mid (by rfl) 27 (.tmp 2) rfl gp 0 rfl [.int .u32 ch, .int .u64 rd, .int .u64 m0, .int .u64 m1, .int .u64 t0, .int .u64 t1, .slice As n cp] _ (fun w' h => Blk.all h.1) Tryd.underlying27 rfl info27) hHeld ?_
          show wpAnyH _ _ _ _ _ _ _ (Act.put _ (some 39) _) _
          simp only [Act.put, L1, L2, L3]
          refine wpAnyH_at (fuel := 7) (L := #[true, true, true, true, true, true, true, true, true, true, true, true, true, true, true, true, true, true, true, true, true, true, true, true, true, true, true, false, false, false, true, false, false, false, false]) (by kernel_rfl) (by kernel_rfl) ?_
          exact tail2 X5 g23 A26 c26 g28 A30 c30 EX5 PX5 UX5
      ·refine step_lay rfl 35 1 #[(0, .const (.int .u8 5))] rfl #[(0, .int .u8 5)] (by simp [Act.eval]) (.slice (some ⟨X2.heap.size, 0, none⟩) 1 1) (X2.alloc (.cells #[.int .u8 5] 5)) (by kernel_rfl) ?_
       have hB : Below X2.heap.size X2 (X2.alloc (.cells #[.int .u8 5] 5)) := (Below.refl _ _).alloc (Nat.le_refl _) _
       have hK := Blk.new X2 5 [.int .u8 5]
       generalize X2.alloc (.cells #[.int .u8 5] 5) = X3 at hB hK ⊢
       obtain ⟨g28, hg⟩ : ∃ x, X2.heap.size = x := ⟨_, rfl⟩
       have NE : Hid (g23 ≠ g28) := Lib.hid (by have := (World.ownsRow.lt OX2.out g23 rfl).2; omega)
       rw [hg] at hK ⊢
       have EX3 := Lib.hid (EX2.out.trans (hB.mono EX2.out.size))
       have PX3 := Lib.hid (PX2.out.below hB PX2.out.lt)
       have UX3 := Lib.hid (UX2.out.below hB UX2.out.lt)
       have OX3 : Hid (Oct.Own X3 V2.heap.size (.slice (some ⟨g23, 0, none⟩) 1 1) [5]) := Lib.hid (Oct.Own.below OX2.out hB)
       have KX3 : Hid (Blk X3 g28 5 [.int .u8 5]) := Lib.hid (hK)
       clear EX2 PX2 UX2 OX2 hB hg hK
       refine hK.out _ _ (⟨PX3.out, UX3.out⟩) (fun hHeld => ?_)
       clear hK K
       show wpAnyH _ _ _ _ _ _ _ (Act.put _ (some 28) _) _
       simp only [Act.put, L1, L2, L3]
       refine wpAnyH_ready (rs := [17]) (by kernel_rfl) (by simp) ?_
       refine AllReadyH.cons rfl (fun K hK => ?_) AllReadyH.nil
       refine step_call rfl 10 #[.tmp 23, .tmp 25] #[36, 49] rfl #[.slice (some ⟨g23, 0, none⟩) 1 1, .agg (opC kd amt c id).toArray] (by simp [Act.eval]) (by go_simp) (layop_any kd amt id c (.slice (some ⟨g23, 0, none⟩) 1 1) V2.heap.size [5] X3 HOK HW HAI OX3 (Lib.hid EX3.out.size) (Lib.hid (by simp))) ?_
       rintro e X4 ⟨v26, rfl, hO, hG, hL⟩
       rw [opL_eq kd amt id c HAI.out HW.out] at hO
       obtain ⟨A26, c26, hv, _⟩ := Oct.Own.src hO
       rw [HN2.out] at hv
       subst hv
       have EX4 := Lib.hid (EX3.out.trans (Oct.grown_below hG EX3.out.size (fun g hg => (World.ownsRow.lt OX3.out g hg).1)))
       have PX4 := Lib.hid (PX3.out.grown hG (fun e => by have := (World.ownsRow.lt OX3.out gp e.symm).1; have := HLP.out; omega))
       have UX4 := Lib.hid (UX3.out.grown hG (fun e => by have := (World.ownsRow.lt OX3.out go e.symm).1; have := HLU.out; omega))
       have KX4 : Hid (Blk X4 g28 5 [.int .u8 5]) := Lib.hid (KX3.out.grown hG (fun e => by have e' : some g28 = some g23 := e; injection e' with e'; exact NE.out e'.symm))
       have NX4 : Hid (Oct.Own X4 V2.heap.size (.slice A26 n2 c26) ([5] ++ opD kd amt c id)) := Lib.hid (hO)
       clear EX3 PX3 UX3 KX3 hO hG hL OX3
       refine ⟨_, rfl, hK.out _ _ (⟨PX4.out, UX4.out⟩) (fun hHeld => ?_)⟩
       clear hK K
       show wpAnyH _ _ _ _ _ _ _ (Act.put _ (some 26) _) _
       simp only [Act.put, L1, L2, L3]
       refine wpAnyH_ready (rs := [18, 21]) (by kernel_rfl) (by simp) ?_
       refine AllReadyH.cons rfl (fun K hK => ?_) (AllReadyH.cons rfl (fun K hK => ?_) AllReadyH.nil)
       ·refine step_val rfl (.string (Oct.txt ([5] ++ opD kd amt c id))) X4 (run_conv_op rfl rfl (Oct.to_string X4 A26 c26 n2 ([5] ++ opD kd amt c id) HN2.out.symm (own_srcI NX4.out))) ?_
        refine hK.out _ _ (⟨PX4.out, UX4.out⟩) (fun hHeld => ?_)
        clear hK K
        show wpAnyH _ _ _ _ _ _ _ (Act.put _ (some 27) _) _
        simp only [Act.put, L1, L2, L3]
        refine wpAnyH_ready (rs := [21]) (by kernel_rfl) (by simp) ?_
        refine AllReadyH.cons rfl (fun K hK => ?_) AllReadyH.nil
        refine step_call rfl 12 #[.tmp 28, .tmp 29] #[35, 32] rfl #[.slice (some ⟨g28, 0, none⟩) 1 1, .agg (opC kd amt c id).toArray] (by simp [Act.eval]) (by go_simp) (rop_any (some ⟨g28, 0, none⟩) 1 1 [5] kd amt id c X4 HOK HW HAI (src_blk KX4.out) (Lib.hid rfl) (by omega)) ?_
        rintro e X6 ⟨v30, rfl, hO, hB⟩
        replace hO := own_base (c := V2.heap.size) hO EX4.out.size
        obtain ⟨A30, c30, hv, _⟩ := Oct.Own.src hO
        rw [HN2.out] at hv
        subst hv
        have EX6 := Lib.hid (EX4.out.trans (hB.mono EX4.out.size))
        have PX6 := Lib.hid (PX4.out.below hB PX4.out.lt)
        have UX6 := Lib.hid (UX4.out.below hB UX4.out.lt)
        have MX6 : Hid (Oct.Own X6 V2.heap.size (.slice A30 n2 c30) ([5] ++ opD kd amt c id)) := Lib.hid (hO)
        clear EX4 PX4 UX4 hB hO
        refine ⟨_, rfl, hK.out _ _ (⟨PX6.out, UX6.out⟩) (fun hHeld => ?_)⟩
        clear hK K
        show wpAnyH _ _ _ _ _ _ _ (Act.put _ (some 30) _) _
        simp only [Act.put, L1, L2, L3]
        refine wpAnyH_ready (rs := [22]) (by kernel_rfl) (by simp) ?_
        refine AllReadyH.cons rfl (fun K hK => ?_) AllReadyH.nil
        refine step_val rfl (.string (Oct.txt ([5] ++ opD kd amt c id))) X6 (run_conv_op rfl rfl (to_string35 X6 A30 c30 n2 ([5] ++ opD kd amt c id) HN2.out.symm (own_srcI MX6.out))) ?_
        refine hK.out _ _ (⟨PX6.out, UX6.out⟩) (fun hHeld => ?_)
        clear hK K
        show wpAnyH _ _ _ _ _ _ _ (Act.put _ (some 31) _) _
        simp only [Act.put, L1, L2, L3]
        refine wpAnyH_take (i := 23) (v := .bool true) rfl (by kernel_rfl) (by kernel_rfl) (by kernel_rfl) (fun _ _ _ h => h) (Or.inl ⟨by rfl, fun w' h => run_eq_str rfl rfl rfl w'⟩) hHeld ?_
        show wpAnyH _ _ _ _ _ _ _ (Act.put _ (some 32) _) _
        simp only [Act.put, L1, L2, L3]
        refine wpAnyH_take (i := 24) (v := .bool true) rfl (by kernel_rfl) (by kernel_rfl) (by kernel_rfl) (fun _ _ _ h => h) (Or.inl ⟨by rfl, by intro w hSw; first | rfl | go_simp⟩) hHeld ?_
        show wpAnyH _ _ _ _ _ _ _ (Act.put _ (some 33) _) _
        simp only [Act.put, L1, L2, L3]
        refine wpAnyH_take (i := 25) (v := .bool true) rfl (by kernel_rfl) (by kernel_rfl) (by kernel_rfl) (fun _ _ _ h => h) (Or.inl ⟨by rfl, fun w _ => by rfl⟩) hHeld ?_
        show wpAnyH _ _ _ _ _ _ _ (Act.put _ (some 34) _) _
        simp only [Act.put, L1, L2, L3]
        refine wpAnyH_take (i := 26) (v := .agg #[.int .u32 ch, .int .u64 rd, .int .u64 m0, .int .u64 m1, .int .u64 t0, .int .u64 t1, .slice As n cp]) rfl (by kernel_rfl) (by kernel_rfl) (by kernel_rfl) (fun _ _ _ h => h) (yieldsIf_load_mid (by rfl) 27 (.tmp 2) rfl gp 0 rfl [.int .u32 ch, .int .u64 rd, .int .u64 m0, .int .u64 m1, .int .u64 t0, .int .u64 t1, .slice As n cp] _ (fun w' h => Blk.all h.1) Tryd.underlying27 rfl info27) hHeld ?_
        show wpAnyH _ _ _ _ _ _ _ (Act.put _ (some 35) _) _
        simp only [Act.put, L1, L2, L3]
        refine wpAnyH_take (i := 30) (v := .agg #[.int .u32 ch, .int .u64 rd, .int .u64 m0, .int .u64 m1, .int .u64 t0, .int .u64 t1, .slice As n cp]) rfl (by kernel_rfl) (by kernel_rfl) (by kernel_rfl) (fun _ _ _ h => h) (yieldsIf_load_mid (by rfl) 27 (.tmp 2) rfl gp 0 rfl [.int .u32 ch, .int .u64 rd, .int .u64 m0, .int .u64 m1, .int .u64 t0, .int .u64 t1, .slice As n cp] _ (fun w' h => Blk.all h.1) Tryd.underlying27 rfl info27) hHeld ?_
        show wpAnyH _ _ _ _ _ _ _ (Act.put _ (some 39) _) _
        simp only [Act.put, L1, L2, L3]
        refine wpAnyH_at (fuel := 7) (L := #[true, true, true, true, true, true, true, true, true, true, true, true, true, true, true, true, true, true, true, true, true, true, true, true, true, true, true, false, false, false, true, false, false, false, false]) (by kernel_rfl) (by kernel_rfl) ?_
        exact tail2 X6 g23 A26 c26 g28 A30 c30 EX6 PX6 UX6
       ·refine step_call rfl 12 #[.tmp 28, .tmp 29] #[35, 32] rfl #[.slice (some ⟨g28, 0, none⟩) 1 1, .agg (opC kd amt c id).toArray] (by simp [Act.eval]) (by go_simp) (rop_any (some ⟨g28, 0, none⟩) 1 1 [5] kd amt id c X4 HOK HW HAI (src_blk KX4.out) (Lib.hid rfl) (by omega)) ?_
        rintro e X5 ⟨v30, rfl, hO, hB⟩
        replace hO := own_base (c := V2.heap.size) hO EX4.out.size
        obtain ⟨A30, c30, hv, _⟩ := Oct.Own.src hO
        rw [HN2.out] at hv
        subst hv
        have EX5 := Lib.hid (EX4.out.trans (hB.mono EX4.out.size))
        have PX5 := Lib.hid (PX4.out.below hB PX4.out.lt)
        have UX5 := Lib.hid (UX4.out.below hB UX4.out.lt)
        have NX5 : Hid (Oct.Own X5 V2.heap.size (.slice A26 n2 c26) ([5] ++ opD kd amt c id)) := Lib.hid (Oct.Own.below NX4.out hB)
        have MX5 : Hid (Oct.Own X5 V2.heap.size (.slice A30 n2 c30) ([5] ++ opD kd amt c id)) := Lib.hid (hO)
        clear EX4 PX4 UX4 NX4 hB hO
        refine ⟨_, rfl, hK.out _ _ (⟨PX5.out, UX5.out⟩) (fun hHeld => ?_)⟩
        clear hK K
        show wpAnyH _ _ _ _ _ _ _ (Act.put _ (some 30) _) _
        simp only [Act.put, L1, L2, L3]
        refine wpAnyH_ready (rs := [18, 22]) (by kernel_rfl) (by simp) ?_
        refine AllReadyH.cons rfl (fun K hK => ?_) (AllReadyH.cons rfl (fun K hK => ?_) AllReadyH.nil)
        ·refine step_val rfl (.string (Oct.txt ([5] ++ opD kd amt c id))) X5 (run_conv_op rfl rfl (Oct.to_string X5 A26 c26 n2 ([5] ++ opD kd amt c id) HN2.out.symm (own_srcI NX5.out))) ?_
         refine hK.out _ _ (⟨PX5.out, UX5.out⟩) (fun hHeld => ?_)
         clear hK K
         show wpAnyH _ _ _ _ _ _ _ (Act.put _ (some 27) _) _
         simp only [Act.put, L1, L2, L3]
         refine wpAnyH_ready (rs := [22]) (by kernel_rfl) (by simp) ?_
         refine AllReadyH.cons rfl (fun K hK => ?_) AllReadyH.nil
         refine step_val rfl (.string (Oct.txt ([5] ++ opD kd amt c id))) X5 (run_conv_op rfl rfl (to_string35 X5 A30 c30 n2 ([5] ++ opD kd amt c id) HN2.out.symm (own_srcI MX5.out))) ?_
         refine hK.out _ _ (⟨PX5.out, UX5.out⟩) (fun hHeld => ?_)
         clear hK K
         show wpAnyH _ _ _ _ _ _ _ (Act.put _ (some 31) _) _
         simp only [Act.put, L1, L2, L3]
         refine wpAnyH_take (i := 23) (v := .bool true) rfl (by kernel_rfl) (by kernel_rfl) (by kernel_rfl) (fun _ _ _ h => h) (Or.inl ⟨by rfl, fun w' h => run_eq_str rfl rfl rfl w'⟩) hHeld ?_
         show wpAnyH _ _ _ _ _ _ _ (Act.put _ (some 32) _) _
         simp only [Act.put, L1, L2, L3]
         refine wpAnyH_take (i := 24) (v := .bool true) rfl (by kernel_rfl) (by kernel_rfl) (by kernel_rfl) (fun _ _ _ h => h) (Or.inl ⟨by rfl, by intro w hSw; first | rfl | go_simp⟩) hHeld ?_
         show wpAnyH _ _ _ _ _ _ _ (Act.put _ (some 33) _) _
         simp only [Act.put, L1, L2, L3]
         refine wpAnyH_take (i := 25) (v := .bool true) rfl (by kernel_rfl) (by kernel_rfl) (by kernel_rfl) (fun _ _ _ h => h) (Or.inl ⟨by rfl, fun w _ => by rfl⟩) hHeld ?_
         show wpAnyH _ _ _ _ _ _ _ (Act.put _ (some 34) _) _
         simp only [Act.put, L1, L2, L3]
         refine wpAnyH_take (i := 26) (v := .agg #[.int .u32 ch, .int .u64 rd, .int .u64 m0, .int .u64 m1, .int .u64 t0, .int .u64 t1, .slice As n cp]) rfl (by kernel_rfl) (by kernel_rfl) (by kernel_rfl) (fun _ _ _ h => h) (yieldsIf_load_mid (by rfl) 27 (.tmp 2) rfl gp 0 rfl [.int .u32 ch, .int .u64 rd, .int .u64 m0, .int .u64 m1, .int .u64 t0, .int .u64 t1, .slice As n cp] _ (fun w' h => Blk.all h.1) Tryd.underlying27 rfl info27) hHeld ?_
         show wpAnyH _ _ _ _ _ _ _ (Act.put _ (some 35) _) _
         simp only [Act.put, L1, L2, L3]
         refine wpAnyH_take (i := 30) (v := .agg #[.int .u32 ch, .int .u64 rd, .int .u64 m0, .int .u64 m1, .int .u64 t0, .int .u64 t1, .slice As n cp]) rfl (by kernel_rfl) (by kernel_rfl) (by kernel_rfl) (fun _ _ _ h => h) (yieldsIf_load_mid (by rfl) 27 (.tmp 2) rfl gp 0 rfl [.int .u32 ch, .int .u64 rd, .int .u64 m0, .int .u64 m1, .int .u64 t0, .int .u64 t1, .slice As n cp] _ (fun w' h => Blk.all h.1) Tryd.underlying27 rfl info27) hHeld ?_
         show wpAnyH _ _ _ _ _ _ _ (Act.put _ (some 39) _) _
         simp only [Act.put, L1, L2, L3]
         refine wpAnyH_at (fuel := 7) (L := #[true, true, true, true, true, true, true, true, true, true, true, true, true, true, true, true, true, true, true, true, true, true, true, true, true, true, true, false, false, false, true, false, false, false, false]) (by kernel_rfl) (by kernel_rfl) ?_
         exact tail2 X5 g23 A26 c26 g28 A30 c30 EX5 PX5 UX5
        ·refine step_val rfl (.string (Oct.txt ([5] ++ opD kd amt c id))) X5 (run_conv_op rfl rfl (to_string35 X5 A30 c30 n2 ([5] ++ opD kd amt c id) HN2.out.symm (own_srcI MX5.out))) ?_
         refine hK.out _ _ (⟨PX5.out, UX5.out⟩) (fun hHeld => ?_)
         clear hK K
         show wpAnyH _ _ _ _ _ _ _ (Act.put _ (some 31) _) _
         simp only [Act.put, L1, L2, L3]
         refine wpAnyH_ready (rs := [18]) (by kernel_rfl) (by simp) ?_
         refine AllReadyH.cons rfl (fun K hK => ?_) AllReadyH.nil
         refine step_val rfl (.string (Oct.txt ([5] ++ opD kd amt c id))) X5 (run_conv_op rfl rfl (Oct.to_string X5 A26 c26 n2 ([5] ++ opD kd amt c id) HN2.out.symm (own_srcI NX5.out))) ?_
         refine hK.out _ _ (⟨PX5.out, UX5.out⟩) (fun hHeld => ?_)
         clear hK K
         show wpAnyH _ _ _ _ _ _ _ (Act.put _ (some 27) _) _
         simp only [Act.put, L1, L2, L3]
         refine wpAnyH_take (i := 23) (v := .bool true) rfl (by kernel_rfl) (by kernel_rfl) (by kernel_rfl) (fun _ _ _ h => h) (Or.inl ⟨by rfl, fun w' h => run_eq_str rfl rfl rfl w'⟩) hHeld ?_
         show wpAnyH _ _ _ _ _ _ _ (Act.put _ (some 32) _) _
         simp only [Act.put, L1, L2, L3]
         refine wpAnyH_take (i := 24) (v := .bool true) rfl (by kernel_rfl) (by kernel_rfl) (by kernel_rfl) (fun _ _ _ h => h) (Or.inl ⟨by rfl, by intro w hSw; first | rfl | go_simp⟩) hHeld ?_
         show wpAnyH _ _ _ _ _ _ _ (Act.put _ (some 33) _) _
         simp only [Act.put, L1, L2, L3]
         refine wpAnyH_take (i := 25) (v := .bool true) rfl (by kernel_rfl) (by kernel_rfl) (by kernel_rfl) (fun _ _ _ h => h) (Or.inl ⟨by rfl, fun w _ => by rfl⟩) hHeld ?_
         show wpAnyH _ _ _ _ _ _ _ (Act.put _ (some 34) _) _
         simp only [Act.put, L1, L2, L3]
         refine wpAnyH_take (i := 26) (v := .agg #[.int .u32 ch, .int .u64 rd, .int .u64 m0, .int .u64 m1, .int .u64 t0, .int .u64 t1, .slice As n cp]) rfl (by kernel_rfl) (by kernel_rfl) (by kernel_rfl) (fun _ _ _ h => h) (yieldsIf_load_mid (by rfl) 27 (.tmp 2) rfl gp 0 rfl [.int .u32 ch, .int .u64 rd, .int .u64 m0, .int .u64 m1, .int .u64 t0, .int .u64 t1, .slice As n cp] _ (fun w' h => Blk.all h.1) Tryd.underlying27 rfl info27) hHeld ?_
         show wpAnyH _ _ _ _ _ _ _ (Act.put _ (some 35) _) _
         simp only [Act.put, L1, L2, L3]
         refine wpAnyH_take (i := 30) (v := .agg #[.int .u32 ch, .int .u64 rd, .int .u64 m0, .int .u64 m1, .int .u64 t0, .int .u64 t1, .slice As n cp]) rfl (by kernel_rfl) (by kernel_rfl) (by kernel_rfl) (fun _ _ _ h => h) (yieldsIf_load_mid (by rfl) 27 (.tmp 2) rfl gp 0 rfl [.int .u32 ch, .int .u64 rd, .int .u64 m0, .int .u64 m1, .int .u64 t0, .int .u64 t1, .slice As n cp] _ (fun w' h => Blk.all h.1) Tryd.underlying27 rfl info27) hHeld ?_
         show wpAnyH _ _ _ _ _ _ _ (Act.put _ (some 39) _) _
         simp only [Act.put, L1, L2, L3]
         refine wpAnyH_at (fuel := 7) (L := #[true, true, true, true, true, true, true, true, true, true, true, true, true, true, true, true, true, true, true, true, true, true, true, true, true, true, true, false, false, false, true, false, false, false, false]) (by kernel_rfl) (by kernel_rfl) ?_
         exact tail2 X5 g23 A26 c26 g28 A30 c30 EX5 PX5 UX5
     ·refine step_lay rfl 35 1 #[(0, .const (.int .u8 5))] rfl #[(0, .int .u8 5)] (by simp [Act.eval]) (.slice (some ⟨X1.heap.size, 0, none⟩) 1 1) (X1.alloc (.cells #[.int .u8 5] 5)) (by kernel_rfl) ?_
      have hB : Below X1.heap.size X1 (X1.alloc (.cells #[.int .u8 5] 5)) := (Below.refl _ _).alloc (Nat.le_refl _) _
      have hK := Blk.new X1 5 [.int .u8 5]
      generalize X1.alloc (.cells #[.int .u8 5] 5) = X2 at hB hK ⊢
      obtain ⟨g28, hg⟩ : ∃ x, X1.heap.size = x := ⟨_, rfl⟩
      have NE : Hid (g23 ≠ g28) := Lib.hid (by have := (World.ownsRow.lt OX1.out g23 rfl).2; omega)
      rw [hg] at hK ⊢
      have EX2 := Lib.hid (EX1.out.trans (hB.mono EX1.out.size))
      have PX2 := Lib.hid (PX1.out.below hB PX1.out.lt)
      have UX2 := Lib.hid (UX1.out.below hB UX1.out.lt)
      have OX2 : Hid (Oct.Own X2 V2.heap.size (.slice (some ⟨g23, 0, none⟩) 1 1) [5]) := Lib.hid (Oct.Own.below OX1.out hB)
      have KX2 : Hid (Blk X2 g28 5 [.int .u8 5]) := Lib.hid (hK)
      clear EX1 PX1 UX1 OX1 hB hg hK
      refine hK.out _ _ (⟨PX2.out, UX2.out⟩) (fun hHeld => ?_)
      clear hK K
      show wpAnyH _ _ _ _ _ _ _ (Act.put _ (some 28) _) _
      simp only [Act.put, L1, L2, L3]
      refine wpAnyH_ready (rs := [16]) (by kernel_rfl) (by simp) ?_
      refine AllReadyH.cons rfl (fun K hK => ?_) AllReadyH.nil
      refine step_call rfl 11 #[.tmp 24] #[32] rfl #[.agg (opC kd amt c id).toArray] (by simp [Act.eval]) (by go_simp) (lop_any kd amt id c X2 HOK) ?_
      rintro e X3 ⟨rfl, hB⟩
      have EX3 := Lib.hid (EX2.out.trans (hB.mono EX2.out.size))
      have PX3 := Lib.hid (PX2.out.below hB PX2.out.lt)
      have UX3 := Lib.hid (UX2.out.below hB UX2.out.lt)
      have OX3 : Hid (Oct.Own X3 V2.heap.size (.slice (some ⟨g23, 0, none⟩) 1 1) [5]) := Lib.hid (Oct.Own.below OX2.out hB)
      have KX3 : Hid (Blk X3 g28 5 [.int .u8 5]) := Lib.hid (KX2.out.below hB KX2.out.lt)
      clear EX2 PX2 UX2 OX2 KX2 hB
      refine ⟨_, rfl, hK.out _ _ (⟨PX3.out, UX3.out⟩) (fun hHeld => ?_)⟩
      clear hK K
      show wpAnyH _ _ _ _ _ _ _ (Act.put _ (some 25) _) _
      simp only [Act.put, L1, L2, L3]
      refine wpAnyH_ready (rs := [17]) (by kernel_rfl) (by simp) ?_
      refine AllReadyH.cons rfl (fun K hK => ?_) AllReadyH.nil
      refine step_call rfl 10 #[.tmp 23, .tmp 25] #[36, 49] rfl #[.slice (some ⟨g23, 0, none⟩) 1 1, .agg (opC kd amt c id).toArray] (by simp [Act.eval]) (by go_simp) (layop_any kd amt id c (.slice (some ⟨g23, 0, none⟩) 1 1) V2.heap.size [5] X3 HOK HW HAI OX3 (Lib.hid EX3.out.size) (Lib.hid (by simp))) ?_
      rintro e X4 ⟨v26, rfl, hO, hG, hL⟩
      rw [opL_eq kd amt id c HAI.out HW.out] at hO
      obtain ⟨A26, c26, hv, _⟩ := Oct.Own.src hO
      rw [HN2.out] at hv
      subst hv
      have EX4 := Lib.hid (EX3.out.trans (Oct.grown_below hG EX3.out.size (fun g hg => (World.ownsRow.lt OX3.out g hg).1)))
      have PX4 := Lib.hid (PX3.out.grown hG (fun e => by have := (World.ownsRow.lt OX3.out gp e.symm).1; have := HLP.out; omega))
      have UX4 := Lib.hid (UX3.out.grown hG (fun e => by have := (World.ownsRow.lt OX3.out go e.symm).1; have := HLU.out; omega))
      have KX4 : Hid (Blk X4 g28 5 [.int .u8 5]) := Lib.hid (KX3.out.grown hG (fun e => by have e' : some g28 = some g23 := e; injection e' with e'; exact NE.out e'.symm))
      have NX4 : Hid (Oct.Own X4 V2.heap.size (.slice A26 n2 c26) ([5] ++ opD kd amt c id)) := Lib.hid (hO)
      clear EX3 PX3 UX3 KX3 hO hG hL OX3
      refine ⟨_, rfl, hK.out _ _ (⟨PX4.out, UX4.out⟩) (fun hHeld => ?_)⟩
      clear hK K
      show wpAnyH _ _ _ _ _ _ _ (Act.put _ (some 26) _) _
      simp only [Act.put, L1, L2, L3]
      refine wpAnyH_ready (rs := [18, 21]) (by kernel_rfl) (by simp) ?_
      refine AllReadyH.cons rfl (fun K hK => ?_) (AllReadyH.cons rfl (fun K hK => ?_) AllReadyH.nil)
      ·refine step_val rfl (.string (Oct.txt ([5] ++ opD kd amt c id))) X4 (run_conv_op rfl rfl (Oct.to_string X4 A26 c26 n2 ([5] ++ opD kd amt c id) HN2.out.symm (own_srcI NX4.out))) ?_
       refine hK.out _ _ (⟨PX4.out, UX4.out⟩) (fun hHeld => ?_)
       clear hK K
       show wpAnyH _ _ _ _ _ _ _ (Act.put _ (some 27) _) _
       simp only [Act.put, L1, L2, L3]
       refine wpAnyH_ready (rs := [21]) (by kernel_rfl) (by simp) ?_
       refine AllReadyH.cons rfl (fun K hK => ?_) AllReadyH.nil
       refine step_call rfl 12 #[.tmp 28, .tmp 29] #[35, 32] rfl #[.slice (some ⟨g28, 0, none⟩) 1 1, .agg (opC kd amt c id).toArray] (by simp [Act.eval]) (by go_simp) (rop_any (some ⟨g28, 0, none⟩) 1 1 [5] kd amt id c X4 HOK HW HAI (src_blk KX4.out) (Lib.hid rfl) (by omega)) ?_
       rintro e X6 ⟨v30, rfl, hO, hB⟩
       replace hO := own_base (c := V2.heap.size) hO EX4.out.size
       obtain ⟨A30, c30, hv, _⟩ := Oct.Own.src hO
       rw [HN2.out] at hv
       subst hv
       have EX6 := Lib.hid (EX4.out.trans (hB.mono EX4.out.size))
       have PX6 := Lib.hid (PX4.out.below hB PX4.out.lt)
       have UX6 := Lib.hid (UX4.out.below hB UX4.out.lt)
       have MX6 : Hid (Oct.Own X6 V2.heap.size (.slice A30 n2 c30) ([5] ++ opD kd amt c id)) := Lib.hid (hO)
       clear EX4 PX4 UX4 hB hO
       refine ⟨_, rfl, hK.out _ _ (⟨PX6.out, UX6.out⟩) (fun hHeld => ?_)⟩
       clear hK K
       show wpAnyH _ _ _ _ _ _ _ (Act.put _ (some 30) _) _
       simp only [Act.put, L1, L2, L3]
       refine wpAnyH_ready (rs := [22]) (by kernel_rfl) (by simp) ?_
       refine AllReadyH.cons rfl (fun K hK => ?_) AllReadyH.nil
       refine step_val rfl (.string (Oct.txt ([5] ++ opD kd amt c id))) X6 (run_conv_op rfl rfl (to_string35 X6 A30 c30 n2 ([5] ++ opD kd amt c id) HN2.out.symm (own_srcI MX6.out))) ?_
       refine hK.out _ _ (⟨PX6.out, UX6.out⟩) (fun hHeld => ?_)
       clear hK K
       show wpAnyH _ _ _ _ _ _ _ (Act.put _ (some 31) _) _
       simp only [Act.put, L1, L2, L3]
       refine wpAnyH_take (i := 23) (v := .bool true) rfl (by kernel_rfl) (by kernel_rfl) (by kernel_rfl) (fun _ _ _ h => h) (Or.inl ⟨by rfl, fun w' h => run_eq_str rfl rfl rfl w'⟩) hHeld ?_
       show wpAnyH _ _ _ _ _ _ _ (Act.put _ (some 32) _) _
       simp only [Act.put, L1, L2, L3]
       refine wpAnyH_take (i := 24) (v := .bool true) rfl (by kernel_rfl) (by kernel_rfl) (by kernel_rfl) (fun _ _ _ h => h) (Or.inl ⟨by rfl, by intro w hSw; first | rfl | go_simp⟩) hHeld ?_
       show wpAnyH _ _ _ _ _ _ _ (Act.put _ (some 33) _) _
       simp only [Act.put, L1, L2, L3]
       refine wpAnyH_take (i := 25) (v := .bool true) rfl (by kernel_rfl) (by kernel_rfl) (by kernel_rfl) (fun _ _ _ h => h) (Or.inl ⟨by rfl, fun w _ => by rfl⟩) hHeld ?_
       show wpAnyH _ _ _ _ _ _ _ (Act.put _ (some 34) _) _
       simp only [Act.put, L1, L2, L3]
       refine wpAnyH_take (i := 26) (v := .agg #[.int .u32 ch, .int .u64 rd, .int .u64 m0, .int .u64 m1, .int .u64 t0, .int .u64 t1, .slice As n cp]) rfl (by kernel_rfl) (by kernel_rfl) (by kernel_rfl) (fun _ _ _ h => h) (yieldsIf_load_mid (by rfl) 27 (.tmp 2) rfl gp 0 rfl [.int .u32 ch, .int .u64 rd, .int .u64 m0, .int .u64 m1, .int .u64 t0, .int .u64 t1, .slice As n cp] _ (fun w' h => Blk.all h.1) Tryd.underlying27 rfl info27) hHeld ?_
       show wpAnyH _ _ _ _ _ _ _ (Act.put _ (some 35) _) _
       simp only [Act.put, L1, L2, L3]
       refine wpAnyH_take (i := 30) (v := .agg #[.int .u32 ch, .int .u64 rd, .int .u64 m0, .int .u64 m1, .int .u64 t0, .int .u64 t1, .slice As n cp]) rfl (by kernel_rfl) (by kernel_rfl) (by kernel_rfl) (fun _ _ _ h => h) (yieldsIf_load_mid (by rfl) 27 (.tmp 2) rfl gp 0 rfl [.int .u32 ch, .int .u64 rd, .int .u64 m0, .int .u64 m1, .int .u64 t0, .int .u64 t1, .slice As n cp] _ (fun w' h => Blk.all h.1) Tryd.underlying27 rfl info27) hHeld ?_
       show wpAnyH _ _ _ _ _ _ _ (Act.put _ (some 39) _) _
       simp only [Act.put, L1, L2, L3]
       refine wpAnyH_at (fuel := 7) (L := #[true, true, true, true, true, true, true, true, true, true, true, true, true, true, true, true, true, true, true, true, true, true, true, true, true, true, true, false, false, false, true, false, false, false, false]) (by kernel_rfl) (by kernel_rfl) ?_
       exact tail2 X6 g23 A26 c26 g28 A30 c30 EX6 PX6 UX6
      ·refine step_call rfl 12 #[.tmp 28, .tmp 29] #[35, 32] rfl #[.slice (some ⟨g28, 0, none⟩) 1 1, .agg (opC kd amt c id).toArray] (by simp [Act.eval]) (by go_simp) (rop_any (some ⟨g28, 0, none⟩) 1 1 [5] kd amt id c X4 HOK HW HAI (src_blk KX4.out) (Lib.hid rfl) (by omega)) ?_
       rintro e X5 ⟨v30, rfl, hO, hB⟩
       replace hO := own_base (c := V2.heap.size) hO EX4.out.size
       obtain ⟨A30, c30, hv, _⟩ := Oct.Own.src hO
       rw [HN2.out] at hv
       subst hv
       have EX5 := Lib.hid (EX4.out.trans (hB.mono EX4.out.size))
       have PX5 := Lib.hid (PX4.out.below hB PX4.out.lt)
       have UX5 := Lib.hid (UX4.out.below hB UX4.out.lt)
       have NX5 : Hid (Oct.Own X5 V2.heap.size (.slice A26 n2 c26) ([5] ++ opD kd amt c id)) := Lib.hid (Oct.Own.below NX4.out hB)
       have MX5 : Hid (Oct.Own X5 V2.heap.size (.slice A30 n2 c30) ([5] ++ opD kd amt c id)) := Lib.hid (hO)
       clear EX4 PX4 UX4 NX4 hB hO
       refine ⟨_, rfl, hK.out _ _ (⟨PX5.out, UX5.out⟩) (fun hHeld => ?_)⟩
       clear hK K
       show wpAnyH _ _ _ _ _ _ _ (Act.put _ (some 30) _) _
       simp only [Act.put, L1, L2, L3]
       refine wpAnyH_ready (rs := [18, 22]) (by kernel_rfl) (by simp) ?_
       refine AllReadyH.cons rfl (fun K hK => ?_) (AllReadyH.cons rfl (fun K hK => ?_) AllReadyH.nil)
       ·refine step_val rfl (.string (Oct.txt ([5] ++ opD kd amt c id))) X5 (run_conv_op rfl rfl (Oct.to_string X5 A26 c26 n2 ([5] ++ opD kd amt c id) HN2.out.symm (own_srcI NX5.out))) ?_
        refine hK.out _ _ (⟨PX5.out, UX5.out⟩) (fun hHeld => ?_)
        clear hK K
        show wpAnyH _ _ _ _ _ _ _ (Act.put _ (some 27) _) _
        simp only [Act.put, L1, L2, L3]
        refine wpAnyH_ready (rs := [22]) (by kernel_rfl) (by simp) ?_
        refine AllReadyH.cons rfl (fun K hK => ?_) AllReadyH.nil
        refine step_val rfl (.string (Oct.txt ([5] ++ opD kd amt c id))) X5 (run_conv_op rfl rfl (to_string35 X5 A30 c30 n2 ([5] ++ opD kd amt c id) HN2.out.symm (own_srcI MX5.out))) ?_
        refine hK.out _ _ (⟨PX5.out, UX5.out⟩) (fun hHeld => ?_)
        clear hK K
        show wpAnyH _ _ _ _ _ _ _ (Act.put _ (some 31) _) _
        simp only [Act.put, L1, L2, L3]
        refine wpAnyH_take (i := 23) (v := .bool true) rfl (by kernel_rfl) (by kernel_rfl) (by kernel_rfl) (fun _ _ _ h => h) (Or.inl ⟨by rfl, fun w' h => run_eq_str rfl rfl rfl w'⟩) hHeld ?_
        show wpAnyH _ _ _ _ _ _ _ (Act.put _ (some 32) _) _
        simp only [Act.put, L1, L2, L3]
        refine wpAnyH_take (i := 24) (v := .bool true) rfl (by kernel_rfl) (by kernel_rfl) (by kernel_rfl) (fun _ _ _ h => h) (Or.inl ⟨by rfl, by intro w hSw; first | rfl | go_simp⟩) hHeld ?_
        show wpAnyH _ _ _ _ _ _ _ (Act.put _ (some 33) _) _
        simp only [Act.put, L1, L2, L3]
        refine wpAnyH_take (i := 25) (v := .bool true) rfl (by kernel_rfl) (by kernel_rfl) (by kernel_rfl) (fun _ _ _ h => h) (Or.inl ⟨by rfl, fun w _ => by rfl⟩) hHeld ?_
        show wpAnyH _ _ _ _ _ _ _ (Act.put _ (some 34) _) _
        simp only [Act.put, L1, L2, L3]
        refine wpAnyH_take (i := 26) (v := .agg #[.int .u32 ch, .int .u64 rd, .int .u64 m0, .int .u64 m1, .int .u64 t0, .int .u64 t1, .slice As n cp]) rfl (by kernel_rfl) (by kernel_rfl) (by kernel_rfl) (fun _ _ _ h => h) (yieldsIf_load_mid (by rfl) 27 (.tmp 2) rfl gp 0 rfl [.int .u32 ch, .int .u64 rd, .int .u64 m0, .int .u64 m1, .int .u64 t0, .int .u64 t1, .slice As n cp] _ (fun w' h => Blk.all h.1) Tryd.underlying27 rfl info27) hHeld ?_
        show wpAnyH _ _ _ _ _ _ _ (Act.put _ (some 35) _) _
        simp only [Act.put, L1, L2, L3]
        refine wpAnyH_take (i := 30) (v := .agg #[.int .u32 ch, .int .u64 rd, .int .u64 m0, .int .u64 m1, .int .u64 t0, .int .u64 t1, .slice As n cp]) rfl (by kernel_rfl) (by kernel_rfl) (by kernel_rfl) (fun _ _ _ h => h) (yieldsIf_load_mid (by rfl) 27 (.tmp 2) rfl gp 0 rfl [.int .u32 ch, .int .u64 rd, .int .u64 m0, .int .u64 m1, .int .u64 t0, .int .u64 t1, .slice As n cp] _ (fun w' h => Blk.all h.1) Tryd.underlying27 rfl info27) hHeld ?_
        show wpAnyH _ _ _ _ _ _ _ (Act.put _ (some 39) _) _
        simp only [Act.put, L1, L2, L3]
        refine wpAnyH_at (fuel := 7) (L := #[true, true, true, true, true, true, true, true, true, true, true, true, true, true, true, true, true, true, true, true, true, true, true, true, true, true, true, false, false, false, true, false, false, false, false]) (by kernel_rfl) (by kernel_rfl) ?_
        exact tail2 X5 g23 A26 c26 g28 A30 c30 EX5 PX5 UX5
       ·refine step_val rfl (.string (Oct.txt ([5] ++ opD kd amt c id))) X5 (run_conv_op rfl rfl (to_string35 X5 A30 c30 n2 ([5] ++ opD kd amt c id) HN2.out.symm (own_srcI MX5.out))) ?_
        refine hK.out _ _ (⟨PX5.out, UX5.out⟩) (fun hHeld => ?_)
        clear hK K
        show wpAnyH _ _ _ _ _ _ _ (Act.put _ (some 31) _) _
        simp only [Act.put, L1, L2, L3]
        refine wpAnyH_ready (rs := [18]) (by kernel_rfl) (by simp) ?_
        refine AllReadyH.cons rfl (fun K hK => ?_) AllReadyH.nil
        refine step_val rfl (.string (Oct.txt ([5] ++ opD kd amt c id))) X5 (run_conv_op rfl rfl (Oct.to_string X5 A26 c26 n2 ([5] ++ opD kd amt c id) HN2.out.symm (own_srcI NX5.out))) ?_
        refine hK.out _ _ (⟨PX5.out, UX5.out⟩) (fun hHeld => ?_)
        clear hK K
        show wpAnyH _ _ _ _ _ _ _ (Act.put _ (some 27) _) _
        simp only [Act.put, L1, L2, L3]
        refine wpAnyH_take (i := 23) (v := .bool true) rfl (by kernel_rfl) (by kernel_rfl) (by kernel_rfl) (fun _ _ _ h => h) (Or.inl ⟨by rfl, fun w' h => run_eq_str rfl rfl rfl w'⟩) hHeld ?_
        show wpAnyH _ _ _ _ _ _ _ (Act.put _ (some 32) _) _
        simp only [Act.put, L1, L2, L3]
        refine wpAnyH_take (i := 24) (v := .bool true) rfl (by kernel_rfl) (by kernel_rfl) (by kernel_rfl) (fun _ _ _ h => h) (Or.inl ⟨by rfl, by intro w hSw; first | rfl | go_simp⟩) hHeld ?_
        show wpAnyH _ _ _ _ _ _ _ (Act.put _ (some 33) _) _
        simp only [Act.put, L1, L2, L3]
        refine wpAnyH_take (i := 25) (v := .bool true) rfl (by kernel_rfl) (by kernel_rfl) (by kernel_rfl) (fun _ _ _ h => h) (Or.inl ⟨by rfl, fun w _ => by rfl⟩) hHeld ?_
        show wpAnyH _ _ _ _ _ _ _ (Act.put _ (some 34) _) _
        simp only [Act.put, L1, L2, L3]
        refine wpAnyH_take (i := 26) (v := .agg #[.int .u32 ch, .int .u64 rd, .int .u64 m0, .int .u64 m1, .int .u64 t0, .int .u64 t1, .slice As n cp]) rfl (by kernel_rfl) (by kernel_rfl) (by kernel_rfl) (fun _ _ _ h => h) (yieldsIf_load_mid (by rfl) 27 (.tmp 2) rfl gp 0 rfl [.int .u32 ch, .int .u64 rd, .int .u64 m0, .int .u64 m1, .int .u64 t0, .int .u64 t1, .slice As n cp] _ (fun w' h => Blk.all h.1) Tryd.underlying27 rfl info27) hHeld ?_
        show wpAnyH _ _ _ _ _ _ _ (Act.put _ (some 35) _) _
        simp only [Act.put, L1, L2, L3]
        refine wpAnyH_take (i := 30) (v := .agg #[.int .u32 ch, .int .u64 rd, .int .u64 m0, .int .u64 m1, .int .u64 t0, .int .u64 t1, .slice As n cp]) rfl (by kernel_rfl) (by kernel_rfl) (by kernel_rfl) (fun _ _ _ h => h) (yieldsIf_load_mid (by rfl) 27 (.tmp 2) rfl gp 0 rfl [.int .u32 ch, .int .u64 rd, .int .u64 m0, .int .u64 m1, .int .u64 t0, .int .u64 t1, .slice As n cp] _ (fun w' h => Blk.all h.1) Tryd.underlying27 rfl info27) hHeld ?_
        show wpAnyH _ _ _ _ _ _ _ (Act.put _ (some 39) _) _
        simp only [Act.put, L1, L2, L3]
        refine wpAnyH_at (fuel := 7) (L := #[true, true, true, true, true, true, true, true, true, true, true, true, true, true, true, true, true, true, true, true, true, true, true, true, true, true, true, false, false, false, true, false, false, false, false]) (by kernel_rfl) (by kernel_rfl) ?_
        exact tail2 X5 g23 A26 c26 g28 A30 c30 EX5 PX5 UX5
    ·refine step_call rfl 11 #[.tmp 24] #[32] rfl #[.agg (opC kd amt c id).toArray] (by simp [Act.eval]) (by go_simp) (lop_any kd amt id c Y0 HOK) ?_
     rintro e X1 ⟨rfl, hB⟩
     have EX1 := Lib.hid (EY0.out.trans (hB.mono EY0.out.size))
     have PX1 := Lib.hid (PY0.out.below hB PY0.out.lt)
     have UX1 := Lib.hid (UY0.out.below hB UY0.out.lt)
     clear EY0 PY0 UY0 hB
     refine ⟨_, rfl, hK.out _ _ (⟨PX1.out, UX1.out⟩) (fun hHeld => ?_)⟩
     clear hK K
     show wpAnyH _ _ _ _ _ _ _ (Act.put _ (some 25) _) _
     simp only [Act.put, L1, L2, L3]
     refine wpAnyH_ready (rs := [14, 19]) (by kernel_rfl) (by simp) ?_
     refine AllReadyH.cons rfl (fun K hK => ?_) (AllReadyH.cons rfl (fun K hK => ?_) AllReadyH.nil)
     ·refine step_lay rfl 36 1 #[(0, .const (.int .u8 5))] rfl #[(0, .int .u8 5)] (by simp [Act.eval]) (.slice (some ⟨X1.heap.size, 0, none⟩) 1 1) (X1.alloc (.cells #[.int .u8 5] 5)) (by kernel_rfl) ?_
      have hB : Below X1.heap.size X1 (X1.alloc (.cells #[.int .u8 5] 5)) := (Below.refl _ _).alloc (Nat.le_refl _) _
      have hO : Oct.Own (X1.alloc (.cells #[.int .u8 5] 5)) V2.heap.size (.slice (some ⟨X1.heap.size, 0, none⟩) 1 1) [5] := own_base (own_five X1) EX1.out.size
      generalize X1.alloc (.cells #[.int .u8 5] 5) = X2 at hB hO ⊢
      obtain ⟨g23, hg⟩ : ∃ x, X1.heap.size = x := ⟨_, rfl⟩
      rw [hg] at hO ⊢
      have EX2 := Lib.hid (EX1.out.trans (hB.mono EX1.out.size))
      have PX2 := Lib.hid (PX1.out.below hB PX1.out.lt)
      have UX2 := Lib.hid (UX1.out.below hB UX1.out.lt)
      have OX2 : Hid (Oct.Own X2 V2.heap.size (.slice (some ⟨g23, 0, none⟩) 1 1) [5]) := Lib.hid (hO)
      clear EX1 PX1 UX1 hB hg hO
      refine hK.out _ _ (⟨PX2.out, UX2.out⟩) (fun hHeld => ?_)
      clear hK K
      show wpAnyH _ _ _ _ _ _ _ (Act.put _ (some 23) _) _
      simp only [Act.put, L1, L2, L3]
      refine wpAnyH_ready (rs := [17, 19]) (by kernel_rfl) (by simp) ?_
      refine AllReadyH.cons rfl (fun K hK => ?_) (AllReadyH.cons rfl (fun K hK => ?_) AllReadyH.nil)
      ·refine step_call rfl 10 #[.tmp 23, .tmp 25] #[36, 49] rfl #[.slice (some ⟨g23, 0, none⟩) 1 1, .agg (opC kd amt c id).toArray] (by simp [Act.eval]) (by go_simp) (layop_any kd amt id c (.slice (some ⟨g23, 0, none⟩) 1 1) V2.heap.size [5] X2 HOK HW HAI OX2 (Lib.hid EX2.out.size) (Lib.hid (by simp))) ?_
       rintro e X3 ⟨v26, rfl, hO, hG, hL⟩
       rw [opL_eq kd amt id c HAI.out HW.out] at hO
       obtain ⟨A26, c26, hv, _⟩ := Oct.Own.src hO
       rw [HN2.out] at hv
       subst hv
       have EX3 := Lib.hid (EX2.out.trans (Oct.grown_below hG EX2.out.size (fun g hg => (World.ownsRow.lt OX2.out g hg).1)))
       have PX3 := Lib.hid (PX2.out.grown hG (fun e => by have := (World.ownsRow.lt OX2.out gp e.symm).1; have := HLP.out; omega))
       have UX3 := Lib.hid (UX2.out.grown hG (fun e => by have := (World.ownsRow.lt OX2.out go e.symm).1; have := HLU.out; omega))
       have NX3 : Hid (Oct.Own X3 V2.heap.size (.slice A26 n2 c26) ([5] ++ opD kd amt c id)) := Lib.hid (hO)
       clear EX2 PX2 UX2 hO hG hL OX2
       refine ⟨_, rfl, hK.out _ _ (⟨PX3.out, UX3.out⟩) (fun hHeld => ?_)⟩
       clear hK K
       show wpAnyH _ _ _ _ _ _ _ (Act.put _ (some 26) _) _
       simp only [Act.put, L1, L2, L3]
       refine wpAnyH_ready (rs := [18, 19]) (by kernel_rfl) (by simp) ?_
       refine AllReadyH.cons rfl (fun K hK => ?_) (AllReadyH.cons rfl (fun K hK => ?_) AllReadyH.nil)
       ·refine step_val rfl (.string (Oct.txt ([5] ++ opD kd amt c id))) X3 (run_conv_op rfl rfl (Oct.to_string X3 A26 c26 n2 ([5] ++ opD kd amt c id) HN2.out.symm (own_srcI NX3.out))) ?_
        refine hK.out _ _ (⟨PX3.out, UX3.out⟩) (fun hHeld => ?_)
        clear hK K
        show wpAnyH _ _ _ _ _ _ _ (Act.put _ (some 27) _) _
        simp only [Act.put, L1, L2, L3]
        refine wpAnyH_ready (rs := [19]) (by kernel_rfl) (by simp) ?_
        refine AllReadyH.cons rfl (fun K hK => ?_) AllReadyH.nil
        refine step_lay rfl 35 1 #[(0, .const (.int .u8 5))] rfl #[(0, .int .u8 5)] (by simp [Act.eval]) (.slice (some ⟨X3.heap.size, 0, none⟩) 1 1) (X3.alloc (.cells #[.int .u8 5] 5)) (by kernel_rfl) ?_
        have hB : Below X3.heap.size X3 (X3.alloc (.cells #[.int .u8 5] 5)) := (Below.refl _ _).alloc (Nat.le_refl _) _
        have hK := Blk.new X3 5 [.int .u8 5]
        generalize X3.alloc (.cells #[.int .u8 5] 5) = X5 at hB hK ⊢
        obtain ⟨g28, hg⟩ : ∃ x, X3.heap.size = x := ⟨_, rfl⟩
        rw [hg] at hK ⊢
        have EX5 := Lib.hid (EX3.out.trans (hB.mono EX3.out.size))
        have PX5 := Lib.hid (PX3.out.below hB PX3.out.lt)
        have UX5 := Lib.hid (UX3.out.below hB UX3.out.lt)
        have KX5 : Hid (Blk X5 g28 5 [.int .u8 5]) := Lib.hid (hK)
        clear EX3 PX3 UX3 hB hg hK
        refine hK.out _ _ (⟨PX5.out, UX5.out⟩) (fun hHeld => ?_)
        clear hK K
        show wpAnyH _ _ _ _ _ _ _ (Act.put _ (some 28) _) _
        simp only [Act.put, L1, L2, L3]
        refine wpAnyH_ready (rs := [21]) (by kernel_rfl) (by simp) ?_
        refine AllReadyH.cons rfl (fun K hK => ?_) AllReadyH.nil
        refine step_call rfl 12 #[.tmp 28, .tmp 29] #[35, 32] rfl #[.slice (some ⟨g28, 0, none⟩) 1 1, .agg (opC kd amt c id).toArray] (by simp [Act.eval]) (by go_simp) (rop_any (some ⟨g28, 0, none⟩) 1 1 [5] kd amt id c X5 HOK HW HAI (src_blk KX5.out) (Lib.hid rfl) (by omega)) ?_
        rintro e X6 ⟨v30, rfl, hO, hB⟩
        replace hO := own_base (c := V2.heap.size) hO EX5.out.size
        obtain ⟨A30, c30, hv, _⟩ := Oct.Own.src hO
        rw [HN2.out] at hv
        subst hv
        have EX6 := Lib.hid (EX5.out.trans (hB.mono EX5.out.size))
        have PX6 := Lib.hid (PX5.out.below hB PX5.out.lt)
        have UX6 := Lib.hid (UX5.out.below hB UX5.out.lt)
        have MX6 : Hid (Oct.Own X6 V2.heap.size (.slice A30 n2 c30) ([5] ++ opD kd amt c id)) := Lib.hid (hO)
        clear EX5 PX5 UX5 hB hO
        refine ⟨_, rfl, hK.out _ _ (⟨PX6.out, UX6.out⟩) (fun hHeld => ?_)⟩
        clear hK K
        show wpAnyH _ _ _ _ _ _ _ (Act.put _ (some 30) _) _
        simp only [Act.put, L1, L2, L3]
        refine wpAnyH_ready (rs := [22]) (by kernel_rfl) (by simp) ?_
        refine AllReadyH.cons rfl (fun K hK => ?_) AllReadyH.nil
        refine step_val rfl (.string (Oct.txt ([5] ++ opD kd amt c id))) X6 (run_conv_op rfl rfl (to_string35 X6 A30 c30 n2 ([5] ++ opD kd amt c id) HN2.out.symm (own_srcI MX6.out))) ?_
        refine hK.out _ _ (⟨PX6.out, UX6.out⟩) (fun hHeld => ?_)
        clear hK K
        show wpAnyH _ _ _ _ _ _ _ (Act.put _ (some 31) _) _
        simp only [Act.put, L1, L2, L3]
        refine wpAnyH_take (i := 23) (v := .bool true) rfl (by kernel_rfl) (by kernel_rfl) (by kernel_rfl) (fun _ _ _ h => h) (Or.inl ⟨by rfl, fun w' h => run_eq_str rfl rfl rfl w'⟩) hHeld ?_
        show wpAnyH _ _ _ _ _ _ _ (Act.put _ (some 32) _) _
        simp only [Act.put, L1, L2, L3]
        refine wpAnyH_take (i := 24) (v := .bool true) rfl (by kernel_rfl) (by kernel_rfl) (by kernel_rfl) (fun _ _ _ h => h) (Or.inl ⟨by rfl, by intro w hSw; first | rfl | go_simp⟩) hHeld ?_
        show wpAnyH _ _ _ _ _ _ _ (Act.put _ (some 33) _) _
        simp only [Act.put, L1, L2, L3]
        refine wpAnyH_take (i := 25) (v := .bool true) rfl (by kernel_rfl) (by kernel_rfl) (by kernel_rfl) (fun _ _ _ h => h) (Or.inl ⟨by rfl, fun w _ => by rfl⟩) hHeld ?_
        show wpAnyH _ _ _ _ _ _ _ (Act.put _ (some 34) _) _
        simp only [Act.put, L1, L2, L3]
        refine wpAnyH_take (i := 26) (v := .agg #[.int .u32 ch, .int .u64 rd, .int .u64 m0, .int .u64 m1, .int .u64 t0, .int .u64 t1, .slice As n cp]) rfl (by kernel_rfl) (by kernel_rfl) (by kernel_rfl) (fun _ _ _ h => h) (yieldsIf_load_mid (by rfl) 27 (.tmp 2) rfl gp 0 rfl [.int .u32 ch, .int .u64 rd, .int .u64 m0, .int .u64 m1, .int .u64 t0, .int .u64 t1, .slice As n cp] _ (fun w' h => Blk.all h.1) Tryd.underlying27 rfl info27) hHeld ?_
        show wpAnyH _ _ _ _ _ _ _ (Act.put _ (some 35) _) _
        simp only [Act.put, L1, L2, L3]
        refine wpAnyH_take (i := 30) (v := .agg #[.int .u32 ch, .int .u64 rd, .int .u64 m0, .int .u64 m1, .int .u64 t0, .int .u64 t1, .slice As n cp]) rfl (by kernel_rfl) (by kernel_rfl) (by kernel_rfl) (fun _ _ _ h => h) (yieldsIf_load_mid (by rfl) 27 (.tmp 2) rfl gp 0 rfl [.int .u32 ch, .int .u64 rd, .int .u64 m0, .int .u64 m1, .int .u64 t0, .int .u64 t1, .slice As n cp] _ (fun w' h => Blk.all h.1) Tryd.underlying27 rfl info27) hHeld ?_
        show wpAnyH _ _ _ _ _ _ _ (Act.put _ (some 39) _) _
        simp only [Act.put, L1, L2, L3]
        refine wpAnyH_at (fuel := 7) (L := #[true, true, true, true, true, true, true, true, true, true, true, true, true, true, true, true, true, true, true, true, true, true, true, true, true, true, true, false, false, false, true, false, false, false, false]) (by kernel_rfl) (by kernel_rfl) ?_
        exact tail2 X6 g23 A26 c26 g28 A30 c30 EX6 PX6 UX6
       ·refine step_lay rfl 35 1 #[(0, .const (.int .u8 5))] rfl #[(0, .int .u8 5)] (by simp [Act.eval]) (.slice (some ⟨X3.heap.size, 0, none⟩) 1 1) (X3.alloc (.cells #[.int .u8 5] 5)) (by kernel_rfl) ?_
        have hB : Below X3.heap.size X3 (X3.alloc (.cells #[.int .u8 5] 5)) := (Below.refl _ _).alloc (Nat.le_refl _) _
        have hK := Blk.new X3 5 [.int .u8 5]
        generalize X3.alloc (.cells #[.int .u8 5] 5) = X4 at hB hK ⊢
        obtain ⟨g28, hg⟩ : ∃ x, X3.heap.size = x := ⟨_, rfl⟩
        rw [hg] at hK ⊢
        have EX4 := Lib.hid (EX3.out.trans (hB.mono EX3.out.size))
        have PX4 := Lib.hid (PX3.out.below hB PX3.out.lt)
        have UX4 := Lib.hid (UX3.out.below hB UX3.out.lt)
        have NX4 : Hid (Oct.Own X4 V2.heap.size (.slice A26 n2 c26) ([5] ++ opD kd amt c id)) := Lib.hid (Oct.Own.below NX3.out hB)
        have KX4 : Hid (Blk X4 g28 5 [.int .u8 5]) := Lib.hid (hK)
        clear EX3 PX3 UX3 NX3 hB hg hK
        refine hK.out _ _ (⟨PX4.out, UX4.out⟩) (fun hHeld => ?_)
        clear hK K
        show wpAnyH _ _ _ _ _ _ _ (Act.put _ (some 28) _) _
        simp only [Act.put, L1, L2, L3]
        refine wpAnyH_ready (rs := [18, 21]) (by kernel_rfl) (by simp) ?_
        refine AllReadyH.cons rfl (fun K hK => ?_) (AllReadyH.cons rfl (fun K hK => ?_) AllReadyH.nil)
        ·refine step_val rfl (.string (Oct.txt ([5] ++ opD kd amt c id))) X4 (run_conv_op rfl rfl (Oct.to_string X4 A26 c26 n2 ([5] ++ opD kd amt c id) HN2.out.symm (own_srcI NX4.out))) ?_
         refine hK.out _ _ (⟨PX4.out, UX4.out⟩) (fun hHeld => ?_)
         clear hK K
         show wpAnyH _ _ _ _ _ _ _ (Act.put _ (some 27) _) _
         simp only [Act.put, L1, L2, L3]
         refine wpAnyH_ready (rs := [21]) (by kernel_rfl) (by simp) ?_
         refine AllReadyH.cons rfl (fun K hK => ?_) AllReadyH.nil
         refine step_call rfl 12 #[.tmp 28, .tmp 29] #[35, 32] rfl #[.slice (some ⟨g28, 0, none⟩) 1 1, .agg (opC kd amt c id).toArray] (by simp [Act.eval]) (by go_simp) (rop_any (some ⟨g28, 0, none⟩) 1 1 [5] kd amt id c X4 HOK HW HAI (src_blk KX4.out) (Lib.hid rfl) (by omega)) ?_
         rintro e X6 ⟨v30, rfl, hO, hB⟩
         replace hO := own_base (c := V2.heap.size) hO EX4.out.size
         obtain ⟨A30, c30, hv, _⟩ := Oct.Own.src hO
         rw [HN2.out] at hv
         subst hv
         have EX6 := Lib.hid (EX4.out.trans (hB.mono EX4.out.size))
         have PX6 := Lib.hid (PX4.out.below hB PX4.out.lt)
         have UX6 := Lib.hid (UX4.out.below hB UX4.out.lt)
         have MX6 : Hid (Oct.Own X6 V2.heap.size (.slice A30 n2 c30) ([5] ++ opD kd amt c id)) := Lib.hid (hO)
         clear EX4 PX4 UX4 hB hO
         refine ⟨_, rfl, hK.out _ _ (⟨PX6.out, UX6.out⟩) (fun hHeld => ?_)⟩
         clear hK K
         show wpAnyH _ _ _ _ _ _ _ (Act.put _ (some 30) _) _
         simp only [Act.put, L1, L2, L3]
         refine wpAnyH_ready (rs := [22]) (by kernel_rfl) (by simp) ?_
         refine AllReadyH.cons rfl (fun K hK => ?_) AllReadyH.nil
         refine step_val rfl (.string (Oct.txt ([5] ++ opD kd amt c id))) X6 (run_conv_op rfl rfl (to_string35 X6 A30 c30 n2 ([5] ++ opD kd amt c id) HN2.out.symm (own_srcI MX6.out))) ?_
         refine hK.out _ _ (⟨PX6.out, UX6.out⟩) (fun hHeld => ?_)
         clear hK K
         show wpAnyH _ _ _ _ _ _ _ (Act.put _ (some 31) _) _
         simp only [Act.put, L1, L2, L3]
         refine wpAnyH_take (i := 23) (v := .bool true) rfl (by kernel_rfl) (by kernel_rfl) (by kernel_rfl) (fun _ _ _ h => h) (Or.inl ⟨by rfl, fun w' h => run_eq_str rfl rfl rfl w'⟩) hHeld ?_
         show wpAnyH _ _ _ _ _ _ _ (Act.put _ (some 32) _) _
         simp only [Act.put, L1, L2, L3]
         refine wpAnyH_take (i := 24) (v := .bool true) rfl (by kernel_rfl) (by kernel_rfl) (by kernel_rfl) (fun _ _ _ h => h) (Or.inl ⟨by rfl, by intro w hSw; first | rfl | go_simp⟩) hHeld ?_
         show wpAnyH _ _ _ _ _ _ _ (Act.put _ (some 33) _) _
         simp only [Act.put, L1, L2, L3]
         refine wpAnyH_take (i := 25) (v := .bool true) rfl (by kernel_rfl) (by kernel_rfl) (by kernel_rfl) (fun _ _ _ h => h) (Or.inl ⟨by rfl, fun w _ => by rfl⟩) hHeld ?_
         show wpAnyH _ _ _ _ _ _ _ (Act.put _ (some 34) _) _
         simp only [Act.put, L1, L2, L3]
         refine wpAnyH_take (i := 26) (v := .agg #[.int .u32 ch, .int .u64 rd, .int .u64 m0, .int .u64 m1, .int .u64 t0, .int .u64 t1, .slice As n cp]) rfl (by kernel_rfl) (by kernel_rfl) (by kernel_rfl) (fun _ _ _ h => h) (yieldsIf_load_mid (by rfl) 27 (.tmp 2) rfl gp 0 rfl [.int .u32 ch, .int .u64 rd, .int .u64 m0, .int .u64 m1, .int .u64 t0, .int .u64 t1, .slice As n cp] _ (fun w' h => Blk.all h.1) Tryd.underlying27 rfl info27) hHeld ?_
         show wpAnyH _ _ _ _ _ _ _ (Act.put _ (some 35) _) _
         simp only [Act.put, L1, L2, L3]
         refine wpAnyH_take (i := 30) (v := .agg #[.int .u32 ch, .int .u64 rd, .int .u64 m0, .int .u64 m1, .int .u64 t0, .int .u64 t1, .slice As n cp]) rfl (by kernel_rfl) (by kernel_rfl) (by kernel_rfl) (fun _ _ _ h => h) (yieldsIf_load_mid (by rfl) 27 (.tmp 2) rfl gp 0 rfl [.int .u32 ch, .int .u64 rd, .int .u64 m0, .int .u64 m1, .int .u64 t0, .int .u64 t1, .slice As n cp] _ (fun w' h => Blk.all h.1) Tryd.underlying27 rfl info27) hHeld ?_
         show wpAnyH _ _ _ _ _ _ _ (Act.put _ (some 39) _) _
         simp only [Act.put, L1, L2, L3]
         refine wpAnyH_at (fuel := 7) (L := #[true, true, true, true, true, true, true, true, true, true, true, true, true, true, true, true, true, true, true, true, true, true, true, true, true, true, true, false, false, false, true, false, false, false, false]) (by kernel_rfl) (by kernel_rfl) ?_
         exact tail2 X6 g23 A26 c26 g28 A30 c30 EX6 PX6 UX6
        ·refine step_call rfl 12 #[.tmp 28, .tmp 29] #[35, 32] rfl #[.slice (some ⟨g28, 0, none⟩) 1 1, .agg (opC kd amt c id).toArray] (by simp [Act.eval]) (by go_simp) (rop_any (some ⟨g28, 0, none⟩) 1 1 [5] kd amt id c X4 HOK HW HAI (src_blk KX4.out) (Lib.hid rfl) (by omega)) ?_
         rintro e X5 ⟨v30, rfl, hO, hB⟩
         replace hO := own_base (c := V2.heap.size) hO EX4.out.size
         obtain ⟨A30, c30, hv, _⟩ := Oct.Own.src hO
         rw [HN2.out] at hv
         subst hv
         have EX5 := Lib.hid (EX4.out.trans (hB.mono EX4.out.size))
         have PX5 := Lib.hid (PX4.out.below hB PX4.out.lt)
         have UX5 := Lib.hid (UX4.out.below hB UX4.out.lt)
         have NX5 : Hid (Oct.Own X5 V2.heap.size (.slice A26 n2 c26) ([5] ++ opD kd amt c id)) := Lib.hid (Oct.Own.below NX4.out hB)
         have MX5 : Hid (Oct.Own X5 V2.heap.size (.slice A30 n2 c30) ([5] ++ opD kd amt c id)) := Lib.hid (hO)
         clear EX4 PX4 UX4 NX4 hB hO
         refine ⟨_, rfl, hK.out _ _ (⟨PX5.out, UX5.out⟩) (fun hHeld => ?_)⟩
         clear hK K
         show wpAnyH _ _ _ _ _ _ _ (Act.put _ (some 30) _) _
         simp only [Act.put, L1, L2, L3]
         refine wpAnyH_ready (rs := [18, 22]) (by kernel_rfl) (by simp) ?_
         refine AllReadyH.cons rfl (fun K hK => ?_) (AllReadyH.cons rfl (fun K hK => ?_) AllReadyH.nil)
         ·refine step_val rfl (.string (Oct.txt ([5] ++ opD kd amt c id))) X5 (run_conv_op rfl rfl (Oct.to_string X5 A26 c26 n2 ([5] ++ opD kd amt c id) HN2.out.symm (own_srcI NX5.out))) ?_
          refine hK.out _ _ (⟨PX5.out, UX5.out⟩) (fun hHeld => ?_)
          clear hK K
          show wpAnyH _ _ _ _ _ _ _ (Act.put _ (some 27) _) _
          simp only [Act.put, L1, L2, L3]
          refine wpAnyH_ready (rs := [22]) (by kernel_rfl) (by simp) ?_
          refine AllReadyH.cons rfl (fun K hK => ?_) AllReadyH.nil
          refine step_val rfl (.string (Oct.txt ([5] ++ opD kd amt c id))) X5 (run_conv_op rfl rfl (to_string35 X5 A30 c30 n2 ([5] ++ opD kd amt c id) HN2.out.symm (own_srcI MX5.out))) ?_
          refine hK.out _ _ (⟨PX5.out, UX5.out⟩) (fun hHeld => ?_)
          clear hK K
          show wpAnyH _ _ _ _ _ _ _ (Act.put _ (some 31) _) _
          simp only [Act.put, L1, L2, L3]
          refine wpAnyH_take (i := 23) (v := .bool true) rfl (by kernel_rfl) (by kernel_rfl) (by kernel_rfl) (fun _ _ _ h => h) (Or.inl ⟨by rfl, fun w' h => run_eq_str rfl rfl rfl w'⟩) hHeld ?_
          show wpAnyH _ _ _ _ _ _ _ (Act.put _ (some 32) _) _
          simp only [Act.put, L1, L2, L3]
          refine wpAnyH_take (i := 24) (v := .bool true) rfl (by kernel_rfl) (by kernel_rfl) (by kernel_rfl) (fun _ _ _ h => h) (Or.inl ⟨by rfl, by intro w hSw; first | rfl | go_simp⟩) hHeld ?_
          show wpAnyH _ _ _ _ _ _ _ (Act.put _ (some 33) _) _
          simp only [Act.put, L1, L2, L3]
          refine wpAnyH_take (i := 25) (v := .bool true) rfl (by kernel_rfl) (by kernel_rfl) (by kernel_rfl) (fun _ _ _ h => h) (Or.inl ⟨by rfl, fun w _ => by rfl⟩) hHeld ?_
          show wpAnyH _ _ _ _ _ _ _ (Act.put _ (some 34) _) _
          simp only [Act.put, L1, L2, L3]
          refine wpAnyH_take (i := 26) (v := .agg #[.int .u32 ch, .int .u64 rd, .int .u64 m0, .int .u64 m1, .int .u64 t0, .int .u64 t1, .slice As n cp]) rfl (by kernel_rfl) (by kernel_rfl) (by kernel_rfl) (fun _ _ _ h => h) (yieldsIf_load_mid (by rfl) 27 (.tmp 2) rfl gp 0 rfl [.int .u32 ch, .int .u64 rd, .int .u64 m0, .int .u64 m1, .int .u64 t0, .int .u64 t1, .slice As n cp] _ (fun w' h => Blk.all h.1) Tryd.underlying27 rfl info27) hHeld ?_
          show wpAnyH _ _ _ _ _ _ _ (Act.put _ (some 35) _) _
          simp only [Act.put, L1, L2, L3]
          refine wpAnyH_take (i := 30) (v := .agg #[.int .u32 ch, .int .u64 rd, .int .u64 m0, .int .u64 m1, .int .u64 t0, .int .u64 t1, .slice As n cp]) rfl (by kernel_rfl) (by kernel_rfl) (by kernel_rfl) (fun _ _ _ h => h) (yieldsIf_load_mid (by rfl) 27 (.tmp 2) rfl gp 0 rfl [.int .u32 ch, .int .u64 rd, .int .u64 m0, .int .u64 m1, .int .u64 t0, .int .u64 t1, .slice As n cp] _ (fun w' h => Blk.all h.1) Tryd.underlying27 rfl info27) hHeld ?_
          show wpAnyH _ _ _ _ _ _ _ (Act.put _ (some 39) _) _
          simp only [Act.put, L1, L2, L3]
          refine wpAnyH_at (fuel := 7) (L := #[true, true, true, true, true, true, true, true, true, true, true, true, true, true, true, true, true, true, true, true, true, true, true, true, true, true, true, false, false, false, true, false, false, false, false]) (by kernel_rfl) (by kernel_rfl) ?_
          exact tail2 X5 g23 A26 c26 g28 A30 c30 EX5 PX5 UX5
         ·refine step_val rfl (.string (Oct.txt ([5] ++ opD kd amt c id))) X5 (run_conv_op rfl rfl (to_string35 X5 A30 c30 n2 ([5] ++ opD kd amt c id) HN2.out.symm (own_srcI MX5.out))) ?_
          refine hK.out _ _ (⟨PX5.out, UX5.out⟩) (fun hHeld => ?_)
          clear hK K
          show wpAnyH _ _ _ _ _ _ _ (Act.put _ (some 31) _) _
          simp only [Act.put, L1, L2, L3]
          refine wpAnyH_ready (rs := [18]) (by kernel_rfl) (by simp) ?_
          refine AllReadyH.cons rfl (fun K hK => ?_) AllReadyH.nil
          refine step_val rfl (.string (Oct.txt ([5] ++ opD kd amt c id))) X5 (run_conv_op rfl rfl (Oct.to_string X5 A26 c26 n2 ([5] ++ opD kd amt c id) HN2.out.symm (own_srcI NX5.out))) ?_
          refine hK.out _ _ (⟨PX5.out, UX5.out⟩) (fun hHeld => ?_)
          clear hK K
          show wpAnyH _ _ _ _ _ _ _ (Act.put _ (some 27) _) _
          simp only [Act.put, L1, L2, L3]
          refine wpAnyH_take (i := 23) (v := .bool true) rfl (by kernel_rfl) (by kernel_rfl) (by kernel_rfl) (fun _ _ _ h => h) (Or.inl ⟨by rfl, fun w' h => run_eq_str rfl rfl rfl w'⟩) hHeld ?_
          show wpAnyH _ _ _ _ _ _ _ (Act.put _ (some 32) _) _
          simp only [Act.put, L1, L2, L3]
          refine wpAnyH_take (i := 24) (v := .bool true) rfl (by kernel_rfl) (by kernel_rfl) (by kernel_rfl) (fun _ _ _ h => h) (Or.inl ⟨by rfl, by intro w hSw; first | rfl | go_simp⟩) hHeld ?_
          show wpAnyH _ _ _ _ _ _ _ (Act.put _ (some 33) _) _
          simp only [Act.put, L1, L2, L3]
          refine wpAnyH_take (i := 25) (v := .bool true) rfl (by kernel_rfl) (by kernel_rfl) (by kernel_rfl) (fun _ _ _ h => h) (Or.inl ⟨by rfl, fun w _ => by rfl⟩) hHeld ?_
          show wpAnyH _ _ _ _ _ _ _ (Act.put _ (some 34) _) _
          simp only [Act.put, L1, L2, L3]
          refine wpAnyH_take (i := 26) (v := .agg #[.int .u32 ch, .int .u64 rd, .int .u64 m0, .int .u64 m1, .int .u64 t0, .int .u64 t1, .slice As n cp]) rfl (by kernel_rfl) (by kernel_rfl) (by kernel_rfl) (fun _ _ _ h => h) (yieldsIf_load_mid (by rfl) 27 (.tmp 2) rfl gp 0 rfl [.int .u32 ch, .int .u64 rd, .int .u64 m0, .int .u64 m1, .int .u64 t0, .int .u64 t1, .slice As n cp] _ (fun w' h => Blk.all h.1) Tryd.underlying27 rfl info27) hHeld ?_
          show wpAnyH _ _ _ _ _ _ _ (Act.put _ (some 35) _) _
          simp only [Act.put, L1, L2, L3]
          refine wpAnyH_take (i := 30) (v := .agg #[.int .u32 ch, .int .u64 rd, .int .u64 m0, .int .u64 m1, .int .u64 t0, .int .u64 t1, .slice As n cp]) rfl (by kernel_rfl) (by kernel_rfl) (by kernel_rfl) (fun _ _ _ h => h) (yieldsIf_load_mid (by rfl) 27 (.tmp 2) rfl gp 0 rfl [.int .u32 ch, .int .u64 rd, .int .u64 m0, .int .u64 m1, .int .u64 t0, .int .u64 t1, .slice As n cp] _ (fun w' h => Blk.all h.1) Tryd.underlying27 rfl info27) hHeld ?_
          show wpAnyH _ _ _ _ _ _ _ (Act.put _ (some 39) _) _
          simp only [Act.put, L1, L2, L3]
          refine wpAnyH_at (fuel := 7) (L := #[true, true, true, true, true, true, true, true, true, true, true, true, true, true, true, true, true, true, true, true, true, true, true, true, true, true, true, false, false, false, true, false, false, false, false]) (by kernel_rfl) (by kernel_rfl) ?_
          exact tail2 X5 g23 A26 c26 g28 A30 c30 EX5 PX5 UX5
      ·refine step_lay rfl 35 1 #[(0, .const (.int .u8 5))] rfl #[(0, .int .u8 5)] (by simp [Act.eval]) (.slice (some ⟨X2.heap.size, 0, none⟩) 1 1) (X2.alloc (.cells #[.int .u8 5] 5)) (by kernel_rfl) ?_
       have hB : Below X2.heap.size X2 (X2.alloc (.cells #[.int .u8 5] 5)) := (Below.refl _ _).alloc (Nat.le_refl _) _
       have hK := Blk.new X2 5 [.int .u8 5]
       generalize X2.alloc (.cells #[.int .u8 5] 5) = X3 at hB hK ⊢
       obtain ⟨g28, hg⟩ : ∃ x, X2.heap.size = x := ⟨_, rfl⟩
       have NE : Hid (g23 ≠ g28) := Lib.hid (by have := (World.ownsRow.lt OX2.out g23 rfl).2; omega)
       rw [hg] at hK ⊢
       have EX3 := Lib.hid (EX2.out.trans (hB.mono EX2.out.size))
       have PX3 := Lib.hid (PX2.out.below hB PX2.out.lt)
       have UX3 := Lib.hid (UX2.out.below hB UX2.out.lt)
       have OX3 : Hid (Oct.Own X3 V2.heap.size (.slice (some ⟨g23, 0, none⟩) 1 1) [5]) := Lib.hid (Oct.Own.below OX2.out hB)
       have KX3 : Hid (Blk X3 g28 5 [.int .u8 5]) := Lib.hid (hK)
       clear EX2 PX2 UX2 OX2 hB hg hK
       refine hK.out _ _ (⟨PX3.out, UX3.out⟩) (fun hHeld => ?_)
       clear hK K
       show wpAnyH _ _ _ _ _ _ _ (Act.put _ (some 28) _) _
       simp only [Act.put, L1, L2, L3]
       refine wpAnyH_ready (rs := [17]) (by kernel_rfl) (by simp) ?_
       refine AllReadyH.cons rfl (fun K hK => ?_) AllReadyH.nil
       refine step_call rfl 10 #[.tmp 23, .tmp 25] #[36, 49] rfl #[.slice (some ⟨g23, 0, none⟩) 1 1, .agg (opC kd amt c id).toArray] (by simp [Act.eval]) (by go_simp) (layop_any kd amt id c (.slice (some ⟨g23, 0, none⟩) 1 1) V2.heap.size [5] X3 HOK HW HAI OX3 (Lib.hid EX3.out.size) (Lib.hid (by simp))) ?_
       rintro e X4 ⟨v26, rfl, hO, hG, hL⟩
       rw [opL_eq kd amt id c HAI.out HW.out] at hO
       obtain ⟨A26, c26, hv, _⟩ := Oct.Own.src hO
       rw [HN2.out] at hv
       subst hv
       have EX4 := Lib.hid (EX3.out.trans (Oct.grown_below hG EX3.out.size (fun g hg => (World.ownsRow.lt OX3.out g hg).1)))
       have PX4 := Lib.hid (PX3.out.grown hG (fun e => by have := (World.ownsRow.lt OX3.out gp e.symm).1; have := HLP.out; omega))
       have UX4 := Lib.hid (UX3.out.grown hG (fun e => by have := (World.ownsRow.lt OX3.out go e.symm).1; have := HLU.out; omega))
       have KX4 : Hid (Blk X4 g28 5 [.int .u8 5]) := Lib.hid (KX3.out.grown hG (fun e => by have e' : some g28 = some g23 := e; injection e' with e'; exact NE.out e'.symm))
       have NX4 : Hid (Oct.Own X4 V2.heap.size (.slice A26 n2 c26) ([5] ++ opD kd amt c id)) := Lib.hid (hO)
       clear EX3 PX3 UX3 KX3 hO hG hL OX3
       refine ⟨_, rfl, hK.out _ _ (⟨PX4.out, UX4.out⟩) (fun hHeld => ?_)⟩
       clear hK K
       show wpAnyH _ _ _ _ _ _ _ (Act.put _ (some 26) _) _
       simp only [Act.put, L1, L2, L3]
       refine wpAnyH_ready (rs := [18, 21]) (by kernel_rfl) (by simp) ?_
       refine AllReadyH.cons rfl (fun K hK => ?_) (AllReadyH.cons rfl (fun K hK => ?_) AllReadyH.nil)
       ·refine step_val rfl (.string (Oct.txt ([5] ++ opD kd amt c id))) X4 (run_conv_op rfl rfl (Oct.to_string X4 A26 c26 n2 ([5] ++ opD kd amt c id) HN2.out.symm (own_srcI NX4.out))) ?_
        refine hK.out _ _ (⟨PX4.out, UX4.out⟩) (fun hHeld => ?_)
        clear hK K
        show wpAnyH _ _ _ _ _ _ _ (Act.put _ (some 27) _) _
        simp only [Act.put, L1, L2, L3]
        refine wpAnyH_ready (rs := [21]) (by kernel_rfl) (by simp) ?_
        refine AllReadyH.cons rfl (fun K hK => ?_) AllReadyH.nil
        refine step_call rfl 12 #[.tmp 28, .tmp 29] #[35, 32] rfl #[.slice (some ⟨g28, 0, none⟩) 1 1, .agg (opC kd amt c id).toArray] (by simp [Act.eval]) (by go_simp) (rop_any (some ⟨g28, 0, none⟩) 1 1 [5] kd amt id c X4 HOK HW HAI (src_blk KX4.out) (Lib.hid rfl) (by omega)) ?_
        rintro e X6 ⟨v30, rfl, hO, hB⟩
        replace hO := own_base (c := V2.heap.size) hO EX4.out.size
        obtain ⟨A30, c30, hv, _⟩ := Oct.Own.src hO
        rw [HN2.out] at hv
        subst hv
        have EX6 := Lib.hid (EX4.out.trans (hB.mono EX4.out.size))
        have PX6 := Lib.hid (PX4.out.below hB PX4.out.lt)
        have UX6 := Lib.hid (UX4.out.below hB UX4.out.lt)
        have MX6 : Hid (Oct.Own X6 V2.heap.size (.slice A30 n2 c30) ([5] ++ opD kd amt c id)) := Lib.hid (hO)
        clear EX4 PX4 UX4 hB hO
        refine ⟨_, rfl, hK.out _ _ (⟨PX6.out, UX6.out⟩) (fun hHeld => ?_)⟩
        clear hK K
        show wpAnyH _ _ _ _ _ _ _ (Act.put _ (some 30) _) _
        simp only [Act.put, L1, L2, L3]
        refine wpAnyH_ready (rs := [22]) (by kernel_rfl) (by simp) ?_
        refine AllReadyH.cons rfl (fun K hK => ?_) AllReadyH.nil
        refine step_val rfl (.string (Oct.txt ([5] ++ opD kd amt c id))) X6 (run_conv_op rfl rfl (to_string35 X6 A30 c30 n2 ([5] ++ opD kd amt c id) HN2.out.symm (own_srcI MX6.out))) ?_
        refine hK.out _ _ (⟨PX6.out, UX6.out⟩) (fun hHeld => ?_)
        clear hK K
        show wpAnyH _ _ _ _ _ _ _ (Act.put _ (some 31) _) _
        simp only [Act.put, L1, L2, L3]
        refine wpAnyH_take (i := 23) (v := .bool true) rfl (by kernel_rfl) (by kernel_rfl) (by kernel_rfl) (fun _ _ _ h => h) (Or.inl ⟨by rfl, fun w' h => run_eq_str rfl rfl rfl w'⟩) hHeld ?_
        show wpAnyH _ _ _ _ _ _ _ (Act.put _ (some 32) _) _
        simp only [Act.put, L1, L2, L3]
        refine wpAnyH_take (i := 24) (v := .bool true) rfl (by kernel_rfl) (by kernel_rfl) (by kernel_rfl) (fun _ _ _ h => h) (Or.inl ⟨by rfl, by intro w hSw; first | rfl | go_simp⟩) hHeld ?_
        show wpAnyH _ _ _ _ _ _ _ (Act.put _ (some 33) _) _
        simp only [Act.put, L1, L2, L3]
        refine wpAnyH_take (i := 25) (v := .bool true) rfl (by kernel_rfl) (by kernel_rfl) (by kernel_rfl) (fun _ _ _ h => h) (Or.inl ⟨by rfl, fun w _ => by rfl⟩) hHeld ?_
        show wpAnyH _ _ _ _ _ _ _ (Act.put _ (some 34) _) _
        simp only [Act.put, L1, L2, L3]
        refine wpAnyH_take (i := 26) (v := .agg #[.int .u32 ch, .int .u64 rd, .int .u64 m0, .int .u64 m1, .int .u64 t0, .int .u64 t1, .slice As n cp]) rfl (by kernel_rfl) (by kernel_rfl) (by kernel_rfl) (fun _ _ _ h => h) (yieldsIf_load_mid (by rfl) 27 (.tmp 2) rfl gp 0 rfl [.int .u32 ch, .int .u64 rd, .int .u64 m0, .int .u64 m1, .int .u64 t0, .int .u64 t1, .slice As n cp] _ (fun w' h => Blk.all h.1) Tryd.underlying27 rfl info27) hHeld ?_
        show wpAnyH _ _ _ _ _ _ _ (Act.put _ (some 35) _) _
        simp only [Act.put, L1, L2, L3]
        refine wpAnyH_take (i := 30) (v := .agg #[.int .u32 ch, .int .u64 rd, .int .u64 m0, .int .u64 m1, .int .u64 t0, .int .u64 t1, .slice As n cp]) rfl (by kernel_rfl) (by kernel_rfl) (by kernel_rfl) (fun _ _ _ h => h) (yieldsIf_load_mid (by rfl) 27 (.tmp 2) rfl gp 0 rfl [.int .u32 ch, .int .u64 rd, .int .u64 m0, .int .u64 m1, .int .u64 t0, .int .u64 t1, .slice As n cp] _ (fun w' h => Blk.all h.1) Tryd.underlying27 rfl info27) hHeld ?_
        show wpAnyH _ _ _ _ _ _ _ (Act.put _ (some 39) _) _
        simp only [Act.put, L1, L2, L3]
        refine wpAnyH_at (fuel := 7) (L := #[true, true, true, true, true, true, true, true, true, true, true, true, true, true, true, true, true, true, true, true, true, true, true, true, true, true, true, false, false, false, true, false, false, false, false]) (by kernel_rfl) (by kernel_rfl) ?_
        exact tail2 X6 g23 A26 c26 g28 A30 c30 EX6 PX6 UX6
       ·refine step_call rfl 12 #[.tmp 28, .tmp 29] #[35, 32] rfl #[.slice (some ⟨g28, 0, none⟩) 1 1, .agg (opC kd amt c id).toArray] (by simp [Act.eval]) (by go_simp) (rop_any (some ⟨g28, 0, none⟩) 1 1 [5] kd amt id c X4 HOK HW HAI (src_blk KX4.out) (Lib.hid rfl) (by omega)) ?_
        rintro e X5 ⟨v30, rfl, hO, hB⟩
        replace hO := own_base (c := V2.heap.size) hO EX4.out.size
        obtain ⟨A30, c30, hv, _⟩ := Oct.Own.src hO
        rw [HN2.out] at hv
        subst hv
        have EX5 := Lib.hid (EX4.out.trans (hB.mono EX4.out.size))
        have PX5 := Lib.hid (PX4.out.below hB PX4.out.lt)
        have UX5 := Lib.hid (UX4.out.below hB UX4.out.lt)
        have NX5 : Hid (Oct.Own X5 V2.heap.size (.slice A26 n2 c26) ([5] ++ opD kd amt c id)) := Lib.hid (Oct.Own.below NX4.out hB)
        have MX5 : Hid (Oct.Own X5 V2.heap.size (.slice A30 n2 c30) ([5] ++ opD kd amt c id)) := Lib.hid (hO)
        clear EX4 PX4 UX4 NX4 hB hO
        refine ⟨_, rfl, hK.out _ _ (⟨PX5.out, UX5.out⟩) (fun hHeld => ?_)⟩
        clear hK K
        show wpAnyH _ _ _ _ _ _ _ (Act.put _ (some 30) _) _
        simp only [Act.put, L1, L2, L3]
        refine wpAnyH_ready (rs := [18, 22]) (by kernel_rfl) (by simp) ?_
        refine AllReadyH.cons rfl (fun K hK => ?_) (AllReadyH.cons rfl (fun K hK => ?_) AllReadyH.nil)
        ·refine step_val rfl (.string (Oct.txt ([5] ++ opD kd amt c id))) X5 (run_conv_op rfl rfl (Oct.to_string X5 A26 c26 n2 ([5] ++ opD kd amt c id) HN2.out.symm (own_srcI NX5.out))) ?_
         refine hK.out _ _ (⟨PX5.out, UX5.out⟩) (fun hHeld => ?_)
         clear hK K
         show wpAnyH _ _ _ _ _ _ _ (Act.put _ (some 27) _) _
         simp only [Act.put, L1, L2, L3]
         refine wpAnyH_ready (rs := [22]) (by kernel_rfl) (by simp) ?_
         refine AllReadyH.cons rfl (fun K hK => ?_) AllReadyH.nil
         refine step_val rfl (.string (Oct.txt ([5] ++ opD kd amt c id))) X5 (run_conv_op rfl rfl (to_string35 X5 A30 c30 n2 ([5] ++ opD kd amt c id) HN2.out.symm (own_srcI MX5.out))) ?_
         refine hK.out _ _ (⟨PX5.out, UX5.out⟩) (fun hHeld => ?_)
         clear hK K
         show wpAnyH _ _ _ _ _ _ _ (Act.put _ (some 31) _) _
         simp only [Act.put, L1, L2, L3]
         refine wpAnyH_take (i := 23) (v := .bool true) rfl (by kernel_rfl) (by kernel_rfl) (by kernel_rfl) (fun _ _ _ h => h) (Or.inl ⟨by rfl, fun w' h => run_eq_str rfl rfl rfl w'⟩) hHeld ?_
         show wpAnyH _ _ _ _ _ _ _ (Act.put _ (some 32) _) _
         simp only [Act.put, L1, L2, L3]
         refine wpAnyH_take (i := 24) (v := .bool true) rfl (by kernel_rfl) (by kernel_rfl) (by kernel_rfl) (fun _ _ _ h => h) (Or.inl ⟨by rfl, by intro w hSw; first | rfl | go_simp⟩) hHeld ?_
         show wpAnyH _ _ _ _ _ _ _ (Act.put _ (some 33) _) _
         simp only [Act.put, L1, L2, L3]
         refine wpAnyH_take (i := 25) (v := .bool true) rfl (by kernel_rfl) (by kernel_rfl) (by kernel_rfl) (fun _ _ _ h => h) (Or.inl ⟨by rfl, fun w _ => by rfl⟩) hHeld ?_
         show wpAnyH _ _ _ _ _ _ _ (Act.put _ (some 34) _) _
         simp only [Act.put, L1, L2, L3]
         refine wpAnyH_take (i := 26) (v := .agg #[.int .u32 ch, .int .u64 rd, .int .u64 m0, .int .u64 m1, .int .u64 t0, .int .u64 t1, .slice As n cp]) rfl (by kernel_rfl) (by kernel_rfl) (by kernel_rfl) (fun _ _ _ h => h) (yieldsIf_load_mid (by rfl) 27 (.tmp 2) rfl gp 0 rfl [.int .u32 ch, .int .u64 rd, .int .u64 m0, .int .u64 m1, .int .u64 t0, .int .u64 t1, .slice As n cp] _ (fun w' h => Blk.all h.1) Tryd.underlying27 rfl info27) hHeld ?_
         show wpAnyH _ _ _ _ _ _ _ (Act.put _ (some 35) _) _
         simp only [Act.put, L1, L2, L3]
         refine wpAnyH_take (i := 30) (v := .agg #[.int .u32 ch, .int .u64 rd, .int .u64 m0, .int .u64 m1, .int .u64 t0, .int .u64 t1, .slice As n cp]) rfl (by kernel_rfl) (by kernel_rfl) (by kernel_rfl) (fun _ _ _ h => h) (yieldsIf_load_mid (by rfl) 27 (.tmp 2) rfl gp 0 rfl [.int .u32 ch, .int .u64 rd, .int .u64 m0, .int .u64 m1, .int .u64 t0, .int .u64 t1, .slice As n cp] _ (fun w' h => Blk.all h.1) Tryd.underlying27 rfl info27) hHeld ?_
         show wpAnyH _ _ _ _ _ _ _ (Act.put _ (some 39) _) _
         simp only [Act.put, L1, L2, L3]
         refine wpAnyH_at (fuel := 7) (L := #[true, true, true, true, true, true, true, true, true, true, true, true, true, true, true, true, true, true, true, true, true, true, true, true, true, true, true, false, false, false, true, false, false, false, false]) (by kernel_rfl) (by kernel_rfl) ?_
         exact tail2 X5 g23 A26 c26 g28 A30 c30 EX5 PX5 UX5
        ·refine step_val rfl (.string (Oct.txt ([5] ++ opD kd amt c id))) X5 (run_conv_op rfl rfl (to_string35 X5 A30 c30 n2 ([5] ++ opD kd amt c id) HN2.out.symm (own_srcI MX5.out))) ?_
         refine hK.out _ _ (⟨PX5.out, UX5.out⟩) (fun hHeld => ?_)
         clear hK K
         show wpAnyH _ _ _ _ _ _ _ (Act.put _ (some 31) _) _
         simp only [Act.put, L1, L2, L3]
         refine wpAnyH_ready (rs := [18]) (by kernel_rfl) (by simp) ?_
         refine AllReadyH.cons rfl (fun K hK => ?_) AllReadyH.nil
         refine step_val rfl (.string (Oct.txt ([5] ++ opD kd amt c id))) X5 (run_conv_op rfl rfl (Oct.to_string X5 A26 c26 n2 ([5] ++ opD kd amt c id) HN2.out.symm (own_srcI NX5.out))) ?_
         refine hK.out _ _ (⟨PX5.out, UX5.out⟩) (fun hHeld => ?_)
         clear hK K
         show wpAnyH _ _ _ _ _ _ _ (Act.put _ (some 27) _) _
         simp only [Act.put, L1, L2, L3]
         refine wpAnyH_take (i := 23) (v := .bool true) rfl (by kernel_rfl) (by kernel_rfl) (by kernel_rfl) (fun _ _ _ h => h) (Or.inl ⟨by rfl, fun w' h => run_eq_str rfl rfl rfl w'⟩) hHeld ?_
         show wpAnyH _ _ _ _ _ _ _ (Act.put _ (some 32) _) _
         simp only [Act.put, L1, L2, L3]
         refine wpAnyH_take (i := 24) (v := .bool true) rfl (by kernel_rfl) (by kernel_rfl) (by kernel_rfl) (fun _ _ _ h => h) (Or.inl ⟨by rfl, by intro w hSw; first | rfl | go_simp⟩) hHeld ?_
         show wpAnyH _ _ _ _ _ _ _ (Act.put _ (some 33) _) _
         simp only [Act.put, L1, L2, L3]
         refine wpAnyH_take (i := 25) (v := .bool true) rfl (by kernel_rfl) (by kernel_rfl) (by kernel_rfl) (fun _ _ _ h => h) (Or.inl ⟨by rfl, fun w _ => by rfl⟩) hHeld ?_
         show wpAnyH _ _ _ _ _ _ _ (Act.put _ (some 34) _) _
         simp only [Act.put, L1, L2, L3]
         refine wpAnyH_take (i := 26) (v := .agg #[.int .u32 ch, .int .u64 rd, .int .u64 m0, .int .u64 m1, .int .u64 t0, .int .u64 t1, .slice As n cp]) rfl (by kernel_rfl) (by kernel_rfl) (by kernel_rfl) (fun _ _ _ h => h) (yieldsIf_load_mid (by rfl) 27 (.tmp 2) rfl gp 0 rfl [.int .u32 ch, .int .u64 rd, .int .u64 m0, .int .u64 m1, .int .u64 t0, .int .u64 t1, .slice As n cp] _ (fun w' h => Blk.all h.1) Tryd.underlying27 rfl info27) hHeld ?_
         show wpAnyH _ _ _ _ _ _ _ (Act.put _ (some 35) _) _
         simp only [Act.put, L1, L2, L3]
         refine wpAnyH_take (i := 30) (v := .agg #[.int .u32 ch, .int .u64 rd, .int .u64 m0, .int .u64 m1, .int .u64 t0, .int .u64 t1, .slice As n cp]) rfl (by kernel_rfl) (by kernel_rfl) (by kernel_rfl) (fun _ _ _ h => h) (yieldsIf_load_mid (by rfl) 27 (.tmp 2) rfl gp 0 rfl [.int .u32 ch, .int .u64 rd, .int .u64 m0, .int .u64 m1, .int .u64 t0, .int .u64 t1, .slice As n cp] _ (fun w' h => Blk.all h.1) Tryd.underlying27 rfl info27) hHeld ?_
         show wpAnyH _ _ _ _ _ _ _ (Act.put _ (some 39) _) _
         simp only [Act.put, L1, L2, L3]
         refine wpAnyH_at (fuel := 7) (L := #[true, true, true, true, true, true, true, true, true, true, true, true, true, true, true, true, true, true, true, true, true, true, true, true, true, true, true, false, false, false, true, false, false, false, false]) (by kernel_rfl) (by kernel_rfl) ?_
         exact tail2 X5 g23 A26 c26 g28 A30 c30 EX5 PX5 UX5
     ·refine step_lay rfl 35 1 #[(0, .const (.int .u8 5))] rfl #[(0, .int .u8 5)] (by simp [Act.eval]) (.slice (some ⟨X1.heap.size, 0, none⟩) 1 1) (X1.alloc (.cells #[.int .u8 5] 5)) (by kernel_rfl) ?_
      have hB : Below X1.heap.size X1 (X1.alloc (.cells #[.int .u8 5] 5)) := (Below.refl _ _).alloc (Nat.le_refl _) _
      have hK := Blk.new X1 5 [.int .u8 5]
      generalize X1.alloc (.cells #[.int .u8 5] 5) = X2 at hB hK ⊢
      obtain ⟨g28, hg⟩ : ∃ x, X1.heap.size = x := ⟨_, rfl⟩
      rw [hg] at hK ⊢
      have EX2 := Lib.hid (EX1.out.trans (hB.mono EX1.out.size))
      have PX2 := Lib.hid (PX1.out.below hB PX1.out.lt)
      have UX2 := Lib.hid (UX1.out.below hB UX1.out.lt)
      have KX2 : Hid (Blk X2 g28 5 [.int .u8 5]) := Lib.hid (hK)
      clear EX1 PX1 UX1 hB hg hK
      refine hK.out _ _ (⟨PX2.out, UX2.out⟩) (fun hHeld => ?_)
      clear hK K
      show wpAnyH _ _ _ _ _ _ _ (Act.put _ (some 28) _) _
      simp only [Act.put, L1, L2, L3]
      refine wpAnyH_ready (rs := [14]) (by kernel_rfl) (by simp) ?_
      refine AllReadyH.cons rfl (fun K hK => ?_) AllReadyH.nil
      refine step_lay rfl 36 1 #[(0, .const (.int .u8 5))] rfl #[(0, .int .u8 5)] (by simp [Act.eval]) (.slice (some ⟨X2.heap.size, 0, none⟩) 1 1) (X2.alloc (.cells #[.int .u8 5] 5)) (by kernel_rfl) ?_
      have hB : Below X2.heap.size X2 (X2.alloc (.cells #[.int .u8 5] 5)) := (Below.refl _ _).alloc (Nat.le_refl _) _
      have hO : Oct.Own (X2.alloc (.cells #[.int .u8 5] 5)) V2.heap.size (.slice (some ⟨X2.heap.size, 0, none⟩) 1 1) [5] := own_base (own_five X2) EX2.out.size
      generalize X2.alloc (.cells #[.int .u8 5] 5) = X3 at hB hO ⊢
      obtain ⟨g23, hg⟩ : ∃ x, X2.heap.size = x := ⟨_, rfl⟩
      have NE : Hid (g23 ≠ g28) := Lib.hid (by have := KX2.out.lt; omega)
      rw [hg] at hO ⊢
      have EX3 := Lib.hid (EX2.out.trans (hB.mono EX2.out.size))
      have PX3 := Lib.hid (PX2.out.below hB PX2.out.lt)
      have UX3 := Lib.hid (UX2.out.below hB UX2.out.lt)
      have KX3 : Hid (Blk X3 g28 5 [.int .u8 5]) := Lib.hid (KX2.out.below hB KX2.out.lt)
      have OX3 : Hid (Oct.Own X3 V2.heap.size (.slice (some ⟨g23, 0, none⟩) 1 1) [5]) := Lib.hid (hO)
      clear EX2 PX2 UX2 KX2 hB hg hO
      refine hK.out _ _ (⟨PX3.out, UX3.out⟩) (fun hHeld => ?_)
      clear hK K
      show wpAnyH _ _ _ _ _ _ _ (Act.put _ (some 23) _) _
      simp only [Act.put, L1, L2, L3]
      refine wpAnyH_ready (rs := [17]) (by kernel_rfl) (by simp) ?_
      refine AllReadyH.cons rfl (fun K hK => ?_) AllReadyH.nil
      refine step_call rfl 10 #[.tmp 23, .tmp 25] #[36, 49] rfl #[.slice (some ⟨g23, 0, none⟩) 1 1, .agg (opC kd amt c id).toArray] (by simp [Act.eval]) (by go_simp) (layop_any kd amt id c (.slice (some ⟨g23, 0, none⟩) 1 1) V2.heap.size [5] X3 HOK HW HAI OX3 (Lib.hid EX3.out.size) (Lib.hid (by simp))) ?_
      rintro e X4 ⟨v26, rfl, hO, hG, hL⟩
      rw [opL_eq kd amt id c HAI.out HW.out] at hO
      obtain ⟨A26, c26, hv, _⟩ := Oct.Own.src hO
      rw [HN2.out] at hv
      subst hv
      have EX4 := Lib.hid (EX3.out.trans (Oct.grown_below hG EX3.out.size (fun g hg => (World.ownsRow.lt OX3.out g hg).1)))
      have PX4 := Lib.hid (PX3.out.grown hG (fun e => by have := (World.ownsRow.lt OX3.out gp e.symm).1; have := HLP.out; omega))
      have UX4 := Lib.hid (UX3.out.grown hG (fun e => by have := (World.ownsRow.lt OX3.out go e.symm).1; have := HLU.out; omega))
      have KX4 : Hid (Blk X4 g28 5 [.int .u8 5]) := Lib.hid (KX3.out.grown hG (fun e => by have e' : some g28 = some g23 := e; injection e' with e'; exact NE.out e'.symm))
      have NX4 : Hid (Oct.Own X4 V2.heap.size (.slice A26 n2 c26) ([5] ++ opD kd amt c id)) := Lib.hid (hO)
      clear EX3 PX3 UX3 KX3 hO hG hL OX3
      refine ⟨_, rfl, hK.out _ _ (⟨PX4.out, UX4.out⟩) (fun hHeld => ?_)⟩
      clear hK K
      show wpAnyH _ _ _ _ _ _ _ (Act.put _ (some 26) _) _
      simp only [Act.put, L1, L2, L3]
      refine wpAnyH_ready (rs := [18, 21]) (by kernel_rfl) (by simp) ?_
      refine AllReadyH.cons rfl (fun K hK => ?_) (AllReadyH.cons rfl (fun K hK => ?_) AllReadyH.nil)
      ·refine step_val rfl (.string (Oct.txt ([5] ++ opD kd amt c id))) X4 (run_conv_op rfl rfl (Oct.to_string X4 A26 c26 n2 ([5] ++ opD kd amt c id) HN2.out.symm (own_srcI NX4.out))) ?_
       refine hK.out _ _ (⟨PX4.out, UX4.out⟩) (fun hHeld => ?_)
       clear hK K
       show wpAnyH _ _ _ _ _ _ _ (Act.put _ (some 27) _) _
       simp only [Act.put, L1, L2, L3]
       refine wpAnyH_ready (rs := [21]) (by kernel_rfl) (by simp) ?_
       refine AllReadyH.cons rfl (fun K hK => ?_) AllReadyH.nil
       refine step_call rfl 12 #[.tmp 28, .tmp 29] #[35, 32] rfl #[.slice (some ⟨g28, 0, none⟩) 1 1, .agg (opC kd amt c id).toArray] (by simp [Act.eval]) (by go_simp) (rop_any (some ⟨g28, 0, none⟩) 1 1 [5] kd amt id c X4 HOK HW HAI (src_blk KX4.out) (Lib.hid rfl) (by omega)) ?_
       rintro e X6 ⟨v30, rfl, hO, hB⟩
       replace hO := own_base (c := V2.heap.size) hO EX4.out.size
       obtain ⟨A30, c30, hv, _⟩ := Oct.Own.src hO
       rw [HN2.out] at hv
       subst hv
       have EX6 := Lib.hid (EX4.out.trans (hB.mono EX4.out.size))
       have PX6 := Lib.hid (PX4.out.below hB PX4.out.lt)
       have UX6 := Lib.hid (UX4.out.below hB UX4.out.lt)
       have MX6 : Hid (Oct.Own X6 V2.heap.size (.slice A30 n2 c30) ([5] ++ opD kd amt c id)) := Lib.hid (hO)
       clear EX4 PX4 UX4 hB hO
       refine ⟨_, rfl, hK.out _ _ (⟨PX6.out, UX6.out⟩) (fun hHeld => ?_)⟩
       clear hK K
       show wpAnyH _ _ _ _ _ _ _ (Act.put _ (some 30) _) _
       simp only [Act.put, L1, L2, L3]
       refine wpAnyH_ready (rs := [22]) (by kernel_rfl) (by simp) ?_
       refine AllReadyH.cons rfl (fun K hK => ?_) AllReadyH.nil
       refine step_val rfl (.string (Oct.txt ([5] ++ opD kd amt c id))) X6 (run_conv_op rfl rfl (to_string35 X6 A30 c30 n2 ([5] ++ opD kd amt c id) HN2.out.symm (own_srcI MX6.out))) ?_
       refine hK.out _ _ (⟨PX6.out, UX6.out⟩) (fun hHeld => ?_)
       clear hK K
       show wpAnyH _ _ _ _ _ _ _ (Act.put _ (some 31) _) _
       simp only [Act.put, L1, L2, L3]
       refine wpAnyH_take (i := 23) (v := .bool true) rfl (by kernel_rfl) (by kernel_rfl) (by kernel_rfl) (fun _ _ _ h => h) (Or.inl ⟨by rfl, fun w' h => run_eq_str rfl rfl rfl w'⟩) hHeld ?_
       show wpAnyH _ _ _ _ _ _ _ (Act.put _ (some 32) _) _
       simp only [Act.put, L1, L2, L3]
       refine wpAnyH_take (i := 24) (v := .bool true) rfl (by kernel_rfl) (by kernel_rfl) (by kernel_rfl) (fun _ _ _ h => h) (Or.inl ⟨by rfl, by intro w hSw; first | rfl | go_simp⟩) hHeld ?_
       show wpAnyH _ _ _ _ _ _ _ (Act.put _ (some 33) _) _
       simp only [Act.put, L1, L2, L3]
       refine wpAnyH_take (i := 25) (v := .bool true) rfl (by kernel_rfl) (by kernel_rfl) (by kernel_rfl) (fun _ _ _ h => h) (Or.inl ⟨by rfl, fun w _ => by rfl⟩) hHeld ?_
       show wpAnyH _ _ _ _ _ _ _ (Act.put _ (some 34) _) _
       simp only [Act.put, L1, L2, L3]
       refine wpAnyH_take (i := 26) (v := .agg #[.int .u32 ch, .int .u64 rd, .int .u64 m0, .int .u64 m1, .int .u64 t0, .int .u64 t1, .slice As n cp]) rfl (by kernel_rfl) (by kernel_rfl) (by kernel_rfl) (fun _ _ _ h => h) (yieldsIf_load_mid (by rfl) 27 (.tmp 2) rfl gp 0 rfl [.int .u32 ch, .int .u64 rd, .int .u64 m0, .int .u64 m1, .int .u64 t0, .int .u64 t1, .slice As n cp] _ (fun w' h => Blk.all h.1) Tryd.underlying27 rfl info27) hHeld ?_
       show wpAnyH _ _ _ _ _ _ _ (Act.put _ (some 35) _) _
       simp only [Act.put, L1, L2, L3]
       refine wpAnyH_take (i := 30) (v := .agg #[.int .u32 ch, .int .u64 rd, .int .u64 m0, .int .u64 m1, .int .u64 t0, .int .u64 t1, .slice As n cp]) rfl (by kernel_rfl) (by kernel_rfl) (by kernel_rfl) (fun _ _ _ h => h) (yieldsIf_load_mid (by rfl) 27 (.tmp 2) rfl gp 0 rfl [.int .u32 ch, .int .u64 rd, .int .u64 m0, .int .u64 m1, .int .u64 t0, .int .u64 t1, .slice As n cp] _ (fun w' h => Blk.all h.1) Tryd.underlying27 rfl info27) hHeld ?_
       show wpAnyH _ _ _ _ _ _ _ (Act.put _ (some 39) _) _
       simp only [Act.put, L1, L2, L3]
       refine wpAnyH_at (fuel := 7) (L := #[true, true, true, true, true, true, true, true, true, true, true, true, true, true, true, true, true, true, true, true, true, true, true, true, true, true, true, false, false, false, true, false, false, false, false]) (by kernel_rfl) (by kernel_rfl) ?_
       exact tail2 X6 g23 A26 c26 g28 A30 c30 EX6 PX6 UX6
      ·refine step_call rfl 12 #[.tmp 28, .tmp 29] #[35, 32] rfl #[.slice (some ⟨g28, 0, none⟩) 1 1, .agg (opC kd amt c id).toArray] (by simp [Act.eval]) (by go_simp) (rop_any (some ⟨g28, 0, none⟩) 1 1 [5] kd amt id c X4 HOK HW HAI (src_blk KX4.out) (Lib.hid rfl) (by omega)) ?_
       rintro e X5 ⟨v30, rfl, hO, hB⟩
       replace hO := own_base (c := V2.heap.size) hO EX4.out.size
       obtain ⟨A30, c30, hv, _⟩ := Oct.Own.src hO
       rw [HN2.out] at hv
       subst hv
       have EX5 := Lib.hid (EX4.out.trans (hB.mono EX4.out.size))
       have PX5 := Lib.hid (PX4.out.below hB PX4.out.lt)
       have UX5 := Lib.hid (UX4.out.below hB UX4.out.lt)
       have NX5 : Hid (Oct.Own X5 V2.heap.size (.slice A26 n2 c26) ([5] ++ opD kd amt c id)) := Lib.hid (Oct.Own.below NX4.out hB)
       have MX5 : Hid (Oct.Own X5 V2.heap.size (.slice A30 n2 c30) ([5] ++ opD kd amt c id)) := Lib.hid (hO)
       clear EX4 PX4 UX4 NX4 hB hO
       refine ⟨_, rfl, hK.out _ _ (⟨PX5.out, UX5.out⟩) (fun hHeld => ?_)⟩
       clear hK K
       show wpAnyH _ _ _ _ _ _ _ (Act.put _ (some 30) _) _
       simp only [Act.put, L1, L2, L3]
       refine wpAnyH_ready (rs := [18, 22]) (by kernel_rfl) (by simp) ?_
       refine AllReadyH.cons rfl (fun K hK => ?_) (AllReadyH.cons rfl (fun K hK => ?_) AllReadyH.nil)
       ·refine step_val rfl (.string (Oct.txt ([5] ++ opD kd amt c id))) X5 (run_conv_op rfl rfl (Oct.to_string X5 A26 c26 n2 ([5] ++ opD kd amt c id) HN2.out.symm (own_srcI NX5.out))) ?_
        refine hK.out _ _ (⟨PX5.out, UX5.out⟩) (fun hHeld => ?_)
        clear hK K
        show wpAnyH _ _ _ _ _ _ _ (Act.put _ (some 27) _) _
        simp only [Act.put, L1, L2, L3]
        refine wpAnyH_ready (rs := [22]) (by kernel_rfl) (by simp) ?_
        refine AllReadyH.cons rfl (fun K hK => ?_) AllReadyH.nil
        refine step_val rfl (.string (Oct.txt ([5] ++ opD kd amt c id))) X5 (run_conv_op rfl rfl (to_string35 X5 A30 c30 n2 ([5] ++ opD kd amt c id) HN2.out.symm (own_srcI MX5.out))) ?_
        refine hK.out _ _ (⟨PX5.out, UX5.out⟩) (fun hHeld => ?_)
        clear hK K
        show wpAnyH _ _ _ _ _ _ _ (Act.put _ (some 31) _) _
        simp only [Act.put, L1, L2, L3]
        refine wpAnyH_take (i := 23) (v := .bool true) rfl (by kernel_rfl) (by kernel_rfl) (by kernel_rfl) (fun _ _ _ h => h) (Or.inl ⟨by rfl, fun w' h => run_eq_str rfl rfl rfl w'⟩) hHeld ?_
        show wpAnyH _ _ _ _ _ _ _ (Act.put _ (some 32) _) _
        simp only [Act.put, L1, L2, L3]
        refine wpAnyH_take (i := 24) (v := .bool true) rfl (by kernel_rfl) (by kernel_rfl) (by kernel_rfl) (fun _ _ _ h => h) (Or.inl ⟨by rfl, by intro w hSw; first | rfl | go_simp⟩) hHeld ?_
        show wpAnyH _ _ _ _ _ _ _ (Act.put _ (some 33) _) _
        simp only [Act.put, L1, L2, L3]
        refine wpAnyH_take (i := 25) (v := .bool true) rfl (by kernel_rfl) (by kernel_rfl) (by kernel_rfl) (fun _ _ _ h => h) (Or.inl ⟨by rfl, fun w _ => by rfl⟩) hHeld ?_
        show wpAnyH _ _ _ _ _ _ _ (Act.put _ (some 34) _) _
        simp only [Act.put, L1, L2, L3]
        refine wpAnyH_take (i := 26) (v := .agg #[.int .u32 ch, .int .u64 rd, .int .u64 m0, .int .u64 m1, .int .u64 t0, .int .u64 t1, .slice As n cp]) rfl (by kernel_rfl) (by kernel_rfl) (by kernel_rfl) (fun _ _ _ h => h) (yieldsIf_load_mid (by rfl) 27 (.tmp 2) rfl gp 0 rfl [.int .u32 ch, .int .u64 rd, .int .u64 m0, .int .u64 m1, .int .u64 t0, .int .u64 t1, .slice As n cp] _ (fun w' h => Blk.all h.1) Tryd.underlying27 rfl info27) hHeld ?_
        show wpAnyH _ _ _ _ _ _ _ (Act.put _ (some 35) _) _
        simp only [Act.put, L1, L2, L3]
        refine wpAnyH_take (i := 30) (v := .agg #[.int .u32 ch, .int .u64 rd, .int .u64 m0, .int .u64 m1, .int .u64 t0, .int .u64 t1, .slice As n cp]) rfl (by kernel_rfl) (by kernel_rfl) (by kernel_rfl) (fun _ _ _ h => h) (yieldsIf_load_mid (by rfl) 27 (.tmp 2) rfl gp 0 rfl [.int .u32 ch, .int .u64 rd, .int .u64 m0, .int .u64 m1, .int .u64 t0, .int .u64 t1, .slice As n cp] _ (fun w' h => Blk.all h.1) Tryd.underlying27 rfl info27) hHeld ?_
        show wpAnyH _ _ _ _ _ _ _ (Act.put _ (some 39) _) _
        simp only [Act.put, L1, L2, L3]
        refine wpAnyH_at (fuel := 7) (L := #[true, true, true, true, true, true, true, true, true, true, true, true, true, true, true, true, true, true, true, true, true, true, true, true, true, true, true, false, false, false, true, false, false, false, false]) (by kernel_rfl) (by kernel_rfl) ?_
        exact tail2 X5 g23 A26 c26 g28 A30 c30 EX5 PX5 UX5
       ·refine step_val rfl (.string (Oct.txt ([5] ++ opD kd amt c id))) X5 (run_conv_op rfl rfl (to_string35 X5 A30 c30 n2 ([5] ++ opD kd amt c id) HN2.out.symm (own_srcI MX5.out))) ?_
        refine hK.out _ _ (⟨PX5.out, UX5.out⟩) (fun hHeld => ?_)
        clear hK K
        show wpAnyH _ _ _ _ _ _ _ (Act.put _ (some 31) _) _
        simp only [Act.put, L1, L2, L3]
        refine wpAnyH_ready (rs := [18]) (by kernel_rfl) (by simp) ?_
        refine AllReadyH.cons rfl (fun K hK => ?_) AllReadyH.nil
        refine step_val rfl (.string (Oct.txt ([5] ++ opD kd amt c id))) X5 (run_conv_op rfl rfl (Oct.to_string X5 A26 c26 n2 ([5] ++ opD kd amt c id) HN2.out.symm (own_srcI NX5.out))) ?_
        refine hK.out _ _ (⟨PX5.out, UX5.out⟩) (fun hHeld => ?_)
        clear hK K
        show wpAnyH _ _ _ _ _ _ _ (Act.put _ (some 27) _) _
        simp only [Act.put, L1, L2, L3]
        refine wpAnyH_take (i := 23) (v := .bool true) rfl (by kernel_rfl) (by kernel_rfl) (by kernel_rfl) (fun _ _ _ h => h) (Or.inl ⟨by rfl, fun w' h => run_eq_str rfl rfl rfl w'⟩) hHeld ?_
        show wpAnyH _ _ _ _ _ _ _ (Act.put _ (some 32) _) _
        simp only [Act.put, L1, L2, L3]
        refine wpAnyH_take (i := 24) (v := .bool true) rfl (by kernel_rfl) (by kernel_rfl) (by kernel_rfl) (fun _ _ _ h => h) (Or.inl ⟨by rfl, by intro w hSw; first | rfl | go_simp⟩) hHeld ?_
        show wpAnyH _ _ _ _ _ _ _ (Act.put _ (some 33) _) _
        simp only [Act.put, L1, L2, L3]
        refine wpAnyH_take (i := 25) (v := .bool true) rfl (by kernel_rfl) (by kernel_rfl) (by kernel_rfl) (fun _ _ _ h => h) (Or.inl ⟨by rfl, fun w _ => by rfl⟩) hHeld ?_
        show wpAnyH _ _ _ _ _ _ _ (Act.put _ (some 34) _) _
        simp only [Act.put, L1, L2, L3]
        refine wpAnyH_take (i := 26) (v := .agg #[.int .u32 ch, .int .u64 rd, .int .u64 m0, .int .u64 m1, .int .u64 t0, .int .u64 t1, .slice As n cp]) rfl (by kernel_rfl) (by kernel_rfl) (by kernel_rfl) (fun _ _ _ h => h) (yieldsIf_load_mid (by rfl) 27 (.tmp 2) rfl gp 0 rfl [.int .u32 ch, .int .u64 rd, .int .u64 m0, .int .u64 m1, .int .u64 t0, .int .u64 t1, .slice As n cp] _ (fun w' h => Blk.all h.1) Tryd.underlying27 rfl info27) hHeld ?_
        show wpAnyH _ _ _ _ _ _ _ (Act.put _ (some 35) _) _
        simp only [Act.put, L1, L2, L3]
        refine wpAnyH_take (i := 30) (v := .agg #[.int .u32 ch, .int .u64 rd, .int .u64 m0, .int .u64 m1, .int .u64 t0, .int .u64 t1, .slice As n cp]) rfl (by kernel_rfl) (by kernel_rfl) (by kernel_rfl) (fun _ _ _ h => h) (yieldsIf_load_mid (by rfl) 27 (.tmp 2) rfl gp 0 rfl [.int .u32 ch, .int .u64 rd, .int .u64 m0, .int .u64 m1, .int .u64 t0, .int .u64 t1, .slice As n cp] _ (fun w' h => Blk.all h.1) Tryd.underlying27 rfl info27) hHeld ?_
        show wpAnyH _ _ _ _ _ _ _ (Act.put _ (some 39) _) _
        simp only [Act.put, L1, L2, L3]
        refine wpAnyH_at (fuel := 7) (L := #[true, true, true, true, true, true, true, true, true, true, true, true, true, true, true, true, true, true, true, true, true, true, true, true, true, true, true, false, false, false, true, false, false, false, false]) (by kernel_rfl) (by kernel_rfl) ?_
        exact tail2 X5 g23 A26 c26 g28 A30 c30 EX5 PX5 UX5
    ·refine step_lay rfl 35 1 #[(0, .const (.int .u8 5))] rfl #[(0, .int .u8 5)] (by simp [Act.eval]) (.slice (some ⟨Y0.heap.size, 0, none⟩) 1 1) (Y0.alloc (.cells #[.int .u8 5] 5)) (by kernel_rfl) ?_
     have hB : Below Y0.heap.size Y0 (Y0.alloc (.cells #[.int .u8 5] 5)) := (Below.refl _ _).alloc (Nat.le_refl _) _
     have hK := Blk.new Y0 5 [.int .u8 5]
     generalize Y0.alloc (.cells #[.int .u8 5] 5) = X1 at hB hK ⊢
     obtain ⟨g28, hg⟩ : ∃ x, Y0.heap.size = x := ⟨_, rfl⟩
     rw [hg] at hK ⊢
     have EX1 := Lib.hid (EY0.out.trans (hB.mono EY0.out.size))
     have PX1 := Lib.hid (PY0.out.below hB PY0.out.lt)
     have UX1 := Lib.hid (UY0.out.below hB UY0.out.lt)
     have KX1 : Hid (Blk X1 g28 5 [.int .u8 5]) := Lib.hid (hK)
     clear EY0 PY0 UY0 hB hg hK
     refine hK.out _ _ (⟨PX1.out, UX1.out⟩) (fun hHeld => ?_)
     clear hK K
     show wpAnyH _ _ _ _ _ _ _ (Act.put _ (some 28) _) _
     simp only [Act.put, L1, L2, L3]
     refine wpAnyH_ready (rs := [14, 16]) (by kernel_rfl) (by simp) ?_
     refine AllReadyH.cons rfl (fun K hK => ?_) (AllReadyH.cons rfl (fun K hK => ?_) AllReadyH.nil)
     ·refine step_lay rfl 36 1 #[(0, .const (.int .u8 5))] rfl #[(0, .int .u8 5)] (by simp [Act.eval]) (.slice (some ⟨X1.heap.size, 0, none⟩) 1 1) (X1.alloc (.cells #[.int .u8 5] 5)) (by kernel_rfl) ?_
      have hB : Below X1.heap.size X1 (X1.alloc (.cells #[.int .u8 5] 5)) := (Below.refl _ _).alloc (Nat.le_refl _) _
      have hO : Oct.Own (X1.alloc (.cells #[.int .u8 5] 5)) V2.heap.size (.slice (some ⟨X1.heap.size, 0, none⟩) 1 1) [5] := own_base (own_five X1) EX1.out.size
      generalize X1.alloc (.cells #[.int .u8 5] 5) = X2 at hB hO ⊢
      obtain ⟨g23, hg⟩ : ∃ x, X1.heap.size = x := ⟨_, rfl⟩
      have NE : Hid (g23 ≠ g28) := Lib.hid (by have := KX1.out.lt; omega)
      rw [hg] at hO ⊢
      have EX2 := Lib.hid (EX1.out.trans (hB.mono EX1.out.size))
      have PX2 := Lib.hid (PX1.out.below hB PX1.out.lt)
      have UX2 := Lib.hid (UX1.out.below hB UX1.out.lt)
      have KX2 : Hid (Blk X2 g28 5 [.int .u8 5]) := Lib.hid (KX1.out.below hB KX1.out.lt)
      have OX2 : Hid (Oct.Own X2 V2.heap.size (.slice (some ⟨g23, 0, none⟩) 1 1) [5]) := Lib.hid (hO)
      clear EX1 PX1 UX1 KX1 hB hg hO
      refine hK.out _ _ (⟨PX2.out, UX2.out⟩) (fun hHeld => ?_)
      clear hK K
      show wpAnyH _ _ _ _ _ _ _ (Act.put _ (some 23) _) _
      simp only [Act.put, L1, L2, L3]
      refine wpAnyH_ready (rs := [16]) (by kernel_rfl) (by simp) ?_
      refine AllReadyH.cons rfl (fun K hK => ?_) AllReadyH.nil
      refine step_call rfl 11 #[.tmp 24] #[32] rfl #[.agg (opC kd amt c id).toArray] (by simp [Act.eval]) (by go_simp) (lop_any kd amt id c X2 HOK) ?_
      rintro e X3 ⟨rfl, hB⟩
      have EX3 := Lib.hid (EX2.out.trans (hB.mono EX2.out.size))
      have PX3 := Lib.hid (PX2.out.below hB PX2.out.lt)
      have UX3 := Lib.hid (UX2.out.below hB UX2.out.lt)
      have KX3 : Hid (Blk X3 g28 5 [.int .u8 5]) := Lib.hid (KX2.out.below hB KX2.out.lt)
      have OX3 : Hid (Oct.Own X3 V2.heap.size (.slice (some ⟨g23, 0, none⟩) 1 1) [5]) := Lib.hid (Oct.Own.below OX2.out hB)
      clear EX2 PX2 UX2 KX2 OX2 hB
      refine ⟨_, rfl, hK.out _ _ (⟨PX3.out, UX3.out⟩) (fun hHeld => ?_)⟩
      clear hK K
      show wpAnyH _ _ _ _ _ _ _ (Act.put _ (some 25) _) _
      simp only [Act.put, L1, L2, L3]
      refine wpAnyH_ready (rs := [17]) (by kernel_rfl) (by simp) ?_
      refine AllReadyH.cons rfl (fun K hK => ?_) AllReadyH.nil
      refine step_call rfl 10 #[.tmp 23, .tmp 25] #[36, 49] rfl #[.slice (some ⟨g23, 0, none⟩) 1 1, .agg (opC kd amt c id).toArray] (by simp [Act.eval]) (by go_simp) (layop_any kd amt id c (.slice (some ⟨g23, 0, none⟩) 1 1) V2.heap.size [5] X3 HOK HW HAI OX3 (Lib.hid EX3.out.size) (Lib.hid (by simp))) ?_
      rintro e X4 ⟨v26, rfl, hO, hG, hL⟩
      rw [opL_eq kd amt id c HAI.out HW.out] at hO
      obtain ⟨A26, c26, hv, _⟩ := Oct.Own.src hO
      rw [HN2.out] at hv
      subst hv
      have EX4 := Lib.hid (EX3.out.trans (Oct.grown_below hG EX3.out.size (fun g hg => (World.ownsRow.lt OX3.out g hg).1)))
      have PX4 := Lib.hid (PX3.out.grown hG (fun e => by have := (World.ownsRow.lt OX3.out gp e.symm).1; have := HLP.out; omega))
      have UX4 := Lib.hid (UX3.out.grown hG (fun e => by have := (World.ownsRow.lt OX3.out go e.symm).1; have := HLU.out; omega))
      have KX4 : Hid (Blk X4 g28 5 [.int .u8 5]) := Lib.hid (KX3.out.grown hG (fun e => by have e' : some g28 = some g23 := e; injection e' with e'; exact NE.out e'.symm))
      have NX4 : Hid (Oct.Own X4 V2.heap.size (.slice A26 n2 c26) ([5] ++ opD kd amt c id)) := Lib.hid (hO)
      clear EX3 PX3 UX3 KX3 hO hG hL OX3
      refine ⟨_, rfl, hK.out _ _ (⟨PX4.out, UX4.out⟩) (fun hHeld => ?_)⟩
      clear hK K
      show wpAnyH _ _ _ _ _ _ _ (Act.put _ (some 26) _) _
      simp only [Act.put, L1, L2, L3]
      refine wpAnyH_ready (rs := [18, 21]) (by kernel_rfl) (by simp) ?_
      refine AllReadyH.cons rfl (fun K hK => ?_) (AllReadyH.cons rfl (fun K hK => ?_) AllReadyH.nil)
      ·refine step_val rfl (.string (Oct.txt ([5] ++ opD kd amt c id))) X4 (run_conv_op rfl rfl (Oct.to_string X4 A26 c26 n2 ([5] ++ opD kd amt c id) HN2.out.symm (own_srcI NX4.out))) ?_
       refine hK.out _ _ (⟨PX4.out, UX4.out⟩) (fun hHeld => ?_)
       clear hK K
       show wpAnyH _ _ _ _ _ _ _ (Act.put _ (some 27) _) _
       simp only [Act.put, L1, L2, L3]
       refine wpAnyH_ready (rs := [21]) (by kernel_rfl) (by simp) ?_
       refine AllReadyH.cons rfl (fun K hK => ?_) AllReadyH.nil
       refine step_call rfl 12 #[.tmp 28, .tmp 29] #[35, 32] rfl #[.slice (some ⟨g28, 0, none⟩) 1 1, .agg (opC kd amt c id).toArray] (by simp [Act.eval]) (by go_simp) (rop_any (some ⟨g28, 0, none⟩) 1 1 [5] kd amt id c X4 HOK HW HAI (src_blk KX4.out) (Lib.hid rfl) (by omega)) ?_
       rintro e X6 ⟨v30, rfl, hO, hB⟩
       replace hO := own_base (c := V2.heap.size) hO EX4.out.size
       obtain ⟨A30, c30, hv, _⟩ := Oct.Own.src hO
       rw [HN2.out] at hv
       subst hv
       have EX6 := Lib.hid (EX4.out.trans (hB.mono EX4.out.size))
       have PX6 := Lib.hid (PX4.out.below hB PX4.out.lt)
       have UX6 := Lib.hid (UX4.out.below hB UX4.out.lt)
       have MX6 : Hid (Oct.Own X6 V2.heap.size (.slice A30 n2 c30) ([5] ++ opD kd amt c id)) := Lib.hid (hO)
       clear EX4 PX4 UX4 hB hO
       refine ⟨_, rfl, hK.out _ _ (⟨PX6.out, UX6.out⟩) (fun hHeld => ?_)⟩
       clear hK K
       show wpAnyH _ _ _ _ _ _ _ (Act.put _ (some 30) _) _
       simp only [Act.put, L1, L2, L3]
       refine wpAnyH_ready (rs := [22]) (by kernel_rfl) (by simp) ?_
       refine AllReadyH.cons rfl (fun K hK => ?_) AllReadyH.nil
       refine step_val rfl (.string (Oct.txt ([5] ++ opD kd amt c id))) X6 (run_conv_op rfl rfl (to_string35 X6 A30 c30 n2 ([5] ++ opD kd amt c id) HN2.out.symm (own_srcI MX6.out))) ?_
       refine hK.out _ _ (⟨PX6.out, UX6.out⟩) (fun hHeld => ?_)
       clear hK K
       show wpAnyH _ _ _ _ _ _ _ (Act.put _ (some 31) _) _
       simp only [Act.put, L1, L2, L3]
       refine wpAnyH_take (i := 23) (v := .bool true) rfl (by kernel_rfl) (by kernel_rfl) (by kernel_rfl) (fun _ _ _ h => h) (Or.inl ⟨by rfl, fun w' h => run_eq_str rfl rfl rfl w'⟩) hHeld ?_
       show wpAnyH _ _ _ _ _ _ _ (Act.put _ (some 32) _) _
       simp only [Act.put, L1, L2, L3]
       refine wpAnyH_take (i := 24) (v := .bool true) rfl (by kernel_rfl) (by kernel_rfl) (by kernel_rfl) (fun _ _ _ h => h) (Or.inl ⟨by rfl, by intro w hSw; first | rfl | go_simp⟩) hHeld ?_
       show wpAnyH _ _ _ _ _ _ _ (Act.put _ (some 33) _) _
       simp only [Act.put, L1, L2, L3]
       refine wpAnyH_take (i := 25) (v := .bool true) rfl (by kernel_rfl) (by kernel_rfl) (by kernel_rfl) (fun _ _ _ h => h) (Or.inl ⟨by rfl, fun w _ => by rfl⟩) hHeld ?_
       show wpAnyH _ _ _ _ _ _ _ (Act.put _ (some 34) _) _
       simp only [Act.put, L1, L2, L3]
       refine wpAnyH_take (i := 26) (v := .agg #[.int .u32 ch, .int .u64 rd, .int .u64 m0, .int .u64 m1, .int .u64 t0, .int .u64 t1, .slice As n cp]) rfl (by kernel_rfl) (by kernel_rfl) (by kernel_rfl) (fun _ _ _ h => h) (yieldsIf_load_mid (by rfl) 27 (.tmp 2) rfl gp 0 rfl [.int .u32 ch, .int .u64 rd, .int .u64 m0, .int .u64 m1, .int .u64 t0, .int .u64 t1, .slice As n cp] _ (fun w' h => Blk.all h.1) Tryd.underlying27 rfl info27) hHeld ?_
       show wpAnyH _ _ _ _ _ _ _ (Act.put _ (some 35) _) _
       simp only [Act.put, L1, L2, L3]
       refine wpAnyH_take (i := 30) (v := .agg #[.int .u32 ch, .int .u64 rd, .int .u64 m0, .int .u64 m1, .int .u64 t0, .int .u64 t1, .slice As n cp]) rfl (by kernel_rfl) (by kernel_rfl) (by kernel_rfl) (fun _ _ _ h => h) (yieldsIf_load_mid (by rfl) 27 (.tmp 2) rfl gp 0 rfl [.int .u32 ch, .int .u64 rd, .int .u64 m0, .int .u64 m1, .int .u64 t0, .int .u64 t1, .slice As n cp] _ (fun w' h => Blk.all h.1) Tryd.underlying27 rfl info27) hHeld ?_
       show wpAnyH _ _ _ _ _ _ _ (Act.put _ (some 39) _) _
       simp only [Act.put, L1, L2, L3]
       refine wpAnyH_at (fuel := 7) (L := #[true, true, true, true, true, true, true, true, true, true, true, true, true, true, true, true, true, true, true, true, true, true, true, true, true, true, true, false, false, false, true, false, false, false, false]) (by kernel_rfl) (by kernel_rfl) ?_
       exact tail2 X6 g23 A26 c26 g28 A30 c30 EX6 PX6 UX6
      ·refine step_call rfl 12 #[.tmp 28, .tmp 29] #[35, 32] rfl #[.slice (some ⟨g28, 0, none⟩) 1 1, .agg (opC kd amt c id).toArray] (by simp [Act.eval]) (by go_simp) (rop_any (some ⟨g28, 0, none⟩) 1 1 [5] kd amt id c X4 HOK HW HAI (src_blk KX4.out) (Lib.hid rfl) (by omega)) ?_
       rintro e X5 ⟨v30, rfl, hO, hB⟩
       replace hO := own_base (c := V2.heap.size) hO EX4.out.size
       obtain ⟨A30, c30, hv, _⟩ := Oct.Own.src hO
       rw [HN2.out] at hv
       subst hv
       have EX5 := Lib.hid (EX4.out.trans (hB.mono EX4.out.size))
       have PX5 := Lib.hid (PX4.out.below hB PX4.out.lt)
       have UX5 := Lib.hid (UX4.out.below hB UX4.out.lt)
       have NX5 : Hid (Oct.Own X5 V2.heap.size (.slice A26 n2 c26) ([5] ++ opD kd amt c id)) := Lib.hid (Oct.Own.below NX4.out hB)
       have MX5 : Hid (Oct.Own X5 V2.heap.size (.slice A30 n2 c30) ([5] ++ opD kd amt c id)) := Lib.hid (hO)
       clear EX4 PX4 UX4 NX4 hB hO
       refine ⟨_, rfl, hK.out _ _ (⟨PX5.out, UX5.out⟩) (fun hHeld => ?_)⟩
       clear hK K
       show wpAnyH _ _ _ _ _ _ _ (Act.put _ (some 30) _) _
       simp only [Act.put, L1, L2, L3]
       refine wpAnyH_ready (rs := [18, 22]) (by kernel_rfl) (by simp) ?_
       refine AllReadyH.cons rfl (fun K hK => ?_) (AllReadyH.cons rfl (fun K hK => ?_) AllReadyH.nil)
       ·refine step_val rfl (.string (Oct.txt ([5] ++ opD kd amt c id))) X5 (run_conv_op rfl rfl (Oct.to_string X5 A26 c26 n2 ([5] ++ opD kd amt c id) HN2.out.symm (own_srcI NX5.out))) ?_
        refine hK.out _ _ (⟨PX5.out, UX5.out⟩) (fun hHeld => ?_)
        clear hK K
        show wpAnyH _ _ _ _ _ _ _ (Act.put _ (some 27) _) _
        simp only [Act.put, L1, L2, L3]
        refine wpAnyH_ready (rs := [22]) (by kernel_rfl) (by simp) ?_
        refine AllReadyH.cons rfl (fun K hK => ?_) AllReadyH.nil
        refine step_val rfl (.string (Oct.txt ([5] ++ opD kd amt c id))) X5 (run_conv_op rfl rfl (to_string35 X5 A30 c30 n2 ([5] ++ opD kd amt c id) HN2.out.symm (own_srcI MX5.out))) ?_
        refine hK.out _ _ (⟨PX5.out, UX5.out⟩) (fun hHeld => ?_)
        clear hK K
        show wpAnyH _ _ _ _ _ _ _ (Act.put _ (some 31) _) _
        simp only [Act.put, L1, L2, L3]
        refine wpAnyH_take (i := 23) (v := .bool true) rfl (by kernel_rfl) (by kernel_rfl) (by kernel_rfl) (fun _ _ _ h => h) (Or.inl ⟨by rfl, fun w' h => run_eq_str rfl rfl rfl w'⟩) hHeld ?_
        show wpAnyH _ _ _ _ _ _ _ (Act.put _ (some 32) _) _
        simp only [Act.put, L1, L2, L3]
        refine wpAnyH_take (i := 24) (v := .bool true) rfl (by kernel_rfl) (by kernel_rfl) (by kernel_rfl) (fun _ _ _ h => h) (Or.inl ⟨by rfl, by intro w hSw; first | rfl | go_simp⟩) hHeld ?_
        show wpAnyH _ _ _ _ _ _ _ (Act.put _ (some 33) _) _
        simp only [Act.put, L1, L2, L3]
        refine wpAnyH_take (i := 25) (v := .bool true) rfl (by kernel_rfl) (by kernel_rfl) (by kernel_rfl) (fun _ _ _ h => h) (Or.inl ⟨by rfl, fun w _ => by rfl⟩) hHeld ?_
        show wpAnyH _ _ _ _ _ _ _ (Act.put _ (some 34) _) _
        simp only [Act.put, L1, L2, L3]
        refine wpAnyH_take (i := 26) (v := .agg #[.int .u32 ch, .int .u64 rd, .int .u64 m0, .int .u64 m1, .int .u64 t0, .int .u64 t1, .slice As n cp]) rfl (by kernel_rfl) (by kernel_rfl) (by kernel_rfl) (fun _ _ _ h => h) (yieldsIf_load_mid (by rfl) 27 (.tmp 2) rfl gp 0 rfl [.int .u32 ch, .int .u64 rd, .int .u64 m0, .int .u64 m1, .int .u64 t0, .int .u64 t1, .slice As n cp] _ (fun w' h => Blk.all h.1) Tryd.underlying27 rfl info27) hHeld ?_
        show wpAnyH _ _ _ _ _ _ _ (Act.put _ (some 35) _) _
        simp only [Act.put, L1, L2, L3]
        refine wpAnyH_take (i := 30) (v := .agg #[.int .u32 ch, .int .u64 rd, .int .u64 m0, .int .u64 m1, .int .u64 t0, .int .u64 t1, .slice As n cp]) rfl (by kernel_rfl) (by kernel_rfl) (by kernel_rfl) (fun _ _ _ h => h) (yieldsIf_load_mid (by rfl) 27 (.tmp 2) rfl gp 0 rfl [.int .u32 ch, .int .u64 rd, .int .u64 m0, .int .u64 m1, .int .u64 t0, .int .u64 t1, .slice As n cp] _ (fun w' h => Blk.all h.1) Tryd.underlying27 rfl info27) hHeld ?_
        show wpAnyH _ _ _ _ _ _ _ (Act.put _ (some 39) _) _
        simp only [Act.put, L1, L2, L3]
        refine wpAnyH_at (fuel := 7) (L := #[true, true, true, true, true, true, true, true, true, true, true, true, true, true, true, true, true, true, true, true, true, true, true, true, true, true, true, false, false, false, true, false, false, false, false]) (by kernel_rfl) (by kernel_rfl) ?_
        exact tail2 X5 g23 A26 c26 g28 A30 c30 EX5 PX5 UX5
       ·refine step_val rfl (.string (Oct.txt ([5] ++ opD kd amt c id))) X5 (run_conv_op rfl rfl (to_string35 X5 A30 c30 n2 ([5] ++ opD kd amt c id) HN2.out.symm (own_srcI MX5.out))) ?_
        refine hK.out _ _ (⟨PX5.out, UX5.out⟩) (fun hHeld => ?_)
        clear hK K
        show wpAnyH _ _ _ _ _ _ _ (Act.put _ (some 31) _) _
        simp only [Act.put, L1, L2, L3]
        refine wpAnyH_ready (rs := [18]) (by kernel_rfl) (by simp) ?_
        refine AllReadyH.cons rfl (fun K hK => ?_) AllReadyH.nil
        refine step_val rfl (.string (Oct.txt ([5] ++ opD kd amt c id))) X5 (run_conv_op rfl rfl (Oct.to_string X5 A26 c26 n2 ([5] ++ opD kd amt c id) HN2.out.symm (own_srcI NX5.out))) ?_
        refine hK.out _ _ (⟨PX5.out, UX5.out⟩) (fun hHeld => ?_)
        clear hK K
        show wpAnyH _ _ _ _ _ _ _ (Act.put _ (some 27) _) _
        simp only [Act.put, L1, L2, L3]
        refine wpAnyH_take (i := 23) (v := .bool true) rfl (by kernel_rfl) (by kernel_rfl) (by kernel_rfl) (fun _ _ _ h => h) (Or.inl ⟨by rfl, fun w' h => run_eq_str rfl rfl rfl w'⟩) hHeld ?_
        show wpAnyH _ _ _ _ _ _ _ (Act.put _ (some 32) _) _
        simp only [Act.put, L1, L2, L3]
        refine wpAnyH_take (i := 24) (v := .bool true) rfl (by kernel_rfl) (by kernel_rfl) (by kernel_rfl) (fun _ _ _ h => h) (Or.inl ⟨by rfl, by intro w hSw; first | rfl | go_simp⟩) hHeld ?_
        show wpAnyH _ _ _ _ _ _ _ (Act.put _ (some 33) _) _
        simp only [Act.put, L1, L2, L3]
        refine wpAnyH_take (i := 25) (v := .bool true) rfl (by kernel_rfl) (by kernel_rfl) (by kernel_rfl) (fun _ _ _ h => h) (Or.inl ⟨by rfl, fun w _ => by rfl⟩) hHeld ?_
        show wpAnyH _ _ _ _ _ _ _ (Act.put _ (some 34) _) _
        simp only [Act.put, L1, L2, L3]
        refine wpAnyH_take (i := 26) (v := .agg #[.int .u32 ch, .int .u64 rd, .int .u64 m0, .int .u64 m1, .int .u64 t0, .int .u64 t1, .slice As n cp]) rfl (by kernel_rfl) (by kernel_rfl) (by kernel_rfl) (fun _ _ _ h => h) (yieldsIf_load_mid (by rfl) 27 (.tmp 2) rfl gp 0 rfl [.int .u32 ch, .int .u64 rd, .int .u64 m0, .int .u64 m1, .int .u64 t0, .int .u64 t1, .slice As n cp] _ (fun w' h => Blk.all h.1) Tryd.underlying27 rfl info27) hHeld ?_
        show wpAnyH _ _ _ _ _ _ _ (Act.put _ (some 35) _) _
        simp only [Act.put, L1, L2, L3]
        refine wpAnyH_take (i := 30) (v := .agg #[.int .u32 ch, .int .u64 rd, .int .u64 m0, .int .u64 m1, .int .u64 t0, .int .u64 t1, .slice As n cp]) rfl (by kernel_rfl) (by kernel_rfl) (by kernel_rfl) (fun _ _ _ h => h) (yieldsIf_load_mid (by rfl) 27 (.tmp 2) rfl gp 0 rfl [.int .u32 ch, .int .u64 rd, .int .u64 m0, .int .u64 m1, .int .u64 t0, .int .u64 t1, .slice As n cp] _ (fun w' h => Blk.all h.1) Tryd.underlying27 rfl info27) hHeld ?_
        show wpAnyH _ _ _ _ _ _ _ (Act.put _ (some 39) _) _
        simp only [Act.put, L1, L2, L3]
        refine wpAnyH_at (fuel := 7) (L := #[true, true, true, true, true, true, true, true, true, true, true, true, true, true, true, true, true, true, true, true, true, true, true, true, true, true, true, false, false, false, true, false, false, false, false]) (by kernel_rfl) (by kernel_rfl) ?_
        exact tail2 X5 g23 A26 c26 g28 A30 c30 EX5 PX5 UX5
     ·refine step_call rfl 11 #[.tmp 24] #[32] rfl #[.agg (opC kd amt c id).toArray] (by simp [Act.eval]) (by go_simp) (lop_any kd amt id c X1 HOK) ?_
      rintro e X2 ⟨rfl, hB⟩
      have EX2 := Lib.hid (EX1.out.trans (hB.mono EX1.out.size))
      have PX2 := Lib.hid (PX1.out.below hB PX1.out.lt)
      have UX2 := Lib.hid (UX1.out.below hB UX1.out.lt)
      have KX2 : Hid (Blk X2 g28 5 [.int .u8 5]) := Lib.hid (KX1.out.below hB KX1.out.lt)
      clear EX1 PX1 UX1 KX1 hB
      refine ⟨_, rfl, hK.out _ _ (⟨PX2.out, UX2.out⟩) (fun hHeld => ?_)⟩
      clear hK K
      show wpAnyH _ _ _ _ _ _ _ (Act.put _ (some 25) _) _
      simp only [Act.put, L1, L2, L3]
      refine wpAnyH_ready (rs := [14]) (by kernel_rfl) (by simp) ?_
      refine AllReadyH.cons rfl (fun K hK => ?_) AllReadyH.nil
      refine step_lay rfl 36 1 #[(0, .const (.int .u8 5))] rfl #[(0, .int .u8 5)] (by simp [Act.eval]) (.slice (some ⟨X2.heap.size, 0, none⟩) 1 1) (X2.alloc (.cells #[.int .u8 5] 5)) (by kernel_rfl) ?_
      have hB : Below X2.heap.size X2 (X2.alloc (.cells #[.int .u8 5] 5)) := (Below.refl _ _).alloc (Nat.le_refl _) _
      have hO : Oct.Own (X2.alloc (.cells #[.int .u8 5] 5)) V2.heap.size (.slice (some ⟨X2.heap.size, 0, none⟩) 1 1) [5] := own_base (own_five X2) EX2.out.size
      generalize X2.alloc (.cells #[.int .u8 5] 5) = X3 at hB hO ⊢
      obtain ⟨g23, hg⟩ : ∃ x, X2.heap.size = x := ⟨_, rfl⟩
      have NE : Hid (g23 ≠ g28) := Lib.hid (by have := KX2.out.lt; omega)
      rw [hg] at hO ⊢
      have EX3 := Lib.hid (EX2.out.trans (hB.mono EX2.out.size))
      have PX3 := Lib.hid (PX2.out.below hB PX2.out.lt)
      have UX3 := Lib.hid (UX2.out.below hB UX2.out.lt)
      have KX3 : Hid (Blk X3 g28 5 [.int .u8 5]) := Lib.hid (KX2.out.below hB KX2.out.lt)
      have OX3 : Hid (Oct.Own X3 V2.heap.size (.slice (some ⟨g23, 0, none⟩) 1 1) [5]) := Lib.hid (hO)
      clear EX2 PX2 UX2 KX2 hB hg hO
      refine hK.out _ _ (⟨PX3.out, UX3.out⟩) (fun hHeld => ?_)
      clear hK K
      show wpAnyH _ _ _ _ _ _ _ (Act.put _ (some 23) _) _
      simp only [Act.put, L1, L2, L3]
      refine wpAnyH_ready (rs := [17]) (by kernel_rfl) (by simp) ?_
      refine AllReadyH.cons rfl (fun K hK => ?_) AllReadyH.nil
      refine step_call rfl 10 #[.tmp 23, .tmp 25] #[36, 49] rfl #[.slice (some ⟨g23, 0, none⟩) 1 1, .agg (opC kd amt c id).toArray] (by simp [Act.eval]) (by go_simp) (layop_any kd amt id c (.slice (some ⟨g23, 0, none⟩) 1 1) V2.heap.size [5] X3 HOK HW HAI OX3 (Lib.hid EX3.out.size) (Lib.hid (by simp))) ?_
      rintro e X4 ⟨v26, rfl, hO, hG, hL⟩
      rw [opL_eq kd amt id c HAI.out HW.out] at hO
      obtain ⟨A26, c26, hv, _⟩ := Oct.Own.src hO
      rw [HN2.out] at hv
      subst hv
      have EX4 := Lib.hid (EX3.out.trans (Oct.grown_below hG EX3.out.size (fun g hg => (World.ownsRow.lt OX3.out g hg).1)))
      have PX4 := Lib.hid (PX3.out.grown hG (fun e => by have := (World.ownsRow.lt OX3.out gp e.symm).1; have := HLP.out; omega))
      have UX4 := Lib.hid (UX3.out.grown hG (fun e => by have := (World.ownsRow.lt OX3.out go e.symm).1; have := HLU.out; omega))
      have KX4 : Hid (Blk X4 g28 5 [.int .u8 5]) := Lib.hid (KX3.out.grown hG (fun e => by have e' : some g28 = some g23 := e; injection e' with e'; exact NE.out e'.symm))
      have NX4 : Hid (Oct.Own X4 V2.heap.size (.slice A26 n2 c26) ([5] ++ opD kd amt c id)) := Lib.hid (hO)
      clear EX3 PX3 UX3 KX3 hO hG hL OX3
      refine ⟨_, rfl, hK.out _ _ (⟨PX4.out, UX4.out⟩) (fun hHeld => ?_)⟩
      clear hK K
      show wpAnyH _ _ _ _ _ _ _ (Act.put _ (some 26) _) _
      simp only [Act.put, L1, L2, L3]
      refine wpAnyH_ready (rs := [18, 21]) (by kernel_rfl) (by simp) ?_
      refine AllReadyH.cons rfl (fun K hK => ?_) (AllReadyH.cons rfl (fun K hK => ?_) AllReadyH.nil)
      ·refine step_val rfl (.string (Oct.txt ([5] ++ opD kd amt c id))) X4 (run_conv_op rfl rfl (Oct.to_string X4 A26 c26 n2 ([5] ++ opD kd amt c id) HN2.out.symm (own_srcI NX4.out))) ?_
       refine hK.out _ _ (⟨PX4.out, UX4.out⟩) (fun hHeld => ?_)
       clear hK K
       show wpAnyH _ _ _ _ _ _ _ (Act.put _ (some 27) _) _
       simp only [Act.put, L1, L2, L3]
       refine wpAnyH_ready (rs := [21]) (by kernel_rfl) (by simp) ?_
       refine AllReadyH.cons rfl (fun K hK => ?_) AllReadyH.nil
       refine step_call rfl 12 #[.tmp 28, .tmp 29] #[35, 32] rfl #[.slice (some ⟨g28, 0, none⟩) 1 1, .agg (opC kd amt c id).toArray] (by simp [Act.eval]) (by go_simp) (rop_any (some ⟨g28, 0, none⟩) 1 1 [5] kd amt id c X4 HOK HW HAI (src_blk KX4.out) (Lib.hid rfl) (by omega)) ?_
       rintro e X6 ⟨v30, rfl, hO, hB⟩
       replace hO := own_base (c := V2.heap.size) hO EX4.out.size
       obtain ⟨A30, c30, hv, _⟩ := Oct.Own.src hO
       rw [HN2.out] at hv
       subst hv
       have EX6 := Lib.hid (EX4.out.trans (hB.mono EX4.out.size))
       have PX6 := Lib.hid (PX4.out.below hB PX4.out.lt)
       have UX6 := Lib.hid (UX4.out.below hB UX4.out.lt)
       have MX6 : Hid (Oct.Own X6 V2.heap.size (.slice A30 n2 c30) ([5] ++ opD kd amt c id)) := Lib.hid (hO)
       clear EX4 PX4 UX4 hB hO
       refine ⟨_, rfl, hK.out _ _ (⟨PX6.out, UX6.out⟩) (fun hHeld => ?_)⟩
       clear hK K
       show wpAnyH _ _ _ _ _ _ _ (Act.put _ (some 30) _) _
       simp only [Act.put, L1, L2, L3]
       refine wpAnyH_ready (rs := [22]) (by kernel_rfl) (by simp) ?_
       refine AllReadyH.cons rfl (fun K hK => ?_) AllReadyH.nil
       refine step_val rfl (.string (Oct.txt ([5] ++ opD kd amt c id))) X6 (run_conv_op rfl rfl (to_string35 X6 A30 c30 n2 ([5] ++ opD kd amt c id) HN2.out.symm (own_srcI MX6.out))) ?_
       refine hK.out _ _ (⟨PX6.out, UX6.out⟩) (fun hHeld => ?_)
       clear hK K
       show wpAnyH _ _ _ _ _ _ _ (Act.put _ (some 31) _) _
       simp only [Act.put, L1, L2, L3]
       refine wpAnyH_take (i := 23) (v := .bool true) rfl (by kernel_rfl) (by kernel_rfl) (by kernel_rfl) (fun _ _ _ h => h) (Or.inl ⟨by rfl, fun w' h => run_eq_str rfl rfl rfl w'⟩) hHeld ?_
       show wpAnyH _ _ _ _ _ _ _ (Act.put _ (some 32) _) _
       simp only [Act.put, L1, L2, L3]
       refine wpAnyH_take (i := 24) (v := .bool true) rfl (by kernel_rfl) (by kernel_rfl) (by kernel_rfl) (fun _ _ _ h => h) (Or.inl ⟨by rfl, by intro w hSw; first | rfl | go_simp⟩) hHeld ?_
       show wpAnyH _ _ _ _ _ _ _ (Act.put _ (some 33) _) _
       simp only [Act.put, L1, L2, L3]
       refine wpAnyH_take (i := 25) (v := .bool true) rfl (by kernel_rfl) (by kernel_rfl) (by kernel_rfl) (fun _ _ _ h => h) (Or.inl ⟨by rfl, fun w _ => by rfl⟩) hHeld ?_
       show wpAnyH _ _ _ _ _ _ _ (Act.put _ (some 34) _) _
       simp only [Act.put, L1, L2, L3]
       refine wpAnyH_take (i := 26) (v := .agg #[.int .u32 ch, .int .u64 rd, .int .u64 m0, .int .u64 m1, .int .u64 t0, .int .u64 t1, .slice As n cp]) rfl (by kernel_rfl) (by kernel_rfl) (by kernel_rfl) (fun _ _ _ h => h) (yieldsIf_load_mid (by rfl) 27 (.tmp 2) rfl gp 0 rfl [.int .u32 ch, .int .u64 rd, .int .u64 m0, .int .u64 m1, .int .u64 t0, .int .u64 t1, .slice As n cp] _ (fun w' h => Blk.all h.1) Tryd.underlying27 rfl info27) hHeld ?_
       show wpAnyH _ _ _ _ _ _ _ (Act.put _ (some 35) _) _
       simp only [Act.put, L1, L2, L3]
       refine wpAnyH_take (i := 30) (v := .agg #[.int .u32 ch, .int .u64 rd, .int .u64 m0, .int .u64 m1, .int .u64 t0, .int .u64 t1, .slice As n cp]) rfl (by kernel_rfl) (by kernel_rfl) (by kernel_rfl) (fun _ _ _ h => h) (yieldsIf_load_mid (by rfl) 27 (.tmp 2) rfl gp 0 rfl [.int .u32 ch, .int .u64 rd, .int .u64 m0, .int .u64 m1, .int .u64 t0, .int .u64 t1, .slice As n cp] _ (fun w' h => Blk.all h.1) Tryd.underlying27 rfl info27) hHeld ?_
       show wpAnyH _ _ _ _ _ _ _ (Act.put _ (some 39) _) _
       simp only [Act.put, L1, L2, L3]
       refine wpAnyH_at (fuel := 7) (L := #[true, true, true, true, true, true, true, true, true, true, true, true, true, true, true, true, true, true, true, true, true, true, true, true, true, true, true, false, false, false, true, false, false, false, false]) (by kernel_rfl) (by kernel_rfl) ?_
       exact tail2 X6 g23 A26 c26 g28 A30 c30 EX6 PX6 UX6
      ·refine step_call rfl 12 #[.tmp 28, .tmp 29] #[35, 32] rfl #[.slice (some ⟨g28, 0, none⟩) 1 1, .agg (opC kd amt c id).toArray] (by simp [Act.eval]) (by go_simp) (rop_any (some ⟨g28, 0, none⟩) 1 1 [5] kd amt id c X4 HOK HW HAI (src_blk KX4.out) (Lib.hid rfl) (by omega)) ?_
       rintro e X5 ⟨v30, rfl, hO, hB⟩
       replace hO := own_base (c := V2.heap.size) hO EX4.out.size
       obtain ⟨A30, c30, hv, _⟩ := Oct.Own.src hO
       rw [HN2.out] at hv
       subst hv
       have EX5 := Lib.hid (EX4.out.trans (hB.mono EX4.out.size))
       have PX5 := Lib.hid (PX4.out.below hB PX4.out.lt)
       have UX5 := Lib.hid (UX4.out.below hB UX4.out.lt)
       have NX5 : Hid (Oct.Own X5 V2.heap.size (.slice A26 n2 c26) ([5] ++ opD kd amt c id)) := Lib.hid (Oct.Own.below NX4.out hB)
       have MX5 : Hid (Oct.Own X5 V2.heap.size (.slice A30 n2 c30) ([5] ++ opD kd amt c id)) := Lib.hid (hO)
       clear EX4 PX4 UX4 NX4 hB hO
       refine ⟨_, rfl, hK.out _ _ (⟨PX5.out, UX5.out⟩) (fun hHeld => ?_)⟩
       clear hK K
       show wpAnyH _ _ _ _ _ _ _ (Act.put _ (some 30) _) _
       simp only [Act.put, L1, L2, L3]
       refine wpAnyH_ready (rs := [18, 22]) (by kernel_rfl) (by simp) ?_
       refine AllReadyH.cons rfl (fun K hK => ?_) (AllReadyH.cons rfl (fun K hK => ?_) AllReadyH.nil)
       ·refine step_val rfl (.string (Oct.txt ([5] ++ opD kd amt c id))) X5 (run_conv_op rfl rfl (Oct.to_string X5 A26 c26 n2 ([5] ++ opD kd amt c id) HN2.out.symm (own_srcI NX5.out))) ?_
        refine hK.out _ _ (⟨PX5.out, UX5.out⟩) (fun hHeld => ?_)
        clear hK K
        show wpAnyH _ _ _ _ _ _ _ (Act.put _ (some 27) _) _
        simp only [Act.put, L1, L2, L3]
        refine wpAnyH_ready (rs := [22]) (by kernel_rfl) (by simp) ?_
        refine AllReadyH.cons rfl (fun K hK => ?_) AllReadyH.nil
        refine step_val rfl (.string (Oct.txt ([5] ++ opD kd amt c id))) X5 (run_conv_op rfl rfl (to_string35 X5 A30 c30 n2 ([5] ++ opD kd amt c id) HN2.out.symm (own_srcI MX5.out))) ?_
        refine hK.out _ _ (⟨PX5.out, UX5.out⟩) (fun hHeld => ?_)
        clear hK K
        show wpAnyH _ _ _ _ _ _ _ (Act.put _ (some 31) _) _
        simp only [Act.put, L1, L2, L3]
        refine wpAnyH_take (i := 23) (v := .bool true) rfl (by kernel_rfl) (by kernel_rfl) (by kernel_rfl) (fun _ _ _ h => h) (Or.inl ⟨by rfl, fun w' h => run_eq_str rfl rfl rfl w'⟩) hHeld ?_
        show wpAnyH _ _ _ _ _ _ _ (Act.put _ (some 32) _) _
        simp only [Act.put, L1, L2, L3]
        refine wpAnyH_take (i := 24) (v := .bool true) rfl (by kernel_rfl) (by kernel_rfl) (by kernel_rfl) (fun _ _ _ h => h) (Or.inl ⟨by rfl, by intro w hSw; first | rfl | go_simp⟩) hHeld ?_
        show wpAnyH _ _ _ _ _ _ _ (Act.put _ (some 33) _) _
        simp only [Act.put, L1, L2, L3]
        refine wpAnyH_take (i := 25) (v := .bool true) rfl (by kernel_rfl) (by kernel_rfl) (by kernel_rfl) (fun _ _ _ h => h) (Or.inl ⟨by rfl, fun w _ => by rfl⟩) hHeld ?_
        show wpAnyH _ _ _ _ _ _ _ (Act.put _ (some 34) _) _
        simp only [Act.put, L1, L2, L3]
        refine wpAnyH_take (i := 26) (v := .agg #[.int .u32 ch, .int .u64 rd, .int .u64 m0, .int .u64 m1, .int .u64 t0, .int .u64 t1, .slice As n cp]) rfl (by kernel_rfl) (by kernel_rfl) (by kernel_rfl) (fun _ _ _ h => h) (yieldsIf_load_mid (by rfl) 27 (.tmp 2) rfl gp 0 rfl [.int .u32 ch, .int .u64 rd, .int .u64 m0, .int .u64 m1, .int .u64 t0, .int .u64 t1, .slice As n cp] _ (fun w' h => Blk.all h.1) Tryd.underlying27 rfl info27) hHeld ?_
        show wpAnyH _ _ _ _ _ _ _ (Act.put _ (some 35) _) _
        simp only [Act.put, L1, L2, L3]
        refine wpAnyH_take (i := 30) (v := .agg #[.int .u32 ch, .int .u64 rd, .int .u64 m0, .int .u64 m1, .int .u64 t0, .int .u64 t1, .slice As n cp]) rfl (by kernel_rfl) (by kernel_rfl) (by kernel_rfl) (fun _ _ _ h => h) (yieldsIf_load_mid (by rfl) 27 (.tmp 2) rfl gp 0 rfl [.int .u32 ch, .int .u64 rd, .int .u64 m0, .int .u64 m1, .int .u64 t0, .int .u64 t1, .slice As n cp] _ (fun w' h => Blk.all h.1) Tryd.underlying27 rfl info27) hHeld ?_
        show wpAnyH _ _ _ _ _ _ _ (Act.put _ (some 39) _) _
        simp only [Act.put, L1, L2, L3]
        refine wpAnyH_at (fuel := 7) (L := #[true, true, true, true, true, true, true, true, true, true, true, true, true, true, true, true, true, true, true, true, true, true, true, true, true, true, true, false, false, false, true, false, false, false, false]) (by kernel_rfl) (by kernel_rfl) ?_
        exact tail2 X5 g23 A26 c26 g28 A30 c30 EX5 PX5 UX5
       ·refine step_val rfl (.string (Oct.txt ([5] ++ opD kd amt c id))) X5 (run_conv_op rfl rfl (to_string35 X5 A30 c30 n2 ([5] ++ opD kd amt c id) HN2.out.symm (own_srcI MX5.out))) ?_
        refine hK.out _ _ (⟨PX5.out, UX5.out⟩) (fun hHeld => ?_)
        clear hK K
        show wpAnyH _ _ _ _ _ _ _ (Act.put _ (some 31) _) _
        simp only [Act.put, L1, L2, L3]
        refine wpAnyH_ready (rs := [18]) (by kernel_rfl) (by simp) ?_
        refine AllReadyH.cons rfl (fun K hK => ?_) AllReadyH.nil
        refine step_val rfl (.string (Oct.txt ([5] ++ opD kd amt c id))) X5 (run_conv_op rfl rfl (Oct.to_string X5 A26 c26 n2 ([5] ++ opD kd amt c id) HN2.out.symm (own_srcI NX5.out))) ?_
        refine hK.out _ _ (⟨PX5.out, UX5.out⟩) (fun hHeld => ?_)
        clear hK K
        show wpAnyH _ _ _ _ _ _ _ (Act.put _ (some 27) _) _
        simp only [Act.put, L1, L2, L3]
        refine wpAnyH_take (i := 23) (v := .bool true) rfl (by kernel_rfl) (by kernel_rfl) (by kernel_rfl) (fun _ _ _ h => h) (Or.inl ⟨by rfl, fun w' h => run_eq_str rfl rfl rfl w'⟩) hHeld ?_
        show wpAnyH _ _ _ _ _ _ _ (Act.put _ (some 32) _) _
        simp only [Act.put, L1, L2, L3]
        refine wpAnyH_take (i := 24) (v := .bool true) rfl (by kernel_rfl) (by kernel_rfl) (by kernel_rfl) (fun _ _ _ h => h) (Or.inl ⟨by rfl, by intro w hSw; first | rfl | go_simp⟩) hHeld ?_
        show wpAnyH _ _ _ _ _ _ _ (Act.put _ (some 33) _) _
        simp only [Act.put, L1, L2, L3]
        refine wpAnyH_take (i := 25) (v := .bool true) rfl (by kernel_rfl) (by kernel_rfl) (by kernel_rfl) (fun _ _ _ h => h) (Or.inl ⟨by rfl, fun w _ => by rfl⟩) hHeld ?_
        show wpAnyH _ _ _ _ _ _ _ (Act.put _ (some 34) _) _
        simp only [Act.put, L1, L2, L3]
        refine wpAnyH_take (i := 26) (v := .agg #[.int .u32 ch, .int .u64 rd, .int .u64 m0, .int .u64 m1, .int .u64 t0, .int .u64 t1, .slice As n cp]) rfl (by kernel_rfl) (by kernel_rfl) (by kernel_rfl) (fun _ _ _ h => h) (yieldsIf_load_mid (by rfl) 27 (.tmp 2) rfl gp 0 rfl [.int .u32 ch, .int .u64 rd, .int .u64 m0, .int .u64 m1, .int .u64 t0, .int .u64 t1, .slice As n cp] _ (fun w' h => Blk.all h.1) Tryd.underlying27 rfl info27) hHeld ?_
        show wpAnyH _ _ _ _ _ _ _ (Act.put _ (some 35) _) _
        simp only [Act.put, L1, L2, L3]
        refine wpAnyH_take (i := 30) (v := .agg #[.int .u32 ch, .int .u64 rd, .int .u64 m0, .int .u64 m1, .int .u64 t0, .int .u64 t1, .slice As n cp]) rfl (by kernel_rfl) (by kernel_rfl) (by kernel_rfl) (fun _ _ _ h => h) (yieldsIf_load_mid (by rfl) 27 (.tmp 2) rfl gp 0 rfl [.int .u32 ch, .int .u64 rd, .int .u64 m0, .int .u64 m1, .int .u64 t0, .int .u64 t1, .slice As n cp] _ (fun w' h => Blk.all h.1) Tryd.underlying27 rfl info27) hHeld ?_
        show wpAnyH _ _ _ _ _ _ _ (Act.put _ (some 39) _) _
        simp only [Act.put, L1, L2, L3]
        refine wpAnyH_at (fuel := 7) (L := #[true, true, true, true, true, true, true, true, true, true, true, true, true, true, true, true, true, true, true, true, true, true, true, true, true, true, true, false, false, false, true, false, false, false, false]) (by kernel_rfl) (by kernel_rfl) ?_
        exact tail2 X5 g23 A26 c26 g28 A30 c30 EX5 PX5 UX5
   case tl2 =>
    intro Y1 g23 A26 c26 g28 A30 c30 EY1 PY1 UY1
    have hHeld : (Blk Y1 gp 27 [.int .u32 ch, .int .u64 rd, .int .u64 m0, .int .u64 m1, .int .u64 t0, .int .u64 t1, .slice As n cp] ∧ Blk Y1 go 32 (opC kd amt c id)) := ⟨PY1.out, UY1.out⟩
    refine wpAnyH_ready (rs := [27]) (by kernel_rfl) (by simp) ?_
    refine AllReadyH.cons rfl (fun K hK => ?_) AllReadyH.nil
    refine step_call rfl 8 #[.tmp 35] #[27] rfl #[.agg #[.int .u32 ch, .int .u64 rd, .int .u64 m0, .int .u64 m1, .int .u64 t0, .int .u64 t1, .slice As n cp]] (by simp [Act.eval]) (by go_simp) (to_any ch rd m0 m1 t0 t1 As n cp cs Y1 (Lib.hid (HC.out.below (HBV.out.trans (EY1.out.mono HBV.out.size)))).out HLC.out hn) ?_
    rintro e X1 ⟨a36, c36, rfl, hO, hB⟩
    have EX1 := Lib.hid (EY1.out.trans (hB.mono EY1.out.size))
    have PX1 := Lib.hid (PY1.out.below hB PY1.out.lt)
    have UX1 := Lib.hid (UY1.out.below hB UY1.out.lt)
    have CX1 : Hid (CRow X1 a36 cs) := Lib.hid (CRow.of_own (by rw [HLC.out]; exact hO) HC.out.ok)
    clear EY1 PY1 UY1 hB hO
    refine ⟨_, rfl, hK.out _ _ (⟨PX1.out, UX1.out⟩) (fun hHeld => ?_)⟩
    clear hK K
    show wpAnyH _ _ _ _ _ _ _ (Act.put _ (some 36) _) _
    simp only [Act.put, L1, L2, L3]
    refine wpAnyH_ready (rs := [28]) (by kernel_rfl) (by simp) ?_
    refine AllReadyH.cons rfl (fun K hK => ?_) AllReadyH.nil
    refine step_call rfl 13 #[.tmp 36] #[40] rfl #[.agg #[.int .u32 ch, .int .u64 rd, .int .u64 m0, .int .u64 m1, .int .u64 t0, .int .u64 t1, .slice a36 n c36]] (by simp [Act.eval]) (by go_simp) (deedsum_any ch rd m0 m1 t0 t1 a36 n c36 cs X1 (Lib.hid (HT.out.below (HBV.out.trans (EX1.out.mono HBV.out.size)) HT.out.lt)) CX1 HLC hn HCW HCB HWD) ?_
    rintro e X2 ⟨rfl, hB⟩
    have EX2 := Lib.hid (EX1.out.trans (hB.mono EX1.out.size))
    have PX2 := Lib.hid (PX1.out.below hB PX1.out.lt)
    have UX2 := Lib.hid (UX1.out.below hB UX1.out.lt)
    clear EX1 PX1 UX1 hB
    refine ⟨_, rfl, hK.out _ _ (⟨PX2.out, UX2.out⟩) (fun hHeld => ?_)⟩
    clear hK K
    show wpAnyH _ _ _ _ _ _ _ (Act.put _ (some 37) _) _
    simp only [Act.put, L1, L2, L3]
    refine wpAnyH_ready (rs := [29]) (by kernel_rfl) (by simp) ?_
    refine AllReadyH.cons rfl (fun K hK => ?_) AllReadyH.nil
    refine step_call rfl 15 #[] #[] rfl #[] (by simp) (by go_simp) (make_any X2) ?_
    rintro e X3 ⟨rfl, hB⟩
    have EX3 := Lib.hid (EX2.out.trans (hB.mono EX2.out.size))
    have PX3 := Lib.hid (PX2.out.below hB PX2.out.lt)
    have UX3 := Lib.hid (UX2.out.below hB UX2.out.lt)
    clear EX2 PX2 UX2 hB
    refine ⟨_, rfl, hK.out _ _ (⟨PX3.out, UX3.out⟩) (fun hHeld => ?_)⟩
    clear hK K
    show wpAnyH _ _ _ _ _ _ _ (Act.put _ (some 38) _) _
    simp only [Act.put, L1, L2, L3]
    refine wpAnyH_ready (rs := [31]) (by kernel_rfl) (by simp) ?_
    refine AllReadyH.cons rfl (fun K hK => ?_) AllReadyH.nil
    refine step_call rfl 14 #[.tmp 38, .tmp 39] #[56, 27] rfl #[.agg #[.string firstText, .string roundText], .agg #[.int .u32 ch, .int .u64 rd, .int .u64 m0, .int .u64 m1, .int .u64 t0, .int .u64 t1, .slice As n cp]] (by simp [Act.eval]) (by go_simp) (rsum_any ch rd m0 m1 t0 t1 As n cp cs X3 (Lib.hid (HC.out.below (HBV.out.trans (EX3.out.mono HBV.out.size)))) HLC hn HCW HCB HWD) ?_
    rintro e X4 ⟨rfl, hB⟩
    have EX4 := Lib.hid (EX3.out.trans (hB.mono EX3.out.size))
    have PX4 := Lib.hid (PX3.out.below hB PX3.out.lt)
    have UX4 := Lib.hid (UX3.out.below hB UX3.out.lt)
    clear EX3 PX3 UX3 hB
    refine ⟨_, rfl, hK.out _ _ (⟨PX4.out, UX4.out⟩) (fun hHeld => ?_)⟩
    clear hK K
    show wpAnyH _ _ _ _ _ _ _ (Act.put _ (some 40) _) _
    simp only [Act.put, L1, L2, L3]
    refine wpAnyH_take (i := 32) (v := .bool true) rfl (by kernel_rfl) (by kernel_rfl) (by kernel_rfl) (fun _ _ _ h => h) (Or.inl ⟨by rfl, fun w' h => run_bin_op rfl guard52 _ _ rfl rfl _ (HEQ.out w')⟩) hHeld ?_
    show wpAnyH _ _ _ _ _ _ _ (Act.put _ (some 41) _) _
    simp only [Act.put, L1, L2, L3]
    refine wpAnyH_take (i := 33) (v := .bool true) rfl (by kernel_rfl) (by kernel_rfl) (by kernel_rfl) (fun _ _ _ h => h) (Or.inl ⟨by rfl, by intro w hSw; first | rfl | go_simp⟩) hHeld ?_
    show wpAnyH _ _ _ _ _ _ _ (Act.put _ (some 42) _) _
    simp only [Act.put, L1, L2, L3]
    refine wpAnyH_take (i := 34) (v := .bool true) rfl (by kernel_rfl) (by kernel_rfl) (by kernel_rfl) (fun _ _ _ h => h) (Or.inl ⟨by rfl, fun w _ => by rfl⟩) hHeld ?_
    show wpAnyH _ _ _ _ _ _ _ (Act.put _ (some 4) _) _
    simp only [Act.put, L1, L2, L3]
    refine wpAnyH_done (by kernel_rfl) ?_ _
    clear hHeld
    go_wp2_with fail
    go_ret
    exact ⟨rfl, HBV.out.trans (EX4.out.mono HBV.out.size)⟩
 ·rw [show decide ((n : Int) ≤ 30) = false from decide_eq_false hn30]
  go_wp2_with fail
  refine (awake_any _).mono ?_
  rintro e Y ⟨rfl, hB⟩
  have HB := Lib.hid (HBV.out.trans (hB.mono HBV.out.size))
  clear hB
  go_wp2_with fail
  go_ret
  exact ⟨rfl, HB.out⟩
end Go.Proofs.YtbdjlnejlkiijaaDoorRRR
